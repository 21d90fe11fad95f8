import PyProof.Rows.All
import Wide.All
import OpenK.AllK
import Wide.FinOn
import Lean
import PyProof.EqAt
import PyProof.EqKinds
import PyProof.TupleCall
import PySem.Challenge.RW_noteworth_k38_canons_read
set_option Elab.async false
set_option linter.all false
set_option maxRecDepth 100000
namespace L2
open PySem PySem.Spec PyProof.Rows
abbrev Key := Sum Int Str
def keyIs : Key → Value → Bool
  | .inl k, v => Value.isInt k v
  | .inr x, v => Value.isStrOf x v
def keyH (w : World) : Key → Int
  | .inl k => hashInt k
  | .inr x => hashStr w x
theorem keyIs_shape : ∀ {k : Key} {v : Value}, keyIs k v = true → (∃ i t, k = Sum.inl i ∧ v = Value.int i t) ∨ (∃ x t, k = Sum.inr x ∧ v = Value.str x t)
  | .inl i, v, h => by
    obtain ⟨t, e⟩ := Value.isInt_shape (k := i) (v := v) h
    exact .inl ⟨i, t, rfl, e⟩
  | .inr x, v, h => by
    obtain ⟨t, e⟩ := Value.isStrOf_shape (x := x) (v := v) h
    exact .inr ⟨x, t, rfl, e⟩
theorem keyIs_int (i : Int) (t : Tok) : keyIs (.inl i) (.int i t) = true := by simp [keyIs, Value.isInt]
theorem keyIs_str (x : Str) (t : Tok) : keyIs (.inr x) (.str x t) = true := by simp [keyIs, Value.isStrOf]
theorem key_ll (a b : Int) : decide ((Sum.inl a : Key) = Sum.inl b) = (a == b) := by
  by_cases e : a = b
  · subst e; simp
  · have h : ¬ (Sum.inl a : Key) = Sum.inl b := fun q => e (Sum.inl.inj q)
    rw [decide_eq_false h]
    exact (beq_eq_false_iff_ne.mpr e).symm
theorem key_rr (a b : Str) : decide ((Sum.inr a : Key) = Sum.inr b) = decide (a = b) := by
  by_cases e : a = b
  · subst e; simp
  · have h : ¬ (Sum.inr a : Key) = Sum.inr b := fun q => e (Sum.inr.inj q)
    rw [decide_eq_false h, decide_eq_false e]
theorem key_lr (a : Int) (b : Str) : decide ((Sum.inl a : Key) = Sum.inr b) = false := decide_eq_false (fun q => nomatch q)
theorem key_rl (a : Str) (b : Int) : decide ((Sum.inr a : Key) = Sum.inl b) = false := decide_eq_false (fun q => nomatch q)
def mixKind (prog : Program) (w : World) : PySem.KeyKind prog w Key where
  is := keyIs
  hash := keyH w
  inj := fun v a b ha hb => by
    rcases keyIs_shape ha with ⟨i, t, rfl, rfl⟩ | ⟨x, t, rfl, rfl⟩
    · rcases keyIs_shape hb with ⟨j, u, rfl, e⟩ | ⟨y, u, rfl, e⟩
      · injection e with e1 _; rw [e1]
      · exact nomatch e
    · rcases keyIs_shape hb with ⟨j, u, rfl, e⟩ | ⟨y, u, rfl, e⟩
      · exact nomatch e
      · injection e with e1 _; rw [e1]
  byValue := fun k v h => by
    rcases keyIs_shape h with ⟨i, t, rfl, rfl⟩ | ⟨x, t, rfl, rfl⟩ <;> rfl
  pyHash := fun hv h => by
    rcases keyIs_shape hv with ⟨i, t, rfl, rfl⟩ | ⟨x, t, rfl, rfl⟩
    · exact wpAny_pyHash_int h
    · exact wpAny_pyHash_str h
  eqBool := fun hu hv h => by
    rcases keyIs_shape hu with ⟨i, t, rfl, rfl⟩ | ⟨x, t, rfl, rfl⟩
    · rcases keyIs_shape hv with ⟨j, u, rfl, rfl⟩ | ⟨y, u, rfl, rfl⟩
      · rw [key_ll] at h; exact wpAny_eqBool_int h
      · rw [key_lr] at h; exact SeqAt.EqAt.int_str i t y u _ _ _ _ h
    · rcases keyIs_shape hv with ⟨j, u, rfl, rfl⟩ | ⟨y, u, rfl, rfl⟩
      · rw [key_rl] at h; exact SeqAt.EqAt.str_int x t j u _ _ _ _ h
      · rw [key_rr] at h; exact wpAny_eqBool_str h
  «strs» := fun k x t v h => by
    rcases keyIs_shape h with ⟨i, u, rfl, e⟩ | ⟨y, u, rfl, e⟩
    · exact nomatch e
    · injection e with e1 _
      subst e1
      cases v <;> rfl
theorem mixKind_int (prog : Program) (w : World) (i : Int) (t : Tok) : (mixKind prog w).is (.inl i) (.int i t) = true := keyIs_int i t
theorem mixKind_str (prog : Program) (w : World) (x : Str) (t : Tok) : (mixKind prog w).is (.inr x) (.str x t) = true := keyIs_str x t
end L2
namespace L2
open PySem PySem.Spec PyProof.Rows
inductive V where
  | non | bl (b : Bool) | int (i : Int) | str (x : Str) | byt (b : Array UInt8) | flt (b : UInt64) | ref (a : Addr) | ty (n : String)
  deriving DecidableEq
def RelV : V → Value → Prop
  | .non, u => u = Value.none
  | .bl b, u => u = Value.bool b
  | .int i, u => ∃ t, u = Value.int i t
  | .str x, u => ∃ t, u = Value.str x t
  | .byt b, u => ∃ t, u = Value.bytes b t
  | .flt b, u => ∃ t, u = Value.float b t
  | .ref a, u => u = Value.ref a
  | .ty n, u => u = Value.type n
abbrev Vals : List V → List Value → Prop := Paired RelV
theorem Vals.length {xs : List V} {us : List Value} (r : Vals xs us) : xs.length = us.length := Paired.length r
theorem Vals.get : ∀ {xs : List V} {us : List Value} {i : Nat} {x : V}, Vals xs us → xs[i]? = some x → ∃ u, us[i]? = some u ∧ RelV x u
  | _, _, _, _, .nil, e => by simp at e
  | _, _, 0, _, .cons r _, e => by simp at e; subst e; exact ⟨_, rfl, r⟩
  | _, _, i + 1, x, .cons _ t, e => by
    obtain ⟨u, h1, h2⟩ := Vals.get (i := i) (x := x) t (by simpa using e)
    exact ⟨u, by simpa using h1, h2⟩
theorem Vals.set {x : V} {u : Value} (r : RelV x u) : ∀ {xs : List V} {us : List Value} (i : Nat), Vals xs us → Vals (xs.set i x) (us.set i u)
  | _, _, _, .nil => .nil
  | _, _, 0, .cons _ t => .cons r t
  | _, _, i + 1, .cons q t => .cons q (Vals.set r i t)
theorem Vals.append : ∀ {xs ys : List V} {us ws : List Value}, Vals xs us → Vals ys ws → Vals (xs ++ ys) (us ++ ws)
  | _, _, _, _, .nil, s => s
  | _, _, _, _, .cons r t, s => .cons r (Vals.append t s)
theorem Vals.take : ∀ {xs : List V} {us : List Value} (n : Nat), Vals xs us → Vals (xs.take n) (us.take n)
  | _, _, 0, _ => .nil
  | _, _, _ + 1, .nil => .nil
  | _, _, n + 1, .cons r t => .cons r (Vals.take n t)
theorem Vals.drop : ∀ {xs : List V} {us : List Value} (n : Nat), Vals xs us → Vals (xs.drop n) (us.drop n)
  | _, _, 0, r => r
  | _, _, _ + 1, .nil => .nil
  | _, _, n + 1, .cons _ t => Vals.drop n t
def RelO : Option V → Option Value → Prop
  | some v, some u => RelV v u
  | none, none => True
  | _, _ => False
def KV {κ : Type} : List (κ × V) → List (κ × Value) → Prop := Paired fun (p : κ × V) (q : κ × Value) => p.1 = q.1 ∧ RelV p.2 q.2
def kV : Key → V
  | .inl i => .int i
  | .inr x => .str x
inductive HO where
  /-- a list -/
  | lst (xs : List V)
  /-- a tuple (never changes) -/
  | tup (xs : List V)
  /-- a dict whose keys are ints and texts; one whose keys are tuples of ints and texts (the empty one is both) -/
  | dK (kvs : List (Key × V)) | dT (kvs : List (List Key × V))
  /-- a set of ints: its members, its size -/
  | set (S : Int → Bool) (n : Nat)
  /-- an instance of the class at C, its dict at dx, its attributes -/
  | ins (C dx : Addr) (fs : List (Str × V))
  /-- the dict of the instance at x -/
  | own (x : Addr)
  /-- the dict of an exception -/
  | xd (fs : List (Str × V))
  /-- a bound method, f of x -/
  | met (f x : Addr)
  /-- a range object lo, lo + 1, .. below hi -/
  | rng (lo hi : Int)
  /-- a thing that is known to the object (the script; a dict while a loop walks it): read, never written while it is so -/
  | frz (o : Obj) (u : HO)
  /-- a code object's table -/
  | tbl (ps : Array Value)
  /-- any other thing, by what is true of its one object (a def of one's own: SetO a S n := HO.ext fun h => ..) -/
  | ext (φ : Heap → Prop)
abbrev Hp := Addr → Option HO
def upd (H : Hp) (a : Addr) (o : HO) : Hp := fun b => if b = a then some o else H b
theorem upd_same {H : Hp} {a : Addr} {o : HO} : upd H a o a = some o := by unfold upd; rw [if_pos rfl]
theorem upd_ne {H : Hp} {a b : Addr} {o : HO} (h : b ≠ a) : upd H a o b = H b := by unfold upd; rw [if_neg h]
theorem upd_upd {H : Hp} {a : Addr} {o u : HO} : upd (upd H a o) a u = upd H a u := by
  funext b; unfold upd; split <;> rfl
theorem ne_of {H : Hp} {a b : Addr} {o u : HO} (h : H a = some o) (h' : H b = some u) (d : o ≠ u) : a ≠ b := by
  intro e; subst e; rw [h] at h'; exact d (Option.some.inj h')
theorem ne_of_none {H : Hp} {a b : Addr} {o : HO} (h : H a = some o) (h' : H b = none) : a ≠ b := by
  intro e; subst e; rw [h] at h'; cases h'
section
variable (P : Program) (w : World)
def ObjOk (H : Hp) (h : Heap) (a : Addr) : HO → Prop
  | .lst xs => xs.length ≤ sizeLine ∧ ∃ (its : List Value) (n : Nat), Vals xs its ∧ h.get? a = some { cls := .type "list", data := .seq its.toArray n }
  | .tup xs => xs.length ≤ sizeLine ∧ ∃ its : List Value, Vals xs its ∧ IsTup h a its.toArray
  | .dK kvs => kvs.length ≤ sizeLine ∧ (a == sysModules) = false ∧ ∃ vs, KV kvs vs ∧ h.DictOf (mixKind P w) a vs
  | .dT kvs => kvs.length ≤ sizeLine ∧ (a == sysModules) = false ∧ ∃ xs : List (List Key × Addr × Value),
      Paired (fun (p : List Key × V) (q : List Key × Addr × Value) => p.1 = q.1 ∧ H q.2.1 = some (.tup (p.1.map kV)) ∧ RelV p.2 q.2.2) kvs xs ∧
      ∃ o es ep, h.get? a = some o ∧ o.ExactDict ∧ o.data = .dict es ep ∧ es.toList = xs.map (entryOfKey (tupleKind (mixKind P w))) ∧ (xs.map (·.1)).Nodup
  | .set S n => h.SetOf (intKind P w) a S n
  | .ins C dx fs => H dx = some (.own a) ∧ fs.length ≤ 1000 ∧ dx ≠ a ∧ h.get? a = some (PySem.W.instObj C dx) ∧
      ∃ mA, h.Ns1 dx mA ∧ (∀ f, RelO (fs.lookup f) (mA f)) ∧ PySem.Within mA (fs.map (·.1))
  | .own _ => ∃ o, h.get? a = some o
  | .xd fs => ∃ mA, h.Ns1 a mA ∧ ∀ f, RelO (fs.lookup f) (mA f)
  | .rng lo hi => ∃ t u v, h.get? a = some { cls := .type "range", data := .fields #[.int lo t, .int hi u, .int 1 v] }
  | .frz o u => h.get? a = some o ∧ ObjOk H h a u
  | .tbl ps => h.get? a = some { cls := .none, data := .fields ps }
  | .met f x => h.get? a = some (PySem.W.methodObj (.ref f) (.ref x))
  | .ext φ => φ h ∧ (∃ o, h.get? a = some o) ∧ ∀ h1 h2 : Heap, φ h1 → (∀ o, h1.get? a = some o → h2.get? a = some o) → φ h2
def HOk (H : Hp) (h : Heap) : Prop := ∀ a o, H a = some o → ObjOk P w H h a o
end
section
variable {P : Program} {w : World} {H H' : Hp} {h h' : Heap} {a : Addr} {o : HO}
theorem ObjOk.lt (x : ObjOk P w H h a o) : a < h.objs.size := by
  cases o with
  | lst xs => obtain ⟨_, _, _, _, e⟩ := x; exact Heap.lt_size e
  | tup xs => obtain ⟨_, _, _, p⟩ := x; exact p.lt
  | dK kvs => obtain ⟨_, _, _, _, o, _, _, e, _⟩ := x; exact Heap.lt_size e
  | dT kvs => obtain ⟨_, _, _, _, o, _, _, e, _⟩ := x; exact Heap.lt_size e
  | set S n => obtain ⟨o, _, _, _, e, _⟩ := x; exact Heap.lt_size e
  | ins C dx fs => obtain ⟨_, _, _, e, _⟩ := x; exact Heap.lt_size e
  | own y => obtain ⟨_, e⟩ := x; exact Heap.lt_size e
  | xd fs => obtain ⟨_, ⟨_, _, _, e, _⟩, _⟩ := x; exact Heap.lt_size e
  | rng lo hi => obtain ⟨_, _, _, e⟩ := x; exact Heap.lt_size e
  | frz ob u => obtain ⟨e, _⟩ := x; exact Heap.lt_size e
  | tbl ps => exact Heap.lt_size (show h.get? a = some _ from x)
  | met f y => exact Heap.lt_size (show h.get? a = some _ from x)
  | ext φ => obtain ⟨_, ⟨_, e⟩, _⟩ := x; exact Heap.lt_size e
theorem Paired.mapP {α β : Type} {F G : α → β → Prop} : ∀ {l₁ : List α} {l₂ : List β}, Paired F l₁ l₂ → (∀ a b, F a b → G a b) → Paired G l₁ l₂
  | _, _, .nil, _ => .nil
  | _, _, .cons r t, f => .cons (f _ _ r) (Paired.mapP t f)
theorem ObjOk.stay (x : ObjOk P w H h a o) (k : ∀ b u, (b = a ∨ H b = some (.own a)) → h.get? b = some u → h'.get? b = some u)
    (ho : ∀ b, H b = some (.own a) → H' b = some (.own a)) (ht : ∀ b xs, H b = some (.tup xs) → H' b = some (.tup xs)) : ObjOk P w H' h' a o := by
  induction o with
  | lst xs => obtain ⟨z, its, n, r, e⟩ := x; exact ⟨z, its, n, r, k _ _ (.inl rfl) e⟩
  | tup xs => obtain ⟨z, its, r, ob, e, c⟩ := x; exact ⟨z, its, r, ob, k _ _ (.inl rfl) e, c⟩
  | dK kvs => obtain ⟨z, y, vs, r, ob, es, ep, e, c⟩ := x; exact ⟨z, y, vs, r, ob, es, ep, k _ _ (.inl rfl) e, c⟩
  | dT kvs =>
    obtain ⟨z, y, xs, r, ob, es, ep, e, c⟩ := x
    exact ⟨z, y, xs, Paired.mapP r fun p q z => ⟨z.1, ht _ _ z.2.1, z.2.2⟩, ob, es, ep, k _ _ (.inl rfl) e, c⟩
  | set S n => obtain ⟨ob, es, ep, t, e, c⟩ := x; exact ⟨ob, es, ep, t, k _ _ (.inl rfl) e, c⟩
  | ins C dx fs =>
    obtain ⟨d, z, ne, e, mA, ⟨od, es, ep, e2, c⟩, r⟩ := x
    exact ⟨ho _ d, z, ne, k _ _ (.inl rfl) e, mA, ⟨od, es, ep, k _ _ (.inr d) e2, c⟩, r⟩
  | own y => obtain ⟨ob, e⟩ := x; exact ⟨ob, k _ _ (.inl rfl) e⟩
  | xd fs => obtain ⟨mA, ⟨od, es, ep, e, c⟩, r⟩ := x; exact ⟨mA, ⟨od, es, ep, k _ _ (.inl rfl) e, c⟩, r⟩
  | rng lo hi => obtain ⟨t, u, v, e⟩ := x; exact ⟨t, u, v, k _ _ (.inl rfl) e⟩
  | frz ob u ih => obtain ⟨e, q⟩ := x; exact ⟨k _ _ (.inl rfl) e, ih q⟩
  | tbl ps =>
    have e : h.get? a = some { cls := .none, data := .fields ps } := x
    show h'.get? a = some { cls := .none, data := .fields ps }
    exact k a _ (.inl rfl) e
  | met f y =>
    have e : h.get? a = some (PySem.W.methodObj (.ref f) (.ref y)) := x
    show h'.get? a = some (PySem.W.methodObj (.ref f) (.ref y))
    exact k a _ (.inl rfl) e
  | ext φ => obtain ⟨p, ⟨o, e⟩, st⟩ := x; exact ⟨st _ _ p fun o q => k _ _ (.inl rfl) q, ⟨o, k _ _ (.inl rfl) e⟩, st⟩
theorem HOk.lt (x : HOk P w H h) (e : H a = some o) : a < h.objs.size := (x a o e).lt
theorem HOk.fresh (x : HOk P w H h) (e : h.objs.size ≤ a) : H a = none := by
  cases q : H a with
  | none => rfl
  | some u => exact absurd (Nat.lt_of_lt_of_le (x.lt q) e) (Nat.lt_irrefl _)
theorem HOk.kept (x : HOk P w H h) (k : ∀ b u, h.get? b = some u → h'.get? b = some u) : HOk P w H h' := fun a o e =>
  (x a o e).stay (fun b u _ q => k b u q) (fun _ q => q) fun _ _ q => q
theorem HOk.laid (x : HOk P w H h) (k : ∀ b u, h.get? b = some u → h'.get? b = some u) (hp : h.objs.size ≤ a) (new : ObjOk P w (upd H a o) h' a o) : HOk P w (upd H a o) h' := fun b u e => by
  have hn := x.fresh hp
  by_cases hb : b = a
  · subst hb; rw [upd_same] at e; cases e; exact new
  · rw [upd_ne hb] at e
    exact (x b u e).stay (fun c v _ q => k c v q) (fun c q => by rw [upd_ne (ne_of_none q hn)]; exact q) fun c xs q => by rw [upd_ne (ne_of_none q hn)]; exact q
end
def Rd (H : Hp) (a : Addr) (u : HO) : Prop := H a = some u ∨ ∃ o, H a = some (.frz o u)
theorem Rd.ok {P : Program} {w : World} {H : Hp} {h : Heap} {a : Addr} {u : HO} (r : Rd H a u) (x : HOk P w H h) : ObjOk P w H h a u := by
  rcases r with r | ⟨o, r⟩
  · exact x a u r
  · obtain ⟨_, q⟩ := x a _ r
    exact q
def Mut : Option HO → Prop
  | some (.lst _) => True
  | some (.dK _) => True
  | some (.dT _) => True
  | some (.set _ _) => True
  | some (.ins _ _ _) => True
  | some (.ext _) => True
  | _ => False
section
variable {P : Program} {w : World} {H : Hp} {h h' : Heap} {x e : Addr} {o' : HO}
theorem HOk.write (ok : HOk P w H h) (mu : Mut (H x)) (he : e = x ∨ H e = some (.own x)) (k : ∀ b u, b ≠ e → h.get? b = some u → h'.get? b = some u) (heo : ∃ u, h'.get? e = some u)
    (new : ObjOk P w (upd H x o') h' x o') : HOk P w (upd H x o') h' := fun b u q => by
  have nown : ∀ c y, H c = some (.own y) → c ≠ x := fun c y r z => by subst z; rw [r] at mu; exact mu
  have ntup : ∀ c xs, H c = some (.tup xs) → c ≠ x := fun c xs r z => by subst z; rw [r] at mu; exact mu
  by_cases hb : b = x
  · subst hb; rw [upd_same] at q; cases q; exact new
  · rw [upd_ne hb] at q
    by_cases hbe : b = e
    · have q' : H b = some (.own x) := by
        rcases he with z | z
        · exact absurd (hbe.trans z) hb
        · rw [hbe]; exact z
      rw [q] at q'; cases q'
      obtain ⟨v, hv⟩ := heo
      exact ⟨v, by rw [hbe]; exact hv⟩
    · refine (ok b u q).stay (fun c v hc r => k c v ?_ r) (fun c r => by rw [upd_ne (nown c b r)]; exact r) fun c xs r => by rw [upd_ne (ntup c xs r)]; exact r
      rcases hc with rfl | hc
      · exact hbe
      · rintro rfl
        rcases he with z | z
        · exact nown c b hc z
        · rw [hc] at z; cases z; exact hb rfl
end
structure Un (fs ex : List Addr) (H H' : Hp) (h h' : Heap) : Prop where
  keep : ∀ b o, h.get? b = some o → H b = none → b ∉ fs → b ∉ ex → h'.get? b = some o
  slot : ∀ b o, h.get? b = some o → H b = none → b ∈ fs → b ∉ ex → ∃ sl, h'.get? b = some { o with slots := sl }
  free : ∀ b o, h.get? b = some o → H b = none → b ∉ ex → H' b = none
  there : ∀ b o, h.get? b = some o → b ∉ ex → ∃ o', h'.get? b = some o'
  tups : ∀ b xs, H b = some (.tup xs) → H' b = some (.tup xs)
  frzs : ∀ b o u, H b = some (.frz o u) → H' b = some (.frz o u)
  tbls : ∀ b ps, H b = some (.tbl ps) → ∃ more, H' b = some (.tbl (ps ++ more))
section
variable {fs fs' ex ex' : List Addr} {H H1 H2 : Hp} {h h1 h2 h' : Heap} {a x e : Addr} {o : HO}
theorem Un.any (u : Un fs ex H H1 h h1) {b : Addr} {ob : Obj} (q : h.get? b = some ob) (n : H b = none) (hx : b ∉ ex) : ∃ sl, h1.get? b = some { ob with slots := sl } := by
  by_cases hb : b ∈ fs
  · exact u.slot b ob q n hb hx
  · exact ⟨ob.slots, u.keep b ob q n hb hx⟩
theorem Un.kept (k : ∀ b u, h.get? b = some u → h'.get? b = some u) : Un fs ex H H h h' :=
  ⟨fun b ob q _ _ _ => k b ob q, fun b ob q _ _ _ => ⟨ob.slots, k b ob q⟩, fun _ _ _ n _ => n, fun b ob q _ => ⟨ob, k b ob q⟩, fun _ _ q => q, fun _ _ _ q => q, fun _ ps q => ⟨#[], by rw [q]; simp⟩⟩
theorem Un.refl : Un fs ex H H h h := Un.kept fun _ _ q => q
theorem Un.laid (k : ∀ b u, h.get? b = some u → h'.get? b = some u) (hp : h.objs.size ≤ a) (hn : H a = none) : Un fs ex H (upd H a o) h h' where
  keep := fun b u q _ _ _ => k b u q
  slot := fun b u q _ _ _ => ⟨u.slots, k b u q⟩
  free := fun b u q n _ => by rw [upd_ne (Nat.ne_of_lt (Nat.lt_of_lt_of_le (Heap.lt_size q) hp))]; exact n
  there := fun b u q _ => ⟨u, k b u q⟩
  tups := fun b xs q => by rw [upd_ne (ne_of_none q hn)]; exact q
  frzs := fun b u xs q => by rw [upd_ne (ne_of_none q hn)]; exact q
  tbls := fun b ps q => ⟨#[], by rw [upd_ne (ne_of_none q hn), q]; simp⟩
theorem Un.write (mu : Mut (H x)) (he : e = x ∨ H e = some (.own x)) (k : ∀ b u, b ≠ e → h.get? b = some u → h'.get? b = some u) (heo : ∃ u, h'.get? e = some u) : Un fs ex H (upd H x o) h h' := by
  have hx : ∀ b, H b = none → b ≠ x := fun b n z => by subst z; rw [n] at mu; exact mu
  have hb : ∀ b, H b = none → b ≠ e := fun b n z => by
    subst z
    rcases he with r | r
    · exact hx b n r
    · rw [n] at r; cases r
  have hm : ∀ b u, H b = some u → ¬ Mut (some u) → b ≠ x := fun b u q nm z => by subst z; rw [q] at mu; exact nm mu
  refine ⟨fun b u q n _ _ => k b u (hb b n) q, fun b u q n _ _ => ⟨u.slots, k b u (hb b n) q⟩, fun b u q n _ => by rw [upd_ne (hx b n)]; exact n, fun b u q _ => ?_,
    fun b xs q => by rw [upd_ne (hm b _ q fun z => z)]; exact q, fun b u xs q => by rw [upd_ne (hm b _ q fun z => z)]; exact q, fun b ps q => ⟨#[], by rw [upd_ne (hm b _ q fun z => z), q]; simp⟩⟩
  by_cases hbe : b = e
  · subst hbe; exact heo
  · exact ⟨u, k b u hbe q⟩
end
def trk (h : Heap) (H : Hp) : List Addr := (List.range h.objs.size).filter fun a => (H a).isSome
def hidT (h : Heap) (H : Hp) : Heap := PySem.W.hideAll h (trk h H)
theorem hidT_size (h : Heap) (H : Hp) : (hidT h H).objs.size = h.objs.size := PySem.W.hideAll_size _ _
theorem hidT_get {h : Heap} {H : Hp} {b : Addr} {o : Obj} (e : h.get? b = some o) (n : H b = none) : (hidT h H).get? b = some o :=
  PySem.W.hideAll_get _ e fun hm => by
    have q : (H b).isSome = true := (List.mem_filter.mp hm).2
    rw [n] at q; simp at q
theorem of_hidT {h : Heap} {H : Hp} {b : Addr} {o : Obj} (e : (hidT h H).get? b = some o) : h.get? b = some o ∧ H b = none := by
  have e' : h.get? b = some o := PySem.W.of_hideAll (trk h H) e
  refine ⟨e', ?_⟩
  cases q : H b with
  | none => rfl
  | some x =>
    have hm : b ∈ trk h H := List.mem_filter.mpr ⟨List.mem_range.mpr (Heap.lt_size e'), by simp [q]⟩
    have z : (hidT h H).get? b = none := PySem.W.hideAll_none (trk h H) hm
    rw [z] at e; cases e
def allNews (g h : Heap) (L : Addr) : List (Addr × Obj) := (List.range h.objs.size).filterMap fun a => if a = L ∨ (g.get? a).isSome = true then none else (h.get? a).map fun o => (a, o)
def rest (g h : Heap) (L d : Addr) : List (Addr × Obj) := (allNews g h L).filter fun p => decide (p.1 ≠ d)
end L2
namespace L2
open PySem PySem.Spec PyProof.Rows
structure Mod (K : PySem.W.Frag) (mg : Str → Option Value) (base : Heap) : Prop where
  kin : K.In base
  glob : base.Ns mainGlobals mg
  blt : ∃ mb, base.Ns builtinsNs mb ∧ ∀ x : Str, x ≠ "__name__" → mb x = bootBuiltins x
  nolimit : base.NoLimit
structure Cx where
  prog : Program
  w : World
  K : PySem.W.Frag
  mg : Str → Option Value
  base : Heap
  A : Around
  N : List Str
  s₀ : Shared
  H₀ : Hp
  env : Env
  outer : List Env
  stack : List Env
  ex : List Addr
  fn : Str → Bool
  calm : Bool
  pn : List (Addr × Obj)
  xe : Value → Shared → Prop
def frs (l : List Env) : List Addr := l.filterMap (·.frame)
abbrev Cx.fs (X : Cx) : List Addr := frs X.outer
def Vis (sc : Scope) (x : Str) : Prop := sc.names.lookup x = some .local ∨ sc.names.lookup x = some .cell ∨ sc.names.lookup x = some .free
def Loc (sc : Scope) (x : Str) : Prop := sc.names.lookup x = some .local ∨ sc.names.lookup x = some .cell
def Look (env : Env) (h : Heap) (m : Str → Option Value) (x : Str) (u : Value) : Prop :=
  (env.kindOf x = some .local ∧ m x = some u) ∨ ((env.kindOf x = some .cell ∨ env.kindOf x = some .free) ∧ ∃ c, env.cells.lookup x = some c ∧ h.IsCell c (some u))
structure Cx.Ok (X : Cx) : Prop where
  mod : Mod X.K X.mg X.base
  kind : X.env.scope.kind = .function
  glob : X.env.globals = mainGlobals
  blt : X.env.builtins = builtinsNs
  above : X.s₀.heap.objs.size ≤ X.env.locals
  inj : ∀ x y c, X.env.cells.lookup x = some c → X.env.cells.lookup y = some c → x = y
  has : ∀ x, (X.env.kindOf x = some .cell ∨ X.env.kindOf x = some .free) → ∃ c, X.env.cells.lookup x = some c
  cab : ∀ x c, X.fn x = true → X.env.cells.lookup x = some c → X.s₀.heap.objs.size ≤ c
  hd : X.calm = true → X.A.handled = none
  frames : X.A.frames = some X.stack
  stk : X.stack = X.outer ∨ (X.stack = X.env :: X.outer ∧ X.env.frame = some X.env.locals)
  exf : ∀ b ∈ X.ex, b ≠ X.env.locals ∧ ∀ x c, X.env.cells.lookup x = some c → c ≠ b
  bs : ∀ b o, X.base.get? b = some o → X.s₀.heap.get? b = some o ∧ X.H₀ b = none
  bsz : X.base.objs.size ≤ X.s₀.heap.objs.size
  noex : ∀ b o, X.base.get? b = some o → b ∉ X.ex
  exfs : ∀ b ∈ X.ex, b ∉ X.fs
  funs : X.s₀.heap.FunFrames X.base X.outer
  frf : ∀ b ∈ X.fs, X.H₀ b = none
structure Inv (X : Cx) (pins : List (Addr × Obj)) (σ : List (Option V)) (H : Hp) (s : Shared) : Prop where
  ok : X.Ok
  os : s.os = X.s₀.os
  bare : AllBare s.gens
  base : Un X.fs X.ex X.H₀ H X.s₀.heap s.heap
  loc : ∃ m, s.heap.Ns X.env.locals m ∧ ∀ (i : Nat) (x : Str) (v : V), X.N[i]? = some x → σ[i]? = some (some v) → Vis X.env.scope x → ∃ u, RelV v u ∧ Look X.env s.heap m x u
  cell : ∀ x c, X.env.cells.lookup x = some c → ∃ v, s.heap.IsCell c v
  free : H X.env.locals = none
  freeC : ∀ x c, X.env.cells.lookup x = some c → H c = none
  pin : ∀ p ∈ X.pn ++ pins, s.heap.get? p.1 = some p.2 ∧ H p.1 = none ∧ p.1 ≠ X.env.locals ∧ p.1 ∉ X.fs ∧ ∀ v, p.2.data ≠ .cell v
  hok : HOk X.prog X.w H s.heap
  len : σ.length = X.N.length
section
variable {X : Cx} {pins : List (Addr × Obj)} {σ : List (Option V)} {H H' : Hp} {s : Shared} {h' : Heap}
theorem Cx.Ok.nofr (ok : X.Ok) {b : Addr} {o : Obj} (e : X.base.get? b = some o) : b ∉ X.fs := fun hb => by
  have := (ok.funs.mem hb).1
  rw [e] at this; cases this
theorem Inv.bs (I : Inv X pins σ H s) : ∀ b o, X.base.get? b = some o → s.heap.get? b = some o ∧ H b = none := fun b o e =>
  ⟨I.base.keep b o (I.ok.bs b o e).1 (I.ok.bs b o e).2 (I.ok.nofr e) (I.ok.noex b o e), I.base.free b o (I.ok.bs b o e).1 (I.ok.bs b o e).2 (I.ok.noex b o e)⟩
theorem Inv.bk (I : Inv X pins σ H s) : ∀ b o, X.base.get? b = some o → s.heap.get? b = some o := fun b o e => (I.bs b o e).1
theorem Inv.mod (I : Inv X pins σ H s) : Mod X.K X.mg X.base := I.ok.mod
theorem Inv.kIn (I : Inv X pins σ H s) : X.K.In s.heap := I.ok.mod.kin.keeps I.bk
theorem Inv.lt (I : Inv X pins σ H s) : X.env.locals < s.heap.objs.size := let ⟨_, hn, _⟩ := I.loc; hn.lt
theorem Inv.sz (I : Inv X pins σ H s) : X.s₀.heap.objs.size ≤ s.heap.objs.size := Nat.le_trans I.ok.above (Nat.le_of_lt I.lt)
theorem Inv.nofs (I : Inv X pins σ H s) {a : Addr} (h : s.heap.objs.size ≤ a) : a ∉ X.fs := fun hb => by
  obtain ⟨_, o, ho, _⟩ := I.ok.funs.mem hb
  exact absurd (Nat.lt_of_lt_of_le (Heap.lt_size ho) (Nat.le_trans I.sz h)) (Nat.lt_irrefl _)
theorem Inv.cne (I : Inv X pins σ H s) : ∀ x c, X.env.cells.lookup x = some c → c ≠ X.env.locals := fun x c e z => by
  obtain ⟨v, o, ho, hd⟩ := I.cell x c e
  obtain ⟨m, ⟨o', es, ep, ho', hd', _⟩, _⟩ := I.loc
  rw [z, ho'] at ho; cases ho; rw [hd'] at hd; cases hd
theorem Inv.funs (I : Inv X pins σ H s) : s.heap.FunFrames X.base X.outer := by
  have all : ∀ (l : List Env), (∀ b ∈ frs l, b ∈ X.fs) → X.s₀.heap.FunFrames X.base l → s.heap.FunFrames X.base l := by
    intro l
    induction l with
    | nil => intro _ _; trivial
    | cons env r ih =>
      intro hs hl
      obtain ⟨hk, ⟨L, o, hf, hn, ho, hd⟩, hr⟩ := hl
      have hL : L ∈ X.fs := hs L (by unfold frs; rw [List.filterMap_cons, hf]; exact List.mem_cons_self)
      obtain ⟨sl, e⟩ := I.base.slot L o ho (I.ok.frf L hL) hL fun z => I.ok.exfs L z hL
      exact ⟨hk, ⟨L, _, hf, hn, e, hd⟩, ih (fun b hb => hs b (by unfold frs; rw [List.filterMap_cons, hf]; exact List.mem_cons_of_mem _ hb)) hr⟩
  exact all X.outer (fun _ hb => hb) I.ok.funs
theorem Inv.stack (I : Inv X pins σ H s) : s.heap.FunFrames X.base X.stack := by
  rcases I.ok.stk with e | ⟨e, hf⟩
  · rw [e]; exact I.funs
  · rw [e]
    obtain ⟨m, hn, _⟩ := I.loc
    refine .cons (by rw [I.ok.kind]; decide) hf hn ?_ I.funs
    exact Heap.get?_none_of_le (Nat.le_trans I.ok.bsz I.ok.above)
theorem Inv.stkSub (I : Inv X pins σ H s) : ∀ b ∈ frs X.stack, b ∈ X.env.locals :: X.fs := fun b hb => by
  rcases I.ok.stk with e | ⟨e, hf⟩
  · rw [e] at hb; exact List.mem_cons_of_mem _ hb
  · rw [e] at hb
    unfold frs at hb
    rw [List.filterMap_cons, hf] at hb
    exact hb
theorem Inv.stkFree (I : Inv X pins σ H s) : ∀ b ∈ frs X.stack, H b = none := fun b hb => by
  rcases List.mem_cons.mp (I.stkSub b hb) with e | hb
  · rw [e]; exact I.free
  · obtain ⟨_, o, ho, _⟩ := I.ok.funs.mem hb
    exact I.base.free b o ho (I.ok.frf b hb) fun z => I.ok.exfs b z hb
theorem Inv.step {g' : Array GenState} {t' : Nat} {d' : Drawn} {ch : List Addr} (I : Inv X pins σ H s)
    (hch : ∀ b ∈ ch, (b ∈ X.ex ∨ X.s₀.heap.objs.size ≤ b) ∧ b ≠ X.env.locals ∧ (∀ x c, X.env.cells.lookup x = some c → c ≠ b) ∧ ∀ p ∈ X.pn ++ pins, p.1 ≠ b)
    (keep : ∀ b o, b ≠ X.env.locals → b ∉ X.fs → b ∉ ch → s.heap.get? b = some o → H b = none → h'.get? b = some o)
    (slot : ∀ b o, b ≠ X.env.locals → b ∈ X.fs → b ∉ ch → s.heap.get? b = some o → H b = none → ∃ sl, h'.get? b = some { o with slots := sl }) (free : ∀ b o, b ∉ ch → s.heap.get? b = some o → H b = none → H' b = none)
    (there : ∀ b o, b ∉ ch → s.heap.get? b = some o → ∃ o', h'.get? b = some o')
    (tups : ∀ b xs, H b = some (.tup xs) → H' b = some (.tup xs)) (frzs : ∀ b o u, H b = some (.frz o u) → H' b = some (.frz o u)) (tbls : ∀ b ps, H b = some (.tbl ps) → ∃ more, H' b = some (.tbl (ps ++ more)))
    (ns : ∀ m, s.heap.Ns X.env.locals m → h'.Ns X.env.locals m) (hok : HOk X.prog X.w H' h') (hg : AllBare g') :
    Inv X pins σ H' { s with heap := h', gens := g', drawn := d', toks := t' } := by
  have neL : ∀ b o, X.s₀.heap.get? b = some o → b ≠ X.env.locals := fun b o e => Nat.ne_of_lt (Nat.lt_of_lt_of_le (Heap.lt_size e) I.ok.above)
  have neC : ∀ b o, X.s₀.heap.get? b = some o → b ∉ X.ex → b ∉ ch := fun b o e hx hb => by
    rcases (hch b hb).1 with z | z
    · exact hx z
    · exact absurd (Nat.lt_of_lt_of_le (Heap.lt_size e) z) (Nat.lt_irrefl _)
  have cellK : ∀ x c, X.env.cells.lookup x = some c → ∀ v, s.heap.IsCell c v → h'.IsCell c v := fun x c e v ⟨o, ho, hd⟩ => by
    have nch : c ∉ ch := fun z => (hch c z).2.2.1 x c e rfl
    by_cases hc : c ∈ X.fs
    · obtain ⟨sl, q⟩ := slot c o (I.cne x c e) hc nch ho (I.freeC x c e)
      exact ⟨_, q, hd⟩
    · exact ⟨o, keep c o (I.cne x c e) hc nch ho (I.freeC x c e), hd⟩
  refine ⟨I.ok, I.os, hg, ⟨fun b o e n hb hx => ?_, fun b o e n hb hx => ?_, fun b o e n hx => ?_, fun b o e hx => ?_, fun b xs e => tups b xs (I.base.tups b xs e), fun b o xs e => frzs b o xs (I.base.frzs b o xs e), fun b ps e => ?_⟩, ?_, fun x c e => ?_, ?_, fun x c e => ?_, fun p hp => ?_, hok, I.len⟩
  · exact keep b o (neL b o e) hb (neC b o e hx) (I.base.keep b o e n hb hx) (I.base.free b o e n hx)
  · obtain ⟨sl, e1⟩ := I.base.slot b o e n hb hx
    obtain ⟨sl', e2⟩ := slot b _ (neL b o e) hb (neC b o e hx) e1 (I.base.free b o e n hx)
    exact ⟨sl', e2⟩
  · obtain ⟨o', e1⟩ := I.base.there b o e hx
    exact free b o' (neC b o e hx) e1 (I.base.free b o e n hx)
  · obtain ⟨o', e1⟩ := I.base.there b o e hx
    exact there b o' (neC b o e hx) e1
  · obtain ⟨m1, e1⟩ := I.base.tbls b ps e
    obtain ⟨m2, e2⟩ := tbls b _ e1
    exact ⟨m1 ++ m2, by rw [e2, Array.append_assoc]⟩
  · obtain ⟨m, hn, hl⟩ := I.loc
    refine ⟨m, ns m hn, fun i x v e1 e2 e3 => ?_⟩
    obtain ⟨u, r, l⟩ := hl i x v e1 e2 e3
    refine ⟨u, r, ?_⟩
    rcases l with l | ⟨k, c, e, z⟩
    · exact .inl l
    · exact .inr ⟨k, c, e, cellK x c e _ z⟩
  · obtain ⟨v, z⟩ := I.cell x c e
    exact ⟨v, cellK x c e v z⟩
  · obtain ⟨m, ⟨o, _, _, ho, _⟩, _⟩ := I.loc
    exact free _ o (fun z => (hch _ z).2.1 rfl) ho I.free
  · obtain ⟨v, o, ho, hd⟩ := I.cell x c e
    exact free c o (fun z => (hch c z).2.2.1 x c e rfl) ho (I.freeC x c e)
  · obtain ⟨e, n, ne, nf, d⟩ := I.pin p hp
    have nch : p.1 ∉ ch := fun z => (hch p.1 z).2.2.2 p hp rfl
    exact ⟨keep p.1 p.2 ne nf nch e n, free p.1 p.2 nch e n, ne, nf, d⟩
theorem Inv.un {t' : Nat} (I : Inv X pins σ H s) (u : Un X.fs [] H H' s.heap h') (hok : HOk X.prog X.w H' h') : Inv X pins σ H' { s with heap := h', toks := t' } := by
  obtain ⟨m, ⟨o, es, ep, ho, r⟩, _⟩ := id I.loc
  obtain ⟨sl, hL⟩ := u.any ho I.free (by simp)
  exact I.step (g' := s.gens) (d' := s.drawn) (ch := []) (fun _ z => nomatch z) (fun b o _ hb _ e n => u.keep b o e n hb (by simp)) (fun b o _ hb _ e n => u.slot b o e n hb (by simp)) (fun b o _ e n => u.free b o e n (by simp)) (fun b o _ e => u.there b o e (by simp)) u.tups u.frzs u.tbls (fun m' hm => by
    obtain ⟨o', es', ep', ho', r'⟩ := hm
    rw [ho] at ho'; cases ho'
    exact ⟨_, es', ep', hL, r'⟩) hok I.bare
theorem Inv.call {g' : Array GenState} {t' : Nat} {d' : Drawn} {ch : List Addr} (I : Inv X pins σ H s) (u : Un (frs X.stack) ch H H' s.heap h') (hok : HOk X.prog X.w H' h') (hg : AllBare g')
    (hch : ∀ b ∈ ch, (b ∈ X.ex ∨ X.s₀.heap.objs.size ≤ b) ∧ b ≠ X.env.locals ∧ (∀ x c, X.env.cells.lookup x = some c → c ≠ b) ∧ ∀ p ∈ X.pn ++ pins, p.1 ≠ b) :
    Inv X pins σ H' { s with heap := h', gens := g', drawn := d', toks := t' } := by
  obtain ⟨m, ⟨o, es, ep, ho, r⟩, _⟩ := id I.loc
  obtain ⟨sl, hL⟩ := u.any ho I.free fun z => (hch _ z).2.1 rfl
  exact I.step (ch := ch) hch (fun b o hL hb hc e n => u.keep b o e n (fun z => (List.mem_cons.mp (I.stkSub b z)).elim hL hb) hc) (fun b o _ _ hc e n => u.any e n hc) (fun b o hc e n => u.free b o e n hc) (fun b o hc e => u.there b o e hc) u.tups u.frzs u.tbls (fun m' hm => by
    obtain ⟨o', es', ep', ho', r'⟩ := hm
    rw [ho] at ho'; cases ho'
    exact ⟨_, es', ep', hL, r'⟩) hok hg
theorem Inv.turned {t' : Nat} {it : Addr} (I : Inv X pins σ H s) (k : ∀ b o, b ≠ it → s.heap.get? b = some o → h'.get? b = some o) (hn : H it = none) (hL : it ≠ X.env.locals)
    (h1 : it ∈ X.ex ∨ X.s₀.heap.objs.size ≤ it) (h2 : ∀ x c, X.env.cells.lookup x = some c → c ≠ it) (h3 : ∀ p ∈ X.pn ++ pins, p.1 ≠ it) : Inv X pins σ H { s with heap := h', toks := t' } := by
  have nit : ∀ b u, H b = some u → b ≠ it := fun b u e z => by rw [z, hn] at e; cases e
  refine I.step (g' := s.gens) (d' := s.drawn) (ch := [it]) (fun b hb => ?_) (fun b o _ _ hc e _ => k b o (fun z => hc (by simp [z])) e) (fun b o _ _ hc e _ => ⟨o.slots, k b o (fun z => hc (by simp [z])) e⟩) (fun _ _ _ _ n => n)
    (fun b o hc e => ⟨o, k b o (fun z => hc (by simp [z])) e⟩) (fun _ _ e => e) (fun _ _ _ e => e) (fun b ps e => ⟨#[], by rw [e]; simp⟩) (fun m hm => ?_) (fun b u e => ?_) I.bare
  · have e : b = it := by simpa using hb
    subst e
    exact ⟨h1, hL, h2, h3⟩
  · obtain ⟨o, es, ep, ho, r⟩ := hm
    exact ⟨o, es, ep, k _ o (Ne.symm hL) ho, r⟩
  · refine (I.hok b u e).stay (fun c v hc q => k c v ?_ q) (fun _ q => q) fun _ _ q => q
    rcases hc with z | z
    · rw [z]; exact nit b u e
    · exact nit c _ z
theorem Inv.tok (I : Inv X pins σ H s) (t : Nat) : Inv X pins σ H { s with toks := t } := I.un (h' := s.heap) (t' := t) Un.refl I.hok
theorem Inv.kept {t' : Nat} (I : Inv X pins σ H s) (k : ∀ b u, s.heap.get? b = some u → h'.get? b = some u) : Inv X pins σ H { s with heap := h', toks := t' } := I.un (Un.kept k) (I.hok.kept k)
theorem Inv.laid {a : Addr} {o : HO} {t' : Nat} (I : Inv X pins σ H s) (k : ∀ b u, s.heap.get? b = some u → h'.get? b = some u) (hp : s.heap.objs.size ≤ a) (new : ObjOk X.prog X.w (upd H a o) h' a o) :
    Inv X pins σ (upd H a o) { s with heap := h', toks := t' } := I.un (Un.laid k hp (I.hok.fresh hp)) (I.hok.laid k hp new)
theorem Inv.write {x e : Addr} {o : HO} {t' : Nat} (I : Inv X pins σ H s) (mu : Mut (H x)) (he : e = x ∨ H e = some (.own x)) (k : ∀ b u, b ≠ e → s.heap.get? b = some u → h'.get? b = some u) (heo : ∃ u, h'.get? e = some u)
    (new : ObjOk X.prog X.w (upd H x o) h' x o) : Inv X pins σ (upd H x o) { s with heap := h', toks := t' } := I.un (Un.write mu he k heo) (I.hok.write mu he k heo new)
theorem Inv.pins_of {pins' : List (Addr × Obj)} (I : Inv X pins σ H s) (h : ∀ p ∈ pins', s.heap.get? p.1 = some p.2 ∧ H p.1 = none ∧ p.1 ≠ X.env.locals ∧ p.1 ∉ X.fs ∧ ∀ v, p.2.data ≠ .cell v) : Inv X pins' σ H s :=
  ⟨I.ok, I.os, I.bare, I.base, I.loc, I.cell, I.free, I.freeC, fun p hp => (List.mem_append.mp hp).elim (fun z => I.pin p (List.mem_append_left _ z)) (h p), I.hok, I.len⟩
theorem nodup_ix {N : List Str} (hN : N.Nodup) {i j : Nat} {x : Str} (a : N[i]? = some x) (b : N[j]? = some x) : i = j := by
  obtain ⟨h1, e1⟩ := List.getElem?_eq_some_iff.mp a
  obtain ⟨h2, e2⟩ := List.getElem?_eq_some_iff.mp b
  exact (List.getElem_inj hN).mp (e1.trans e2.symm)
theorem store_ok2 {M : Model} {A : Around} {E : Value → Shared → Prop} {i : Nat} {x : Str} {v : V} {u : Value} {Q : Unit → Shared → Prop} (I : Inv X pins σ H s) (hN : X.N.Nodup) (hi : X.N[i]? = some x) (hx : Loc X.env.scope x) (r : RelV v u)
    (h : ∀ s', Inv X pins (σ.set i (some v)) H s' → (∃ a, Heap.SameBut a s.heap s'.heap ∧ (a = X.env.locals ∨ X.env.cells.lookup x = some a)) → Q () s') (hf : X.fn x = true ∨ X.env.scope.names.lookup x = some .local := by first | exact .inl rfl | exact .inr rfl | assumption) : wpAny M A (storeName X.env x u) Q E s := by
  obtain ⟨m, hn, hl⟩ := id I.loc
  have hcls : (X.env.scope.kind == .class || (X.env.scope.kind == .module && X.env.locals != X.env.globals)) = false := by rw [I.ok.kind]; rfl
  have hiσ : i < σ.length := by rw [I.len]; exact (List.getElem?_eq_some_iff.mp hi).1
  have cne := I.cne
  have tracked : ∀ {a : Addr} {h' : Heap}, (∃ o, s.heap.get? a = some o ∧ H a = none) → Heap.SameBut a s.heap h' → HOk X.prog X.w H h' := fun {a h'} ha hs b ob e => by
    obtain ⟨_, _, hfree⟩ := ha
    refine (I.hok b ob e).stay (fun c w' hc q => (hs.2 c ?_).trans q) (fun _ q => q) fun _ _ q => q
    rintro rfl
    rcases hc with rfl | hc
    · rw [hfree] at e; cases e
    · rw [hfree] at hc; cases hc
  rcases hx with hk | hk
  · refine wpAny_storeName_local hk hn (fun h' hn' hs => ?_) hcls
    obtain ⟨oL, _, _, hoL, _⟩ := id hn
    refine h _ ⟨I.ok, I.os, I.bare, ⟨fun b o e n hb hx => ?_, fun b o e n hb hx => ?_, I.base.free, fun b o e hx => ?_, I.base.tups, I.base.frzs, I.base.tbls⟩, ⟨_, hn', fun j y v' e1 e2 e3 => ?_⟩, fun y c e => ?_, I.free, I.freeC, fun p hp => ?_, tracked ⟨oL, hoL, I.free⟩ hs, by simpa using I.len⟩ ⟨_, hs, .inl rfl⟩
    · exact (hs.2 b (Nat.ne_of_lt (Nat.lt_of_lt_of_le (Heap.lt_size e) I.ok.above))).trans (I.base.keep b o e n hb hx)
    · obtain ⟨sl, e1⟩ := I.base.slot b o e n hb hx
      exact ⟨sl, (hs.2 b (Nat.ne_of_lt (Nat.lt_of_lt_of_le (Heap.lt_size e) I.ok.above))).trans e1⟩
    · obtain ⟨o', e1⟩ := I.base.there b o e hx
      exact ⟨o', (hs.2 b (Nat.ne_of_lt (Nat.lt_of_lt_of_le (Heap.lt_size e) I.ok.above))).trans e1⟩
    · by_cases hj : j = i
      · subst hj
        rw [hi] at e1; cases e1
        rw [List.getElem?_set_self hiσ] at e2
        cases e2
        exact ⟨u, r, .inl ⟨hk, by simp⟩⟩
      · rw [List.getElem?_set_ne (Ne.symm hj)] at e2
        obtain ⟨u', r', q⟩ := hl j y v' e1 e2 e3
        refine ⟨u', r', ?_⟩
        rcases q with ⟨k, e⟩ | ⟨k, c, e, z⟩
        · refine .inl ⟨k, ?_⟩
          have : y ≠ x := fun e => hj (nodup_ix hN e1 (e ▸ hi))
          simp [this, e]
        · exact .inr ⟨k, c, e, z.sameBut hs (cne y c e)⟩
    · obtain ⟨w', z⟩ := I.cell y c e
      exact ⟨w', z.sameBut hs (cne y c e)⟩
    · obtain ⟨e, n, ne, nf, d⟩ := I.pin p hp
      exact ⟨(hs.2 p.1 ne).trans e, n, ne, nf, d⟩
  · have hfn : X.fn x = true := by
      rcases hf with z | z
      · exact z
      · rw [z] at hk; cases hk
    obtain ⟨c, hc⟩ := I.ok.has x (.inl hk)
    obtain ⟨w', z⟩ := I.cell x c hc
    refine wpAny_storeName_cell I.ok.kind hk hc z (fun h' hc' hs => ?_)
    obtain ⟨oc, hoc, hocd⟩ := id z
    refine h { s with heap := h' } ⟨I.ok, I.os, I.bare, ⟨fun b o e n hb hx => ?_, fun b o e n hb hx => ?_, I.base.free, fun b o e hx => ?_, I.base.tups, I.base.frzs, I.base.tbls⟩, ⟨m, hn.sameBut hs (Ne.symm (cne x c hc)), fun j y v' e1 e2 e3 => ?_⟩, fun y c' e => ?_, I.free, I.freeC, fun p hp => ?_, tracked ⟨oc, hoc, I.freeC x c hc⟩ hs, by simpa using I.len⟩ ⟨c, hs, .inr hc⟩
    · exact (hs.2 b (Nat.ne_of_lt (Nat.lt_of_lt_of_le (Heap.lt_size e) (I.ok.cab x c hfn hc)))).trans (I.base.keep b o e n hb hx)
    · obtain ⟨sl, e1⟩ := I.base.slot b o e n hb hx
      exact ⟨sl, (hs.2 b (Nat.ne_of_lt (Nat.lt_of_lt_of_le (Heap.lt_size e) (I.ok.cab x c hfn hc)))).trans e1⟩
    · obtain ⟨o', e1⟩ := I.base.there b o e hx
      exact ⟨o', (hs.2 b (Nat.ne_of_lt (Nat.lt_of_lt_of_le (Heap.lt_size e) (I.ok.cab x c hfn hc)))).trans e1⟩
    · by_cases hj : j = i
      · subst hj
        rw [hi] at e1; cases e1
        rw [List.getElem?_set_self hiσ] at e2
        cases e2
        exact ⟨u, r, .inr ⟨.inl hk, c, hc, hc'⟩⟩
      · rw [List.getElem?_set_ne (Ne.symm hj)] at e2
        obtain ⟨u', r', q⟩ := hl j y v' e1 e2 e3
        refine ⟨u', r', ?_⟩
        rcases q with q | ⟨k, c', e, z'⟩
        · exact .inl q
        · refine .inr ⟨k, c', e, z'.sameBut hs ?_⟩
          rintro rfl
          exact hj (nodup_ix hN e1 (I.ok.inj _ _ _ e hc ▸ hi))
    · by_cases hcc : c' = c
      · subst hcc; exact ⟨_, hc'⟩
      · obtain ⟨w2, z2⟩ := I.cell y c' e
        exact ⟨w2, z2.sameBut hs hcc⟩
    · obtain ⟨e, n, ne, nf, d⟩ := I.pin p hp
      refine ⟨(hs.2 p.1 ?_).trans e, n, ne, nf, d⟩
      intro q
      rw [q, hoc] at e
      have q' : oc = p.2 := Option.some.inj e
      exact d w' (by rw [← q']; exact hocd)
theorem store_ok {M : Model} {A : Around} {E : Value → Shared → Prop} {i : Nat} {x : Str} {v : V} {u : Value} {Q : Unit → Shared → Prop} (I : Inv X pins σ H s) (hN : X.N.Nodup) (hi : X.N[i]? = some x) (hx : Loc X.env.scope x) (r : RelV v u)
    (h : ∀ s', Inv X pins (σ.set i (some v)) H s' → Q () s') (hf : X.fn x = true ∨ X.env.scope.names.lookup x = some .local := by first | exact .inl rfl | exact .inr rfl | assumption) : wpAny M A (storeName X.env x u) Q E s :=
  store_ok2 I hN hi hx r (fun s' I' _ => h s' I') hf
theorem Inv.call' {s' : Shared} {ch : List Addr} (I : Inv X pins σ H s) (ho : s'.os = s.os) (u : Un (frs X.stack) ch H H' s.heap s'.heap) (hok : HOk X.prog X.w H' s'.heap) (hg : AllBare s'.gens)
    (hch : ∀ b ∈ ch, (b ∈ X.ex ∨ X.s₀.heap.objs.size ≤ b) ∧ b ≠ X.env.locals ∧ (∀ x c, X.env.cells.lookup x = some c → c ≠ b) ∧ ∀ p ∈ X.pn ++ pins, p.1 ≠ b) : Inv X pins σ H' s' := by
  obtain ⟨h', g', d', t', o'⟩ := s'
  have e : o' = s.os := ho
  subst e
  exact I.call (g' := g') (t' := t') (d' := d') u hok hg hch
end
abbrev XK := Value → Option Addr → Hp → Prop
abbrev St := List (Option V)
abbrev VK := V → Hp → Prop
abbrev TE := St → Hp → VK → Prop
abbrev TT := St → Hp → (Bool → Hp → Prop) → Prop
abbrev TA := St → Hp → (List V → Hp → Prop) → Prop
structure Ends where
  nx : St → Hp → Prop
  rt : VK
  bk : St → Hp → Prop := fun _ _ => False
  ct : St → Hp → Prop := fun _ _ => False
abbrev TS := Ends → St → Hp → Prop
def EP (X : Cx) (pins : List (Addr × Obj)) (σ : St) (Q : VK) (u : Value) (s' : Shared) : Prop := ∃ v H', Inv X pins σ H' s' ∧ RelV v u ∧ Q v H'
def TP (X : Cx) (pins : List (Addr × Obj)) (σ : St) (Q : Bool → Hp → Prop) (b : Bool) (s' : Shared) : Prop := ∃ H', Inv X pins σ H' s' ∧ Q b H'
def AP (X : Cx) (pins : List (Addr × Obj)) (σ : St) (Q : List V → Hp → Prop) (us : List Value) (s' : Shared) : Prop := ∃ vs H', Inv X pins σ H' s' ∧ Vals vs us ∧ Q vs H'
def SP (X : Cx) (pins : List (Addr × Obj)) (D : Ends) (f : Flow) (s' : Shared) : Prop :=
  match f with
  | .next => ∃ σ' H', Inv X pins σ' H' s' ∧ D.nx σ' H'
  | .brk => ∃ σ' H', Inv X pins σ' H' s' ∧ D.bk σ' H'
  | .cont => ∃ σ' H', Inv X pins σ' H' s' ∧ D.ct σ' H'
  | .ret u => ∃ v σ' H', Inv X pins σ' H' s' ∧ RelV v u ∧ D.rt v H'
def PE (X : Cx) (e : Expr) (t : TE) : Prop :=
  ∀ (pins : List (Addr × Obj)) (s : Shared) (σ : St) (H : Hp) (Q : VK), Inv X pins σ H s → t σ H Q → wpAny (model X.prog X.w) X.A (eval e X.env) (EP X pins σ Q) X.xe s
def PT (X : Cx) (e : Expr) (t : TT) : Prop :=
  ∀ (pins : List (Addr × Obj)) (s : Shared) (σ : St) (H : Hp) (Q : Bool → Hp → Prop), Inv X pins σ H s → t σ H Q → wpAny (model X.prog X.w) X.A (isTrue e X.env (eval e X.env)) (TP X pins σ Q) X.xe s
def PW (X : Cx) (e : Expr) (t : TT) : Prop :=
  ∀ (whole : Sem Value) (pins : List (Addr × Obj)) (s : Shared) (σ : St) (H : Hp) (Q : Bool → Hp → Prop), Inv X pins σ H s → t σ H Q → wpAny (model X.prog X.w) X.A (isTrue e X.env whole) (TP X pins σ Q) X.xe s
theorem PW.pt {X : Cx} {e : Expr} {t : TT} (h : PW X e t) : PT X e t := h _
def PA (X : Cx) (es : List Expr) (t : TA) : Prop :=
  ∀ (pos : Pos) (pins : List (Addr × Obj)) (s : Shared) (σ : St) (H : Hp) (Q : List V → Hp → Prop), Inv X pins σ H s → t σ H Q → wpAny (model X.prog X.w) X.A (spliced (backTo pos (starEach es X.env))) (AP X pins σ Q) X.xe s
def PS (X : Cx) (st : Stmt) (t : TS) : Prop :=
  ∀ (pins : List (Addr × Obj)) (s : Shared) (σ : St) (H : Hp) (D : Ends), Inv X pins σ H s → t D σ H → wpAny (model X.prog X.w) X.A (exec st X.env) (SP X pins D) X.xe s
def PSs (X : Cx) (st : List Stmt) (t : TS) : Prop :=
  ∀ (pins : List (Addr × Obj)) (s : Shared) (σ : St) (H : Hp) (D : Ends), Inv X pins σ H s → t D σ H → wpAny (model X.prog X.w) X.A (execs st X.env) (SP X pins D) X.xe s
theorem thn {α : Type} {t : Sem α} {Q Q' : α → Shared → Prop} {M : Model} {A : Around} {E : Value → Shared → Prop} {s : Shared} (h : wpAny M A t Q E s) (hQ : ∀ a s, Q a s → Q' a s) : wpAny M A t Q' E s := wpAny_mono h hQ fun _ _ x => x
end L2
namespace L2
open PySem PySem.Spec PyProof.Rows
section
variable {X : Cx}
def tVar (i : Nat) : TE := fun σ H Q => ∃ v, σ[i]? = some (some v) ∧ Q v H
def tC (v : V) : TE := fun _ H Q => Q v H
theorem pe_var {i : Nat} {x : Str} {pos : Pos} (hN : X.N[i]? = some x) (hv : Vis X.env.scope x) (hd : (x == ("__debug__" : Str)) = false := by decide) (hcd : (x == ("__classdict__" : Str)) = false := by decide) : PE X (.Name x pos) (tVar i) := by
  intro pins s σ H Q I h
  obtain ⟨v, e, h⟩ := h
  obtain ⟨m, hn, hl⟩ := I.loc
  obtain ⟨u, r, l⟩ := hl i x v hN e hv
  have fin : EP X pins σ Q u s := ⟨v, H, I, r, h⟩
  rcases l with ⟨hk, hm⟩ | ⟨hk, c, hc, hcell⟩
  · exact wpAny_Name (wpAny_loadName_local I.ok.kind hk hn hm fin) hd
  · rcases hk with hk | hk
    · exact wpAny_Name (wpAny_loadName_cell I.ok.kind hk hc hcell fin) hd
    · exact wpAny_Name (wpAny_loadName_free I.ok.kind hk hc hcell fin hcd) hd
theorem pe_int {i j pos} : PE X (.Constant (.int i) j pos) (tC (.int i)) := fun _ _ _ H _ I h => wpAny_Constant_int ⟨.int i, H, I.tok _, ⟨_, rfl⟩, h⟩
theorem pe_bl {b j pos} : PE X (.Constant (.bool b) j pos) (tC (.bl b)) := fun _ _ _ H _ I h => Constant_bool ⟨.bl b, H, I, rfl, h⟩
theorem pe_non {j pos} : PE X (.Constant .none j pos) (tC .non) := fun _ _ _ H _ I h => Constant_none ⟨.non, H, I, rfl, h⟩
theorem pe_str {x j pos} : PE X (.Constant (.str x) j pos) (tC (.str x)) := fun _ _ _ H _ I h => Calls.Constant_str ⟨.str x, H, I.tok _, ⟨_, rfl⟩, h⟩
def Gl (X : Cx) (x : Str) : Prop := X.env.kindOf x = some .globalImplicit
theorem ld_glob {E : Value → Shared → Prop} {pins : List (Addr × Obj)} {s : Shared} {σ : St} {H : Hp} {x : Str} {u : Value} {pos : Pos} {Q : Value → Shared → Prop} (I : Inv X pins σ H s) (hg : Gl X x) (hm : X.mg x = some u) (h : Q u s)
    (hd : (x == ("__debug__" : Str)) = false := by decide) : wpAny (model X.prog X.w) X.A (eval (.Name x pos) X.env) Q E s :=
  Calls.Name_function_global I.ok.kind hg (Calls.loadGlobal_global (by rw [I.ok.glob]; exact I.mod.glob.keeps I.bk) hm h) hd
theorem ld_blt {E : Value → Shared → Prop} {pins : List (Addr × Obj)} {s : Shared} {σ : St} {H : Hp} {x : Str} {u : Value} {pos : Pos} {Q : Value → Shared → Prop} (I : Inv X pins σ H s) (hg : Gl X x) (hm : X.mg x = none) (hv : bootBuiltins x = some u) (h : Q u s)
    (hn : x ≠ "__name__" := by decide) (hd : (x == ("__debug__" : Str)) = false := by decide) : wpAny (model X.prog X.w) X.A (eval (.Name x pos) X.env) Q E s := by
  obtain ⟨mb, h1, h2⟩ := I.mod.blt
  exact Calls.Name_function_global I.ok.kind hg (Calls.loadGlobal_builtin (by rw [I.ok.glob]; exact I.mod.glob.keeps I.bk) hm (by rw [I.ok.blt]; exact h1.keeps I.bk) ((h2 x hn).trans hv) h) hd
theorem pe_glob {x : Str} {v : V} {u : Value} {pos : Pos} (hg : Gl X x) (hm : X.mg x = some u) (r : RelV v u) (hd : (x == ("__debug__" : Str)) = false := by decide) : PE X (.Name x pos) (tC v) :=
  fun _ _ _ H _ I h => ld_glob I hg hm ⟨v, H, I, r, h⟩ hd
theorem pe_bltn {x : Str} {v : V} {u : Value} {pos : Pos} (hg : Gl X x) (hm : X.mg x = none) (hv : bootBuiltins x = some u) (r : RelV v u) (hn : x ≠ "__name__" := by decide) (hd : (x == ("__debug__" : Str)) = false := by decide) : PE X (.Name x pos) (tC v) :=
  fun _ _ _ H _ I h => ld_blt I hg hm hv ⟨v, H, I, r, h⟩ hn hd
def t2I (ta tb : TE) (k : Int → Int → Hp → Prop) : St → Hp → Prop := fun σ H => ta σ H fun x H1 => tb σ H1 fun y H2 => ∃ i j, x = .int i ∧ y = .int j ∧ k i j H2
variable {a b : Expr} {ta tb : TE} {pos : Pos}
def tCmp (p : Int → Int → Bool) (ta tb : TE) : TE := fun σ H Q => t2I ta tb (fun i j H2 => Q (.bl (p i j)) H2) σ H
abbrev tLt : TE → TE → TE := tCmp fun i j => decide (i < j)
abbrev tLe : TE → TE → TE := tCmp fun i j => decide (i ≤ j)
abbrev tGt : TE → TE → TE := tCmp fun i j => decide (j < i)
abbrev tGe : TE → TE → TE := tCmp fun i j => decide (j ≤ i)
abbrev tEqI : TE → TE → TE := tCmp fun i j => decide (i = j)
abbrev tNeI : TE → TE → TE := tCmp fun i j => !decide (i = j)
def tB (t : TE) : TT := fun σ H Q => t σ H fun x H1 => ∃ c, x = .bl c ∧ Q c H1
theorem pt_val {e : Expr} {t : TE} (h : PE X e t) (he : ∀ whole, isTrue e X.env whole = (do let v ← whole; standAt e.pos; holding [v] (truthy v)) := by intro _; rfl) : PT X e (tB t) := by
  intro pins s σ H Q I hw
  refine isTrue_plain (thn (h pins s σ H _ I hw) fun v s1 ⟨x, H1, I1, r1, q1⟩ => ?_) (he _)
  obtain ⟨d, rfl, q⟩ := q1
  cases r1
  exact wpAny_truthy_bool ⟨H1, I1, q⟩
variable {tA tB' : TT} {rest : List Expr}
def tAnd (t u : TT) : TT := fun σ H Q => t σ H fun c H1 => if c = true then u σ H1 Q else Q false H1
def tOr (t u : TT) : TT := fun σ H Q => t σ H fun c H1 => if c = true then Q true H1 else u σ H1 Q
def tNot (t : TT) : TT := fun σ H Q => t σ H fun c H1 => Q (!c) H1
theorem pw_and1 (ha : PT X a tA) : PW X (.BoolOp .And [a] pos) tA := by
  intro wh pins s σ H Q I h
  refine isTrue_and (thn (ha pins s σ H Q I h) fun c s1 e => ?_)
  cases c with
  | true => exact isTrue_and_nil e
  | false => exact e
theorem pw_or1 (ha : PT X a tA) : PW X (.BoolOp .Or [a] pos) tA := by
  intro wh pins s σ H Q I h
  refine isTrue_or (thn (ha pins s σ H Q I h) fun c s1 e => ?_)
  cases c with
  | false => exact isTrue_or_nil e
  | true => exact e
theorem pw_and (ha : PT X a tA) (hb : PW X (.BoolOp .And (b :: rest) pos) tB') : PW X (.BoolOp .And (a :: b :: rest) pos) (tAnd tA tB') := by
  intro wh pins s σ H Q I h
  refine isTrue_and (thn (ha pins s σ H _ I h) fun c s1 ⟨H1, I1, q1⟩ => ?_)
  cases c with
  | true => exact hb wh pins s1 σ H1 Q I1 q1
  | false => exact ⟨H1, I1, q1⟩
theorem pw_or (ha : PT X a tA) (hb : PW X (.BoolOp .Or (b :: rest) pos) tB') : PW X (.BoolOp .Or (a :: b :: rest) pos) (tOr tA tB') := by
  intro wh pins s σ H Q I h
  refine isTrue_or (thn (ha pins s σ H _ I h) fun c s1 ⟨H1, I1, q1⟩ => ?_)
  cases c with
  | true => exact ⟨H1, I1, q1⟩
  | false => exact hb wh pins s1 σ H1 Q I1 q1
theorem pt_not (ha : PT X a tA) : PT X (.UnaryOp .Not a pos) (tNot tA) := by
  intro pins s σ H Q I h
  exact isTrue_not (ha pins s σ H (fun c H1 => Q (!c) H1) I h)
def tAndV (ta tb : TE) : TE := fun σ H Q => ta σ H fun x H1 => ∃ c, x = .bl c ∧ if c = true then tb σ H1 Q else Q (.bl false) H1
def tOrV (ta tb : TE) : TE := fun σ H Q => ta σ H fun x H1 => ∃ c, x = .bl c ∧ if c = true then Q (.bl true) H1 else tb σ H1 Q
def tNotV (ta : TE) : TE := fun σ H Q => ta σ H fun x H1 => ∃ c, x = .bl c ∧ Q (.bl (!c)) H1
theorem pe_one {op} {t : TE} (h : PE X a t) : PE X (.BoolOp op [a] pos) t := fun pins s σ H Q I hw => BoolOp_one (h pins s σ H Q I hw)
theorem pe_and (ha : PE X a ta) (hb : PE X (.BoolOp .And (b :: rest) pos) tb) : PE X (.BoolOp .And (a :: b :: rest) pos) (tAndV ta tb) := by
  intro pins s σ H Q I h
  refine BoolOp_and (thn (ha pins s σ H _ I h) fun v s1 ⟨x, H1, I1, r1, q1⟩ => ?_)
  obtain ⟨c, rfl, q1⟩ := q1
  cases r1
  refine wpAny_truthy_bool ?_
  cases c with
  | true => exact hb pins s1 σ H1 Q I1 q1
  | false => exact ⟨.bl false, H1, I1, rfl, q1⟩
theorem pe_or (ha : PE X a ta) (hb : PE X (.BoolOp .Or (b :: rest) pos) tb) : PE X (.BoolOp .Or (a :: b :: rest) pos) (tOrV ta tb) := by
  intro pins s σ H Q I h
  refine BoolOp_or (thn (ha pins s σ H _ I h) fun v s1 ⟨x, H1, I1, r1, q1⟩ => ?_)
  obtain ⟨c, rfl, q1⟩ := q1
  cases r1
  refine wpAny_truthy_bool ?_
  cases c with
  | false => exact hb pins s1 σ H1 Q I1 q1
  | true => exact ⟨.bl true, H1, I1, rfl, q1⟩
theorem pe_not (ha : PE X a ta) : PE X (.UnaryOp .Not a pos) (tNotV ta) := by
  intro pins s σ H Q I h
  refine UnaryOp_ (thn (ha pins s σ H _ I h) fun v s1 ⟨x, H1, I1, r1, q1⟩ => ?_)
  obtain ⟨c, rfl, q1⟩ := q1
  cases r1
  exact not_of (wpAny_truthy_bool ⟨.bl (!c), H1, I1, rfl, q1⟩)
def tIf (t : TT) (ta tb : TE) : TE := fun σ H Q => t σ H fun c H1 => if c = true then ta σ H1 Q else tb σ H1 Q
theorem pe_ifExp {c : Expr} (hc : PT X c tA) (ha : PE X a ta) (hb : PE X b tb) : PE X (.IfExp c a b pos) (tIf tA ta tb) := by
  intro pins s σ H Q I h
  refine wpAny_IfExp (thn (hc pins s σ H _ I h) fun d s1 ⟨H1, I1, q1⟩ => ?_)
  cases d with
  | true => exact ha pins s1 σ H1 Q I1 q1
  | false => exact hb pins s1 σ H1 Q I1 q1
end
end L2
namespace L2
open PySem PySem.Spec PyProof.Rows
def SqL (K : PySem.W.Frag) (H : Hp) (a : Addr) (xs : List V) : Prop :=
  Rd H a (.lst xs) ∨
    ∃ (o : Obj) (its : Array Value) (n : Nat), K.lookup a = some o ∧ o.cls = .type "list" ∧ o.dict = none ∧ o.data = .seq its n ∧ its.size ≤ sizeLine ∧ Vals xs its.toList
def SqT (K : PySem.W.Frag) (H : Hp) (a : Addr) (xs : List V) : Prop :=
  Rd H a (.tup xs) ∨
    ∃ (o : Obj) (its : Array Value) (n : Nat), K.lookup a = some o ∧ o.cls = .type "tuple" ∧ o.data = .seq its n ∧ its.size ≤ sizeLine ∧ Vals xs its.toList
def absV : Value → Option V
  | .none => some .non
  | .bool b => some (.bl b)
  | .int i _ => some (.int i)
  | .str x _ => some (.str x)
  | .bytes b _ => some (.byt b)
  | .float b _ => some (.flt b)
  | .ref a => some (.ref a)
  | .type n => some (.ty n)
  | _ => none
theorem RelV.abs {x : V} {u : Value} (r : RelV x u) : absV u = some x := by
  cases x with
  | non => cases r; rfl
  | bl _ => cases r; rfl
  | int _ => obtain ⟨t, rfl⟩ := r; rfl
  | str _ => obtain ⟨t, rfl⟩ := r; rfl
  | byt _ => obtain ⟨t, rfl⟩ := r; rfl
  | flt _ => obtain ⟨t, rfl⟩ := r; rfl
  | ref _ => cases r; rfl
  | ty _ => cases r; rfl
theorem RelV.inj {x y : V} {u : Value} (r : RelV x u) (q : RelV y u) : x = y := Option.some.inj (r.abs.symm.trans q.abs)
theorem Vals.inj : ∀ {xs ys : List V} {us : List Value}, Vals xs us → Vals ys us → xs = ys
  | _, _, _, .nil, .nil => rfl
  | _, _, _, .cons r t, .cons r' t' => by rw [r.inj r', Vals.inj t t']
section
variable {X : Cx} {pins : List (Addr × Obj)} {σ : St} {H : Hp} {s : Shared} {a : Addr} {xs ys : List V}
theorem SqL.of {K : PySem.W.Frag} (h : H a = some (.lst xs)) : SqL K H a xs := .inl (.inl h)
theorem SqT.of {K : PySem.W.Frag} (h : H a = some (.tup xs)) : SqT K H a xs := .inl (.inl h)
theorem Inv.list (I : Inv X pins σ H s) (h : SqL X.K H a xs) : ∃ its : List Value, Vals xs its ∧ PlainL s.heap a its.toArray ∧ xs.length ≤ sizeLine := by
  rcases h with h | ⟨o, its, n, hk, hc, hd, hs, hz, r⟩
  · obtain ⟨z, its, n, r, e⟩ := h.ok I.hok
    exact ⟨its, r, ⟨_, n, e, rfl, rfl, rfl⟩, z⟩
  · refine ⟨its.toList, r, ⟨o, n, I.kIn a o hk, hc, hd, by simpa using hs⟩, ?_⟩
    have e := r.length
    simp only [Array.length_toList] at e
    omega
theorem Inv.tuple (I : Inv X pins σ H s) (h : SqT X.K H a xs) : ∃ its : List Value, Vals xs its ∧ IsTup s.heap a its.toArray ∧ xs.length ≤ sizeLine := by
  rcases h with h | ⟨o, its, n, hk, hc, hs, hz, r⟩
  · obtain ⟨z, its, r, p⟩ := h.ok I.hok
    exact ⟨its, r, p, z⟩
  · refine ⟨its.toList, r, ⟨o, I.kIn a o hk, hc, n, by simpa using hs⟩, ?_⟩
    have e := r.length
    simp only [Array.length_toList] at e
    omega
theorem Inv.list_inj (I : Inv X pins σ H s) (h : SqL X.K H a xs) (h' : SqL X.K H a ys) : xs = ys := by
  obtain ⟨its, r, ⟨o, n, e, _, _, d⟩, _⟩ := I.list h
  obtain ⟨its', r', ⟨o', n', e', _, _, d'⟩, _⟩ := I.list h'
  rw [e] at e'; cases e'
  rw [d] at d'
  injection d' with d1 _
  have : its = its' := by simpa using congrArg Array.toList d1
  subst this
  exact r.inj r'
end
abbrev Cx.wish (X : Cx) (E : Value → Shared → Prop) : Cx := { X with xe := E }
abbrev Cx.nox (X : Cx) : Cx := X.wish fun _ _ => False
theorem Cx.Ok.wish {X : Cx} (ok : X.Ok) (E : Value → Shared → Prop) : (X.wish E).Ok :=
  ⟨ok.mod, ok.kind, ok.glob, ok.blt, ok.above, ok.inj, ok.has, ok.cab, ok.hd, ok.frames, ok.stk, ok.exf, ok.bs, ok.bsz, ok.noex, ok.exfs, ok.funs, ok.frf⟩
theorem Cx.Ok.unwish {X : Cx} {E : Value → Shared → Prop} (ok : (X.wish E).Ok) : X.Ok :=
  ⟨ok.mod, ok.kind, ok.glob, ok.blt, ok.above, ok.inj, ok.has, ok.cab, ok.hd, ok.frames, ok.stk, ok.exf, ok.bs, ok.bsz, ok.noex, ok.exfs, ok.funs, ok.frf⟩
section
variable {X : Cx} {pins : List (Addr × Obj)} {σ : St} {H : Hp} {s : Shared} {E : Value → Shared → Prop}
theorem Inv.wish (I : Inv X pins σ H s) (E : Value → Shared → Prop) : Inv (X.wish E) pins σ H s := ⟨I.ok.wish E, I.os, I.bare, I.base, I.loc, I.cell, I.free, I.freeC, I.pin, I.hok, I.len⟩
theorem Inv.unwish (I : Inv (X.wish E) pins σ H s) : Inv X pins σ H s := ⟨I.ok.unwish, I.os, I.bare, I.base, I.loc, I.cell, I.free, I.freeC, I.pin, I.hok, I.len⟩
theorem SP.unwish {D : Ends} {f : Flow} {s' : Shared} (h : SP (X.wish E) pins D f s') : SP X pins D f s' := by
  cases f with
  | next => obtain ⟨σ', H', I, q⟩ := h; exact ⟨σ', H', I.unwish, q⟩
  | brk => obtain ⟨σ', H', I, q⟩ := h; exact ⟨σ', H', I.unwish, q⟩
  | cont => obtain ⟨σ', H', I, q⟩ := h; exact ⟨σ', H', I.unwish, q⟩
  | ret u => obtain ⟨v, σ', H', I, r, q⟩ := h; exact ⟨v, σ', H', I.unwish, r, q⟩
theorem PSs.nox {st : List Stmt} {t : TS} (h : PSs X.nox st t) : PSs X st t := fun pins s σ H D I hw =>
  wpAny_mono (h pins s σ H D (I.wish _) hw) (fun _ _ q => q.unwish) fun _ _ z => False.elim z
end
section
variable {X : Cx} {st : Stmt} {rest : List Stmt} {t u : TS} {e : Expr} {te : TE} {pos : Pos}
def tNext : TS := fun D σ H => D.nx σ H
def tSeq (t u : TS) : TS := fun D σ H => t { D with nx := u D } σ H
theorem pss_nil : PSs X [] tNext := fun _ _ σ H _ I h => wpAny_execs_nil ⟨σ, H, I, h⟩
theorem pss_cons (h1 : PS X st t) (h2 : PSs X rest u) : PSs X (st :: rest) (tSeq t u) := by
  intro pins s σ H D I h
  refine wpAny_execs_cons (thn (h1 pins s σ H { D with nx := u D } I h) fun f s1 q => ?_)
  cases f with
  | next =>
    obtain ⟨σ', H', I', q⟩ := q
    exact h2 pins s1 σ' H' D I' q
  | ret v => exact q
  | brk => exact q
  | cont => exact q
theorem pss_one (h1 : PS X st t) : PSs X [st] t := by
  intro pins s σ H D I h
  refine wpAny_execs_cons (thn (h1 pins s σ H D I h) fun f s1 q => ?_)
  cases f with
  | next => exact wpAny_execs_nil q
  | ret v => exact q
  | brk => exact q
  | cont => exact q
theorem Inv.quiet {pins : List (Addr × Obj)} {σ : St} {H : Hp} {s : Shared} (I : Inv X pins σ H s) : interactive X.env = false := by simp [interactive, I.ok.kind]
def tDrop (te : TE) : TS := fun D σ H => te σ H fun _ H1 => D.nx σ H1
theorem ps_expr (he : PE X e te) (hs : swapsWith e none pos.line X.env = pure false := by rfl) : PS X (.Expr e pos) (tDrop te) := by
  intro pins s σ H D I h
  exact wpAny_Expr_any (thn (he pins s σ H _ I h) fun v s1 ⟨x, H1, I1, r1, q1⟩ => ⟨σ, H1, I1, q1⟩) I.quiet hs
def tRet (te : TE) : TS := fun D σ H => te σ H D.rt
theorem ps_ret (he : PE X e te) : PS X (.Return (some e) pos) (tRet te) := by
  intro pins s σ H D I h
  exact wpAny_Return_some (thn (he pins s σ H _ I h) fun v s1 ⟨x, H1, I1, r1, q1⟩ => ⟨x, σ, H1, I1, r1, q1⟩)
def tIfS (c : TT) (t u : TS) : TS := fun D σ H => c σ H fun b H1 => if b = true then t D σ H1 else u D σ H1
theorem ps_if {c : Expr} {a b : List Stmt} {tc : TT} (hc : PT X c tc) (ha : PSs X a t) (hb : PSs X b u) : PS X (.If c a b pos) (tIfS tc t u) := by
  intro pins s σ H D I h
  refine wpAny_If (thn (hc pins s σ H _ I h) fun d s1 ⟨H1, I1, q1⟩ => ?_)
  cases d with
  | true => exact ha pins s1 σ H1 D I1 q1
  | false => exact hb pins s1 σ H1 D I1 q1
def tNever : TS := fun _ _ _ => False
theorem ps_never : PS X st tNever := fun _ _ _ _ _ _ h => h.elim
end
abbrev TG := V → St → Hp → (St → Hp → Prop) → Prop
abbrev TGs := List V → St → Hp → (St → Hp → Prop) → Prop
def PG (X : Cx) (target : Expr) (t : TG) : Prop :=
  ∀ (pins : List (Addr × Obj)) (s : Shared) (σ : St) (H : Hp) (v : V) (u : Value) (Q : St → Hp → Prop), Inv X pins σ H s → RelV v u → t v σ H Q →
    wpAny (model X.prog X.w) X.A (assign target X.env u) (fun _ s' => ∃ σ' H', Inv X pins σ' H' s' ∧ Q σ' H') X.xe s
def PGs (X : Cx) (ts : List Expr) (t : TGs) : Prop :=
  ∀ (pins : List (Addr × Obj)) (s : Shared) (σ : St) (H : Hp) (vs : List V) (us : List Value) (Q : St → Hp → Prop), Inv X pins σ H s → Vals vs us → t vs σ H Q →
    wpAny (model X.prog X.w) X.A (assignInOrder ((assignEach ts X.env).map (·.2)) us) (fun _ s' => ∃ σ' H', Inv X pins σ' H' s' ∧ Q σ' H') X.xe s
abbrev TSet := V → V → V → Hp → (Hp → Prop) → Prop
def PSet (X : Cx) (t : TSet) : Prop :=
  ∀ (pins : List (Addr × Obj)) (s : Shared) (σ : St) (H : Hp) (o i v : V) (ov iv u : Value) (Q : Hp → Prop), Inv X pins σ H s → RelV o ov → RelV i iv → RelV v u → t o i v H Q →
    wpAny (model X.prog X.w) X.A (setItem ov iv u) (fun _ s' => ∃ H', Inv X pins σ H' s' ∧ Q H') X.xe s
abbrev TIp := V → V → Hp → VK → Prop
def PIp (X : Cx) (op : Operator) (t : TIp) : Prop :=
  ∀ (pins : List (Addr × Obj)) (s : Shared) (σ : St) (H : Hp) (x y : V) (v u : Value) (Q : VK), Inv X pins σ H s → RelV x v → RelV y u → t x y H Q →
    wpAny (model X.prog X.w) X.A (inplaceOp op v u) (EP X pins σ Q) X.xe s
section
variable {X : Cx} {pos : Pos}
def gName (i : Nat) : TG := fun v σ H Q => Q (σ.set i (some v)) H
theorem pg_name {i : Nat} {x : Str} (hN : X.N.Nodup) (hi : X.N[i]? = some x) (hx : Loc X.env.scope x) (hf : X.fn x = true ∨ X.env.scope.names.lookup x = some .local := by first | exact .inl rfl | exact .inr rfl | assumption) : PG X (.Name x pos) (gName i) := by
  intro pins s σ H v u Q I r h
  exact wpAny_assign_Name (store_ok I hN hi hx r (fun s' I' => ⟨_, H, I', h⟩) hf)
def gNil : TGs := fun vs σ H Q => vs = [] ∧ Q σ H
def gCons (t : TG) (u : TGs) : TGs := fun vs σ H Q => ∃ v r, vs = v :: r ∧ t v σ H fun σ' H' => u r σ' H' Q
theorem pgs_nil : PGs X [] gNil := by
  intro pins s σ H vs us Q I r h
  obtain ⟨e, h⟩ := h
  subst e
  cases r
  exact assignInOrder_nil ⟨σ, H, I, h⟩
theorem pgs_cons {e : Expr} {es : List Expr} {t : TG} {u : TGs} (h1 : PG X e t) (h2 : PGs X es u)
    (hs : (assignEach (e :: es) X.env).map (·.2) = assign e X.env :: (assignEach es X.env).map (·.2) := by rfl) : PGs X (e :: es) (gCons t u) := by
  intro pins s σ H vs us Q I r h
  obtain ⟨v, vr, e1, h⟩ := h
  subst e1
  cases r with
  | cons r rr =>
    rw [hs]
    refine assignInOrder_cons (thn (h1 pins s σ H _ _ _ I r h) fun _ s1 ⟨σ1, H1, I1, q1⟩ => ?_)
    exact h2 pins s1 σ1 H1 _ _ Q I1 rr q1
def gTup (K : PySem.W.Frag) (n : Nat) (t : TGs) : TG := fun v σ H Q => ∃ a xs, v = .ref a ∧ SqT K H a xs ∧ xs.length = n ∧ t xs σ H Q
theorem pg_tup {es : List Expr} {k : Nat} {t : TGs} {n : Nat} (hc : X.calm = true) (h : PGs X es t)
    (hn : (assignEach es X.env).length = n := by rfl) (hst : (assignEach es X.env).findIdx? (·.1) = none := by rfl) : PG X (.Tuple es k pos) (gTup X.K n t) := by
  intro pins s σ H v u Q I r hw
  obtain ⟨a, xs, e1, hq, hl, hw⟩ := hw
  subst e1
  cases r
  obtain ⟨its, rv, ht, hz⟩ := I.tuple hq
  refine assign_Tuple_tuple (I.ok.hd hc) ht (by simp [hn, ← hl, rv.length]) hst fun h' hx => ?_
  have I1 : Inv X pins σ H { s with heap := h' } := I.kept (t' := s.toks) fun b o e => hx b o (Nat.ne_of_lt (Heap.lt_size e)) e
  exact h pins _ σ H xs _ Q I1 (by simpa using rv) hw
def gSub (to ti : TE) (t : TSet) : TG := fun v σ H Q => to σ H fun o H1 => ti σ H1 fun i H2 => t o i v H2 fun H3 => Q σ H3
theorem pg_sub {o i : Expr} {to ti : TE} {t : TSet} (ho : PE X o to) (hi : PE X i ti) (hs : PSet X t)
    (ha : ∀ v, assign (.Subscript o i pos) X.env v = (do
      let ov ← holding [v] (eval o X.env)
      let iv ← holding [v, ov] (eval i X.env)
      standAt pos
      holding [v, ov, iv] (setItem ov iv v)
      release [v, ov, iv] []) := by intro _; rfl) : PG X (.Subscript o i pos) (gSub to ti t) := by
  intro pins s σ H v u Q I r h
  rw [ha]
  refine wpAny_bind (wpAny_holding (thn (ho pins s σ H _ I h) fun ov s1 ⟨x, H1, I1, r1, q1⟩ => ?_))
  refine wpAny_bind (wpAny_holding (thn (hi pins s1 σ H1 _ I1 q1) fun iv s2 ⟨y, H2, I2, r2, q2⟩ => ?_))
  refine wpAny_bind (wpAny_standAt (wpAny_bind (wpAny_holding (thn (hs pins s2 σ H2 x y v ov iv u _ I2 r1 r2 r q2) fun _ s3 ⟨H3, I3, q3⟩ => ?_))))
  exact wpAny_release ⟨σ, H3, I3, q3⟩
def tAsg (te : TE) (g : TG) : TS := fun D σ H => te σ H fun x H1 => g x σ H1 D.nx
theorem ps_asg {tg e : Expr} {te : TE} {g : TG} (he : PE X e te) (hg : PG X tg g) (hs : swapsWithSole [tg] e pos.line X.env = pure false := by rfl) (hw : swappedStores [tg] e X.env = pure none := by rfl)
    (h1 : (assignEach [tg] X.env).map (·.2) = [assign tg X.env] := by rfl) : PS X (.Assign [tg] e pos) (tAsg te g) := by
  intro pins s σ H D I h
  refine wpAny_Assign_stores (thn (he pins s σ H _ I h) fun v s1 ⟨x, H1, I1, r1, q1⟩ => ?_) hs hw
  rw [h1]
  exact thn (hg pins s1 σ H1 x v _ I1 r1 q1) fun _ s2 q => q
theorem ps_set {i : Nat} {x : Str} {e : Expr} {te : TE} {pos' : Pos} (hN : X.N.Nodup) (hi : X.N[i]? = some x) (hx : Loc X.env.scope x) (he : PE X e te) (hs : swapsWith e (some (.Name x pos')) pos.line X.env = pure false := by rfl) (hf : X.fn x = true ∨ X.env.scope.names.lookup x = some .local := by first | exact .inl rfl | exact .inr rfl | assumption) :
    PS X (.Assign [.Name x pos'] e pos) (tAsg te (gName i)) := by
  intro pins s σ H D I h
  refine wpAny_Assign_Name (thn (he pins s σ H _ I h) fun v s1 ⟨y, H1, I1, r1, q1⟩ => ?_) hs
  exact store_ok I1 hN hi hx r1 (fun s2 I2 => ⟨_, H1, I2, q1⟩) hf
def tAug (i : Nat) (te : TE) (ti : TIp) : TS := fun D σ H => ∃ x, σ[i]? = some (some x) ∧ te σ H fun y H1 => ti x y H1 fun z H2 => D.nx (σ.set i (some z)) H2
theorem ps_aug {i : Nat} {x : Str} {e : Expr} {te : TE} {op : Operator} {ti : TIp} {pos' : Pos} (hN : X.N.Nodup) (hi : X.N[i]? = some x) (hx : Loc X.env.scope x) (he : PE X e te) (ho : PIp X op ti) (hf : X.fn x = true ∨ X.env.scope.names.lookup x = some .local := by first | exact .inl rfl | exact .inr rfl | assumption) :
    PS X (.AugAssign (.Name x pos') op e pos) (tAug i te ti) := by
  intro pins s σ H D I h
  obtain ⟨v, e1, h⟩ := h
  obtain ⟨m, hn, hl⟩ := I.loc
  have vis : Vis X.env.scope x := by rcases hx with k | k; exact .inl k; exact .inr (.inl k)
  obtain ⟨u, r, l⟩ := hl i x v hi e1 vis
  refine wpAny_AugAssign_Name ?_
  have go : wpAny (model X.prog X.w) X.A (eval e X.env) (fun w s₂ => wpAny (model X.prog X.w) X.A (inplaceOp op u w) (fun r s₃ => wpAny (model X.prog X.w) X.A (storeName X.env x r) (fun _ => SP X pins D .next) X.xe s₃) X.xe s₂) X.xe s := by
    refine thn (he pins s σ H _ I h) fun w s1 ⟨y, H1, I1, r1, q1⟩ => ?_
    refine thn (ho pins s1 σ H1 v y u w _ I1 r r1 q1) fun z s2 ⟨zv, H2, I2, r2, q2⟩ => ?_
    exact store_ok I2 hN hi hx r2 (fun s3 I3 => ⟨_, H2, I3, q2⟩) hf
  rcases l with ⟨hk, hm⟩ | ⟨hk, c, hc, hcell⟩
  · exact wpAny_loadName_local I.ok.kind hk hn hm go
  · rcases hk with hk | hk
    · exact wpAny_loadName_cell I.ok.kind hk hc hcell go
    · rcases hx with k | k
      · have : X.env.scope.names.lookup x = some .free := hk
        rw [k] at this; cases this
      · have : X.env.scope.names.lookup x = some .free := hk
        rw [k] at this; cases this
def ipI (f : Int → Int → Int) : TIp := fun x y H Q => ∃ i j, x = .int i ∧ y = .int j ∧ Q (.int (f i j)) H
theorem ip_add : PIp X .Add (ipI fun i j => i + j) := by
  intro pins s σ H x y v u Q I r1 r2 h
  obtain ⟨i, j, e1, e2, q⟩ := h
  subst e1; subst e2
  obtain ⟨t, rfl⟩ := r1
  obtain ⟨t', rfl⟩ := r2
  exact iadd_int ⟨.int _, H, I.tok _, ⟨_, rfl⟩, q⟩
end
section
variable {X : Cx} {pos : Pos}
def tWhile (c : TT) (tb : TS) : TS := fun D σ H => ∃ W : Nat → St → Hp → Prop, (∃ m, W m σ H) ∧ ∀ m σ H, W m σ H →
  c σ H fun b H1 => if b = true then ∃ N : St → Hp → Prop, (∀ σ' H', N σ' H' → ∃ m', m' < m ∧ W m' σ' H') ∧ tb { D with nx := N, ct := N, bk := D.nx } σ H1 else D.nx σ H1
theorem ps_while {c : Expr} {body : List Stmt} {tc : TT} {tb : TS} (hp : PassesOwn (model X.prog X.w) X.A X.env X.xe) (hc : PT X c tc) (hb : PSs X body tb) : PS X (.While c body [] pos) (tWhile tc tb) := by
  intro pins s σ H D I h
  obtain ⟨W, ⟨m0, w0⟩, turn⟩ := h
  refine wpAny_While (codeAny_whileLoop (fun n s' => ∃ σ' H', Inv X pins σ' H' s' ∧ W n σ' H') ?_ m0 ⟨σ, H, I, w0⟩)
  rintro n s1 ⟨σ1, H1, I1, w1⟩
  refine wpAny_passesOwn hp (thn (hc pins s1 σ1 H1 _ I1 (turn n σ1 H1 w1)) fun b s2 ⟨H2, I2, q2⟩ => ?_)
  cases b with
  | true =>
    obtain ⟨N, hN, q2⟩ := q2
    rw [if_pos rfl]
    refine wpAny_passesOwn hp (thn (hb pins s2 σ1 H2 _ I2 q2) fun f s3 q3 => ?_)
    cases f with
    | next =>
      obtain ⟨σ3, H3, I3, n3⟩ := q3
      obtain ⟨m', hm, w3⟩ := hN σ3 H3 n3
      exact ⟨m', hm, σ3, H3, I3, w3⟩
    | cont =>
      obtain ⟨σ3, H3, I3, n3⟩ := q3
      obtain ⟨m', hm, w3⟩ := hN σ3 H3 n3
      exact ⟨m', hm, σ3, H3, I3, w3⟩
    | brk => exact q3
    | ret v => exact q3
  | false =>
    rw [if_neg Bool.false_ne_true]
    exact wpAny_execs_nil ⟨σ1, H2, I2, q2⟩
end
structure It where
  go : Nat → Hp → Prop
  yld : Nat → Hp → V → Hp → Prop
  stop : Nat → Hp → Prop
def FpOk (X : Cx) (pins : List (Addr × Obj)) (H : Hp) (b : Addr) : Prop :=
  H b = none ∧ b ≠ X.env.locals ∧ b ∉ X.fs ∧ (b ∈ X.ex ∨ X.s₀.heap.objs.size ≤ b) ∧ (∀ x c, X.env.cells.lookup x = some c → c ≠ b) ∧ ∀ p ∈ X.pn ++ pins, p.1 ≠ b
theorem Inv.fpOk {X : Cx} {pins : List (Addr × Obj)} {σ : St} {H H' : Hp} {s : Shared} {b : Addr} (I : Inv X pins σ H s) (hb : s.heap.objs.size ≤ b) (hn : H' b = none) : FpOk X pins H' b := by
  refine ⟨hn, Nat.ne_of_gt (Nat.lt_of_lt_of_le I.lt hb), I.nofs hb, .inr (Nat.le_trans I.sz hb), fun x c e z => ?_, fun p hp z => ?_⟩
  · obtain ⟨v, q⟩ := I.cell x c e
    exact absurd (Nat.lt_of_lt_of_le q.lt (by rw [z]; exact hb)) (Nat.lt_irrefl _)
  · exact absurd (Nat.lt_of_lt_of_le (Heap.lt_size (I.pin p hp).1) (by rw [z]; exact hb)) (Nat.lt_irrefl _)
structure Turn (P : Program) (w : World) (K : PySem.W.Frag) (tg : Expr) (J : It) (fp : List Addr) (it : Addr) (tn : Nat → Heap → Prop) : Prop where
  mem : it ∈ fp
  obj : ∀ i h, tn i h → ∀ b ∈ fp, ∃ o, h.get? b = some o ∧ ∀ v, o.data ≠ .cell v
  keep : ∀ i h h', tn i h → (∀ b ∈ fp, ∀ o, h.get? b = some o → h'.get? b = some o) → tn i h'
  item : ∀ (X : Cx), X.prog = P → X.w = w → X.K = K → X.calm = true → ∀ (i : Nat) (pins : List (Addr × Obj)) (s : Shared) (σ : St) (H : Hp) (E : Value → Shared → Prop), Inv X pins σ H s → (∀ b ∈ fp, FpOk X pins H b) → tn i s.heap → J.go i H →
    wpAny (model P w) X.A (pyNext (.ref it)) (fun r s1 => ∃ u, r = some u ∧
      wpAny (model P w) X.A (letOwnedTupleGo tg (.ref it) u) (fun _ s2 => ∃ x H', Inv X pins σ H' s2 ∧ RelV x u ∧ J.yld i H x H' ∧ tn (i + 1) s2.heap ∧ ∀ b ∈ fp, H' b = none) E s1) E s
  done : ∀ (X : Cx), X.prog = P → X.w = w → X.K = K → X.calm = true → ∀ (i : Nat) (pins : List (Addr × Obj)) (s : Shared) (σ : St) (H : Hp) (E : Value → Shared → Prop), Inv X pins σ H s → (∀ b ∈ fp, FpOk X pins H b) → tn i s.heap → J.stop i H →
    wpAny (model P w) X.A (pyNext (.ref it)) (fun r s1 => r = none ∧ Inv X pins σ H s1) E s
  self : ∀ (A : Around) (i : Nat) (s : Shared) (Q : Value → Shared → Prop) (E : Value → Shared → Prop), tn i s.heap → Q (.ref it) s → wpAny (model P w) A (pyIter (.ref it)) Q E s
abbrev TI := St → Hp → (It → Hp → Prop) → Prop
def PIE (X : Cx) (pins : List (Addr × Obj)) (σ : St) (tg : Expr) (R : It → Hp → Prop) (itv : Value) (s2 : Shared) : Prop :=
  ∃ (it : Addr) (fp : List Addr) (tn : Nat → Heap → Prop) (J : It) (H' : Hp), itv = .ref it ∧ Inv X pins σ H' s2 ∧ Turn X.prog X.w X.K tg J fp it tn ∧ tn 0 s2.heap ∧ (∀ b ∈ fp, FpOk X pins H' b) ∧ R J H'
def PI (X : Cx) (tg iter : Expr) (wi : TI) : Prop :=
  ∀ (pins : List (Addr × Obj)) (s : Shared) (σ : St) (H : Hp) (R : It → Hp → Prop), Inv X pins σ H s → wi σ H R →
    wpAny (model X.prog X.w) X.A (eval iter X.env) (fun v s1 => wpAny (model X.prog X.w) X.A (pyIter v) (PIE X pins σ tg R) X.xe s1) X.xe s
theorem go_of {M : Model} {A : Around} {E : Value → Shared → Prop} {s : Shared} {tg : Expr} {it : Addr} {u : Value} {o : Obj} {n : String} {vs : Array Value} {Q : Unit → Shared → Prop} (ho : s.heap.get? it = some o) (hc : o.cls = .type n) (hd : o.data = .fields vs)
    (hn : ["enumerate", "zip", "dict_itemiterator", "dict_reverseitemiterator", "odict_iterator", "itertools.zip_longest", "itertools.pairwise"].contains n = false) (hQ : Q () s) : wpAny M A (letOwnedTupleGo tg (.ref it) u) Q E s := by
  unfold letOwnedTupleGo
  cases tg <;> first
    | exact wpAny_pure hQ
    | (cases u <;> first
        | exact wpAny_pure hQ
        | (refine wpAny_bind (wpAny_load ho ?_)
           rw [hc, hd]
           show wpAny M A (if (["enumerate", "zip", "dict_itemiterator", "dict_reverseitemiterator", "odict_iterator", "itertools.zip_longest", "itertools.pairwise"].contains n && vs[0]? == some (rawInt _)) = true then _ else _) Q E s
           rw [if_neg (by intro h; rw [hn, Bool.false_and] at h; cases h)]
           exact wpAny_pure hQ))
def Itl (K : PySem.W.Frag) (a : Addr) : It :=
  ⟨fun i H => ∃ xs x, SqL K H a xs ∧ xs[i]? = some x, fun i H x H' => H' = H ∧ ∀ xs, SqL K H a xs → xs[i]? = some x, fun i H => ∃ xs, SqL K H a xs ∧ xs.length ≤ i⟩
def Itr (lo : Int) (n : Nat) : It := ⟨fun i _ => i < n, fun i H x H' => H' = H ∧ x = .int (lo + i), fun i _ => n ≤ i⟩
theorem turn_list {P : Program} {w : World} {K : PySem.W.Frag} {tg : Expr} (a it : Addr) : Turn P w K tg (Itl K a) [it] it (fun i h => h.IsListIter it a i) where
  mem := by simp
  obj := fun i h st b hb => by
    have e : b = it := by simpa using hb
    subst e
    obtain ⟨o, e, c, d⟩ := st
    exact ⟨o, e, fun v z => by rw [d] at z; cases z⟩
  keep := fun i h h' st k => st.at fun o e => k it (by simp) o e
  item := by
    intro X hP hw hK hc i pins s σ H E I hf st hg
    subst hP hw hK
    obtain ⟨xs, x, hq, hx⟩ := hg
    obtain ⟨its, rv, p, hz⟩ := I.list hq
    obtain ⟨u, hu, ru⟩ := rv.get hx
    obtain ⟨f0, f1, f2, f3, f4, f5⟩ := hf it (by simp)
    refine wpAny_pyNext_list_item st p.isList (x := u) (by simpa using hu) fun h' st' sb => ?_
    have I1 : Inv X pins σ H { s with heap := h' } := I.turned (t' := s.toks) (fun b o hb e => (sb.2 b hb).trans e) f0 f1 f3 f4 f5
    obtain ⟨o, e, c, d⟩ := id st'
    exact ⟨u, rfl, go_of (s := { s with heap := h' }) e c d (by decide) ⟨x, H, I1, ru, ⟨rfl, fun ys hy => by rw [I.list_inj hy hq]; exact hx⟩, st', fun b hb => (hf b hb).1⟩⟩
  done := by
    intro X hP hw hK hc i pins s σ H E I hf st hg
    subst hP hw hK
    obtain ⟨xs, hq, hx⟩ := hg
    obtain ⟨its, rv, p, hz⟩ := I.list hq
    obtain ⟨f0, f1, f2, f3, f4, f5⟩ := hf it (by simp)
    have hl := rv.length
    exact wpAny_pyNext_list_end (I.ok.hd hc) st p.isList (by simp; omega) fun h' eb => ⟨rfl, I.turned (t' := s.toks) (fun b o hb e => eb b o hb e) f0 f1 f3 f4 f5⟩
  self := fun _ _ _ _ _ st h => wpAny_pyIter_listiter st h
theorem turn_range {P : Program} {w : World} {K : PySem.W.Frag} {tg : Expr} (it : Addr) (lo : Int) (n : Nat) : Turn P w K tg (Itr lo n) [it] it (fun i h => IsRangeIter h it (lo + (i : Nat) * 1) ((n : Int) - (i : Nat)) 1) where
  mem := by simp
  obj := fun i h st b hb => by
    have e : b = it := by simpa using hb
    subst e
    exact ⟨_, st, fun v z => by
      have z' : Data.fields _ = Data.cell v := z
      cases z'⟩
  keep := fun i h h' st k => k it (by simp) _ st
  item := by
    intro X hP hw hK hc i pins s σ H E I hf st hg
    subst hP hw hK
    obtain ⟨f0, f1, f2, f3, f4, f5⟩ := hf it (by simp)
    have W := Walks.range (prog := X.prog) (w := X.w) (I.ok.hd hc) it lo 1 n
    refine W.item i s _ _ hg st fun v h' tk hv st' kk => ?_
    obtain ⟨t, rfl⟩ := hv
    have I1 : Inv X pins σ H { s with heap := h', toks := tk } := I.turned (fun b o hb e => kk b o (by simpa using hb) e) f0 f1 f3 f4 f5
    refine ⟨_, rfl, go_of (s := { s with heap := h', toks := tk }) (n := "range_iterator") st' rfl rfl (by decide) ⟨.int (lo + i), H, I1, ⟨t, ?_⟩, ⟨rfl, rfl⟩, st', fun b hb => (hf b hb).1⟩⟩
    rw [Int.mul_one]
  done := by
    intro X hP hw hK hc i pins s σ H E I hf st hg
    subst hP hw hK
    obtain ⟨f0, f1, f2, f3, f4, f5⟩ := hf it (by simp)
    exact wpAny_pyNext_range_end (I.ok.hd hc) st (by have : n ≤ i := hg; omega) fun h' eb => ⟨rfl, I.turned (t' := s.toks) (fun b o hb e => eb b o hb e) f0 f1 f3 f4 f5⟩
  self := fun _ _ _ _ _ st h => wpAny_pyIter_rangeiter st h
end L2
namespace L2
open PySem PySem.Spec PyProof.Rows
section
variable {X : Cx} {tg : Expr}
def iList (K : PySem.W.Frag) (tl : TE) : TI := fun σ H R => tl σ H fun x H1 => ∃ a, x = .ref a ∧ (∃ xs, SqL K H1 a xs) ∧ R (Itl K a) H1
theorem pi_list {l : Expr} {tl : TE} (hl : PE X l tl) : PI X tg l (iList X.K tl) := by
  intro pins s σ H R I h
  refine thn (hl pins s σ H _ I h) fun v s1 ⟨x, H1, I1, r1, q1⟩ => ?_
  obtain ⟨a, e, ⟨xs, hq⟩, q⟩ := q1
  subst e
  cases r1
  obtain ⟨its, rv, p, hz⟩ := I1.list hq
  refine wpAny_pyIter_list p.isList ?_
  refine ⟨s1.heap.objs.size, [s1.heap.objs.size], _, _, H1, rfl, I1.kept (t' := s1.toks) fun b o e => Heap.get?_push_of_some _ e, turn_list a _, ⟨_, Heap.get?_push_size _ rfl, rfl, rfl⟩, fun b hb => ?_, q⟩
  have e : b = s1.heap.objs.size := by simpa using hb
  subst e
  exact I1.fpOk (Nat.le_refl _) (I1.hok.fresh (Nat.le_refl _))
theorem range_it {pins : List (Addr × Obj)} {σ : St} {H : Hp} {s : Shared} {R : It → Hp → Prop} {E : Value → Shared → Prop} {lo hi : Int} {t u v : Tok} {tk : Nat} (I : Inv X pins σ H s) (h1 : -(2 ^ 62) ≤ lo) (h2 : lo < 2 ^ 62) (h3 : -(2 ^ 62) ≤ hi) (h4 : hi < 2 ^ 62)
    (q : R (Itr lo (hi - lo).toNat) H) : wpAny (model X.prog X.w) X.A (pyIter (.ref s.heap.objs.size)) (PIE X pins σ tg R) E { s with heap := s.heap.push { cls := .type "range", data := .fields #[.int lo t, .int hi u, .int 1 v] }, toks := tk } := by
  refine wpAny_pyIter_range (IsRange.new ..) (small_one h1 h2 h3 h4) ?_
  have I1 : Inv X pins σ H { s with heap := s.heap.push { cls := .type "range", data := .fields #[.int lo t, .int hi u, .int 1 v] }, toks := tk } := I.kept fun b o e => Heap.get?_push_of_some _ e
  refine ⟨(s.heap.push { cls := .type "range", data := .fields #[.int lo t, .int hi u, .int 1 v] }).objs.size, [(s.heap.push { cls := .type "range", data := .fields #[.int lo t, .int hi u, .int 1 v] }).objs.size], _, _, H, rfl,
    I1.kept (t' := tk) fun b o e => Heap.get?_push_of_some _ e, turn_range _ lo (hi - lo).toNat, ?_, fun b hb => ?_, q⟩
  · have e1 : lo + ((0 : Nat) : Int) * 1 = lo := by simp
    have e2 : (((hi - lo).toNat : Nat) : Int) - ((0 : Nat) : Int) = Builtin.Range.rangeSize lo hi 1 := by rw [rangeSize_one]; split <;> omega
    show IsRangeIter _ _ (lo + ((0 : Nat) : Int) * 1) ((((hi - lo).toNat : Nat) : Int) - ((0 : Nat) : Int)) 1
    rw [e1, e2]
    exact Heap.get?_push_size _ rfl
  · have e : b = (s.heap.push { cls := .type "range", data := .fields #[.int lo t, .int hi u, .int 1 v] }).objs.size := by simpa using hb
    subst e
    exact I1.fpOk (Nat.le_refl _) (I1.hok.fresh (Nat.le_refl _))
def iRng1 (ta : TA) : TI := fun σ H R => ta σ H fun vs H1 => ∃ j : Int, vs = [.int j] ∧ -(2 ^ 62) ≤ j ∧ j < 2 ^ 62 ∧ R (Itr 0 j.toNat) H1
def iRng2 (ta : TA) : TI := fun σ H R => ta σ H fun vs H1 => ∃ i j : Int, vs = [.int i, .int j] ∧ (-(2 ^ 62) ≤ i ∧ i < 2 ^ 62 ∧ -(2 ^ 62) ≤ j ∧ j < 2 ^ 62) ∧ R (Itr i (j - i).toNat) H1
theorem pi_range1 {a : Expr} {ta : TA} {p pos : Pos} (hg : Gl X "range") (hm : X.mg "range" = none) (ha : PA X [a] ta) (hs : starEach [a] X.env = [(false, eval a X.env)] := by rfl) : PI X tg (.Call (.Name "range" p) [a] [] pos) (iRng1 ta) := by
  intro pins s σ H R I h
  refine Call_ (ld_blt I hg hm boot_range (PyProof.Rows.callWith_type1 (thn (ha pos pins s σ H _ I h) fun us s1 ⟨vs, H1, I1, r1, q1⟩ => ?_) hs rfl))
  obtain ⟨j, e, q1, q2, q⟩ := q1
  subst e
  cases r1 with
  | cons r rr =>
    cases rr
    obtain ⟨t, rfl⟩ := r
    exact call_range_1 (range_it I1 (by omega) (by omega) q1 q2 (by simpa using q))
theorem pi_range2 {a b : Expr} {ta : TA} {p pos : Pos} (hg : Gl X "range") (hm : X.mg "range" = none) (ha : PA X [a, b] ta) (hs : starEach [a, b] X.env = [(false, eval a X.env), (false, eval b X.env)] := by rfl) (hs2 : starEach [b] X.env = [(false, eval b X.env)] := by rfl) :
    PI X tg (.Call (.Name "range" p) [a, b] [] pos) (iRng2 ta) := by
  intro pins s σ H R I h
  refine Call_ (ld_blt I hg hm boot_range (PyProof.Rows.callWith_type1 (thn (ha pos pins s σ H _ I h) fun us s1 ⟨vs, H1, I1, r1, q1⟩ => ?_) (by rw [hs, hs2]) (by rw [hs2]; rfl)))
  obtain ⟨i, j, e, ⟨q1, q2, q3, q4⟩, q⟩ := q1
  subst e
  cases r1 with
  | cons r rr =>
    cases rr with
    | cons r' rr =>
      cases rr
      obtain ⟨t, rfl⟩ := r
      obtain ⟨t', rfl⟩ := r'
      exact call_range_2 (range_it I1 q1 q2 q3 q4 q)
def tFor (wi : TI) (g : TG) (tb : TS) : TS := fun D σ H => wi σ H fun J H1 => ∃ W : Nat → Nat → St → Hp → Prop, (∃ m, W 0 m σ H1) ∧ ∀ i m σ H, W i m σ H →
  (J.stop i H ∧ D.nx σ H) ∨ (J.go i H ∧ ∃ N : St → Hp → Prop, (∀ σ' H', N σ' H' → ∃ m', m' < m ∧ W (i + 1) m' σ' H') ∧ ∀ x H', J.yld i H x H' → g x σ H' fun σ2 H2 => tb { D with nx := N, ct := N, bk := D.nx } σ2 H2)
def pinsAt (fp : List Addr) (h : Heap) : List (Addr × Obj) := fp.filterMap fun b => (h.get? b).map fun o => (b, o)
theorem mem_pinsAt {fp : List Addr} {h : Heap} {b : Addr} {o : Obj} (hb : b ∈ fp) (e : h.get? b = some o) : (b, o) ∈ pinsAt fp h := List.mem_filterMap.mpr ⟨b, hb, by rw [e]; rfl⟩
theorem of_pinsAt {fp : List Addr} {h : Heap} {p : Addr × Obj} (hp : p ∈ pinsAt fp h) : p.1 ∈ fp ∧ h.get? p.1 = some p.2 := by
  obtain ⟨b, hb, e⟩ := List.mem_filterMap.mp hp
  cases q : h.get? b with
  | none => rw [q] at e; cases e
  | some o =>
    rw [q] at e
    have e' : (b, o) = p := Option.some.inj e
    subst e'
    exact ⟨hb, q⟩
theorem Inv.pinned {pins : List (Addr × Obj)} {σ : St} {H : Hp} {s : Shared} {fp : List Addr} (I : Inv X pins σ H s) (hf : ∀ b ∈ fp, FpOk X pins H b) (ho : ∀ b ∈ fp, ∃ o, s.heap.get? b = some o ∧ ∀ v, o.data ≠ .cell v) : Inv X (pins ++ pinsAt fp s.heap) σ H s :=
  I.pins_of fun p hp => (List.mem_append.mp hp).elim (fun z => I.pin p (List.mem_append_right _ z)) fun z => by
    obtain ⟨hb, e⟩ := of_pinsAt z
    obtain ⟨f0, f1, f2, _⟩ := hf p.1 hb
    obtain ⟨o, e', d⟩ := ho p.1 hb
    rw [e] at e'; cases e'
    exact ⟨e, f0, f1, f2, d⟩
theorem Inv.unpinned {pins pl : List (Addr × Obj)} {σ : St} {H : Hp} {s : Shared} (I : Inv X (pins ++ pl) σ H s) : Inv X pins σ H s := I.pins_of fun p hp => I.pin p (List.mem_append_right _ (List.mem_append_left _ hp))
theorem ps_for {iter : Expr} {body : List Stmt} {wi : TI} {g : TG} {tb : TS} {pos : Pos} (hp : PassesOwn (model X.prog X.w) X.A X.env X.xe) (hc : X.calm = true) (hi : PI X tg iter wi) (hg : PG X tg g) (hb : PSs X body tb)
    (hs : ∀ x, foldedSetIterable iter X.env x = pure x := by intro _; rfl) : PS X (.For tg iter body [] pos) (tFor wi g tb) := by
  intro pins s σ H D I h
  refine wpAny_For (thn (hi pins s σ H _ I h) fun v s1 h1 => thn h1 fun itv s2 h2 => ?_) hs
  obtain ⟨it, fp, tn, J, H2, e, I2, T, st2, f2, W, ⟨m0, w0⟩, turn⟩ := h2
  subst e
  have stat : ∀ {H' : Hp}, (∀ b ∈ fp, H' b = none) → ∀ b ∈ fp, FpOk X pins H' b := fun hn b hb => ⟨hn b hb, (f2 b hb).2⟩
  refine codeAny_forLoop_any (fun n s' => ∃ i σ' H', Inv X pins σ' H' s' ∧ tn i s'.heap ∧ (∀ b ∈ fp, H' b = none) ∧ W i n σ' H') ?_ m0 ⟨0, σ, H2, I2, st2, fun b hb => (f2 b hb).1, w0⟩
  rintro n s3 ⟨i, σ3, H3, I3, st3, fr3, w3⟩
  rcases turn i n σ3 H3 w3 with ⟨stop, qn⟩ | ⟨go, N, hN, step⟩
  · refine wpAny_passesOwn hp (thn (T.done X rfl rfl rfl hc i pins s3 σ3 H3 X.xe I3 (stat fr3) st3 stop) fun r s4 ⟨hr, I4⟩ => ?_)
    subst hr
    exact wpAny_execs_nil ⟨σ3, H3, I4, qn⟩
  · refine wpAny_passesOwn hp (thn (T.item X rfl rfl rfl hc i pins s3 σ3 H3 X.xe I3 (stat fr3) st3 go) fun r s4 ⟨u, hr, h4⟩ => ?_)
    subst hr
    refine wpAny_passesOwn hp (thn h4 fun _ s5 ⟨x, H5, I5, r5, y5, st5, fr5⟩ => ?_)
    have I5' := I5.pinned (stat fr5) (T.obj _ _ st5)
    refine wpAny_passesOwn hp (thn (hg _ s5 σ3 H5 x u _ I5' r5 (step x H5 y5)) fun _ s6 ⟨σ6, H6, I6, q6⟩ => ?_)
    refine wpAny_passesOwn hp (thn (hb _ s6 σ6 H6 _ I6 q6) fun f s7 q7 => ?_)
    have again : ∀ {σ7 : St} {H7 : Hp}, Inv X (pins ++ pinsAt fp s5.heap) σ7 H7 s7 → N σ7 H7 → ∃ m, m < n ∧ ∃ i σ' H', Inv X pins σ' H' s7 ∧ tn i s7.heap ∧ (∀ b ∈ fp, H' b = none) ∧ W i m σ' H' := fun {σ7 H7} I7 n7 => by
      obtain ⟨m', hm, w7⟩ := hN σ7 H7 n7
      refine ⟨m', hm, i + 1, σ7, H7, I7.unpinned, T.keep _ _ _ st5 fun b hb o e => (I7.pin (b, o) (List.mem_append_right _ (List.mem_append_right _ (mem_pinsAt hb e)))).1, fun b hb => ?_, w7⟩
      obtain ⟨o, e, d⟩ := T.obj _ _ st5 b hb
      exact (I7.pin (b, o) (List.mem_append_right _ (List.mem_append_right _ (mem_pinsAt hb e)))).2.1
    cases f with
    | next => obtain ⟨σ7, H7, I7, n7⟩ := q7; exact again I7 n7
    | cont => obtain ⟨σ7, H7, I7, n7⟩ := q7; exact again I7 n7
    | brk => obtain ⟨σ7, H7, I7, q7⟩ := q7; exact ⟨σ7, H7, I7.unpinned, q7⟩
    | ret v => obtain ⟨x7, σ7, H7, I7, r7, q7⟩ := q7; exact ⟨x7, σ7, H7, I7.unpinned, r7, q7⟩
end
theorem for_list {K : PySem.W.Frag} {a : Addr} {xs : List V} {g : TG} {tb : TS} {D : Ends} {σ : St} {H : Hp} (Pv : Nat → St → Hp → Prop) (h0 : Pv 0 σ H) (hl : ∀ i σ H, i ≤ xs.length → Pv i σ H → SqL K H a xs)
    (hs : ∀ i x σ H, xs[i]? = some x → Pv i σ H → g x σ H fun σ2 H2 => tb { D with nx := Pv (i + 1), ct := Pv (i + 1), bk := D.nx } σ2 H2) (hd : ∀ σ H, Pv xs.length σ H → D.nx σ H) :
    ∃ W : Nat → Nat → St → Hp → Prop, (∃ m, W 0 m σ H) ∧ ∀ i m σ H, W i m σ H →
      ((Itl K a).stop i H ∧ D.nx σ H) ∨ ((Itl K a).go i H ∧ ∃ N : St → Hp → Prop, (∀ σ' H', N σ' H' → ∃ m', m' < m ∧ W (i + 1) m' σ' H') ∧ ∀ x H', (Itl K a).yld i H x H' → g x σ H' fun σ2 H2 => tb { D with nx := N, ct := N, bk := D.nx } σ2 H2) := by
  refine ⟨fun i m σ H => m = xs.length - i ∧ i ≤ xs.length ∧ Pv i σ H, ⟨xs.length, by simp, Nat.zero_le _, h0⟩, ?_⟩
  rintro i m σ H ⟨rfl, hi, p⟩
  have q := hl i σ H hi p
  by_cases hlt : i < xs.length
  · refine .inr ⟨⟨xs, xs[i], q, by simp [hlt]⟩, Pv (i + 1), fun σ' H' p' => ⟨xs.length - (i + 1), by omega, rfl, hlt, p'⟩, fun x H' y => ?_⟩
    obtain ⟨e, y⟩ := y
    subst e
    exact hs i x σ _ (y xs q) p
  · have e : i = xs.length := by omega
    subst e
    exact .inl ⟨⟨xs, q, Nat.le_refl _⟩, hd σ H p⟩
theorem for_range {lo : Int} {n : Nat} {g : TG} {tb : TS} {D : Ends} {σ : St} {H : Hp} (Pv : Nat → St → Hp → Prop) (h0 : Pv 0 σ H)
    (hs : ∀ i σ H, i < n → Pv i σ H → g (.int (lo + i)) σ H fun σ2 H2 => tb { D with nx := Pv (i + 1), ct := Pv (i + 1), bk := D.nx } σ2 H2) (hd : ∀ σ H, Pv n σ H → D.nx σ H) :
    ∃ W : Nat → Nat → St → Hp → Prop, (∃ m, W 0 m σ H) ∧ ∀ i m σ H, W i m σ H →
      ((Itr lo n).stop i H ∧ D.nx σ H) ∨ ((Itr lo n).go i H ∧ ∃ N : St → Hp → Prop, (∀ σ' H', N σ' H' → ∃ m', m' < m ∧ W (i + 1) m' σ' H') ∧ ∀ x H', (Itr lo n).yld i H x H' → g x σ H' fun σ2 H2 => tb { D with nx := N, ct := N, bk := D.nx } σ2 H2) := by
  refine ⟨fun i m σ H => m = n - i ∧ i ≤ n ∧ Pv i σ H, ⟨n, by simp, Nat.zero_le _, h0⟩, ?_⟩
  rintro i m σ H ⟨rfl, hi, p⟩
  by_cases hlt : i < n
  · refine .inr ⟨hlt, Pv (i + 1), fun σ' H' p' => ⟨n - (i + 1), by omega, rfl, hlt, p'⟩, fun x H' y => ?_⟩
    obtain ⟨e, y⟩ := y
    subst e y
    exact hs i σ _ hlt p
  · have e : i = n := by omega
    subst e
    exact .inl ⟨Nat.le_refl _, hd σ H p⟩
end L2
namespace L2
open PySem PySem.Spec PyProof.Rows
abbrev R2 := V → V → Hp → VK → Prop
def OpR (X : Cx) (f : Value → Value → Sem Value) (r : R2) : Prop :=
  ∀ (pins : List (Addr × Obj)) (s : Shared) (σ : St) (H : Hp) (x y : V) (v u : Value) (Q : VK), Inv X pins σ H s → RelV x v → RelV y u → r x y H Q →
    wpAny (model X.prog X.w) X.A (f v u) (EP X pins σ Q) X.xe s
def UnR (X : Cx) (f : Value → Sem Value) (r : V → Hp → VK → Prop) : Prop :=
  ∀ (pins : List (Addr × Obj)) (s : Shared) (σ : St) (H : Hp) (x : V) (v : Value) (Q : VK), Inv X pins σ H s → RelV x v → r x H Q →
    wpAny (model X.prog X.w) X.A (f v) (EP X pins σ Q) X.xe s
def CallR (X : Cx) (f : Value) (r : List V → Hp → VK → Prop) : Prop :=
  ∀ (pins : List (Addr × Obj)) (s : Shared) (σ : St) (H : Hp) (xs : List V) (us : List Value) (Q : VK), Inv X pins σ H s → Vals xs us → r xs H Q →
    wpAny (model X.prog X.w) X.A (call f us) (EP X pins σ Q) X.xe s
def tOp (r : R2) (ta tb : TE) : TE := fun σ H Q => ta σ H fun x H1 => tb σ H1 fun y H2 => r x y H2 Q
def tUn (r : V → Hp → VK → Prop) (ta : TE) : TE := fun σ H Q => ta σ H fun x H1 => r x H1 Q
def rI (C : Int → Int → Prop) (g : Int → Int → V) : R2 := fun x y H Q => ∃ i j, x = .int i ∧ y = .int j ∧ C i j ∧ Q (g i j) H
def rI0 (g : Int → Int → V) : R2 := fun x y H Q => ∃ i j, x = .int i ∧ y = .int j ∧ Q (g i j) H
def rU (g : Int → V) : V → Hp → VK → Prop := fun x H Q => ∃ i, x = .int i ∧ Q (g i) H
section
variable {X : Cx} {a b c : Expr} {ta tb tc : TE} {pos : Pos}
theorem binT (ha : PE X a ta) (hb : PE X b tb) {pins : List (Addr × Obj)} {s : Shared} {σ : St} {H : Hp} {R : V → V → Hp → Prop} (I : Inv X pins σ H s)
    (h : ta σ H fun x H1 => tb σ H1 fun y H2 => R x y H2) {Q : Value → Shared → Prop} {f : Value → Value → Sem Value}
    (hf : ∀ v u s2 x y H2, Inv X pins σ H2 s2 → RelV x v → RelV y u → R x y H2 → wpAny (model X.prog X.w) X.A (f v u) Q X.xe s2) :
    wpAny (model X.prog X.w) X.A (eval a X.env) (fun v s₁ => wpAny (model X.prog X.w) X.A (eval b X.env) (fun u s₂ => wpAny (model X.prog X.w) X.A (f v u) Q X.xe s₂) X.xe s₁) X.xe s := by
  refine thn (ha pins s σ H _ I h) fun v s1 ⟨x, H1, I1, r1, q1⟩ => ?_
  refine thn (hb pins s1 σ H1 _ I1 q1) fun u s2 ⟨y, H2, I2, r2, q2⟩ => ?_
  exact hf v u s2 x y H2 I2 r1 r2 q2
theorem pe_op {op : Operator} {r : R2} (ho : OpR X (binaryOp op) r) (ha : PE X a ta) (hb : PE X b tb) : PE X (.BinOp a op b pos) (tOp r ta tb) := by
  intro pins s σ H Q I h
  exact wpAny_BinOp (binT ha hb I h fun v u s2 x y H2 I2 rx ry q => ho pins s2 σ H2 x y v u Q I2 rx ry q)
theorem pe_un {op : UnaryOp} {r : V → Hp → VK → Prop} (ho : UnR X (unaryOp op) r) (ha : PE X a ta) : PE X (.UnaryOp op a pos) (tUn r ta) := by
  intro pins s σ H Q I h
  exact UnaryOp_ (thn (ha pins s σ H _ I h) fun v s1 ⟨x, H1, I1, r1, q1⟩ => ho pins s1 σ H1 x v Q I1 r1 q1)
theorem opI {f : Value → Value → Sem Value} {C : Int → Int → Prop} {g : Int → Int → Int}
    (rule : ∀ (i j : Int) (t u : Tok) (s : Shared) (Q : Value → Shared → Prop) (E : Value → Shared → Prop), C i j → Q (.int (g i j) s.toks) { s with toks := s.toks + 1 } → wpAny (model X.prog X.w) X.A (f (.int i t) (.int j u)) Q E s) :
    OpR X f (rI C fun i j => .int (g i j)) := by
  intro pins s σ H x y v u Q I rx ry h
  obtain ⟨i, j, rfl, rfl, hc, q⟩ := h
  obtain ⟨t, rfl⟩ := rx
  obtain ⟨t', rfl⟩ := ry
  exact rule i j t t' s _ _ hc ⟨.int (g i j), H, I.tok _, ⟨_, rfl⟩, q⟩
theorem opI0 {f : Value → Value → Sem Value} {g : Int → Int → Int}
    (rule : ∀ (i j : Int) (t u : Tok) (s : Shared) (Q : Value → Shared → Prop) (E : Value → Shared → Prop), Q (.int (g i j) s.toks) { s with toks := s.toks + 1 } → wpAny (model X.prog X.w) X.A (f (.int i t) (.int j u)) Q E s) :
    OpR X f (rI0 fun i j => .int (g i j)) := by
  intro pins s σ H x y v u Q I rx ry h
  obtain ⟨i, j, rfl, rfl, q⟩ := h
  obtain ⟨t, rfl⟩ := rx
  obtain ⟨t', rfl⟩ := ry
  exact rule i j t t' s _ _ ⟨.int (g i j), H, I.tok _, ⟨_, rfl⟩, q⟩
theorem opB0 {f : Value → Value → Sem Value} {g : Int → Int → Bool}
    (rule : ∀ (i j : Int) (t u : Tok) (s : Shared) (Q : Value → Shared → Prop) (E : Value → Shared → Prop), Q (.bool (g i j)) s → wpAny (model X.prog X.w) X.A (f (.int i t) (.int j u)) Q E s) :
    OpR X f (rI0 fun i j => .bl (g i j)) := by
  intro pins s σ H x y v u Q I rx ry h
  obtain ⟨i, j, rfl, rfl, q⟩ := h
  obtain ⟨t, rfl⟩ := rx
  obtain ⟨t', rfl⟩ := ry
  exact rule i j t t' s _ _ ⟨.bl (g i j), H, I, rfl, q⟩
def CDiv (i j : Int) : Prop := 0 < j ∧ j < 1073741824
def CPow (i j : Int) : Prop := 0 ≤ j ∧ j ≤ 1000000 ∧ i.natAbs < 2 ^ 64
def CMul (i j : Int) : Prop := (-(2 ^ 64) < i ∧ i < 2 ^ 64) ∨ (-(2 ^ 64) < j ∧ j < 2 ^ 64)
theorem CMul.ok {i j : Int} (h : CMul i j) : IntMulOk i j := by
  rcases h with ⟨h1, h2⟩ | ⟨h1, h2⟩
  · exact .of_left (intBits_le_64 h1 h2)
  · exact .of_right (intBits_le_64 h1 h2)
theorem op_add : OpR X (binaryOp .Add) (rI0 fun i j => .int (i + j)) := opI0 fun _ _ _ _ _ _ _ q => add_int q
theorem op_sub : OpR X (binaryOp .Sub) (rI0 fun i j => .int (i - j)) := opI0 fun _ _ _ _ _ _ _ q => sub_int q
theorem op_mul : OpR X (binaryOp .Mult) (rI CMul fun i j => .int (i * j)) := opI fun _ _ _ _ _ _ _ hc q => mul_int q hc.ok
theorem op_fdiv : OpR X (binaryOp .FloorDiv) (rI CDiv fun i j => .int (i / j)) := opI fun i j _ _ _ _ _ hc q => by
  have h1 : (0 : Int) < j := hc.1
  have h2 : j < 1073741824 := hc.2
  exact floordiv_int (by omega) (by rw [Int.fdiv_eq_ediv_of_nonneg i (by omega)]; exact q) (.inl (PyProof.noPylong_small (by omega)))
theorem op_mod : OpR X (binaryOp .Mod) (rI (fun _ j => 0 < j) fun i j => .int (i % j)) := opI fun i j _ _ _ _ _ hc q => by
  have h1 : (0 : Int) < j := hc
  exact mod_int' (by omega) (by rw [Int.fmod_eq_emod_of_nonneg i (by omega)]; exact q)
theorem op_pow : OpR X (binaryOp .Pow) (rI CPow fun i j => .int (i ^ j.toNat)) := opI fun _ _ _ _ _ _ _ hc q => pow_int_small hc.1 hc.2.1 hc.2.2 q
theorem unI {f : Value → Sem Value} {g : Int → Int}
    (rule : ∀ (i : Int) (t : Tok) (s : Shared) (Q : Value → Shared → Prop) (E : Value → Shared → Prop), Q (.int (g i) s.toks) { s with toks := s.toks + 1 } → wpAny (model X.prog X.w) X.A (f (.int i t)) Q E s) :
    UnR X f (rU fun i => .int (g i)) := by
  intro pins s σ H x v Q I rx h
  obtain ⟨i, rfl, q⟩ := h
  obtain ⟨t, rfl⟩ := rx
  exact rule i t s _ _ ⟨.int (g i), H, I.tok _, ⟨_, rfl⟩, q⟩
theorem un_neg : UnR X (unaryOp .USub) (rU fun i => .int (-i)) := unI fun _ _ _ _ _ q => neg_int q
end
def scal : V → V → Bool
  | .non, .non => true | .non, .int _ => true | .int _, .non => true | .non, .bl _ => true | .bl _, .non => true | .non, .str _ => true | .str _, .non => true
  | .int _, .int _ => true | .bl _, .bl _ => true | .str _, .str _ => true | .byt _, .byt _ => true
  | .int _, .str _ => true | .str _, .int _ => true | .bl _, .str _ => true | .str _, .bl _ => true
  | _, _ => false
def rEq : R2 := fun x y H Q => scal x y = true ∧ Q (.bl (decide (x = y))) H
def rNe : R2 := fun x y H Q => scal x y = true ∧ Q (.bl (!decide (x = y))) H
theorem dec_int {i j : Int} : decide (V.int i = V.int j) = (i == j) := by
  rw [Bool.eq_iff_iff]
  simp
theorem dec_bl {i j : Bool} : decide (V.bl i = V.bl j) = (i == j) := by
  rw [Bool.eq_iff_iff]
  simp
theorem dec_str {i j : Str} : decide (V.str i = V.str j) = (i == j) := by
  rw [Bool.eq_iff_iff]
  simp
theorem dec_byt {i j : Array UInt8} : decide (V.byt i = V.byt j) = (i.toList == j.toList) := by
  rw [Bool.eq_iff_iff]
  cases i
  cases j
  simp
section
variable {X : Cx} {a b c : Expr} {ta tb tc : TE} {pos : Pos}
theorem fin_bl {pins : List (Addr × Obj)} {σ : St} {H : Hp} {s : Shared} {Q : VK} {k k' : Bool} (I : Inv X pins σ H s) (q : Q (.bl k) H) (e : k = k') : EP X pins σ Q (.bool k') s := by
  subst e
  exact ⟨.bl k, H, I, rfl, q⟩
theorem op_eq : OpR X (compareOp .Eq) rEq := by
  intro pins s σ H x y v u Q I rx ry h
  obtain ⟨hs, q⟩ := h
  cases x with
  | non =>
    cases rx
    cases y with
    | non => cases ry; exact PySem.EqNone.eq_none_none (fin_bl I q (by simp))
    | bl j => cases ry; exact PySem.EqNone.eq_none_bool (fin_bl I q (by simp))
    | int j => obtain ⟨t', rfl⟩ := ry; exact PySem.EqNone.eq_none_int (fin_bl I q (by simp))
    | str j => obtain ⟨t', rfl⟩ := ry; exact PySem.EqNone.eq_none_str (fin_bl I q (by simp))
    | _ => exact absurd (show false = true from hs) Bool.false_ne_true
  | bl i =>
    cases rx
    cases y with
    | non => cases ry; exact PySem.EqNone.eq_bool_none (fin_bl I q (by simp))
    | bl j => cases ry; exact eq_bool (fin_bl I q dec_bl)
    | str j => obtain ⟨t', rfl⟩ := ry; exact PySem.EqMixed.eq_bool_str (fin_bl I q (by simp))
    | _ => exact absurd (show false = true from hs) Bool.false_ne_true
  | int i =>
    obtain ⟨t, rfl⟩ := rx
    cases y with
    | non => cases ry; exact PySem.EqNone.eq_int_none (fin_bl I q (by simp))
    | int j => obtain ⟨t', rfl⟩ := ry; exact eq_int (fin_bl I q dec_int)
    | str j => obtain ⟨t', rfl⟩ := ry; exact PySem.EqMixed.eq_int_str (fin_bl I q (by simp))
    | _ => exact absurd (show false = true from hs) Bool.false_ne_true
  | str i =>
    obtain ⟨t, rfl⟩ := rx
    cases y with
    | non => cases ry; exact PySem.EqNone.eq_str_none (fin_bl I q (by simp))
    | bl j => cases ry; exact PySem.EqMixed.eq_str_bool (fin_bl I q (by simp))
    | int j => obtain ⟨t', rfl⟩ := ry; exact PySem.EqMixed.eq_str_int (fin_bl I q (by simp))
    | str j => obtain ⟨t', rfl⟩ := ry; exact eq_str (fin_bl I q dec_str)
    | _ => exact absurd (show false = true from hs) Bool.false_ne_true
  | byt i =>
    obtain ⟨t, rfl⟩ := rx
    cases y with
    | byt j => obtain ⟨t', rfl⟩ := ry; exact PySem.W.eq_bytes (fin_bl I q dec_byt)
    | _ => exact absurd (show false = true from hs) Bool.false_ne_true
  | _ => cases y <;> exact absurd (show false = true from hs) Bool.false_ne_true
theorem op_ne : OpR X (compareOp .NotEq) rNe := by
  intro pins s σ H x y v u Q I rx ry h
  obtain ⟨hs, q⟩ := h
  cases x with
  | non =>
    cases rx
    cases y with
    | non => cases ry; exact PySem.EqNone.ne_none_none (fin_bl I q (by simp))
    | bl j => cases ry; exact PySem.EqNone.ne_none_bool (fin_bl I q (by simp))
    | int j => obtain ⟨t', rfl⟩ := ry; exact PySem.EqNone.ne_none_int (fin_bl I q (by simp))
    | str j => obtain ⟨t', rfl⟩ := ry; exact PySem.EqNone.ne_none_str (fin_bl I q (by simp))
    | _ => exact absurd (show false = true from hs) Bool.false_ne_true
  | bl i =>
    cases rx
    cases y with
    | non => cases ry; exact PySem.EqNone.ne_bool_none (fin_bl I q (by simp))
    | bl j => cases ry; exact ne_bool (fin_bl I q (congrArg not dec_bl))
    | str j => obtain ⟨t', rfl⟩ := ry; exact PySem.EqMixed.ne_bool_str (fin_bl I q (by simp))
    | _ => exact absurd (show false = true from hs) Bool.false_ne_true
  | int i =>
    obtain ⟨t, rfl⟩ := rx
    cases y with
    | non => cases ry; exact PySem.EqNone.ne_int_none (fin_bl I q (by simp))
    | int j => obtain ⟨t', rfl⟩ := ry; exact ne_int (fin_bl I q (congrArg not dec_int))
    | str j => obtain ⟨t', rfl⟩ := ry; exact PySem.EqMixed.ne_int_str (fin_bl I q (by simp))
    | _ => exact absurd (show false = true from hs) Bool.false_ne_true
  | str i =>
    obtain ⟨t, rfl⟩ := rx
    cases y with
    | non => cases ry; exact PySem.EqNone.ne_str_none (fin_bl I q (by simp))
    | bl j => cases ry; exact PySem.EqMixed.ne_str_bool (fin_bl I q (by simp))
    | int j => obtain ⟨t', rfl⟩ := ry; exact PySem.EqMixed.ne_str_int (fin_bl I q (by simp))
    | str j => obtain ⟨t', rfl⟩ := ry; exact ne_str (fin_bl I q (congrArg not dec_str))
    | _ => exact absurd (show false = true from hs) Bool.false_ne_true
  | byt i =>
    obtain ⟨t, rfl⟩ := rx
    cases y with
    | byt j => obtain ⟨t', rfl⟩ := ry; exact PySem.W.ne_bytes (fin_bl I q (congrArg not dec_byt))
    | _ => exact absurd (show false = true from hs) Bool.false_ne_true
  | _ => cases y <;> exact absurd (show false = true from hs) Bool.false_ne_true
theorem op_lt : OpR X (compareOp .Lt) (rI0 fun i j => .bl (decide (i < j))) := opB0 fun _ _ _ _ _ _ _ q => lt_int q
theorem op_le : OpR X (compareOp .LtE) (rI0 fun i j => .bl (decide (i ≤ j))) := opB0 fun _ _ _ _ _ _ _ q => le_int q
theorem op_gt : OpR X (compareOp .Gt) (rI0 fun i j => .bl (decide (j < i))) := opB0 fun _ _ _ _ _ _ _ q => gt_int q
theorem op_ge : OpR X (compareOp .GtE) (rI0 fun i j => .bl (decide (j ≤ i))) := opB0 fun _ _ _ _ _ _ _ q => ge_int q
theorem op_in_str : OpR X (compareOp .In) (fun x y H Q => ∃ i j, x = .str i ∧ y = .str j ∧ Q (.bl (!(Builtin.Str.occurrences j i 0 j.length 1).isEmpty)) H) := by
  intro pins s σ H x y v u Q I rx ry h
  obtain ⟨i, j, rfl, rfl, q⟩ := h
  obtain ⟨t, rfl⟩ := rx
  obtain ⟨t', rfl⟩ := ry
  exact in_str (fin_bl I q rfl)
theorem op_isN : OpR X (compareOp .Is) (fun x y H Q => y = .non ∧ Q (.bl (decide (x = .non))) H) := by
  intro pins s σ H x y v u Q I rx ry h
  obtain ⟨rfl, q⟩ := h
  cases ry
  refine is_none_gen (fin_bl I q ?_)
  cases x <;> first
    | (cases rx; rfl)
    | (obtain ⟨t, rfl⟩ := rx; rfl)
theorem op_notN : OpR X (compareOp .IsNot) (fun x y H Q => y = .non ∧ Q (.bl (!decide (x = .non))) H) := by
  intro pins s σ H x y v u Q I rx ry h
  obtain ⟨rfl, q⟩ := h
  cases ry
  refine isnot_none_gen (fin_bl I q ?_)
  cases x <;> first
    | (cases rx; rfl)
    | (obtain ⟨t, rfl⟩ := rx; rfl)
theorem OpR.or {f : Value → Value → Sem Value} {r r' : R2} (h : OpR X f r) (h' : OpR X f r') : OpR X f (fun x y H Q => r x y H Q ∨ r' x y H Q) := by
  intro pins s σ H x y v u Q I rx ry q
  rcases q with q | q
  · exact h pins s σ H x y v u Q I rx ry q
  · exact h' pins s σ H x y v u Q I rx ry q
theorem nomark (b : Expr) {op : CmpOp} (h : op ≠ .In := by decide) (h2 : op ≠ .NotIn := by decide) : behindInMarks op b = false := by
  have e1 : (op == CmpOp.In) = false := by cases op <;> first | rfl | exact absurd rfl h
  have e2 : (op == CmpOp.NotIn) = false := by cases op <;> first | rfl | exact absurd rfl h2
  cases b <;> simp [behindInMarks, e1, e2]
theorem pe_cmpR {op : CmpOp} {r : R2} (ho : OpR X (compareOp op) r) (ha : PE X a ta) (hb : PE X b tb) (hm : behindInMarks op b = false) : PE X (.Compare a [op] [b] pos) (tOp r ta tb) := by
  intro pins s σ H Q I h
  exact wpAny_Compare1 (binT ha hb I h fun v u s2 x y H2 I2 rx ry q => ho pins s2 σ H2 x y v u Q I2 rx ry q) hm
def tTest (t : TE) : TT := fun σ H Q => t σ H fun x H' => ∃ k, x = .bl k ∧ Q k H'
theorem pt_cmpR {op : CmpOp} {r : R2} (ho : OpR X (compareOp op) r) (ha : PE X a ta) (hb : PE X b tb) (hm : behindInMarks op b = false) : PT X (.Compare a [op] [b] pos) (tTest (tOp r ta tb)) := by
  intro pins s σ H Q I h
  refine wpAny_isTrue_Compare1 (thn (ha pins s σ H _ I h) fun v s1 ⟨x, H1, I1, r1, q1⟩ => thn (hb pins s1 σ H1 _ I1 q1) fun u s2 ⟨y, H2, I2, r2, q2⟩ =>
    thn (ho pins s2 σ H2 x y v u _ I2 r1 r2 q2) fun c s3 ⟨z, H3, I3, r3, k, e, q3⟩ => ?_) hm
  subst e
  cases r3
  exact wpAny_truthy_bool ⟨H3, I3, q3⟩
def tChain (r r' : R2) (ta tb tc : TE) : TE := fun σ H Q => ta σ H fun x H1 => tb σ H1 fun y H2 => r x y H2 fun z H3 => ∃ k, z = .bl k ∧
  (if k = true then tc σ H3 fun w' H4 => r' y w' H4 Q else Q (.bl false) H3)
theorem pe_chain {op op' : CmpOp} {r r' : R2} (ho : OpR X (compareOp op) r) (ho' : OpR X (compareOp op') r') (ha : PE X a ta) (hb : PE X b tb) (hc : PE X c tc)
    (hm : lastMarks [op, op'] [b, c] = false := by with_unfolding_all rfl) : PE X (.Compare a [op, op'] [b, c] pos) (tChain r r' ta tb tc) := by
  intro pins s σ H Q I h
  refine Compare_chain (thn (ha pins s σ H _ I h) fun v s1 ⟨x, H1, I1, r1, q1⟩ => chain_link (thn (hb pins s1 σ H1 _ I1 q1) fun u s2 ⟨y, H2, I2, r2, q2⟩ =>
    thn (ho pins s2 σ H2 x y v u _ I2 r1 r2 q2) fun d s3 ⟨z, H3, I3, r3, k, e, q3⟩ => ?_)) hm
  subst e
  cases r3
  refine wpAny_truthy_bool ?_
  cases k with
  | false => exact ite_ff ⟨.bl false, H3, I3, rfl, q3⟩
  | true => exact ite_tt (chain_last (thn (hc pins s3 σ H3 _ I3 q3) fun w' s4 ⟨z', H4, I4, r4, q4⟩ => ho' pins s4 σ H4 y z' u w' Q I4 r2 r4 q4))
theorem pt_chain {op op' : CmpOp} {r r' : R2} (ho : OpR X (compareOp op) r) (ho' : OpR X (compareOp op') r') (ha : PE X a ta) (hb : PE X b tb) (hc : PE X c tc)
    (hm : lastMarks [op, op'] [b, c] = false := by with_unfolding_all rfl) : PT X (.Compare a [op, op'] [b, c] pos) (tTest (tChain r r' ta tb tc)) := by
  intro pins s σ H Q I h
  refine isTrue_chain (thn (ha pins s σ H _ I h) fun v s1 ⟨x, H1, I1, r1, q1⟩ => test_link (thn (hb pins s1 σ H1 _ I1 q1) fun u s2 ⟨y, H2, I2, r2, q2⟩ =>
    thn (ho pins s2 σ H2 x y v u _ I2 r1 r2 q2) fun d s3 ⟨z, H3, I3, r3, k, e, q3⟩ => ?_)) hm
  subst e
  cases r3
  refine wpAny_truthy_bool ?_
  cases k with
  | false =>
    obtain ⟨k', e', q'⟩ := q3
    cases e'
    exact ite_ff ⟨H3, I3, q'⟩
  | true =>
    refine ite_tt (test_last (thn (hc pins s3 σ H3 _ I3 q3) fun w' s4 ⟨z', H4, I4, r4, q4⟩ => thn (ho' pins s4 σ H4 y z' u w' _ I4 r2 r4 q4) fun d' s5 ⟨z2, H5, I5, r5, k2, e2, q5⟩ => ?_))
    subst e2
    cases r5
    exact wpAny_truthy_bool ⟨H5, I5, q5⟩
theorem line63 : (sizeLine : Nat) < 2 ^ 63 := by rw [sizeLine_eq]; decide
theorem op_add_str : OpR X (binaryOp .Add) (fun x y H Q => ∃ i j, x = .str i ∧ y = .str j ∧ i.length + j.length ≤ sizeLine ∧ Q (.str (i ++ j)) H) := by
  intro pins s σ H x y v u Q I rx ry h
  obtain ⟨i, j, rfl, rfl, hz, q⟩ := h
  obtain ⟨t, rfl⟩ := rx
  obtain ⟨t', rfl⟩ := ry
  exact add_str (fun t' tk => ⟨.str (i ++ j), H, I.tok _, ⟨_, rfl⟩, q⟩) hz
theorem vals1 {x : V} {us : List Value} (r : Vals [x] us) : ∃ u, us = [u] ∧ RelV x u := by
  cases r with
  | cons r1 r2 => cases r2; exact ⟨_, rfl, r1⟩
theorem vals2 {x y : V} {us : List Value} (r : Vals [x, y] us) : ∃ u w', us = [u, w'] ∧ RelV x u ∧ RelV y w' := by
  cases r with
  | cons r1 r2 =>
    cases r2 with
    | cons r3 r4 => cases r4; exact ⟨_, _, rfl, r1, r3⟩
theorem call_max2 (hc : X.calm = true) : CallR X (.builtin "max") (fun xs H Q => ∃ i j, xs = [.int i, .int j] ∧ Q (.int (if j > i then j else i)) H) := by
  intro pins s σ H xs us Q I r h
  obtain ⟨i, j, rfl, q⟩ := h
  obtain ⟨u, w', rfl, ⟨t, rfl⟩, ⟨t', rfl⟩⟩ := vals2 r
  refine max_two_ints (I.ok.hd hc) fun h' tk k => ⟨_, H, I.kept k, ?_, q⟩
  by_cases hj : j > i
  · rw [if_pos hj, if_pos hj]; exact ⟨_, rfl⟩
  · rw [if_neg hj, if_neg hj]; exact ⟨_, rfl⟩
theorem call_min2 (hc : X.calm = true) : CallR X (.builtin "min") (fun xs H Q => ∃ i j, xs = [.int i, .int j] ∧ Q (.int (if j < i then j else i)) H) := by
  intro pins s σ H xs us Q I r h
  obtain ⟨i, j, rfl, q⟩ := h
  obtain ⟨u, w', rfl, ⟨t, rfl⟩, ⟨t', rfl⟩⟩ := vals2 r
  refine min_two_ints (I.ok.hd hc) fun h' tk k => ⟨_, H, I.kept k, ?_, q⟩
  by_cases hj : j < i
  · rw [if_pos hj, if_pos hj]; exact ⟨_, rfl⟩
  · rw [if_neg hj, if_neg hj]; exact ⟨_, rfl⟩
theorem call_int1 : CallR X (.type "int") (fun xs H Q => (∃ i, xs = [.int i] ∧ Q (.int i) H) ∨ ∃ k, xs = [.bl k] ∧ Q (.int (if k then 1 else 0)) H) := by
  intro pins s σ H xs us Q I r h
  rcases h with ⟨i, rfl, q⟩ | ⟨k, rfl, q⟩
  · obtain ⟨u, rfl, t, rfl⟩ := vals1 r
    exact call_int_int ⟨.int i, H, I, ⟨_, rfl⟩, q⟩
  · obtain ⟨u, rfl, r1⟩ := vals1 r
    cases r1
    exact call_int_bool ⟨.int (if k then 1 else 0), H, I.tok _, ⟨_, rfl⟩, q⟩
end
end L2
namespace L2
open PySem PySem.Spec PyProof.Rows
structure ObjM (h : Heap) (x dx C : Addr) (mA : Str → Option Value) : Prop where
  obj : h.get? x = some (PySem.W.instObj C dx)
  ns : h.Ns1 dx mA
  ne : dx ≠ x
theorem lookIn_ns {h : Heap} {dx : Addr} {mA : Str → Option Value} (n : h.Ns1 dx mA) : ∃ od, h.get? dx = some od ∧ ∀ name, PySem.W.lookIn name od = some (mA name) := by
  obtain ⟨o, es, ep, ho, hd, hk, _, hm⟩ := n
  refine ⟨o, ho, fun name => ?_⟩
  have e := hm name
  unfold nsFind findBy at e
  rw [← Array.find?_toList] at e
  unfold PySem.W.lookIn
  rw [hd]
  dsimp only
  split
  · rename_i y q
    rw [q] at e
    exact congrArg some e
  · rename_i q
    rw [q] at e
    have a : es.toList.any (·.refKey) = false := by
      rw [List.any_eq_false]
      intro y hy
      obtain ⟨z, t, hkey⟩ := hk y (Array.mem_toList_iff.mp hy)
      simp [DictEntry.refKey, hkey]
    have a' : ¬ es.toList.any (·.refKey) = true := by rw [a]; exact Bool.false_ne_true
    rw [if_neg a']
    exact congrArg some e
theorem ObjM.look {h : Heap} {x dx C : Addr} {mA : Str → Option Value} (I : ObjM h x dx C mA) : ∃ od, PySem.W.InstAt h x (PySem.W.instObj C dx) C (some od) ∧ ∀ name, PySem.W.lookIn name od = some (mA name) :=
  let ⟨od, ho, hl⟩ := lookIn_ns I.ns
  ⟨od, ⟨I.obj, rfl, rfl, ho⟩, hl⟩
section
variable {prog : Program} {w : World} {A : Around} {E : Value → Shared → Prop} {s : Shared} {K : PySem.W.Frag} {x dx C f : Addr} {mA : Str → Option Value} {name : Str} {v : Value}
theorem get_map {expr : Bool} {Q : Value → Shared → Prop} (X : K.In s.heap) (I : ObjM s.heap x dx C mA) (hg : PySem.W.plainGet K C name = true) (hh : PySem.W.hasDictIn K C = true)
    (ha : PySem.W.findIn K (.ref C) name = some none) (hv : mA name = some v) (hv' : PySem.W.handedIn v = true) (h : Q v { s with toks := s.toks + 1 }) :
    wpAny (model prog w) A (getAttr (.ref x) name expr) Q E s := by
  obtain ⟨od, J, hl⟩ := I.look
  exact PySem.W.get_value X J (PySem.W.plainGet_of hg).1 (PySem.W.findObj_own hh ha rfl (by rw [hl, hv])) hv' h
theorem get_meth {pl : Sem Bool} {Q : Value × List Value → Shared → Prop} (X : K.In s.heap) (I : ObjM s.heap x dx C mA) (hg : PySem.W.plainGet K C name = true)
    (hf : PySem.W.findIn K (.ref C) name = some (some (.ref f))) (ht : PySem.W.isFn K (.ref f) = true) (hv : mA name = none) (h : Q (.ref f, [.ref x]) s) :
    wpAny (model prog w) A (getMethod (.ref x) name pl) Q E s := by
  obtain ⟨od, J, hl⟩ := I.look
  exact PySem.W.method_fn X J (PySem.W.plainGet_of hg).1 (PySem.W.plainGet_of hg).2 hf (beq_iff_eq.mp ht) (by show (PySem.W.lookIn name od).map (·.isSome) = some false; rw [hl, hv]; rfl) h
theorem set_map {ns : List Str} {Q : Unit → Shared → Prop} (X : K.In s.heap) (I : ObjM s.heap x dx C mA)
    (hs : PySem.W.findIn K (.ref C) "__setattr__" = some (some (.builtin "object.__setattr__"))) (hp : PySem.W.plainOver K C = true) (ht : PySem.W.takerIn K C name = some none) (hh : PySem.W.hasDictIn K C = true)
    (hw : PySem.Within mA ns) (hsz : ns.length ≤ sizeLine)
    (h : ∀ h', ObjM h' x dx C (fun y => if y = name then some v else mA y) → Heap.SameBut dx s.heap h' → Q () { s with heap := h', toks := s.toks + 2 }) :
    wpAny (model prog w) A (setAttr (.ref x) name v) Q E s := by
  obtain ⟨od, J, hl⟩ := I.look
  refine PySem.W.set_plain X J hs (PySem.W.osa_open (s := { s with toks := s.toks + 1 }) (r := none) X J hp ht fun b => ?_)
  obtain ⟨cd, hc, hd'⟩ := PySem.W.any_some hh
  have hx : s.heap.get? x = some ⟨.ref C, some dx, .plain, #[]⟩ := I.obj
  refine wpAny_bind (wpAny_pure (wpAny_bind (wpAny_bind (wpAny_loadPart hx (wpAny_bind (PySem.W.Looks.here (s := { s with toks := s.toks + 1 }) (PySem.W.looks_clsIn X hc) ?_))))))
  rw [hd']
  refine wpAny_pure (a := some dx) (wpAny_bind (wpAny_pure (wpAny_bind ?_)))
  refine wpAny_nsSet1 (s := { s with toks := s.toks + 1 }) I.ns fun h' hn2 hs2 => ?_
  obtain ⟨oD, esD, epD, hoD, hdD, hcD⟩ := hn2.count (PySem.Within.cons name v hw)
  refine wpAny_bind (wpAny_lookBehind hoD (by rw [hdD]; exact pastItsLine_dict (Nat.le_trans hcD (by rw [List.length_cons]; omega))) ?_)
  exact wpAny_pure (h _ ⟨(hs2.2 _ (Ne.symm I.ne)).trans I.obj, hn2, I.ne⟩ hs2)
theorem make_map {R : Result → Shared → Prop} {vs : List Value} {kw : List (Str × Value)} (X : K.In s.heap) (hm : PySem.W.makesIn K C = true)
    (hi : PySem.W.findIn K (.ref C) "__init__" = some (some (.ref f))) (hf : PySem.W.typeIn K (.ref f) = some (.type "function"))
    (h : codeAny (model prog w) (A.under (.builtin "type.__call__" ⟨.ref C :: vs, kw⟩)) (.call (.ref f) ⟨.ref (s.heap.objs.size + 1) :: vs, kw⟩) (PySem.W.InitBack (s.heap.objs.size + 1) R)
      { s with heap := (s.heap.push PySem.W.emptyDict).push (PySem.W.instObj C s.heap.objs.size) }) :
    codeAny (model prog w) A (.call (.ref C) ⟨vs, kw⟩) R s := by
  obtain ⟨hh, g, d, t, os⟩ := s
  exact PySem.W.make_core (PySem.W.makes_of X hm) (PySem.W.looks_findIn X hi) (fun self => PySem.W.bind_fn X self hf) (.inl rfl) h
end
def putF (f : Str) (v : V) : List (Str × V) → List (Str × V)
  | [] => [(f, v)]
  | (g, x) :: r => if g = f then (g, v) :: r else (g, x) :: putF f v r
theorem lookup_putF (f g : Str) (v : V) : ∀ fs : List (Str × V), (putF f v fs).lookup g = if g = f then some v else fs.lookup g
  | [] => by
    show List.lookup g [(f, v)] = _
    by_cases h : g = f
    · have hb : (g == f) = true := beq_iff_eq.mpr h
      simp only [List.lookup, hb, if_pos h]
    · have hb : (g == f) = false := beq_eq_false_iff_ne.mpr h
      simp only [List.lookup, hb, if_neg h]
  | (k, x) :: r => by
    have ih := lookup_putF f g v r
    rw [show putF f v ((k, x) :: r) = (if k = f then (k, v) :: r else (k, x) :: putF f v r) from rfl]
    by_cases hk : k = f
    · rw [if_pos hk]
      by_cases h : g = k
      · have hb : (g == k) = true := beq_iff_eq.mpr h
        simp only [List.lookup, hb, if_pos (h.trans hk)]
      · have hb : (g == k) = false := beq_eq_false_iff_ne.mpr h
        simp only [List.lookup, hb, if_neg (fun e : g = f => h (e.trans hk.symm))]
    · rw [if_neg hk]
      by_cases h : g = k
      · have hb : (g == k) = true := beq_iff_eq.mpr h
        simp only [List.lookup, hb, if_neg (fun e : g = f => hk (h.symm.trans e))]
      · have hb : (g == k) = false := beq_eq_false_iff_ne.mpr h
        simp only [List.lookup, hb]
        exact ih
theorem keys_putF (f : Str) (v : V) : ∀ fs : List (Str × V), f ∈ (putF f v fs).map (·.1) ∧ ∀ g, g ∈ fs.map (·.1) → g ∈ (putF f v fs).map (·.1)
  | [] => ⟨by simp [putF], fun g h => by simp at h⟩
  | (k, x) :: r => by
    obtain ⟨i1, i2⟩ := keys_putF f v r
    rw [show putF f v ((k, x) :: r) = (if k = f then (k, v) :: r else (k, x) :: putF f v r) from rfl]
    by_cases hk : k = f
    · rw [if_pos hk]
      subst hk
      exact ⟨by simp, fun g h => by simpa using h⟩
    · rw [if_neg hk]
      refine ⟨?_, fun g h => ?_⟩
      · rw [List.map_cons]
        exact List.mem_cons_of_mem _ i1
      · rw [List.map_cons] at h ⊢
        rcases List.mem_cons.mp h with e | e
        · exact List.mem_cons.mpr (.inl e)
        · exact List.mem_cons_of_mem _ (i2 g e)
theorem length_putF (f : Str) (v : V) : ∀ fs : List (Str × V), (putF f v fs).length ≤ fs.length + 1
  | [] => by simp [putF]
  | (k, x) :: r => by
    have ih := length_putF f v r
    rw [show putF f v ((k, x) :: r) = (if k = f then (k, v) :: r else (k, x) :: putF f v r) from rfl]
    by_cases hk : k = f
    · rw [if_pos hk, List.length_cons, List.length_cons]; omega
    · rw [if_neg hk, List.length_cons, List.length_cons]; omega
theorem RelO.some_of {v : V} {o : Option Value} (r : RelO (some v) o) : ∃ u, o = some u ∧ RelV v u := by
  cases o with
  | none => exact (show False from r).elim
  | some u => exact ⟨u, rfl, r⟩
theorem RelO.none_of {o : Option Value} (r : RelO none o) : o = none := by
  cases o with
  | none => rfl
  | some u => exact (show False from r).elim
theorem handed_of {v : V} {u : Value} (r : RelV v u) : PySem.W.handedIn u = true := by
  cases v with
  | non => cases (show u = Value.none from r); rfl
  | bl b => cases (show u = Value.bool b from r); rfl
  | int i => obtain ⟨t, e⟩ := (show ∃ t, u = Value.int i t from r); cases e; rfl
  | str x => obtain ⟨t, e⟩ := (show ∃ t, u = Value.str x t from r); cases e; rfl
  | byt b => obtain ⟨t, e⟩ := (show ∃ t, u = Value.bytes b t from r); cases e; rfl
  | flt b => obtain ⟨t, e⟩ := (show ∃ t, u = Value.float b t from r); cases e; rfl
  | ref a => cases (show u = Value.ref a from r); rfl
  | ty n => cases (show u = Value.type n from r); rfl
section
variable {P : Program} {w : World} {H H' : Hp} {h h' : Heap} {a C dx : Addr} {fs fs' : List (Str × V)}
theorem ins_get (hok : HOk P w H h) (e : H a = some (.ins C dx fs)) : ∃ mA, ObjM h a dx C mA ∧ (∀ f, RelO (fs.lookup f) (mA f)) ∧ PySem.Within mA (fs.map (·.1)) ∧ fs.length ≤ 1000 ∧ H dx = some (.own a) := by
  obtain ⟨d, z, ne, ob, mA, n, r, q⟩ := (show ObjOk P w H h a (.ins C dx fs) from hok a _ e)
  exact ⟨mA, ⟨ob, n, ne⟩, r, q, z, d⟩
end
structure Cls (K : PySem.W.Frag) (C : Addr) : Prop where
  pg : PySem.W.plainGet K C Str.empty = true
  hd : PySem.W.hasDictIn K C = true
  po : PySem.W.plainOver K C = true
  sa : PySem.W.findIn K (.ref C) "__setattr__" = some (some (.builtin "object.__setattr__"))
theorem Cls.get {K : PySem.W.Frag} {C : Addr} (c : Cls K C) (f : Str) : PySem.W.plainGet K C f = true := c.pg
def NoAttr (K : PySem.W.Frag) (C : Addr) (f : Str) : Prop := PySem.W.findIn K (.ref C) f = some none
theorem NoAttr.taker {K : PySem.W.Frag} {C : Addr} {f : Str} (n : NoAttr K C f) : PySem.W.takerIn K C f = some none := by
  unfold PySem.W.takerIn
  rw [show PySem.W.findIn K (.ref C) f = some none from n]
  rfl
structure Con (K : PySem.W.Frag) (C : Addr) (f : Str) (v : V) (u : Value) : Prop where
  at_ : PySem.W.findIn K (.ref C) f = some (some u)
  rel : RelV v u
  get : PySem.W.specialIn K u "__get__" = some none
  cp : PySem.W.copiedNames.contains f = false
structure Meth (K : PySem.W.Frag) (C : Addr) (m : Str) (f : Addr) : Prop where
  at_ : PySem.W.findIn K (.ref C) m = some (some (.ref f))
  fn : PySem.W.isFn K (.ref f) = true
  kp : PySem.W.keepIn K (.ref f) = true
section
variable {X : Cx} {pins : List (Addr × Obj)} {σ : St} {H : Hp} {s : Shared} {a C dx : Addr} {fs : List (Str × V)} {f : Str} {v : V} {A : Around} {E : Value → Shared → Prop}
theorem getattr_ok {b : Bool} {Q : Value → Shared → Prop} (I : Inv X pins σ H s) (e : H a = some (.ins C dx fs)) (c : Cls X.K C) (n : NoAttr X.K C f) (l : fs.lookup f = some v)
    (h : ∀ u s', Inv X pins σ H s' → RelV v u → Q u s') : wpAny (model X.prog X.w) A (getAttr (.ref a) f b) Q E s := by
  obtain ⟨mA, O, r, _, _, _⟩ := ins_get I.hok e
  obtain ⟨u, hu, ru⟩ := RelO.some_of (v := v) (o := mA f) (by rw [← l]; exact r f)
  exact get_map I.kIn O (c.get f) c.hd n hu (handed_of ru) (h u _ (I.tok _) ru)
theorem getmeth_ok {m : Str} {g : Addr} {pl : Sem Bool} {Q : Value × List Value → Shared → Prop} (I : Inv X pins σ H s) (e : H a = some (.ins C dx fs)) (c : Cls X.K C) (k : Meth X.K C m g) (l : fs.lookup m = none)
    (h : Q (.ref g, [.ref a]) s) : wpAny (model X.prog X.w) A (getMethod (.ref a) m pl) Q E s := by
  obtain ⟨mA, O, r, _, _, _⟩ := ins_get I.hok e
  have hn : mA m = none := RelO.none_of (by rw [← l]; exact r m)
  exact get_meth I.kIn O (c.get m) k.at_ k.fn hn h
theorem setattr_ok {y : V} {u : Value} {Q : Unit → Shared → Prop} (I : Inv X pins σ H s) (e : H a = some (.ins C dx fs)) (c : Cls X.K C) (n : NoAttr X.K C f) (hl : fs.length < 1000) (ry : RelV y u)
    (h : ∀ s', Inv X pins σ (upd H a (.ins C dx (putF f y fs))) s' → Q () s') : wpAny (model X.prog X.w) A (setAttr (.ref a) f u) Q E s := by
  obtain ⟨mA, O, r, wi, _, ho⟩ := ins_get I.hok e
  have hz : (fs.map (·.1)).length ≤ sizeLine := by rw [List.length_map, sizeLine_eq]; omega
  refine set_map I.kIn O c.sa c.po n.taker c.hd wi hz fun h' O' sb => h _ ?_
  have hd : ∃ o, h'.get? dx = some o := let ⟨o, _, _, e', _⟩ := O'.ns; ⟨o, e'⟩
  refine I.write (x := a) (e := dx) (by rw [e]; exact True.intro) (.inr ho) (fun b q hb z => (sb.2 b hb).trans z) hd ?_
  refine ⟨by rw [upd_ne O.ne]; exact ho, ?_, O.ne, O'.obj, _, O'.ns, fun g => ?_, fun g hg => ?_⟩
  · have := length_putF f y fs; omega
  · show RelO ((putF f y fs).lookup g) (if g = f then some u else mA g)
    rw [lookup_putF]
    by_cases q : g = f
    · rw [if_pos q, if_pos q]; exact ry
    · rw [if_neg q, if_neg q]; exact r g
  · by_cases q : g = f
    · rw [q]; exact (keys_putF f y fs).1
    · refine (keys_putF f y fs).2 g (wi g fun z => hg ?_)
      show (if g = f then some u else mA g) = none
      rw [if_neg q]; exact z
theorem Inv.made (I : Inv X pins σ H s) : Inv X pins σ (upd (upd H s.heap.objs.size (.own (s.heap.objs.size + 1))) (s.heap.objs.size + 1) (.ins C s.heap.objs.size []))
    { s with heap := (s.heap.push PySem.W.emptyDict).push (PySem.W.instObj C s.heap.objs.size) } := by
  have e1 : (s.heap.push PySem.W.emptyDict).get? s.heap.objs.size = some PySem.W.emptyDict := Heap.get?_push_size s.heap rfl
  have e2 : ((s.heap.push PySem.W.emptyDict).push (PySem.W.instObj C s.heap.objs.size)).get? (s.heap.objs.size + 1) = some (PySem.W.instObj C s.heap.objs.size) := by
    have := Heap.get?_push_size (s.heap.push PySem.W.emptyDict) (o := PySem.W.instObj C s.heap.objs.size) rfl
    rwa [Heap.size_push] at this
  have e3 : (s.heap.push PySem.W.emptyDict).Ns s.heap.objs.size (fun _ => none) := ⟨PySem.W.emptyDict, #[], _, e1, rfl, (fun e he => absurd he (by simp)), fun _ => rfl⟩
  have I1 := I.laid (a := s.heap.objs.size) (o := .own (s.heap.objs.size + 1)) (h' := s.heap.push PySem.W.emptyDict) (t' := s.toks) (fun b u q => Heap.get?_push_of_some _ q) (Nat.le_refl _) ⟨_, e1⟩
  refine I1.laid (a := s.heap.objs.size + 1) (o := .ins C s.heap.objs.size []) (t' := s.toks) (fun b u q => Heap.get?_push_of_some _ q) (Nat.le_of_eq (Heap.size_push _ _)) ?_
  have ne : s.heap.objs.size ≠ s.heap.objs.size + 1 := Nat.ne_of_lt (Nat.lt_succ_self _)
  refine ⟨by rw [upd_ne ne, upd_same], Nat.zero_le _, ne, e2, fun _ => none, (Heap.Ns1.of_empty e3).at fun o q => Heap.get?_push_of_some _ q, fun _ => True.intro, fun y hy => absurd rfl hy⟩
theorem attr_of {prog : Program} {w : World} {env : Env} {e : Expr} {f : Str} {pos : Pos} {s : Shared} {Q : Value → Shared → Prop} (hb : attributeBase e f env (eval e env) = eval e env)
    (h : wpAny (model prog w) A (eval e env) (fun o s₁ => wpAny (model prog w) A (getAttr o f true) Q E s₁) E s) : wpAny (model prog w) A (eval (.Attribute e f pos) env) Q E s :=
  Attribute_any_ h (by rw [arm_eval_Attribute, hb])
end
def tFld (K : PySem.W.Frag) (ta : TE) (f : Str) : TE := fun σ H Q => ta σ H fun x H1 => ∃ a C dx fs v, x = .ref a ∧ H1 a = some (.ins C dx fs) ∧ Cls K C ∧ NoAttr K C f ∧ fs.lookup f = some v ∧ Q v H1
def sFld (K : PySem.W.Frag) (ta tv : TE) (f : Str) : TS := fun D σ H => tv σ H fun y H1 => ta σ H1 fun x H2 => ∃ a C dx fs, x = .ref a ∧ H2 a = some (.ins C dx fs) ∧ Cls K C ∧ NoAttr K C f ∧ fs.length < 1000 ∧
  D.nx σ (upd H2 a (.ins C dx (putF f y fs)))
section
variable {X : Cx} {o e value : Expr} {f : Str} {pos pos' tpos : Pos} {ta tv : TE}
theorem pe_fld (he : PE X e ta) (hb : attributeBase e f X.env (eval e X.env) = eval e X.env) : PE X (.Attribute e f pos) (tFld X.K ta f) := by
  intro pins s σ H Q I h
  refine attr_of hb (thn (he pins s σ H _ I h) fun u s1 ⟨x, H1, I1, rx, a, C, dx, fs, v, ex, ea, c, n, l, q⟩ => ?_)
  subst ex
  obtain rfl : u = Value.ref a := rx
  exact getattr_ok I1 ea c n l fun u' s2 I2 ru => ⟨v, H1, I2, ru, q⟩
theorem ps_fld (ha : PE X o ta) (hv : PE X value tv) (hs : swapsWith value (some (.Attribute o f pos')) pos.line X.env = pure false) : PS X (.Assign [.Attribute o f pos'] value pos) (sFld X.K ta tv f) := by
  intro pins s σ H D I h
  refine plainObj_wpAny_Assign_Attribute (thn (hv pins s σ H _ I h) fun u s1 ⟨y, H1, I1, ry, q⟩ => thn (ha pins s1 σ H1 _ I1 q) fun ov s2 ⟨x, H2, I2, rx, a, C, dx, fs, ex, ea, c, n, l, q2⟩ => ?_) hs
  subst ex
  obtain rfl : ov = Value.ref a := rx
  exact setattr_ok I2 ea c n l ry fun s3 I3 => ⟨σ, _, I3, q2⟩
end
section
variable {X : Cx} {pins : List (Addr × Obj)} {σ : St} {H : Hp} {s : Shared} {A : Around} {E : Value → Shared → Prop} {Q : Value → Shared → Prop} {c : Value} {b : Bool}
inductive TyOf (K : PySem.W.Frag) (H : Hp) : V → Value → Prop where
  | non : TyOf K H .non (.type "NoneType")
  | bl (x : Bool) : TyOf K H (.bl x) (.type "bool")
  | int (i : Int) : TyOf K H (.int i) (.type "int")
  | str (x : Str) : TyOf K H (.str x) (.type "str")
  | flt (x : UInt64) : TyOf K H (.flt x) (.type "float")
  | lst {a : Addr} {xs : List V} (e : H a = some (.lst xs)) : TyOf K H (.ref a) (.type "list")
  | frz {a : Addr} {o : Obj} {xs : List V} (e : H a = some (.frz o (.lst xs))) : TyOf K H (.ref a) (.type "list")
  | tup {a : Addr} {xs : List V} (e : H a = some (.tup xs)) : TyOf K H (.ref a) (.type "tuple")
  | dK {a : Addr} {kvs : List (Key × V)} (e : H a = some (.dK kvs)) : TyOf K H (.ref a) (.type "dict")
  | dT {a : Addr} {kvs : List (List Key × V)} (e : H a = some (.dT kvs)) : TyOf K H (.ref a) (.type "dict")
  | ins {a C dx : Addr} {fs : List (Str × V)} (e : H a = some (.ins C dx fs)) (cl : Cls K C) (ha : PySem.W.findIn K (.ref C) "__class__" = some (some (.builtin "object.__class__")))
      (hn : PySem.W.specialIn K (.builtin "object.__class__") "__get__" = some (some (.builtin "getset_descriptor.__get__"))) (htk : PySem.W.takesIn K (.builtin "object.__class__") = some true)
      (hm : PySem.W.mroIn K C (.type "object") = some true) : TyOf K H (.ref a) (.ref C)
theorem isinst_ok {x : V} {u t : Value} (I : Inv X pins σ H s) (rx : RelV x u) (ty : TyOf X.K H x t) (e : PySem.W.kitOne X.K t c = some b) (h : ∀ tk, Q (.bool b) { s with toks := tk }) :
    wpAny (model X.prog X.w) A (call (.builtin "isinstance") [u, c]) Q E s := by
  cases ty with
  | non => cases (show u = Value.none from rx); exact PySem.W.kia_one PySem.W.kitx_none I.kIn True.intro e (fun z => nomatch z) h
  | bl y => cases (show u = Value.bool y from rx); exact PySem.W.kia_one PySem.W.kitx_bool I.kIn True.intro e (fun z => nomatch z) h
  | int i => obtain ⟨t, q⟩ := (show ∃ t, u = Value.int i t from rx); cases q; exact PySem.W.kia_one PySem.W.kitx_int I.kIn True.intro e (fun z => nomatch z) h
  | str y => obtain ⟨t, q⟩ := (show ∃ t, u = Value.str y t from rx); cases q; exact PySem.W.kia_one PySem.W.kitx_str I.kIn True.intro e (fun z => nomatch z) h
  | flt y => obtain ⟨t, q⟩ := (show ∃ t, u = Value.float y t from rx); cases q; exact PySem.W.kia_one PySem.W.kitx_float I.kIn True.intro e (fun z => nomatch z) h
  | @lst a xs ea =>
    cases (show u = Value.ref a from rx)
    obtain ⟨_, _, n, _, h1⟩ := (show ObjOk X.prog X.w H s.heap a (.lst xs) from I.hok a _ ea)
    exact PySem.W.kia_one PySem.W.kitx_list I.kIn ⟨_, h1, rfl⟩ e (fun z => nomatch z) h
  | @frz a ob xs ea =>
    cases (show u = Value.ref a from rx)
    obtain ⟨_, _, _, n, _, h1⟩ := (show ObjOk X.prog X.w H s.heap a (.frz ob (.lst xs)) from I.hok a _ ea)
    exact PySem.W.kia_one PySem.W.kitx_list I.kIn ⟨_, h1, rfl⟩ e (fun z => nomatch z) h
  | @tup a xs ea =>
    cases (show u = Value.ref a from rx)
    obtain ⟨_, _, _, p⟩ := (show ObjOk X.prog X.w H s.heap a (.tup xs) from I.hok a _ ea)
    obtain ⟨o, h1, h2, _⟩ := p
    exact PySem.W.kia_one PySem.W.kitx_tuple I.kIn ⟨o, h1, h2⟩ e (fun z => nomatch z) h
  | @dK a kvs ea =>
    cases (show u = Value.ref a from rx)
    obtain ⟨_, _, vs, _, p⟩ := (show ObjOk X.prog X.w H s.heap a (.dK kvs) from I.hok a _ ea)
    obtain ⟨o, es, ep, h1, h2, _⟩ := p
    exact PySem.W.kia_one PySem.W.kitx_dict I.kIn ⟨o, h1, h2.1⟩ e (fun z => nomatch z) h
  | @dT a kvs ea =>
    cases (show u = Value.ref a from rx)
    obtain ⟨_, _, xs, _, o, es, ep, h1, h2, _⟩ := (show ObjOk X.prog X.w H s.heap a (.dT kvs) from I.hok a _ ea)
    exact PySem.W.kia_one PySem.W.kitx_dict I.kIn ⟨o, h1, h2.1⟩ e (fun z => nomatch z) h
  | @ins a C dx fs ea cl ha hn htk hm =>
    cases (show u = Value.ref a from rx)
    obtain ⟨mA, O, _⟩ := ins_get I.hok ea
    obtain ⟨od, J, _⟩ := O.look
    exact PySem.W.kia_one (PySem.W.kitx_own (cl.get _) cl.hd ha hn htk hm) I.kIn J e (fun z => nomatch z) h
end
end L2
namespace L2
open PySem PySem.Spec PyProof.Rows
structure Room (k : Nat) (A : Around) : Prop where
  hd : A.handled = none
  dp : A.depth + 3 * k + 5 < recursionLimit
  un : A.units + 16 * k + 200 < cLine
theorem Room.mono {j k : Nat} {A : Around} (r : Room k A) (h : j ≤ k) : Room j A := ⟨r.hd, by have := r.dp; omega, by have := r.un; omega⟩
theorem Room.deeper {k : Nat} {A : Around} (r : Room (k + 1) A) (env : Env) : Room k (A.deeper env) :=
  ⟨r.hd, by have := r.dp; show A.depth + 1 + 3 * k + 5 < _; omega, by have := r.un; show A.units + 3 + 16 * k + 200 < _; omega⟩
theorem make_depth {A : Around} {C : Addr} {us : List Value} {kw : List (Str × Value)} : (A.under (.builtin "type.__call__" ⟨.ref C :: us, kw⟩)).depth = A.depth + 1 := by
  first | rfl | simp [Around.under, Code.weight, Code.isCreation, Code.isGuard, Code.isCaller, Code.frames, Code.isFrame, guardIds]
theorem make_units {A : Around} {C : Addr} {us : List Value} {kw : List (Str × Value)} : (A.under (.builtin "type.__call__" ⟨.ref C :: us, kw⟩)).units = A.units + 1 := by
  first | rfl | simp [Around.under, Code.cUnits, Code.frames, Code.isFrame]
theorem Room.make {k : Nat} {A : Around} (r : Room (k + 1) A) (C : Addr) (us : List Value) (kw : List (Str × Value)) : Room k (A.under (.builtin "type.__call__" ⟨.ref C :: us, kw⟩)) :=
  ⟨r.hd, by have := r.dp; rw [make_depth]; omega, by have := r.un; rw [make_units]; omega⟩
theorem Room.depth {k : Nat} {A : Around} (r : Room k A) : A.depth < recursionLimit := by have := r.dp; omega
theorem Room.units {k : Nat} {A : Around} (r : Room k A) : A.units + 64 < cLine := by have := r.un; omega
def tNil : TA := fun _ H Q => Q [] H
def tCons (ta : TE) (tr : TA) : TA := fun σ H Q => ta σ H fun x H1 => tr σ H1 fun xs H2 => Q (x :: xs) H2
section
variable {X : Cx} {e : Expr} {es : List Expr} {te : TE} {t : TA} {pos : Pos}
theorem pa_nil : PA X [] tNil := fun _ _ _ _ H Q I h => Calls.spliced_nil ⟨[], H, I, .nil, h⟩
theorem pa_cons (ha : PE X e te) (hr : PA X es t) (hs : starEach (e :: es) X.env = (false, eval e X.env) :: starEach es X.env := by rfl) : PA X (e :: es) (tCons te t) := by
  intro pos pins s σ H Q I h
  rw [hs]
  show wpAny _ _ (spliced ((false, eval e X.env) :: backTo pos (starEach es X.env))) _ _ s
  refine Calls.spliced_cons (thn (ha pins s σ H _ I h) fun u s1 ⟨x, H1, I1, r1, q1⟩ => ?_)
  exact thn (hr pos pins s1 σ H1 _ I1 q1) fun us s2 ⟨xs, H2, I2, r2, q2⟩ => ⟨x :: xs, H2, I2, .cons r1 r2, q2⟩
def tTup (t : TA) : TE := fun σ H Q => t σ H fun xs H1 => xs.length ≤ sizeLine ∧ ∀ p, H1 p = none → Q (.ref p) (upd H1 p (.tup xs))
def tLst (t : TA) : TE := fun σ H Q => t σ H fun xs H1 => xs.length ≤ sizeLine ∧ ∀ p, H1 p = none → Q (.ref p) (upd H1 p (.lst xs))
theorem pe_tup {x1} (h : PA X es t) : PE X (.Tuple es x1 pos) (tTup t) := by
  intro pins s σ H Q I hq
  refine wpAny_Tuple_spliced (thn (h pos pins s σ H _ I hq) fun us s1 ⟨xs, H1, I1, r, z, q⟩ => ⟨by rw [← r.length]; exact z, ?_⟩)
  have hf : H1 s1.heap.objs.size = none := I1.hok.fresh (Nat.le_refl _)
  refine ⟨.ref s1.heap.objs.size, upd H1 s1.heap.objs.size (.tup xs), I1.laid (t' := s1.toks) (fun b u e => Heap.get?_push_of_some _ e) (Nat.le_refl _) ?_, rfl, q _ hf⟩
  exact ⟨z, us, r, ⟨_, Heap.get?_push_size _ rfl, rfl, _, rfl⟩⟩
theorem pe_lst (h : PA X es t) : PE X (.List es pos) (tLst t) := by
  intro pins s σ H Q I hq
  refine wpAny_List_spliced (thn (h pos pins s σ H _ I hq) fun us s1 ⟨xs, H1, I1, r, z, q⟩ => ⟨by rw [← r.length]; exact z, ?_⟩)
  have hf : H1 s1.heap.objs.size = none := I1.hok.fresh (Nat.le_refl _)
  refine ⟨.ref s1.heap.objs.size, upd H1 s1.heap.objs.size (.lst xs), I1.laid (t' := s1.toks) (fun b u e => Heap.get?_push_of_some _ e) (Nat.le_refl _) ?_, rfl, q _ hf⟩
  exact ⟨z, us, 0, r, Heap.get?_push_size _ rfl⟩
end
abbrev Sp := List V → Hp → VK → XK → Prop
abbrev CXT := List Env → Hp → Shared → XK → Value → Shared → Prop
structure Env0 (P : Program) (w : World) (K : PySem.W.Frag) (mg : Str → Option Value) (base : Heap) (A : Around) (outer : List Env) (s : Shared) (H : Hp) : Prop where
  frames : A.frames = some outer
  mod : Mod K mg base
  bs : ∀ b o, base.get? b = some o → s.heap.get? b = some o ∧ H b = none
  bsz : base.objs.size ≤ s.heap.objs.size
  funs : s.heap.FunFrames base outer
  frf : ∀ b ∈ frs outer, H b = none
  hok : HOk P w H s.heap
  bare : AllBare s.gens
def CE (outer : List Env) (P : Program) (w : World) (H : Hp) (s : Shared) (Q : VK) (u : Value) (s' : Shared) : Prop :=
  ∃ v H', s'.os = s.os ∧ AllBare s'.gens ∧ Un (frs outer) [] H H' s.heap s'.heap ∧ HOk P w H' s'.heap ∧ RelV v u ∧ Q v H'
def CR (CX : CXT) (outer : List Env) (P : Program) (w : World) (H : Hp) (s : Shared) (Q : VK) (E : XK) (r : Result) (s' : Shared) : Prop :=
  match r with
  | .ok (.ret u) => CE outer P w H s Q u s'
  | .ok _ => False
  | .error e => CX outer H s E e s'
structure FnOk (P : Program) (w : World) (K : PySem.W.Frag) (mg : Str → Option Value) (base : Heap) (CX : CXT) (k : Nat) (f : Addr) (fd : FuncData) (ps : List Str) (sp : Sp) : Prop where
  len : ∀ vs H Q E, sp vs H Q E → vs.length = ps.length
  run : ∀ (A : Around) (outer : List Env) (s : Shared) (H : Hp) (args : Args) (us : List Value) (vs : List V) (Q : VK) (E : XK), Room k A → Env0 P w K mg base A outer s H → BindsTo s fd args (ps.zip us) → Vals vs us → sp vs H Q E →
    codeAny (model P w) A (.call (.ref f) args) (CR CX outer P w H s Q E) s
theorem Env0.make {P : Program} {w : World} {K : PySem.W.Frag} {mg : Str → Option Value} {base : Heap} {A : Around} {outer : List Env} {s : Shared} {H : Hp} (e : Env0 P w K mg base A outer s H) (C : Addr) (us : List Value) (kw : List (Str × Value)) :
    Env0 P w K mg base (A.under (.builtin "type.__call__" ⟨.ref C :: us, kw⟩)) outer s H := ⟨by first | exact e.frames | (simpa [Around.under, Code.envs, Code.isFrame, pushEnvs] using e.frames), e.mod, e.bs, e.bsz, e.funs, e.frf, e.hok, e.bare⟩
section
variable {X : Cx} {pins : List (Addr × Obj)} {σ : St} {H : Hp} {s s' : Shared}
theorem Inv.env0 (I : Inv X pins σ H s) : Env0 X.prog X.w X.K X.mg X.base X.A X.stack s H :=
  ⟨I.ok.frames, I.ok.mod, I.bs, Nat.le_trans I.ok.bsz I.sz, I.stack, I.stkFree, I.hok, I.bare⟩
theorem Inv.after {Q : VK} {u : Value} (I : Inv X pins σ H s) (h : CE X.stack X.prog X.w H s Q u s') : EP X pins σ Q u s' := by
  obtain ⟨v, H', os, bare, un, hok, r, q⟩ := h
  obtain ⟨hh, g, d, t, os'⟩ := s'
  obtain rfl : os' = s.os := os
  exact ⟨v, H', I.call (h' := hh) (g' := g) (d' := d) (t' := t) (ch := []) un hok bare (fun b z => absurd z (by simp)), r, q⟩
end
def tCall (sp : Sp) (dvs : List V) (E : XK) (t : TA) : TE := fun σ H Q => t σ H fun vs H1 => sp (vs ++ dvs) H1 Q E
def tMeth (C : Addr) (m : Str) (sp : Sp) (dvs : List V) (E : XK) (ta : TE) (t : TA) : TE := fun σ H Q => ta σ H fun x H1 => ∃ a dx fs, x = .ref a ∧ H1 a = some (.ins C dx fs) ∧ fs.lookup m = none ∧
  t σ H1 fun vs H2 => sp (x :: (vs ++ dvs)) H2 Q E
def tMake (C : Addr) (sp : Sp) (dvs : List V) (E : XK) (t : TA) : TE := fun σ H Q => t σ H fun vs H1 => ∀ x dx, H1 x = none → H1 dx = none → dx ≠ x →
  sp (.ref x :: (vs ++ dvs)) (upd (upd H1 dx (.own x)) x (.ins C dx [])) (fun v H2 => v = .non ∧ Q (.ref x) H2) E
def Binds (K : PySem.W.Frag) (fd : FuncData) (ps : List Str) (ds : List Value) : Prop :=
  ∀ (s : Shared) (us : List Value), K.In s.heap → (us ++ ds).length = ps.length → BindsTo s fd ⟨us, []⟩ (ps.zip (us ++ ds))
theorem Binds.all {K : PySem.W.Frag} {fd : FuncData} {ps : List Str} (h : ∀ us : List Value, us.length = ps.length → bindArgs fd ⟨us, []⟩ = pure (ps.zip us)) : Binds K fd ps [] := fun s us _ hl => by
  rw [List.append_nil] at hl ⊢
  exact .of_eq (h us hl)
def Passes (CX : CXT) (X : Cx) (E : XK) : Prop := ∀ (pins : List (Addr × Obj)) (σ : St) (H : Hp) (s : Shared) (e : Value) (s' : Shared), Inv X pins σ H s → CX X.stack H s E e s' → X.xe e s'
section
variable {X : Cx} {CX : CXT} {k : Nat} {f C : Addr} {fd : FuncData} {ps : List Str} {sp : Sp} {dvs : List V} {ds : List Value} {E : XK} {x m : Str} {p pos apos : Pos} {e o : Expr} {es : List Expr} {ta : TE} {t : TA}
theorem run_fn {pins : List (Addr × Obj)} {σ : St} {H : Hp} {s : Shared} {Q : VK} {us : List Value} {vs : List V} (F : FnOk X.prog X.w X.K X.mg X.base CX k f fd ps sp) (hr : Room k X.A) (hb : Binds X.K fd ps ds) (hd : Vals dvs ds) (hx : Passes CX X E)
    (I : Inv X pins σ H s) (r : Vals vs us) (h : sp (vs ++ dvs) H Q E) : wpAny (model X.prog X.w) X.A (call (.ref f) us) (EP X pins σ Q) X.xe s := by
  have r2 : Vals (vs ++ dvs) (us ++ ds) := r.append hd
  have hl : (us ++ ds).length = ps.length := by rw [← r2.length]; exact F.len _ _ _ _ h
  refine wpAny_call (codeAny_mono (F.run X.A X.stack s H ⟨us, []⟩ (us ++ ds) (vs ++ dvs) Q E hr I.env0 (hb s us I.kIn hl) r2 h) fun r s' hq => ?_)
  cases r with
  | error e => exact hx pins σ H s e s' I hq
  | ok fl =>
    cases fl with
    | ret u => exact I.after hq
    | next => exact False.elim hq
    | brk => exact False.elim hq
    | cont => exact False.elim hq
theorem pe_call (F : FnOk X.prog X.w X.K X.mg X.base CX k f fd ps sp) (hr : Room k X.A) (hg : Gl X x) (hm : X.mg x = some (.ref f)) (hk : PySem.W.keepIn X.K (.ref f) = true) (hb : Binds X.K fd ps ds) (hd : Vals dvs ds) (hx : Passes CX X E)
    (ha : PA X (e :: es) t) (hdb : (x == ("__debug__" : Str)) = false := by decide) (he : starEach (e :: es) X.env = (false, eval e X.env) :: starEach es X.env := by rfl) (hpl : (backTo pos (starEach es X.env)).any (·.1) = false := by rfl) :
    PE X (.Call (.Name x p) (e :: es) [] pos) (tCall sp dvs E t) := by
  intro pins s σ H Q I h
  refine wpAny_Call_Name_kw (ld_glob I hg hm ?_ hdb)
  refine PySem.W.callWith_K (h₀ := X.base) I.ok.mod.kin hk (thn (ha pos pins s σ H _ I h) fun us s1 ⟨vs, H1, I1, r, q⟩ => ⟨I1.kIn, ?_⟩) he hpl
  exact run_fn F hr hb hd hx I1 r q
theorem pe_meth {pl : Sem Bool} (he : PE X o ta) (c : Cls X.K C) (hm : Meth X.K C m f) (F : FnOk X.prog X.w X.K X.mg X.base CX k f fd ps sp) (hr : Room k X.A) (hb : Binds X.K fd ps ds) (hd : Vals dvs ds) (hx : Passes CX X E) (ha : PA X (e :: es) t)
    (hst : starEach (e :: es) X.env = (false, eval e X.env) :: starEach es X.env := by rfl) (hpl : (backTo pos (starEach es X.env)).any (·.1) = false := by rfl)
    (ht : eval (.Call (.Attribute o m apos) (e :: es) [] pos) X.env = (do
      let ov ← eval o X.env
      standAt apos.atName
      let (f, first) ← holding [ov] (getMethod ov m pl)
      callWith pos f first (backTo pos (starEach (e :: es) X.env)) (backToKw pos (keywordEach [] X.env))) := by rfl) :
    PE X (.Call (.Attribute o m apos) (e :: es) [] pos) (tMeth C m sp dvs E ta t) := by
  intro pins s σ H Q I h
  refine PySem.W.methodCall_KW (pl := pl) (thn (he pins s σ H _ I h) fun u s1 ⟨x, H1, I1, rx, a, dx, fs, ex, ea, l, q⟩ => ?_) ht
  subst ex
  obtain rfl : u = Value.ref a := rx
  refine getmeth_ok I1 ea c hm l ?_
  refine PySem.W.callWith_K (first := [.ref a]) (h₀ := X.base) I.ok.mod.kin hm.kp (thn (ha pos pins s1 σ H1 _ I1 q) fun us s2 ⟨vs, H2, I2, r, q2⟩ => ⟨I2.kIn, ?_⟩) hst hpl
  exact run_fn (us := .ref a :: us) (vs := .ref a :: vs) F hr hb hd hx I2 (.cons rfl r) q2
theorem pe_meth0 {pl : Sem Bool} (he : PE X o ta) (c : Cls X.K C) (hm : Meth X.K C m f) (F : FnOk X.prog X.w X.K X.mg X.base CX k f fd ps sp) (hr : Room k X.A) (hb : Binds X.K fd ps ds) (hd : Vals dvs ds) (hx : Passes CX X E)
    (ht : eval (.Call (.Attribute o m apos) [] [] pos) X.env = (do
      let ov ← eval o X.env
      standAt apos.atName
      let (f, first) ← holding [ov] (getMethod ov m pl)
      callWith pos f first (backTo pos (starEach [] X.env)) (backToKw pos (keywordEach [] X.env))) := by rfl) :
    PE X (.Call (.Attribute o m apos) [] [] pos) (tMeth C m sp dvs E ta tNil) := by
  intro pins s σ H Q I h
  refine PySem.W.methodCall_KW (pl := pl) (thn (he pins s σ H _ I h) fun u s1 ⟨x, H1, I1, rx, a, dx, fs, ex, ea, l, q⟩ => ?_) ht
  subst ex
  obtain rfl : u = Value.ref a := rx
  refine getmeth_ok I1 ea c hm l ?_
  exact PySem.W.callWith_K0 (first := [.ref a]) I1.kIn hm.kp (run_fn (us := [.ref a]) (vs := [.ref a]) F hr hb hd hx I1 (.cons rfl .nil) q)
structure Mk (K : PySem.W.Frag) (C f : Addr) : Prop where
  makes : PySem.W.makesIn K C = true
  init : PySem.W.findIn K (.ref C) "__init__" = some (some (.ref f))
  fn : PySem.W.isFn K (.ref f) = true
  kp : PySem.W.keepIn K (.ref C) = true
theorem run_make {pins : List (Addr × Obj)} {σ : St} {H : Hp} {s : Shared} {Q : VK} {us : List Value} {vs : List V} (M : Mk X.K C f) (F : FnOk X.prog X.w X.K X.mg X.base CX k f fd ps sp) (hr : Room (k + 1) X.A) (hb : Binds X.K fd ps ds) (hd : Vals dvs ds)
    (hx : Passes CX X E) (I : Inv X pins σ H s) (r : Vals vs us)
    (h : ∀ x dx, H x = none → H dx = none → dx ≠ x → sp (.ref x :: (vs ++ dvs)) (upd (upd H dx (.own x)) x (.ins C dx [])) (fun v H2 => v = .non ∧ Q (.ref x) H2) E) :
    wpAny (model X.prog X.w) X.A (call (.ref C) us) (EP X pins σ Q) X.xe s := by
  have hq := h (s.heap.objs.size + 1) s.heap.objs.size (I.hok.fresh (Nat.le_succ _)) (I.hok.fresh (Nat.le_refl _)) (Nat.ne_of_lt (Nat.lt_succ_self _))
  have I2 := Inv.made (C := C) I
  have r2 : Vals (V.ref (s.heap.objs.size + 1) :: (vs ++ dvs)) (Value.ref (s.heap.objs.size + 1) :: (us ++ ds)) := .cons rfl (r.append hd)
  have hl : (Value.ref (s.heap.objs.size + 1) :: us ++ ds).length = ps.length := by
    have e := r2.length
    rw [F.len _ _ _ _ hq] at e
    exact e.symm
  refine wpAny_call (make_map (f := f) I.kIn M.makes M.init (beq_iff_eq.mp M.fn) (codeAny_mono (F.run _ X.stack _ _ ⟨Value.ref (s.heap.objs.size + 1) :: us, []⟩ (Value.ref (s.heap.objs.size + 1) :: (us ++ ds)) _ _ E (hr.make C us [])
    (I2.env0.make C us []) (hb _ (Value.ref (s.heap.objs.size + 1) :: us) I2.kIn hl) r2 hq) fun r s' hq' => ?_))
  cases r with
  | error e => exact hx pins σ _ _ e s' I2 hq'
  | ok fl =>
    cases fl with
    | ret u =>
      obtain ⟨v, H', I3, rv, ev, q3⟩ := I2.after hq'
      subst ev
      exact ⟨rv, ⟨V.ref (s.heap.objs.size + 1), H', I3, rfl, q3⟩⟩
    | next => exact False.elim hq'
    | brk => exact False.elim hq'
    | cont => exact False.elim hq'
theorem pe_make (M : Mk X.K C f) (F : FnOk X.prog X.w X.K X.mg X.base CX k f fd ps sp) (hr : Room (k + 1) X.A) (hg : Gl X x) (hm : X.mg x = some (.ref C)) (hb : Binds X.K fd ps ds) (hd : Vals dvs ds) (hx : Passes CX X E)
    (ha : PA X (e :: es) t) (hdb : (x == ("__debug__" : Str)) = false := by decide) (he : starEach (e :: es) X.env = (false, eval e X.env) :: starEach es X.env := by rfl) (hpl : (backTo pos (starEach es X.env)).any (·.1) = false := by rfl) :
    PE X (.Call (.Name x p) (e :: es) [] pos) (tMake C sp dvs E t) := by
  intro pins s σ H Q I h
  refine wpAny_Call_Name_kw (ld_glob I hg hm ?_ hdb)
  refine PySem.W.callWith_K (h₀ := X.base) I.ok.mod.kin M.kp (thn (ha pos pins s σ H _ I h) fun us s1 ⟨vs, H1, I1, r, q⟩ => ⟨I1.kIn, ?_⟩) he hpl
  exact run_make M F hr hb hd hx I1 r q
theorem pe_make0 (M : Mk X.K C f) (F : FnOk X.prog X.w X.K X.mg X.base CX k f fd ps sp) (hr : Room (k + 1) X.A) (hg : Gl X x) (hm : X.mg x = some (.ref C)) (hb : Binds X.K fd ps ds) (hd : Vals dvs ds) (hx : Passes CX X E)
    (hdb : (x == ("__debug__" : Str)) = false := by decide) : PE X (.Call (.Name x p) [] [] pos) (tMake C sp dvs E tNil) := by
  intro pins s σ H Q I h
  refine wpAny_Call_Name_kw (ld_glob I hg hm ?_ hdb)
  exact PySem.W.callWith_K0 I.kIn M.kp (run_make (us := []) M F hr hb hd hx I .nil h)
end
section
variable {X : Cx} {CX : CXT} {k : Nat} {f C : Addr} {fd : FuncData} {ps ks : List Str} {sp : Sp} {E : XK} {x m : Str} {p pos apos kpos : Pos} {e o : Expr} {es : List Expr} {kws : List Keyword} {te ta : TE} {t tk : TA} {nm : Option Str}
structure KBinds (K : PySem.W.Frag) (fd : FuncData) (ps ks : List Str) (g : List Value → List Value → List Value) (gV : List V → List V → List V) : Prop where
  to : ∀ (s : Shared) (us ws : List Value), K.In s.heap → (g us ws).length = ps.length → BindsTo s fd ⟨us, ks.zip ws⟩ (ps.zip (g us ws))
  rel : ∀ {vs : List V} {us : List Value} {zs : List V} {ws : List Value}, Vals vs us → Vals zs ws → Vals (gV vs zs) (g us ws)
variable {g : List Value → List Value → List Value} {gV : List V → List V → List V}
end
structure FnScope (N P : List Str) (sc : Scope) : Prop where
  kind : sc.kind = .function
  co : sc.isCoroutine = false
  gen : sc.isGenerator = false
  nd : N.Nodup
  pre : N.take P.length = P
  par : ∀ x ∈ P, sc.names.lookup x = some .local ∨ sc.names.lookup x = some .cell
  nofree : ∀ y ∈ sc.names, y.2 ≠ .free
theorem bindL_out {kindOf : Str → Option NameKind} {x : Str} : ∀ {binds : List (Str × Value)} {m : Str → Option Value}, (∀ v, (x, v) ∉ binds) → bindL kindOf binds m x = m x
  | [], _, _ => rfl
  | (n, v) :: r, m, h => by
    unfold bindL
    rw [bindL_out fun w hw => h w (List.mem_cons_of_mem _ hw)]
    split
    · have : x ≠ n := by rintro rfl; exact h v List.mem_cons_self
      simp [this]
    · rfl
theorem bindC_out {kindOf : Str → Option NameKind} {x : Str} : ∀ {binds : List (Str × Value)} {m : Str → Option Value}, (∀ v, (x, v) ∉ binds) → bindC kindOf binds m x = m x
  | [], _, _ => rfl
  | (n, v) :: r, m, h => by
    unfold bindC
    rw [bindC_out fun w hw => h w (List.mem_cons_of_mem _ hw)]
    split
    · rfl
    · have : x ≠ n := by rintro rfl; exact h v List.mem_cons_self
      simp [this]
theorem bindL_get {kindOf : Str → Option NameKind} {x : Str} {v : Value} : ∀ {P : List Str} {vs : List Value} {i : Nat} {m : Str → Option Value}, P.Nodup → P[i]? = some x → vs[i]? = some v → kindOf x = some .local →
    bindL kindOf (P.zip vs) m x = some v
  | [], _, _, _, _, h, _, _ => by simp at h
  | _ :: _, [], _, _, _, _, h, _ => by simp at h
  | p :: P, w :: vs, 0, m, nd, h1, h2, hk => by
    simp at h1 h2; subst h1; subst h2
    show bindL kindOf ((p, w) :: P.zip vs) m p = _
    unfold bindL
    rw [bindL_out fun v hv => (List.nodup_cons.mp nd).1 (List.of_mem_zip hv).1, if_pos hk]
    simp
  | p :: P, w :: vs, i + 1, m, nd, h1, h2, hk => by
    show bindL kindOf ((p, w) :: P.zip vs) m x = _
    unfold bindL
    exact bindL_get (i := i) (List.nodup_cons.mp nd).2 (by simpa using h1) (by simpa using h2) hk
theorem bindC_get {kindOf : Str → Option NameKind} {x : Str} {v : Value} : ∀ {P : List Str} {vs : List Value} {i : Nat} {m : Str → Option Value}, P.Nodup → P[i]? = some x → vs[i]? = some v → kindOf x ≠ some .local →
    bindC kindOf (P.zip vs) m x = some v
  | [], _, _, _, _, h, _, _ => by simp at h
  | _ :: _, [], _, _, _, _, h, _ => by simp at h
  | p :: P, w :: vs, 0, m, nd, h1, h2, hk => by
    simp at h1 h2; subst h1; subst h2
    show bindC kindOf ((p, w) :: P.zip vs) m p = _
    unfold bindC
    rw [bindC_out fun v hv => (List.nodup_cons.mp nd).1 (List.of_mem_zip hv).1, if_neg hk]
    simp
  | p :: P, w :: vs, i + 1, m, nd, h1, h2, hk => by
    show bindC kindOf ((p, w) :: P.zip vs) m x = _
    unfold bindC
    exact bindC_get (i := i) (List.nodup_cons.mp nd).2 (by simpa using h1) (by simpa using h2) hk
def start (N : List Str) (vs : List V) : St := vs.map some ++ List.replicate (N.length - vs.length) none
def cxOf (CX : CXT) (P : Program) (w : World) (K : PySem.W.Frag) (mg : Str → Option Value) (base : Heap) (N : List Str) (qual : Str) (scope : Scope) (f : Addr) (cd : Value) (A : Around) (outer : List Env) (s : Shared) (H : Hp) (E : XK) : Cx where
  prog := P
  w := w
  K := K
  mg := mg
  base := base
  A := A.deeper (envOfC qual scope s.heap.objs.size f cd)
  N := N
  s₀ := s
  H₀ := H
  env := envOfC qual scope s.heap.objs.size f cd
  outer := outer
  stack := envOfC qual scope s.heap.objs.size f cd :: outer
  ex := []
  calm := true
  fn := fun _ => true
  pn := []
  xe := fun e s' => wpAny (model P w) (A.deeper (envOfC qual scope s.heap.objs.size f cd)) (leaving (envOfC qual scope s.heap.objs.size f cd) e) (fun _ s'' => CX outer H s E e s'') (fun e' s'' => CX outer H s E e' s'') s'
theorem cell_has {sc : Scope} {n : Nat} {x : Str} (h : sc.names.lookup x = some .cell) : ∃ c, (cellsFrom n sc.names []).lookup x = some c := by
  have q := PySem.W.cellsFrom_some sc.names n [] (.inl h)
  exact Option.isSome_iff_exists.mp q
theorem inv_start {CX : CXT} {P : Program} {w : World} {K : PySem.W.Frag} {mg : Str → Option Value} {base : Heap} {N ps : List Str} {qual : Str} {scope : Scope} {f : Addr} {cd : Value} {A : Around} {outer : List Env} {s s1 : Shared} {H : Hp} {E : XK} {us : List Value} {vs : List V}
    (S : FnScope N ps scope) (hd : A.handled = none) (e0 : Env0 P w K mg base A outer s H) (hl : vs.length = ps.length) (r : Vals vs us)
    (x : InCallC s s.heap.objs.size (bindL (envOfC qual scope s.heap.objs.size f cd).kindOf (ps.zip us) fun _ => none) (cellsFrom (s.heap.objs.size + 1) scope.names []) (bindC (envOfC qual scope s.heap.objs.size f cd).kindOf (ps.zip us) fun _ => none) s1) :
    Inv (cxOf CX P w K mg base N qual scope f cd A outer s H E) [] (start N vs) H s1 := by
  have hpl : ps.length ≤ N.length := by have := congrArg List.length S.pre; rw [List.length_take] at this; omega
  obtain ⟨h1, tk, rfl, hk⟩ := x.done
  have noA : ∀ b : Addr, b ∉ (cxOf CX P w K mg base N qual scope f cd A outer s H E).ex := fun b z => absurd (show b ∈ ([] : List Addr) from z) (by simp)
  refine ⟨⟨e0.mod, S.kind, rfl, rfl, Nat.le_refl _, fun y z c h1 h2 => ?_, fun y hy => ?_, fun y c _ h => ?_, fun _ => hd, Around.frames_deeper e0.frames, .inr ⟨rfl, rfl⟩, fun b z => absurd z (noA b), e0.bs, e0.bsz, fun b _ _ => noA b, fun b z => absurd z (noA b), e0.funs, e0.frf⟩,
    rfl, e0.bare, Un.kept hk, ⟨_, x.toInCall.ns, fun i y v h1 h2 h3 => ?_⟩, fun y c h => ⟨_, x.cell y c h⟩, e0.hok.fresh (Nat.le_refl _), fun y c h => ?_, fun p hp => absurd (show p ∈ ([] : List (Addr × Obj)) from hp) (by simp), e0.hok.kept hk, ?_⟩
  · exact name_of_addr x.apart (PySem.mem_of_lookup h1) (PySem.mem_of_lookup h2)
  · have hy : scope.names.lookup y = some .cell ∨ scope.names.lookup y = some .free := hy
    rcases hy with hy | hy
    · exact cell_has hy
    · exact absurd rfl (S.nofree _ (PySem.mem_of_lookup hy))
  · exact Nat.le_of_lt (x.above y c (PySem.mem_of_lookup h))
  · have hi : i < vs.length := by
      unfold start at h2
      by_cases hi : i < vs.length
      · exact hi
      · rw [List.getElem?_append_right (by simpa using hi)] at h2
        rw [List.getElem?_replicate] at h2
        split at h2 <;> cases h2
    have ha : vs[i]? = some v := by
      unfold start at h2
      rw [List.getElem?_append_left (by simpa using hi), List.getElem?_map] at h2
      cases e : vs[i]? with
      | none => rw [e] at h2; cases h2
      | some a => rw [e] at h2; cases h2; rfl
    obtain ⟨u, hu, rv⟩ := r.get ha
    have hp : ps[i]? = some y := by
      rw [← S.pre, List.getElem?_take_of_lt (by omega)]; exact h1
    have ndP : ps.Nodup := by rw [← S.pre]; exact S.nd.sublist (List.take_sublist _ _)
    refine ⟨u, rv, ?_⟩
    rcases S.par y (List.mem_of_getElem? hp) with k | k
    · exact .inl ⟨k, bindL_get ndP hp hu k⟩
    · obtain ⟨c, e⟩ := cell_has (n := s.heap.objs.size + 1) k
      refine .inr ⟨.inl k, c, e, ?_⟩
      have q := x.cell y c e
      rw [bindC_get ndP hp hu (by show scope.names.lookup y ≠ _; rw [k]; decide)] at q
      exact q
  · exact e0.hok.fresh (Nat.le_of_lt (x.above y c (PySem.mem_of_lookup h)))
  · unfold start
    show _ = N.length
    rw [List.length_append, List.length_map, List.length_replicate]
    omega
theorem fn_of {CX : CXT} {P : Program} {w : World} {K : PySem.W.Frag} {mg : Str → Option Value} {base : Heap} {k : Nat} {f : Addr} {name qual : Str} {params : Arguments} {body : List Stmt} {scope : Scope} {dV kV doc pm cdv ct oc : Value} {an od : Option Addr}
    {osl : Array (Option Value)} {N ps : List Str} {sp : Sp} (lk : K.lookup f = some ⟨oc, od, .func (PySem.W.fnOf name qual params body scope dV kV doc pm an cdv ct), osl⟩) (hcd : PySem.W.codeIn K cdv qual = true) (S : FnScope N ps scope)
    (len : ∀ vs H Q E, sp vs H Q E → vs.length = ps.length)
    (hbody : ∀ (A : Around) (outer : List Env) (s : Shared) (H : Hp) (vs : List V) (Q : VK) (E : XK), Room k (A.deeper (envOfC qual scope s.heap.objs.size f cdv)) → sp vs H Q E →
      ∃ t, PSs (cxOf CX P w K mg base N qual scope f cdv A outer s H E) body t ∧ t { nx := fun _ H' => Q .non H', rt := Q } (start N vs) H) :
    FnOk P w K mg base CX (k + 1) f (PySem.W.fnOf name qual params body scope dV kV doc pm an cdv ct) ps sp := by
  refine ⟨len, fun A outer s H args us vs Q E hr e0 hb r hsp => ?_⟩
  have hl := len _ _ _ _ hsp
  have KX : K.In s.heap := e0.mod.kin.keeps fun b o e => (e0.bs b o e).1
  have lim : s.heap.NoLimit := e0.mod.nolimit.keeps fun b o e => (e0.bs b o e).1
  have hkind : ∀ y ∈ ps.zip us, scope.names.lookup y.1 = some .local ∨ (scope.names.lookup y.1 = some .cell ∧ ((cellsFrom (s.heap.objs.size + 1) scope.names []).lookup y.1).isSome = true) := fun ⟨n, v⟩ hy => by
    rcases S.par n (List.of_mem_zip hy).1 with q | q
    · exact .inl q
    · exact .inr ⟨q, PySem.W.cellsFrom_some _ _ _ (.inl q)⟩
  refine codeAny_call_function hr.depth (KX _ _ lk) rfl S.co S.gen rfl (PySem.W.codeRec_of KX hcd) (hb _ _ _ _ ?_)
  refine wpAny_newFunctionEnv_cells S.kind hkind fun env he s1 x => ?_
  subst he
  refine ⟨lim.keeps x.toInCall.keep, codeAny_func ?_⟩
  obtain ⟨t, ht, hq⟩ := hbody A outer s H vs Q E (hr.deeper _) hsp
  have I : Inv (cxOf CX P w K mg base N qual scope f cdv A outer s H E) [] (start N vs) H s1 := inv_start S hr.hd e0 hl r x
  refine wpAny_mono (ht [] s1 (start N vs) H _ I hq) (fun fl s' hs => ?_) fun e s' hs => hs
  have fin : ∀ {σ' : St} {H' : Hp} {v : V} {u : Value}, Inv (cxOf CX P w K mg base N qual scope f cdv A outer s H E) [] σ' H' s' → RelV v u → Q v H' → CE outer P w H s Q u s' :=
    fun {σ' H' v u} J rv q => ⟨v, H', J.os, J.bare, J.base, J.hok, rv, q⟩
  cases fl with
  | ret u =>
    obtain ⟨v, σ', H', J, rv, q⟩ := hs
    exact fin J rv q
  | next =>
    obtain ⟨σ', H', J, q⟩ := hs
    exact fin (v := V.non) (u := Value.none) J rfl q
  | brk =>
    obtain ⟨_, _, _, q⟩ := hs
    exact False.elim q
  | cont =>
    obtain ⟨_, _, _, q⟩ := hs
    exact False.elim q
end L2
namespace L2
open PySem PySem.Spec PyProof.Rows
section
variable {X : Cx} {x : Str} {p pos : Pos} {e : Expr} {es : List Expr} {t : TA} {id T : String} {r : List V → Hp → VK → Prop}
def tCB (r : List V → Hp → VK → Prop) (t : TA) : TE := fun σ H Q => t σ H fun vs H1 => r vs H1 Q
theorem pe_callB (hc : CallR X (.builtin id) r) (hg : Gl X x) (hm : X.mg x = none) (hv : bootBuiltins x = some (.builtin id)) (ha : PA X (e :: es) t) (hn : x ≠ "__name__" := by decide) (hdb : (x == ("__debug__" : Str)) = false := by decide)
    (he : starEach (e :: es) X.env = (false, eval e X.env) :: starEach es X.env := by rfl) (hpl : (backTo pos (starEach es X.env)).any (·.1) = false := by rfl) : PE X (.Call (.Name x p) (e :: es) [] pos) (tCB r t) := by
  intro pins s σ H Q I h
  refine wpAny_Call_Name_kw (ld_blt I hg hm hv ?_ hn hdb)
  exact PyProof.Rows.callWith_builtin1 (thn (ha pos pins s σ H _ I h) fun us s1 ⟨vs, H1, I1, r1, q1⟩ => hc pins s1 σ H1 vs us Q I1 r1 q1) he hpl
theorem pe_callTy (hc : CallR X (.type T) r) (hg : Gl X x) (hm : X.mg x = none) (hv : bootBuiltins x = some (.type T)) (ha : PA X (e :: es) t) (hn : x ≠ "__name__" := by decide) (hdb : (x == ("__debug__" : Str)) = false := by decide)
    (he : starEach (e :: es) X.env = (false, eval e X.env) :: starEach es X.env := by rfl) (hpl : (backTo pos (starEach es X.env)).any (·.1) = false := by rfl) : PE X (.Call (.Name x p) (e :: es) [] pos) (tCB r t) := by
  intro pins s σ H Q I h
  refine wpAny_Call_Name_kw (ld_blt I hg hm hv ?_ hn hdb)
  exact PyProof.Rows.callWith_type1 (thn (ha pos pins s σ H _ I h) fun us s1 ⟨vs, H1, I1, r1, q1⟩ => hc pins s1 σ H1 vs us Q I1 r1 q1) he hpl
end
end L2
namespace HT
open PySem PyProof.Rows
section
open PySem.SeqAt
open PySem.AutoSeq1 (wpAny_loadPart')
open PySem.MeetsSeq PySem.MeetsSeq2 PySem.MeetsSeq3
end
section
variable {prog : Program} {w : World} {A : Around} {E : Value → Shared → Prop} {s : Shared}
def sIx (n d : Nat) : Option Int → Nat
  | none => d
  | some v => if v < 0 then (v + (n : Int)).toNat else min v.toNat n
theorem sIx_none (n d : Nat) : sIx n d none = d := rfl
theorem sIx_nat (n d k : Nat) : sIx n d (some (k : Int)) = min k n := by
  show (if (k : Int) < 0 then ((k : Int) + (n : Int)).toNat else min (k : Int).toNat n) = min k n
  rw [if_neg (by omega), Int.toNat_natCast]
theorem sIx_le (n d : Nat) (hd : d ≤ n) (o : Option Int) : sIx n d o ≤ n := by
  cases o with
  | none => exact hd
  | some v =>
    show (if v < 0 then (v + (n : Int)).toNat else min v.toNat n) ≤ n
    by_cases hv : v < 0
    · rw [if_pos hv]; omega
    · rw [if_neg hv]; exact Nat.min_le_right _ _
theorem clip_eq (v : Int) (n d : Nat) : (if v < 0 then max (v + (n : Int)) 0 else min v (n : Int)) = ((sIx n d (some v) : Nat) : Int) := by
  show (if v < 0 then max (v + (n : Int)) 0 else min v (n : Int)) = (((if v < 0 then (v + (n : Int)).toNat else min v.toNat n) : Nat) : Int)
  by_cases hv : v < 0
  · simp only [if_pos hv]; omega
  · simp only [if_neg hv]; omega
theorem adjust_gen (lo hi : Option Int) (n : Nat) : Builtin.Slice.sliceAdjust lo hi 1 (n : Int) = (((sIx n 0 lo : Nat) : Int), ((sIx n n hi : Nat) : Int)) := by
  have h1 : ¬ ((1 : Int) < 0) := by omega
  unfold Builtin.Slice.sliceAdjust
  simp only [h1, if_false]
  refine Prod.ext ?_ ?_
  · cases lo with
    | none => rfl
    | some v => exact clip_eq v n 0
  · cases hi with
    | none => rfl
    | some v => exact clip_eq v n n
theorem places_gen (i j : Nat) : Builtin.Slice.slicePlaces (i : Int) (j : Int) 1 = j - i := by
  unfold Builtin.Slice.slicePlaces
  have h1 : (1 : Int) > 0 := by omega
  simp only [h1, if_true, Int.ediv_one]
  split <;> omega
theorem slicePart_ {v : Value} {o : Option Int} {Q : Option Int → Shared → Prop} (p : IsPart v o) (h : Q o s) : wpAny (model prog w) A (Builtin.Slice.slicePartIndex v) Q E s := by
  cases p with
  | none => exact slicePart_none h
  | int i t => exact slicePart_int h
theorem sliceApplied_gen {sl : Addr} {vl vu : Value} {lo hi : Option Int} {n : Nat} {Q : Int × Int × Nat → Shared → Prop} (hs : s.heap.IsSliceOf sl vl vu .none) (pl : IsPart vl lo) (pu : IsPart vu hi)
    (h : Q (((sIx n 0 lo : Nat) : Int), 1, sIx n n hi - sIx n 0 lo) s) : wpAny (model prog w) A (Builtin.Slice.sliceApplied (.ref sl) (pure (n : Int))) Q E s := by
  obtain ⟨os, hos, hcs, hds⟩ := id hs
  unfold Builtin.Slice.sliceApplied Builtin.Slice.sliceFields
  refine wpAny_bind (wpAny_bind (wpAny_field hos hds (x := vl) rfl (wpAny_bind (wpAny_field hos hds (x := vu) rfl (wpAny_bind (wpAny_field hos hds (x := .none) rfl (wpAny_pure ?_)))))))
  refine wpAny_bind (slicePart_none ?_)
  show wpAny _ _ (if ((1 : Int) == 0) = true then _ else _) _ _ s
  rw [if_neg (by decide)]
  refine wpAny_bind (slicePart_ pl (wpAny_bind (slicePart_ pu (wpAny_bind (wpAny_pure ?_)))))
  show wpAny _ _ (match Builtin.Slice.sliceAdjust lo hi 1 (n : Int) with | (lo, hi) => pure (lo, (1 : Int), Builtin.Slice.slicePlaces lo hi 1)) _ _ s
  rw [adjust_gen lo hi n]
  show wpAny _ _ (pure (((sIx n 0 lo : Nat) : Int), (1 : Int), Builtin.Slice.slicePlaces ((sIx n 0 lo : Nat) : Int) ((sIx n n hi : Nat) : Int) 1)) _ _ s
  rw [places_gen]
  exact wpAny_pure h
theorem pick_gen (xs : Array Value) (i k : Nat) : ((List.range k).filterMap fun (m : Nat) => xs[((i : Int) + (m : Int) * 1).toNat]?).toArray = ((xs.toList.drop i).take k).toArray := by
  have e : (fun (m : Nat) => xs[((i : Int) + (m : Int) * 1).toNat]?) = fun m => xs[i + m]? := by
    funext m
    have : ((i : Int) + (m : Int) * 1).toNat = i + m := by omega
    rw [this]
  rw [e]
  have := pick_run xs i k
  rw [List.filterMap_map] at this
  have e2 : ((fun x => xs[x]?) ∘ fun x => i + x) = fun m => xs[i + m]? := rfl
  rw [e2] at this
  rw [this]
theorem getItem_tuple_cut {t sl : Addr} {items : Array Value} {vl vu : Value} {lo hi : Option Int} {Q : Value → Shared → Prop} (ht : IsTup s.heap t items) (hs : s.heap.IsSliceOf sl vl vu .none) (pl : IsPart vl lo) (pu : IsPart vu hi)
    (hw : ¬ (sIx items.size 0 lo = 0 ∧ sIx items.size items.size hi = items.size))
    (h : Q (.ref s.heap.objs.size) { s with heap := s.heap.push { cls := .type "tuple", data := .seq ((items.toList.drop (sIx items.size 0 lo)).take (sIx items.size items.size hi - sIx items.size 0 lo)).toArray } })
    (hsz : items.size ≤ sizeLine) : wpAny (model prog w) A (getItem (.ref t) (.ref sl)) Q E s := by
  have htake : sizeOk (.seq ((items.toList.drop (sIx items.size 0 lo)).take (sIx items.size items.size hi - sIx items.size 0 lo)).toArray) := by
    show ((items.toList.drop (sIx items.size 0 lo)).take (sIx items.size items.size hi - sIx items.size 0 lo)).toArray.size ≤ sizeLine
    rw [List.size_toArray, List.length_take, List.length_drop, Array.length_toList]
    omega
  have hj : sIx items.size items.size hi ≤ items.size := sIx_le _ _ (Nat.le_refl _) hi
  obtain ⟨os, hos, hcs, hds⟩ := id hs
  have hTs : s.TypeIs (.ref sl) "slice" := ⟨os, hos, hcs⟩
  unfold getItem
  try with_reducible refine wpAny_holding ?_
  first | refine wpAny_bind (wpAny_pure ?_) | skip
  refine wpAny_bind (wpAny_sequenceKey ht.typeIs (by decide) ?_)
  refine wpAny_bind (wpAny_callSpecial?_slot (name := Str.ofString "__getitem__") ht.typeIs PyProof.Rows.slot_tuple_getitem
    (wpAny_call_entry PyProof.Rows.slot_tuple_getitem ht.typeIs entry_tuple_getitem ?_ (args_tuple_getitem _ _)))
  show wpAny _ _ (Builtin.Tuple.tupleItemsOf (.ref t) >>= _) _ _ s
  refine wpAny_bind (tupleItemsOf_ ht ?_)
  refine wpAny_bind (wpAny_typeOf hTs ?_)
  rw [if_pos (by decide)]
  refine wpAny_bind (sliceApplied_gen hs pl pu ?_)
  have hno : ¬ ((((sIx items.size 0 lo : Nat) : Int) == 0 && (1 : Int) == 1 && (sIx items.size items.size hi - sIx items.size 0 lo) == items.size) = true) := by
    intro q
    rw [Bool.and_eq_true, Bool.and_eq_true] at q
    have q1 : ((sIx items.size 0 lo : Nat) : Int) = 0 := eq_of_beq q.1.1
    have q2 : sIx items.size items.size hi - sIx items.size 0 lo = items.size := eq_of_beq q.2
    exact hw ⟨by omega, by omega⟩
  show wpAny _ _ (if (((sIx items.size 0 lo : Nat) : Int) == 0 && (1 : Int) == 1 && (sIx items.size items.size hi - sIx items.size 0 lo) == items.size) = true then _ else _) _ _ s
  rw [if_neg hno, pick_gen]
  first
    | exact wpAny_bind (m := Builtin.Tuple.tupleExact _) (wpAny_newObj_type (wpAny_pure ⟨_, rfl, wpAny_pure h⟩) htake)
    | exact wpAny_bind (m := Builtin.Tuple.tupleExact _) (wpAny_newObj_type (wpAny_bind (wpAny_pure (wpAny_pure ⟨_, rfl, wpAny_pure h⟩))) htake)
    | exact wpAny_bind (wpAny_bind (m := Builtin.Tuple.tupleExact _) (wpAny_newObj_type (wpAny_pure (wpAny_pure ⟨_, rfl, wpAny_pure h⟩)) htake))
    | exact wpAny_bind (wpAny_bind (m := Builtin.Tuple.tupleExact _) (wpAny_newObj_type (wpAny_pure ⟨_, rfl, wpAny_pure h⟩) htake))
end
end HT
namespace L2
open PySem PySem.Spec PyProof.Rows
abbrev TO := St → Hp → (Option Int → Hp → Prop) → Prop
def PO (X : Cx) (e : Option Expr) (t : TO) : Prop :=
  ∀ (pins : List (Addr × Obj)) (s : Shared) (σ : St) (H : Hp) (Q : Option Int → Hp → Prop), Inv X pins σ H s → t σ H Q →
    wpAny (model X.prog X.w) X.A (evalPart e X.env) (fun u s' => ∃ o H', Inv X pins σ H' s' ∧ IsPart u o ∧ Q o H') X.xe s
def tNoPart : TO := fun _ H Q => Q none H
def tPart (t : TE) : TO := fun σ H Q => t σ H fun x H1 => ∃ i, x = .int i ∧ Q (some i) H1
section
variable {X : Cx} {e : Expr} {te : TE} {lo hi : Option Expr} {tl th : TO} {pos p2 : Pos}
theorem po_none : PO X none tNoPart := by
  intro pins s σ H Q I h
  rw [evalPart_none]
  exact wpAny_pure ⟨none, H, I, .none, h⟩
theorem po_some (h : PE X e te) : PO X (some e) (tPart te) := by
  intro pins s σ H Q I hw
  rw [evalPart_some]
  refine thn (h pins s σ H _ I hw) fun u s1 ⟨x, H1, I1, r1, q1⟩ => ?_
  obtain ⟨i, rfl, q⟩ := q1
  obtain ⟨t, rfl⟩ := r1
  exact ⟨some i, H1, I1, .int i t, q⟩
def SlR (X : Cx) (r : V → Option Int → Option Int → Hp → VK → Prop) : Prop :=
  ∀ (pins : List (Addr × Obj)) (s : Shared) (σ : St) (H : Hp) (x : V) (v vl vu : Value) (lo hi : Option Int) (sl : Addr) (Q : VK), Inv X pins σ H s → RelV x v → s.heap.IsSliceOf sl vl vu .none → IsPart vl lo → IsPart vu hi → r x lo hi H Q →
    ∃ T id, typeLookup (.type T) "__getitem__" = pure (some (.builtin id)) ∧ s.TypeIs v T ∧ wpAny (model X.prog X.w) X.A (getItem v (.ref sl)) (EP X pins σ Q) X.xe s
theorem SlR.or {r r' : V → Option Int → Option Int → Hp → VK → Prop} (h : SlR X r) (h' : SlR X r') : SlR X (fun x lo hi H Q => r x lo hi H Q ∨ r' x lo hi H Q) := by
  intro pins s σ H x v vl vu lo hi sl Q I rx hs pl pu q
  rcases q with q | q
  · exact h pins s σ H x v vl vu lo hi sl Q I rx hs pl pu q
  · exact h' pins s σ H x v vl vu lo hi sl Q I rx hs pl pu q
def tSl (r : V → Option Int → Option Int → Hp → VK → Prop) (te : TE) (tl th : TO) : TE := fun σ H Q => te σ H fun x H1 => tl σ H1 fun l H2 => th σ H2 fun u H3 => r x l u H3 Q
theorem pe_slice {r : V → Option Int → Option Int → Hp → VK → Prop} (hr : SlR X r) (he : PE X e te) (hl : PO X lo tl) (hu : PO X hi th) : PE X (.Subscript e (.Slice lo hi none p2) pos) (tSl r te tl th) := by
  intro pins s σ H Q I h
  refine Subscript_ (thn (he pins s σ H _ I h) fun v s1 ⟨x, H1, I1, r1, q1⟩ => ?_)
  refine wpAny_Slice (thn (hl pins s1 σ H1 _ I1 q1) fun vl s2 ⟨l, H2, I2, pl, q2⟩ => thn (hu pins s2 σ H2 _ I2 q2) fun vu s3 ⟨u, H3, I3, pu, q3⟩ => ?_)
  rw [evalPart_none]
  refine wpAny_pure ?_
  have I4 : Inv X pins σ H3 { s3 with heap := s3.heap.push { cls := .type "slice", data := .fields #[vl, vu, .none] } } := I3.kept (t' := s3.toks) fun b ob q => Heap.get?_push_of_some _ q
  obtain ⟨T, id, hT, ht, hg⟩ := hr pins { s3 with heap := s3.heap.push { cls := .type "slice", data := .fields #[vl, vu, .none] } } σ H3 x v vl vu l u s3.heap.objs.size Q I4 r1 (Heap.IsSliceOf.new ..) pl pu q3
  show wpAny (model X.prog X.w) X.A (subscriptTail e (.Slice lo hi none p2) v (.ref s3.heap.objs.size)) (EP X pins σ Q) X.xe { s3 with heap := s3.heap.push { cls := .type "slice", data := .fields #[vl, vu, .none] } }
  exact tail_any (ops := [.ref s3.heap.objs.size, v]) ht hT hg (by with_unfolding_all rfl)
def cutV (xs : List V) (lo hi : Option Int) : List V := (xs.drop (HT.sIx xs.length 0 lo)).take (HT.sIx xs.length xs.length hi - HT.sIx xs.length 0 lo)
theorem cutV_length (xs : List V) (lo hi : Option Int) : (cutV xs lo hi).length ≤ xs.length := by
  unfold cutV
  rw [List.length_take, List.length_drop]
  omega
def rSlT (K : PySem.W.Frag) : V → Option Int → Option Int → Hp → VK → Prop := fun x lo hi H Q => ∃ a xs, x = .ref a ∧ SqT K H a xs ∧
  ¬ (HT.sIx xs.length 0 lo = 0 ∧ HT.sIx xs.length xs.length hi = xs.length) ∧ ∀ p, H p = none → Q (.ref p) (upd H p (.tup (cutV xs lo hi)))
theorem sl_tup : SlR X (rSlT X.K) := by
  intro pins s σ H x v vl vu lo hi sl Q I rx hs pl pu h
  obtain ⟨a, xs, rfl, hx, hw, q⟩ := h
  cases rx
  obtain ⟨its, r, ht, hz⟩ := I.tuple hx
  have hlen : its.toArray.size = xs.length := by rw [List.size_toArray]; exact r.length.symm
  refine ⟨"tuple", _, PyProof.Rows.slot_tuple_getitem.lookup, ht.typeIs, ?_⟩
  refine HT.getItem_tuple_cut ht hs pl pu (by rw [hlen]; exact hw) ?_ (by rw [hlen]; exact hz)
  rw [hlen]
  refine ⟨.ref s.heap.objs.size, _, I.laid (t' := s.toks) (o := .tup (cutV xs lo hi)) (fun b ob q => Heap.get?_push_of_some _ q) (Nat.le_refl _) ?_, rfl, q _ (I.hok.fresh (Nat.le_refl _))⟩
  exact ⟨Nat.le_trans (cutV_length xs lo hi) hz, _, (r.drop (HT.sIx xs.length 0 lo)).take (HT.sIx xs.length xs.length hi - HT.sIx xs.length 0 lo), IsTup.new _ _⟩
end
end L2
namespace L2
open PySem PySem.Spec PyProof.Rows
def ixN (n : Nat) (i : Int) : Option Nat := if 0 ≤ i then (if i < n then some i.toNat else none) else if -(n : Int) ≤ i then some (i + n).toNat else none
def atI {α : Type} (xs : List α) (i : Int) : Option α := (ixN xs.length i).bind fun j => xs[j]?
theorem ixN_seq {n : Nat} {i : Int} {j : Nat} (h : ixN n i = some j) : seqIndex? i n = some j ∧ j < n ∧ -(n : Int) ≤ i ∧ i < n := by
  unfold ixN at h
  by_cases h0 : 0 ≤ i
  · rw [if_pos h0] at h
    by_cases h1 : i < n
    · rw [if_pos h1] at h
      have e : i.toNat = j := Option.some.inj h
      exact ⟨by rw [seqIndex_of h0 h1, e], by omega, by omega, h1⟩
    · rw [if_neg h1] at h; cases h
  · rw [if_neg h0] at h
    by_cases h1 : -(n : Int) ≤ i
    · rw [if_pos h1] at h
      have e : (i + n).toNat = j := Option.some.inj h
      exact ⟨by rw [seqIndex_neg (by omega) h1, e], by omega, h1, by omega⟩
    · rw [if_neg h1] at h; cases h
theorem atI_get {α : Type} {xs : List α} {i : Int} {v : α} (h : atI xs i = some v) : ∃ j, seqIndex? i xs.length = some j ∧ xs[j]? = some v ∧ j < xs.length ∧ -(xs.length : Int) ≤ i ∧ i < xs.length := by
  unfold atI at h
  cases e : ixN xs.length i with
  | none => rw [e] at h; cases h
  | some j =>
    rw [e] at h
    obtain ⟨h1, h2, h3, h4⟩ := ixN_seq e
    exact ⟨j, h1, h, h2, h3, h4⟩
theorem atI_nat {α : Type} {xs : List α} {j : Nat} {v : α} (h : xs[j]? = some v) : atI xs (j : Int) = some v := by
  have hj : j < xs.length := (List.getElem?_eq_some_iff.mp h).1
  have e : ixN xs.length (j : Int) = some j := by
    unfold ixN
    rw [if_pos (by omega), if_pos (by omega)]; simp
  unfold atI; rw [e]; exact h
def PlainIx (b : Expr) : Prop := ∀ o i, subscripted b false o i = operate [o, i] (getItem o i)
def IxR (X : Cx) (r : R2) : Prop :=
  ∀ (value slice : Expr) (pins : List (Addr × Obj)) (s : Shared) (σ : St) (H : Hp) (x y : V) (v u : Value) (Q : VK), Inv X pins σ H s → RelV x v → RelV y u → r x y H Q →
    subscripted slice false v u = operate [v, u] (getItem v u) → wpAny (model X.prog X.w) X.A (subscriptTail value slice v u) (EP X pins σ Q) X.xe s
def MtR (X : Cx) (id : String) (r : V → List V → Hp → VK → Prop) : Prop :=
  ∀ (pins : List (Addr × Obj)) (s : Shared) (σ : St) (H : Hp) (x : V) (xs : List V) (v : Value) (us : List Value) (Q : VK), Inv X pins σ H s → RelV x v → Vals xs us → r x xs H Q →
    wpAny (model X.prog X.w) X.A (call (.builtin id) (v :: us)) (EP X pins σ Q) X.xe s
section
variable {X : Cx} {a b : Expr} {ta tb : TE} {pos : Pos}
theorem IxR.or {r r' : R2} (h : IxR X r) (h' : IxR X r') : IxR X (fun x y H Q => r x y H Q ∨ r' x y H Q) := by
  intro value slice pins s σ H x y v u Q I rx ry q hs
  rcases q with q | q
  · exact h value slice pins s σ H x y v u Q I rx ry q hs
  · exact h' value slice pins s σ H x y v u Q I rx ry q hs
theorem pe_ix {r : R2} (hr : IxR X r) (ha : PE X a ta) (hb : PE X b tb) (hs : PlainIx b) : PE X (.Subscript a b pos) (tOp r ta tb) := by
  intro pins s σ H Q I h
  exact Subscript_ (binT ha hb I h fun v u s2 x y H2 I2 rx ry q => hr a b pins s2 σ H2 x y v u Q I2 rx ry q (hs _ _))
def rIxL (K : PySem.W.Frag) : R2 := fun x y H Q => ∃ p xs i v, x = .ref p ∧ y = .int i ∧ SqL K H p xs ∧ atI xs i = some v ∧ Q v H
def rIxT (K : PySem.W.Frag) : R2 := fun x y H Q => ∃ p xs i v, x = .ref p ∧ y = .int i ∧ SqT K H p xs ∧ atI xs i = some v ∧ Q v H
def rIxS : R2 := fun x y H Q => ∃ z i c, x = .str z ∧ y = .int i ∧ z.length ≤ sizeLine ∧ atI z.cps.toList i = some c ∧ Q (.str ⟨#[c]⟩) H
theorem ix_list : IxR X (rIxL X.K) := by
  intro value slice pins s σ H x y v u Q I rx ry h hs
  obtain ⟨p, xs, i, z, rfl, rfl, hq, he, q⟩ := h
  cases rx
  obtain ⟨t, rfl⟩ := ry
  obtain ⟨its, r, pl, hz⟩ := I.list hq
  obtain ⟨j, h1, h2, h3, h4, h5⟩ := atI_get he
  obtain ⟨w, ew, rw'⟩ := r.get h2
  have hl := r.length
  have hn := line63
  have fin : EP X pins σ Q w s := ⟨z, H, I, rw', q⟩
  by_cases h0 : 0 ≤ i
  · have hj : i.toNat = j := by
      rw [seqIndex_of h0 h5] at h1
      exact Option.some.inj h1
    exact item_listR pl.isList h0 (by omega) (by rw [hj]; simpa using ew) fin hs
  · have hj : (i + (its.toArray.size : Int)).toNat = j := by
      rw [seqIndex_neg (by omega) h4] at h1
      rw [List.size_toArray, ← hl]
      exact Option.some.inj h1
    exact subscriptTail_builtinR (x := w) pl.isList.typeIs slot_list_getitem.lookup
      (wpAny_getItem_list_neg (Q := fun r s' => r = w ∧ EP X pins σ Q r s') pl.isList (by omega) (by rw [List.size_toArray] <;> omega) (by omega) (by rw [hj]; simpa using ew) ⟨rfl, fin⟩) hs
theorem ix_tup : IxR X (rIxT X.K) := by
  intro value slice pins s σ H x y v u Q I rx ry h hs
  obtain ⟨p, xs, i, z, rfl, rfl, hq, he, q⟩ := h
  cases rx
  obtain ⟨t, rfl⟩ := ry
  obtain ⟨its, r, pl, hz⟩ := I.tuple hq
  obtain ⟨j, h1, h2, h3, h4, h5⟩ := atI_get he
  obtain ⟨w, ew, rw'⟩ := r.get h2
  have hl := r.length
  have hn := line63
  have fin : EP X pins σ Q w s := ⟨z, H, I, rw', q⟩
  exact subscriptTail_builtinR (x := w) pl.typeIs slot_tuple_getitem.lookup
    (getItem_tuple (j := j) (Q := fun r s' => r = w ∧ EP X pins σ Q r s') pl (by omega) (by omega) (by rw [List.size_toArray, ← hl]; exact h1) (by simpa using ew) ⟨rfl, fin⟩) hs
theorem ix_str : IxR X rIxS := by
  intro value slice pins s σ H x y v u Q I rx ry h hs
  obtain ⟨z, i, c, rfl, rfl, hz, he, q⟩ := h
  obtain ⟨t, rfl⟩ := rx
  obtain ⟨t', rfl⟩ := ry
  obtain ⟨j, h1, h2, h3, h4, h5⟩ := atI_get he
  have hl : z.cps.toList.length = z.length := by simp [Str.length]
  rw [hl] at h1 h4 h5
  have hn := line63
  exact tail_any (typeIs_str s z t) slot_str_getitem.lookup (getItem_str (c := c) (by
    have e1 : decide (i < -(2 ^ 63 : Int)) = false := decide_eq_false (by omega)
    have e2 : decide (i ≥ 2 ^ 63) = false := decide_eq_false (by omega)
    rw [e1, e2, Bool.or_false]) (by rw [h1]; simpa using h2) ⟨.str ⟨#[c]⟩, H, I.tok _, ⟨_, rfl⟩, q⟩) hs
def rIx (K : PySem.W.Frag) : R2 := fun x y H Q => rIxL K x y H Q ∨ rIxT K x y H Q ∨ rIxS x y H Q
theorem ix_seq : IxR X (rIx X.K) := ix_list.or (ix_tup.or ix_str)
theorem mapSeq_set (its : List Value) (n j : Nat) (u : Value) : Obj.mapSeq (·.setIfInBounds j u) { cls := .type "list", data := .seq its.toArray n } = { cls := .type "list", data := .seq (its.set j u).toArray n } := by
  simp [Obj.mapSeq]
theorem Inv.lst {pins : List (Addr × Obj)} {σ : St} {H : Hp} {s : Shared} {p : Addr} {xs : List V} (I : Inv X pins σ H s) (h : H p = some (.lst xs)) :
    ∃ (its : List Value) (n : Nat), Vals xs its ∧ s.heap.get? p = some { cls := .type "list", data := .seq its.toArray n } ∧ xs.length ≤ sizeLine := by
  obtain ⟨z, its, n, r, e⟩ := I.hok p _ h
  exact ⟨its, n, r, e, z⟩
theorem Inv.lstUpd {pins : List (Addr × Obj)} {σ : St} {H : Hp} {s : Shared} {p : Addr} {xs ys : List V} {its its' : List Value} {n n' : Nat} {f : Obj → Obj} (I : Inv X pins σ H s) (h : H p = some (.lst xs))
    (ho : s.heap.get? p = some { cls := .type "list", data := .seq its.toArray n }) (hf : f { cls := .type "list", data := .seq its.toArray n } = { cls := .type "list", data := .seq its'.toArray n' }) (r : Vals ys its') (hz : ys.length ≤ sizeLine) (t : Nat) :
    Inv X pins σ (upd H p (.lst ys)) { s with heap := s.heap.update p f, toks := t } := by
  have e : (s.heap.update p f).get? p = some { cls := .type "list", data := .seq its'.toArray n' } := by
    rw [Heap.get?_update_self f ho (by rw [hf] <;> rfl), hf]
  refine I.write (x := p) (e := p) (by rw [h]; trivial) (.inl rfl) (fun b u hb q => (Heap.get?_update_other _ _ (Ne.symm hb)).trans q) ⟨_, e⟩ ?_
  exact ⟨hz, its', n', r, e⟩
def rSetL : V → V → V → Hp → (Hp → Prop) → Prop := fun o i v H Q => ∃ p xs k j, o = .ref p ∧ i = .int k ∧ H p = some (.lst xs) ∧ ixN xs.length k = some j ∧ Q (upd H p (.lst (xs.set j v)))
theorem set_list : PSet X rSetL := by
  intro pins s σ H o i v ov iv u Q I ro ri rv h
  obtain ⟨p, xs, k, j, rfl, rfl, hp, hj, q⟩ := h
  cases ro
  obtain ⟨t, rfl⟩ := ri
  obtain ⟨its, n, r, ho, hz⟩ := I.lst hp
  obtain ⟨h1, h2, h3, h4⟩ := ixN_seq hj
  have hl := r.length
  have hn := line63
  have I' : Inv X pins σ (upd H p (.lst (xs.set j v))) { s with heap := s.heap.update p (Obj.mapSeq (·.setIfInBounds j u)) } :=
    I.lstUpd hp ho (mapSeq_set its n j u) (r.set rv j) (by rw [List.length_set]; exact hz) s.toks
  by_cases h0 : 0 ≤ k
  · have hk : k.toNat = j := by
      rw [seqIndex_of h0 h4] at h1
      exact Option.some.inj h1
    exact PySem.W.ki_setAt ho h0 (by omega) (by rw [List.size_toArray, ← hl]; exact h4) (by rw [hk]; exact ⟨_, I', q⟩)
  · have hk : (k + (its.toArray.size : Int)).toNat = j := by
      rw [seqIndex_neg (by omega) h3] at h1
      rw [List.size_toArray, ← hl]
      exact Option.some.inj h1
    exact PySem.W.ki_setBack ho (by omega) (by rw [List.size_toArray, ← hl]; exact h3) (by omega) (by rw [hk]; exact ⟨_, I', q⟩)
theorem slice_bounds (lo hi : Option Int) (n : Nat) : (sliceBounds lo hi none n).1 = ((HT.sIx n 0 lo : Nat) : Int) ∧ (sliceBounds lo hi none n).2.1 = ((HT.sIx n n hi : Nat) : Int) ∧ (sliceBounds lo hi none n).2.2 = 1 := by
  refine ⟨?_, ?_, rfl⟩
  · cases lo with
    | none => simp [sliceBounds, HT.sIx]
    | some i =>
      simp only [sliceBounds, HT.sIx, Option.getD_none, show (1 : Int) > 0 by decide, if_true]
      by_cases h : i < 0
      · simp only [h, if_true] <;> omega
      · simp only [h, if_false] <;> omega
  · cases hi with
    | none => simp [sliceBounds, HT.sIx]
    | some i =>
      simp only [sliceBounds, HT.sIx, Option.getD_none, show (1 : Int) > 0 by decide, if_true]
      by_cases h : i < 0
      · simp only [h, if_true] <;> omega
      · simp only [h, if_false] <;> omega
theorem slicePick_cut (its : List Value) (lo hi : Option Int) : slicePick its.toArray lo hi none = ((its.drop (HT.sIx its.length 0 lo)).take (HT.sIx its.length its.length hi - HT.sIx its.length 0 lo)).toArray := by
  obtain ⟨h1, h2, h3⟩ := slice_bounds lo hi its.toArray.size
  unfold slicePick
  rw [h1, h2, h3]
  simp only [sliceRange_one, pick_run, List.size_toArray] <;> rfl
def rSlL (K : PySem.W.Frag) : V → Option Int → Option Int → Hp → VK → Prop := fun x lo hi H Q => ∃ a xs, x = .ref a ∧ SqL K H a xs ∧ ∀ p, H p = none → Q (.ref p) (upd H p (.lst (cutV xs lo hi)))
theorem sl_list : SlR X (rSlL X.K) := by
  intro pins s σ H x v vl vu lo hi sl Q I rx hs pl pu h
  obtain ⟨a, xs, rfl, hx, q⟩ := h
  cases rx
  obtain ⟨its, r, ht, hz⟩ := I.list hx
  have hlen := r.length
  refine ⟨"list", _, slot_list_getitem.lookup, ht.isList.typeIs, ?_⟩
  refine wpAny_getItem_list_slice ht.isList hs pl pu .none (by simp) ?_ (by rw [List.size_toArray] <;> omega)
  rw [slicePick_cut, ← hlen]
  refine ⟨.ref s.heap.objs.size, _, I.laid (t' := s.toks) (o := .lst (cutV xs lo hi)) (fun b ob q => Heap.get?_push_of_some _ q) (Nat.le_refl _) ?_, rfl, q _ (I.hok.fresh (Nat.le_refl _))⟩
  exact ⟨Nat.le_trans (cutV_length xs lo hi) hz, _, 0, (r.drop (HT.sIx xs.length 0 lo)).take (HT.sIx xs.length xs.length hi - HT.sIx xs.length 0 lo), Heap.get?_push_size _ rfl⟩
def flatV : V → Bool
  | .non => true
  | .bl _ => true
  | .int _ => true
  | .str _ => true
  | _ => false
def eqV : V → V → Bool
  | .non, .non => true
  | .bl a, .bl b => a == b
  | .bl a, .int b => (if a then 1 else 0) == b
  | .int a, .bl b => a == (if b then 1 else 0)
  | .int a, .int b => a == b
  | .str a, .str b => a == b
  | _, _ => false
theorem eqAt_V {A : Around} {s : Shared} {y x : V} {u v : Value} (ry : RelV y u) (rx : RelV x v) (fy : flatV y = true) (fx : flatV x = true) : SeqAt.EqAt A s u v (eqV y x) := by
  cases y with
  | non =>
    cases ry
    cases x with
    | non => cases rx; exact SeqAt.EqAt.same _
    | bl b => cases rx; exact SeqAt.EqAt.none_bool b
    | int b => obtain ⟨t, rfl⟩ := rx; exact SeqAt.EqAt.none_int b t
    | str b => obtain ⟨t, rfl⟩ := rx; exact SeqAt.EqAt.none_str b t
    | _ => exact absurd (show false = true from fx) Bool.false_ne_true
  | bl a =>
    cases ry
    cases x with
    | non => cases rx; exact SeqAt.EqAt.bool_none a
    | bl b => cases rx; exact SeqAt.EqAt.bool_bool a b
    | int b => obtain ⟨t, rfl⟩ := rx; exact SeqAt.EqAt.bool_int a b t
    | str b => obtain ⟨t, rfl⟩ := rx; exact SeqAt.EqAt.bool_str a b t
    | _ => exact absurd (show false = true from fx) Bool.false_ne_true
  | int a =>
    obtain ⟨t', rfl⟩ := ry
    cases x with
    | non => cases rx; exact SeqAt.EqAt.int_none a t'
    | bl b => cases rx; exact SeqAt.EqAt.int_bool a t' b
    | int b => obtain ⟨t, rfl⟩ := rx; exact SeqAt.EqAt.int_int a t' b t
    | str b => obtain ⟨t, rfl⟩ := rx; exact SeqAt.EqAt.int_str a t' b t
    | _ => exact absurd (show false = true from fx) Bool.false_ne_true
  | str a =>
    obtain ⟨t', rfl⟩ := ry
    cases x with
    | non => cases rx; exact SeqAt.EqAt.str_none a t'
    | bl b => cases rx; exact SeqAt.EqAt.str_bool a t' b
    | int b => obtain ⟨t, rfl⟩ := rx; exact SeqAt.EqAt.str_int a t' b t
    | str b => obtain ⟨t, rfl⟩ := rx; exact SeqAt.EqAt.str_str a t' b t
    | _ => exact absurd (show false = true from fx) Bool.false_ne_true
  | _ => exact absurd (show false = true from fy) Bool.false_ne_true
def eqU (x : V) (u : Value) : Bool := match u with
  | .none => eqV .non x
  | .bool b => eqV (.bl b) x
  | .int i _ => eqV (.int i) x
  | .str z _ => eqV (.str z) x
  | _ => false
theorem eqU_of {x y : V} {u : Value} (r : RelV y u) (f : flatV y = true) : eqU x u = eqV y x := by
  cases y with
  | non => cases r; rfl
  | bl b => cases r; rfl
  | int i => obtain ⟨t, rfl⟩ := r; rfl
  | str z => obtain ⟨t, rfl⟩ := r; rfl
  | _ => exact absurd (show false = true from f) Bool.false_ne_true
theorem any_eqU {x : V} : ∀ {xs : List V} {us : List Value}, Vals xs us → xs.all flatV = true → us.any (eqU x) = xs.any fun y => eqV y x
  | _, _, .nil, _ => rfl
  | y :: xs, u :: us, .cons r t, f => by
    rw [List.all_cons, Bool.and_eq_true] at f
    rw [List.any_cons, List.any_cons, eqU_of r f.1, any_eqU t f.2]
theorem mem_eqAt {A : Around} {s : Shared} {x : V} {v : Value} (rx : RelV x v) (fx : flatV x = true) : ∀ {xs : List V} {us : List Value}, Vals xs us → xs.all flatV = true → ∀ u ∈ us, SeqAt.EqAt A s u v (eqU x u)
  | _, _, .nil, _ => fun u hu => by cases hu
  | y :: xs, u :: us, .cons r t, f => fun u' hu => by
    rw [List.all_cons, Bool.and_eq_true] at f
    rcases List.mem_cons.mp hu with rfl | hu
    · rw [eqU_of r f.1]; exact eqAt_V r rx f.1 fx
    · exact mem_eqAt rx fx t f.2 u' hu
def inV (x : V) (xs : List V) : Bool := xs.any fun y => eqV y x
def rIn (K : PySem.W.Frag) (neg : Bool) : R2 := fun x y H Q => ∃ p xs, y = .ref p ∧ (SqL K H p xs ∨ SqT K H p xs) ∧ flatV x = true ∧ xs.all flatV = true ∧ Q (.bl (if neg then !inV x xs else inV x xs)) H
theorem op_in_seq : OpR X (compareOp .In) (rIn X.K false) := by
  intro pins s σ H x y v u Q I rx ry h
  obtain ⟨p, xs, rfl, hq, fx, fs, q⟩ := h
  cases ry
  rcases hq with hq | hq
  · obtain ⟨its, r, pl, hz⟩ := I.list hq
    refine SeqAt.in_listAt (eqU x) pl.isList (fun w hw => mem_eqAt rx fx r fs w (by simpa using hw)) ⟨.bl _, H, I, rfl, ?_⟩
    rw [show its.toArray.any (eqU x) = its.any (eqU x) by simp, any_eqU r fs]
    exact q
  · obtain ⟨its, r, pl, hz⟩ := I.tuple hq
    refine SeqAt.in_tupleAt (eqU x) pl (fun w hw => mem_eqAt rx fx r fs w (by simpa using hw)) ⟨.bl _, H, I, rfl, ?_⟩
    rw [show its.toArray.any (eqU x) = its.any (eqU x) by simp, any_eqU r fs]
    exact q
theorem op_notIn_seq : OpR X (compareOp .NotIn) (rIn X.K true) := by
  intro pins s σ H x y v u Q I rx ry h
  obtain ⟨p, xs, rfl, hq, fx, fs, q⟩ := h
  cases ry
  rcases hq with hq | hq
  · obtain ⟨its, r, pl, hz⟩ := I.list hq
    refine SeqAt.notIn_listAt (eqU x) pl.isList (fun w hw => mem_eqAt rx fx r fs w (by simpa using hw)) ⟨.bl _, H, I, rfl, ?_⟩
    rw [show its.toArray.any (eqU x) = its.any (eqU x) by simp, any_eqU r fs]
    exact q
  · obtain ⟨its, r, pl, hz⟩ := I.tuple hq
    refine SeqAt.notIn_tupleAt (eqU x) pl (fun w hw => mem_eqAt rx fx r fs w (by simpa using hw)) ⟨.bl _, H, I, rfl, ?_⟩
    rw [show its.toArray.any (eqU x) = its.any (eqU x) by simp, any_eqU r fs]
    exact q
theorem op_notIn_str : OpR X (compareOp .NotIn) (fun x y H Q => ∃ i j, x = .str i ∧ y = .str j ∧ Q (.bl (!(!(Builtin.Str.occurrences j i 0 j.length 1).isEmpty))) H) := by
  intro pins s σ H x y v u Q I rx ry h
  obtain ⟨i, j, rfl, rfl, q⟩ := h
  obtain ⟨t, rfl⟩ := rx
  obtain ⟨t', rfl⟩ := ry
  exact notIn_str ⟨.bl _, H, I, rfl, q⟩
theorem call_len_seq : CallR X (.builtin "len") (fun xs H Q => ∃ p ys, xs = [.ref p] ∧ (SqL X.K H p ys ∨ SqT X.K H p ys) ∧ Q (.int ys.length) H) := by
  intro pins s σ H xs us Q I r h
  obtain ⟨p, ys, rfl, hq, q⟩ := h
  obtain ⟨u, rfl, rx⟩ := vals1 r
  cases rx
  have hn := line63
  rcases hq with hq | hq
  · obtain ⟨its, r', pl, hz⟩ := I.list hq
    have hlen := r'.length
    exact Calls.call_len_list pl.isList (by simp only [List.size_toArray] <;> omega) ⟨.int ys.length, H, I.tok _, ⟨s.toks + 1, by rw [List.size_toArray, hlen]⟩, q⟩
  · obtain ⟨its, r', pl, hz⟩ := I.tuple hq
    have hlen := r'.length
    exact len_tuple pl (by simp only [List.size_toArray] <;> omega) ⟨.int ys.length, H, I.tok _, ⟨s.toks + 1, by rw [List.size_toArray, hlen]⟩, q⟩
theorem call_len_str : CallR X (.builtin "len") (fun xs H Q => ∃ z, xs = [.str z] ∧ z.length ≤ sizeLine ∧ Q (.int z.length) H) := by
  intro pins s σ H xs us Q I r h
  obtain ⟨z, rfl, hz, q⟩ := h
  obtain ⟨u, rfl, t, rfl⟩ := vals1 r
  have hn := line63
  exact len_str (by omega) ⟨.int z.length, H, I.tok _, ⟨_, rfl⟩, q⟩
theorem CallR.or {f : Value} {r r' : List V → Hp → VK → Prop} (h : CallR X f r) (h' : CallR X f r') : CallR X f (fun xs H Q => r xs H Q ∨ r' xs H Q) := by
  intro pins s σ H xs us Q I rs q
  rcases q with q | q
  · exact h pins s σ H xs us Q I rs q
  · exact h' pins s σ H xs us Q I rs q
theorem call_list_of : CallR X (.type "list") (fun xs H Q => ∃ p ys, xs = [.ref p] ∧ (SqL X.K H p ys ∨ SqT X.K H p ys) ∧ ∀ l, H l = none → Q (.ref l) (upd H l (.lst ys))) := by
  intro pins s σ H xs us Q I r h
  obtain ⟨p, ys, rfl, hq, q⟩ := h
  obtain ⟨u, rfl, rx⟩ := vals1 r
  cases rx
  have fin : ∀ (its : List Value), Vals ys its → ys.length ≤ sizeLine → ∀ (h' : Heap) (c' : Nat), (∀ b o', s.heap.get? b = some o' → h'.get? b = some o') →
      h'.get? s.heap.objs.size = some { cls := .type "list", dict := none, data := .seq its.toArray c', slots := #[] } → EP X pins σ Q (.ref s.heap.objs.size) { s with heap := h' } := fun its r' hz h' c' kp e =>
    ⟨.ref s.heap.objs.size, _, I.laid (t' := s.toks) kp (Nat.le_refl _) (show ObjOk X.prog X.w _ h' _ (.lst ys) from ⟨hz, its, c', r', e⟩), rfl, q _ (I.hok.fresh (Nat.le_refl _))⟩
  rcases hq with hq | hq
  · obtain ⟨its, r', pl, hz⟩ := I.list hq
    have hlen := r'.length
    obtain ⟨o, ho, hc, n, hd⟩ := pl.isList
    exact call_list_seq p (.inl rfl) ho hc hd (fun h' c' kp e => fin its r' hz h' c' kp e) (by simp only [List.size_toArray] <;> omega)
  · obtain ⟨its, r', pl, hz⟩ := I.tuple hq
    have hlen := r'.length
    obtain ⟨o, ho, hc, n, hd⟩ := pl
    exact call_list_seq p (.inr rfl) ho hc hd (fun h' c' kp e => fin its r' hz h' c' kp e) (by simp only [List.size_toArray] <;> omega)
def tyV (K : PySem.W.Frag) (T : String) (x : V) (H : Hp) : Prop := match x with
  | .str _ => T = "str"
  | .int _ => T = "int"
  | .ref p => (T = "list" ∧ ∃ xs, SqL K H p xs) ∨ (T = "tuple" ∧ ∃ o, K.lookup p = some o ∧ o.cls = .type "tuple" ∧ o.dict = none) ∨
      (T = "dict" ∧ ((∃ kvs, H p = some (.dK kvs)) ∨ ∃ kvs, H p = some (.dT kvs))) ∨ (T = "set" ∧ ∃ S n, H p = some (.set S n))
  | _ => False
theorem tyV_is {pins : List (Addr × Obj)} {σ : St} {H : Hp} {s : Shared} {T : String} {x : V} {v : Value} (I : Inv X pins σ H s) (r : RelV x v) (ty : tyV X.K T x H) :
    s.TypeIs v T ∧ ∀ a, v = .ref a → ∃ ob, s.heap.get? a = some ob ∧ ob.dict = none := by
  cases x with
  | str z =>
    obtain ⟨t, rfl⟩ := r
    cases (show T = "str" from ty)
    exact ⟨typeIs_str s z t, fun _ e => nomatch e⟩
  | int i =>
    obtain ⟨t, rfl⟩ := r
    cases (show T = "int" from ty)
    exact ⟨typeIs_int s i t, fun _ e => nomatch e⟩
  | ref p =>
    cases r
    rcases ty with ⟨rfl, xs, hq⟩ | ⟨rfl, o, hk, hc, hd⟩ | ⟨rfl, hk⟩ | ⟨rfl, S, n, hk⟩
    · obtain ⟨its, _, pl, _⟩ := I.list hq
      refine ⟨pl.isList.typeIs, fun a e => ?_⟩
      cases e
      obtain ⟨o, n, e, c, hd, _⟩ := pl
      exact ⟨o, e, hd⟩
    · refine ⟨⟨o, I.kIn p o hk, hc⟩, fun a e => ?_⟩
      cases e
      exact ⟨o, I.kIn _ o hk, hd⟩
    · have z : ∃ o, s.heap.get? p = some o ∧ o.ExactDict := by
        rcases hk with ⟨kvs, hk⟩ | ⟨kvs, hk⟩
        · obtain ⟨_, _, _, _, o, _, _, e, ex, _⟩ := I.hok p _ hk
          exact ⟨o, e, ex⟩
        · obtain ⟨_, _, _, _, o, _, _, e, ex, _⟩ := I.hok p _ hk
          exact ⟨o, e, ex⟩
      obtain ⟨o, e, ex⟩ := z
      refine ⟨⟨o, e, ex.1⟩, fun a e2 => ?_⟩
      cases e2
      exact ⟨o, e, ex.2.1⟩
    · obtain ⟨o, _, _, _, e, ex, _⟩ := I.hok p _ hk
      refine ⟨⟨o, e, ex.1⟩, fun a e2 => ?_⟩
      cases e2
      exact ⟨o, e, ex.2.1⟩
  | _ => exact False.elim ty
def tBM0 (K : PySem.W.Frag) (T : String) (r : V → List V → Hp → VK → Prop) (to : TE) : TE := fun σ H Q => to σ H fun x H1 => tyV K T x H1 ∧ r x [] H1 Q
def tBM (K : PySem.W.Frag) (T : String) (r : V → List V → Hp → VK → Prop) (to : TE) (t : TA) : TE := fun σ H Q => to σ H fun x H1 => tyV K T x H1 ∧ t σ H1 fun xs H2 => r x xs H2 Q
variable {o e : Expr} {es : List Expr} {to : TE} {t : TA} {name : Str} {apos cpos : Pos} {T id : String} {r : V → List V → Hp → VK → Prop}
theorem pe_bm0 (pa : PlainAttrs T) (slot : Slot T name id) (hty : typeOf (.builtin id) = pure (.type "method_descriptor")) (hm : MtR X id r) (ho : PE X o to)
    (hbase : attributeBase o name X.env (eval o X.env) = eval o X.env := by rfl) (hline : (apos.endLine == cpos.line) = true := by rfl) : PE X (.Call (.Attribute o name apos) [] [] cpos) (tBM0 X.K T r to) := by
  intro pins s σ H Q I h
  refine wpAny_Call_method0_late hbase hline (thn (ho pins s σ H _ I h) fun v s1 ⟨x, H1, I1, r1, ty, q1⟩ => ?_)
  obtain ⟨h1, h2⟩ := tyV_is I1 r1 ty
  exact ⟨T, id, pa, slot, hty, h1, h2, Calls.callWith_builtin rfl (PySem.evalArgs_none (hm pins s1 σ H1 x [] v [] Q I1 r1 .nil q1))⟩
theorem pe_bm (pa : PlainAttrs T) (slot : Slot T name id) (hty : typeOf (.builtin id) = pure (.type "method_descriptor")) (hm : MtR X id r) (ho : PE X o to) (ha : PA X (e :: es) t)
    (hbase : attributeBase o name X.env (eval o X.env) = eval o X.env := by rfl)
    (hfew : ((backTo cpos (starEach (e :: es) X.env)).all (fun x => !x.1) && (backToKw cpos (keywordEach [] X.env)).all (fun x => x.1.isSome)
      && decide ((e :: es).length + ([] : List Keyword).length + (if ([] : List Keyword).isEmpty then 0 else 1) < 30)) = true := by rfl)
    (hline : (apos.endLine == cpos.line) = true := by rfl) (hs : starEach (e :: es) X.env = (false, eval e X.env) :: starEach es X.env := by rfl) (hplain : (backTo cpos (starEach es X.env)).any (·.1) = false := by rfl) :
    PE X (.Call (.Attribute o name apos) (e :: es) [] cpos) (tBM X.K T r to t) := by
  intro pins s σ H Q I h
  refine wpAny_Call_method_late hbase hfew hline rfl (thn (ho pins s σ H _ I h) fun v s1 ⟨x, H1, I1, r1, ty, q1⟩ => ?_)
  obtain ⟨h1, h2⟩ := tyV_is I1 r1 ty
  refine ⟨T, id, pa, slot, hty, h1, h2, ?_⟩
  have hA := ha cpos pins s1 σ H1 _ I1 q1
  rw [hs] at hA ⊢
  refine Calls.callWith_builtin (by show (false || (backTo cpos (starEach es X.env)).any (·.1)) = false; rw [hplain] <;> rfl) (Calls.evalArgs_plain ?_)
  exact thn hA fun us s2 ⟨vs, H2, I2, r2, q2⟩ => hm pins s2 σ H2 x vs v us Q I2 r1 r2 q2
/- xs.append(e), list.index on a module's tuple .. are MtR facts of 06m -/
end
end L2
namespace L2
open PySem PySem.Spec PyProof.Rows
def MtM (X : Cx) (id : String) (r : V → List V → Hp → VK → Prop) : Prop :=
  ∀ (pins : List (Addr × Obj)) (s : Shared) (σ : St) (H : Hp) (x : V) (xs : List V) (v : Value) (us : List Value) (Q : VK), Inv X pins σ H s → RelV x v → Vals xs us → r x xs H Q →
    wpAny (model X.prog X.w) X.A (call (.builtin id) (v :: us)) (EP X pins σ Q) X.xe s
theorem Vals.one : ∀ {x : V} {us : List Value}, Vals [x] us → ∃ u, us = [u] ∧ RelV x u
  | _, _, .cons r .nil => ⟨_, rfl, r⟩
theorem Vals.two : ∀ {x y : V} {us : List Value}, Vals [x, y] us → ∃ u v, us = [u, v] ∧ RelV x u ∧ RelV y v
  | _, _, _, .cons r (.cons q .nil) => ⟨_, _, rfl, r, q⟩
theorem Vals.zero : ∀ {us : List Value}, Vals [] us → us = []
  | _, .nil => rfl
theorem Vals.dropLast {xs : List V} {us : List Value} (h : Vals xs us) : Vals xs.dropLast us.dropLast := by
  induction h with
  | nil => exact .nil
  | cons r t ih =>
    cases t with
    | nil => exact .nil
    | cons q t' => exact .cons r ih
theorem Vals.reverse {xs : List V} {us : List Value} (h : Vals xs us) : Vals xs.reverse us.reverse := by
  induction h with
  | nil => exact .nil
  | cons r t ih => rw [List.reverse_cons, List.reverse_cons]; exact Vals.append ih (.cons r .nil)
theorem Vals.rep {xs : List V} {us : List Value} (h : Vals xs us) : ∀ k : Nat, Vals (List.replicate k xs).flatten (List.replicate k us).flatten
  | 0 => .nil
  | k + 1 => by
    rw [List.replicate_succ, List.replicate_succ, List.flatten_cons, List.flatten_cons]
    exact Vals.append h (Vals.rep h k)
theorem erase_last {α : Type} (l : List α) : l.eraseIdx (l.length - 1) = l.dropLast := by
  induction l with
  | nil => rfl
  | cons a r ih =>
    cases r with
    | nil => rfl
    | cons b r =>
      have e : (a :: b :: r).length - 1 = ((b :: r).length - 1) + 1 := by
        have h1 : (a :: b :: r).length = r.length + 2 := rfl
        have h2 : (b :: r).length = r.length + 1 := rfl
        omega
      rw [e, List.eraseIdx_cons_succ, ih]
      all_goals rfl
theorem foldl_rep (its : List Value) : ∀ (k : Nat) (acc : List Value),
    List.foldl (fun x1 x2 => x1 ++ x2) acc.toArray (List.replicate k its.toArray) = (acc ++ (List.replicate k its).flatten).toArray
  | 0, acc => by simp
  | k + 1, acc => by
    have e : acc.toArray ++ its.toArray = (acc ++ its).toArray := by simp
    have e2 : (acc ++ its) ++ (List.replicate k its).flatten = acc ++ (List.replicate (k + 1) its).flatten := by
      rw [List.replicate_succ, List.flatten_cons, List.append_assoc]
    rw [← e2, ← foldl_rep its k (acc ++ its), ← e, List.replicate_succ, List.foldl_cons]
section
variable {X : Cx} {pins : List (Addr × Obj)} {σ : St} {H : Hp} {s : Shared} {l b : Addr} {xs ys zs : List V}
theorem Inv.lset {its its' : List Value} {n : Nat} {f : Array Value → Array Value} {t' : Nat} (I : Inv X pins σ H s) (hH : H l = some (.lst xs))
    (e : s.heap.get? l = some { cls := .type "list", data := .seq its.toArray n }) (hf : f its.toArray = its'.toArray) (hv : Vals ys its') (hz : ys.length ≤ sizeLine) :
    Inv X pins σ (upd H l (.lst ys)) { s with heap := s.heap.update l (Obj.mapSeq f), toks := t' } := by
  have q := PySem.IsL.update e f
  rw [hf] at q
  refine I.write (x := l) (e := l) (by rw [hH]; exact trivial) (.inl rfl) (fun b' u hb hu => (Heap.get?_update_other s.heap (Obj.mapSeq f) (Ne.symm hb)).trans hu) ⟨_, q⟩ ?_
  exact ⟨hz, its', _, hv, q⟩
theorem Inv.lnew {its : List Value} {t' : Nat} (I : Inv X pins σ H s) (hv : Vals ys its) (hz : ys.length ≤ sizeLine) :
    Inv X pins σ (upd H s.heap.objs.size (.lst ys)) { s with heap := s.heap.push { cls := .type "list", data := .seq its.toArray }, toks := t' } :=
  I.laid (fun _ _ q => Heap.get?_push_of_some _ q) (Nat.le_refl _) ⟨hz, its, 0, hv, Heap.get?_push_size _ rfl⟩
theorem Inv.fresh (I : Inv X pins σ H s) : H s.heap.objs.size = none := I.hok.fresh (Nat.le_refl _)
theorem Inv.lstM (I : Inv X pins σ H s) (hH : H l = some (.lst xs)) : xs.length ≤ sizeLine ∧ ∃ (its : List Value) (n : Nat), Vals xs its ∧ xs.length = its.length ∧ s.heap.get? l = some { cls := .type "list", data := .seq its.toArray n } := by
  obtain ⟨z, its, n, r, e⟩ := I.hok l _ hH
  exact ⟨z, its, n, r, r.length, e⟩
theorem notLongL {n : Nat} (h : n ≤ sizeLine) : Builtin.List.listTooLong n = false := by
  unfold Builtin.List.listTooLong
  exact decide_eq_false (by omega)
end
section
variable {X : Cx}
def rAppend : V → List V → Hp → VK → Prop := fun x vs H Q => ∃ l xs y, x = .ref l ∧ vs = [y] ∧ H l = some (.lst xs) ∧ xs.length < sizeLine ∧ Q .non (upd H l (.lst (xs ++ [y])))
theorem mt_append : MtM X "list.append" rAppend := by
  intro pins s σ H x vs v us Q I rx rv h
  obtain ⟨l, xs, y, rfl, rfl, hH, hz, q⟩ := h
  cases rx
  obtain ⟨u, rfl, ru⟩ := rv.one
  obtain ⟨z, its, n, r, hl, e⟩ := I.lstM hH
  refine call_meets F.slot_list_append ⟨_, e, rfl⟩ F.entry_list_append (F.args_list_append_2 _ _) (PySem.list_append l its.toArray n u (by rw [List.size_toArray]; omega)) ⟨e, ?_⟩
  refine ⟨.non, _, I.lset (its' := its ++ [u]) hH e (by simp) (r.append (.cons ru .nil)) ?_, rfl, q⟩
  rw [List.length_append, List.length_singleton]
  omega
def rPop : V → List V → Hp → VK → Prop := fun x vs H Q => ∃ l xs y, x = .ref l ∧ vs = [] ∧ H l = some (.lst xs) ∧ xs[xs.length - 1]? = some y ∧ Q y (upd H l (.lst xs.dropLast))
theorem mt_pop : MtM X "list.pop" rPop := by
  intro pins s σ H x vs v us Q I rx rv h
  obtain ⟨l, xs, y, rfl, rfl, hH, hy, q⟩ := h
  cases rx
  have hus := rv.zero
  subst hus
  obtain ⟨z, its, n, r, hl, e⟩ := I.lstM hH
  obtain ⟨u, hu, ru⟩ := r.get hy
  have hy' : its.toArray[its.toArray.size - 1]? = some u := by
    show its.toArray[its.length - 1]? = some u
    rw [← Array.getElem?_toList, ← hl]
    exact hu
  refine call_meets F.slot_list_pop ⟨_, e, rfl⟩ F.entry_list_pop (F.args_list_pop_1 _) (MeetsSeq.list_pop_last l its.toArray n u hy' (by rw [List.size_toArray]; omega)) ⟨e, ?_⟩
  refine ⟨y, _, I.lset (its' := its.dropLast) hH e ?_ r.dropLast ?_, ru, q⟩
  · show its.toArray.eraseIdxIfInBounds (its.toArray.size - 1) = its.dropLast.toArray
    rw [List.size_toArray, List.eraseIdxIfInBounds_toArray, erase_last]
  · rw [List.length_dropLast]
    omega
def rReverse : V → List V → Hp → VK → Prop := fun x vs H Q => ∃ l xs, x = .ref l ∧ vs = [] ∧ H l = some (.lst xs) ∧ Q .non (upd H l (.lst xs.reverse))
theorem mt_reverse : MtM X "list.reverse" rReverse := by
  intro pins s σ H x vs v us Q I rx rv h
  obtain ⟨l, xs, rfl, rfl, hH, q⟩ := h
  cases rx
  have hus := rv.zero
  subst hus
  obtain ⟨z, its, n, r, hl, e⟩ := I.lstM hH
  refine call_meets F.slot_list_reverse ⟨_, e, rfl⟩ F.entry_list_reverse (F.args_list_reverse_1 _) (AutoSeq1.list_reverse_list_0 l its.toArray n (by rw [List.size_toArray]; omega)) ⟨e, ?_⟩
  refine ⟨.non, _, I.lset (its' := its.reverse) hH e (by simp) r.reverse ?_, rfl, q⟩
  rw [List.length_reverse]
  omega
def rClear : V → List V → Hp → VK → Prop := fun x vs H Q => ∃ l xs, x = .ref l ∧ vs = [] ∧ H l = some (.lst xs) ∧ Q .non (upd H l (.lst []))
theorem mt_clear : MtM X "list.clear" rClear := by
  intro pins s σ H x vs v us Q I rx rv h
  obtain ⟨l, xs, rfl, rfl, hH, q⟩ := h
  cases rx
  have hus := rv.zero
  subst hus
  obtain ⟨z, its, n, r, hl, e⟩ := I.lstM hH
  refine call_meets F.slot_list_clear ⟨_, e, rfl⟩ F.entry_list_clear (F.args_list_clear_1 _) (AutoSeq1.list_clear_list_0 l its.toArray n (by rw [List.size_toArray]; omega)) ⟨e, ?_⟩
  exact ⟨.non, _, I.lset (its' := []) (ys := []) hH e rfl .nil (Nat.zero_le _), rfl, q⟩
def rCat : R2 := fun x y H Q => ∃ l b xs zs, x = .ref l ∧ y = .ref b ∧ H l = some (.lst xs) ∧ H b = some (.lst zs) ∧ xs.length + zs.length ≤ sizeLine ∧ ∀ p, H p = none → Q (.ref p) (upd H p (.lst (xs ++ zs)))
theorem op_cat : OpR X (binaryOp .Add) rCat := by
  intro pins s σ H x y v u Q I rx ry h
  obtain ⟨l, b, xs, zs, rfl, rfl, hH, hB, hz, q⟩ := h
  cases rx
  cases ry
  obtain ⟨z, its, n, r, hl, e⟩ := I.lstM hH
  obtain ⟨z2, its2, n2, r2, hl2, e2⟩ := I.lstM hB
  refine PySem.P.add_list e e2 ?_ (by rw [List.size_toArray, List.size_toArray]; omega)
  have ea : its.toArray ++ its2.toArray = (its ++ its2).toArray := by simp
  rw [ea]
  exact ⟨.ref _, _, I.lnew (t' := s.toks) (r.append r2) (by rw [List.length_append]; omega), rfl, q _ I.fresh⟩
def rRep : R2 := fun x y H Q => ∃ l k xs, x = .ref l ∧ y = .int k ∧ H l = some (.lst xs) ∧ -(2 ^ 63) ≤ k ∧ k < 2 ^ 63 ∧ xs.length * k.toNat ≤ sizeLine ∧
  ∀ p, H p = none → Q (.ref p) (upd H p (.lst (List.replicate k.toNat xs).flatten))
theorem len_rep {α : Type} (xs : List α) (k : Nat) : (List.replicate k xs).flatten.length = k * xs.length := by
  induction k with
  | zero => simp
  | succ k ih => rw [List.replicate_succ, List.flatten_cons, List.length_append, ih, Nat.succ_mul, Nat.add_comm]
theorem op_rep : OpR X (binaryOp .Mult) rRep := by
  intro pins s σ H x y v u Q I rx ry h
  obtain ⟨l, k, xs, rfl, rfl, hH, h1, h2, hz, q⟩ := h
  cases rx
  obtain ⟨t, rfl⟩ := ry
  obtain ⟨z, its, n, r, hl, e⟩ := I.lstM hH
  have hlen : its.toArray.size * k.toNat ≤ sizeLine := by rw [List.size_toArray, ← hl]; exact hz
  have hcap : ¬ its.toArray.size * k.toNat > (2 ^ 63 - 1) / 8 := by
    have : (sizeLine : Nat) ≤ (2 ^ 63 - 1) / 8 := by decide
    omega
  have hfit : ¬ (!Builtin.List.listFitsIndex k) = true := by
    rw [fitsIndex_both h1 h2]
    exact Bool.false_ne_true
  have hlong : ¬ Builtin.List.listTooLong (its.toArray.size * k.toNat) = true := by
    rw [notLongL hlen]
    exact Bool.false_ne_true
  have hnew : List.foldl (fun x1 x2 => x1 ++ x2) #[] (List.replicate (if its.toArray.isEmpty = true then 0 else k.toNat) its.toArray) = (List.replicate k.toNat its).flatten.toArray := by
    have f0 : ∀ m : Nat, List.foldl (fun x1 x2 => x1 ++ x2) #[] (List.replicate m its.toArray) = (List.replicate m its).flatten.toArray := fun m => by
      have := foldl_rep its m []
      rw [List.nil_append] at this
      exact this
    rw [f0]
    cases its with
    | nil => simp
    | cons a r' => rw [if_neg (by simp)]
  refine wpAny_binaryOp_repeat_ref (T := "list") (U := "int") (by decide) ⟨_, e, rfl⟩ (fun s' => typeIs_int s' k t) noFill_list_mul F.fills_int_mul F.slot_int_rmul repeat_list F.slot_int_index.lookup
    (call_meets F.slot_int_rmul (typeIs_int s k t) F.entry_int_rmul (F.args_int_rmul_2 _ _) (int___rmul___int_list k t l its.toArray n)
      ⟨e, rfl, ⟨_, e, rfl⟩, call_meets F.slot_list_mul ⟨_, e, rfl⟩ F.entry_list_mul (F.args_list_mul_2 _ _) (AutoListH.list___mul___list_int_3 l its.toArray n k t hfit hcap hlong) ⟨e, ?_⟩⟩)
  rw [hnew]
  exact ⟨.ref _, _, I.lnew (t' := s.toks) (r.rep k.toNat) (by rw [len_rep, Nat.mul_comm]; exact hz), rfl, q _ I.fresh⟩
end
section
variable {prog : Program} {w : World} {A : Around} {E : Value → Shared → Prop} {s : Shared}
theorem splice_eq (its its2 : List Value) (a c : Nat) : its.toArray.extract 0 a ++ its2.toArray ++ its.toArray.extract c its.toArray.size = (its.take a ++ its2 ++ its.drop c).toArray := by
  apply Array.toList_inj.mp
  first
    | (simp
       exact List.take_of_length_le (by simp))
    | simp [List.take_of_length_le]
    | simp
theorem bounds_run {a c n : Nat} (hac : a ≤ c) (hc : c ≤ n) : sliceBounds (some (a : Int)) (some (c : Int)) none n = ((a : Int), (c : Int), 1) := by
  simp only [sliceBounds, Option.getD_none]
  have h1 : ¬ ((a : Int) < 0) := by omega
  have h2 : ¬ ((c : Int) < 0) := by omega
  simp only [h1, h2, if_false, show (1 : Int) > 0 by decide, if_true]
  congr 1
  · omega
  · congr 1; omega
set_option maxRecDepth 100000 in
theorem setItem_slice {l b sl : Addr} {items new : Array Value} {n n2 : Nat} {vl vu : Value} {a c : Nat} {Q : Unit → Shared → Prop}
    (e : s.heap.get? l = some { cls := .type "list", data := .seq items n }) (e2 : s.heap.get? b = some { cls := .type "list", data := .seq new n2 }) (hne : l ≠ b)
    (hs : s.heap.IsSliceOf sl vl vu .none) (pl : IsPart vl (some (a : Int))) (pu : IsPart vu (some (c : Int))) (hac : a ≤ c) (hc : c ≤ items.size)
    (hsz : items.size + new.size ≤ sizeLine) (h : Q () { s with heap := s.heap.update l (Obj.mapSeq fun xs => xs.extract 0 a ++ new ++ xs.extract c xs.size) }) :
    wpAny (model prog w) A (setItem (.ref l) (.ref sl) (.ref b)) Q E s := by
  have hl : s.heap.IsList l items := PySem.IsL.isList e
  have hb : s.heap.IsList b new := PySem.IsL.isList e2
  obtain ⟨os, hos, hcs, hds⟩ := id hs
  have hTs : s.TypeIs (.ref sl) "slice" := ⟨os, hos, hcs⟩
  have hstep : ¬ ((rawPart none == rawInt 0) = true) := Bool.false_ne_true
  have hsame : Builtin.List.listSameRef (.ref l) (.ref b) = false := by
    unfold Builtin.List.listSameRef
    exact beq_eq_false_iff_ne.mpr hne
  have hmax : (max (a : Int) (c : Int)).toNat = c := by omega
  have hz' : ((fun xs : Array Value => xs.extract 0 a ++ new ++ xs.extract c xs.size) items).size ≤ sizeLine + 1 := by
    simp only [Array.size_append, Array.size_extract]
    omega
  unfold setItem
  try with_reducible refine wpAny_holding ?_
  first | refine wpAny_bind (wpAny_pure ?_) | skip
  refine wpAny_bind (wpAny_sequenceKey hl.typeIs (by decide) ?_)
  refine wpAny_bind (wpAny_callSpecial?_slot (name := Str.ofString "__setitem__") hl.typeIs slot_list_setitem
    (wpAny_call_entry slot_list_setitem hl.typeIs entry_list_setitem ?_ (args_list_setitem _ _ _)))
  show wpAny _ _ (Builtin.List.listSubscript? (.ref sl) >>= _) _ _ s
  refine wpAny_bind ?_
  unfold Builtin.List.listSubscript?
  refine wpAny_bind (wpAny_specialOf hTs slice_no_index ?_)
  simp only [Option.isNone_none, if_true]
  refine wpAny_pure ?_
  show wpAny _ _ (typeOf (.ref sl) >>= _) _ _ s
  refine wpAny_bind (wpAny_typeOf hTs ?_)
  first
    | rw [if_neg (by decide)]
    | refine PySem.W.KFB.if_not (by decide) ?_
  rw [listSliceParts_eq]
  refine wpAny_bind (wpAny_bind (wpAny_field hos hds (x := .none) rfl (wpAny_bind (wpAny_listPart .none ?_))))
  rw [if_neg hstep]
  refine wpAny_bind (wpAny_field hos hds (x := vl) rfl (wpAny_bind (wpAny_listPart pl ?_)))
  refine wpAny_bind (wpAny_field hos hds (x := vu) rfl (wpAny_bind (wpAny_listPart pu (wpAny_pure ?_))))
  first
    | simp only [hsame, Bool.false_eq_true, if_false]
    | refine PySem.W.KFB.if_not hsame ?_
    | (dsimp only
       rw [if_neg (by rw [hsame]; exact Bool.false_ne_true)])
  refine wpAny_bind (m := Builtin.List.listAllItems (.ref b) "must assign iterable to extended slice") ?_
  unfold Builtin.List.listAllItems
  refine wpAny_bind (wpAny_typeOf hb.typeIs ?_)
  first
    | refine PySem.W.KFB.if_so (by decide) ?_
    | rw [if_pos (by decide)]
    | simp only [beq_self_eq_true, Bool.true_or, if_true]
  unfold Builtin.List.listItems
  refine wpAny_bind (wpAny_seqItems e2 rfl (wpAny_pure ?_))
  refine wpAny_bind (wpAny_bind (wpAny_seqItems e rfl (wpAny_pure ?_)))
  refine wpAny_bind (wpAny_of_eq ((sliceIndices_raw (some (a : Int)) (some (c : Int)) none items.size (by simp)).trans (congrArg (pure : Int × Int × Int → Sem (Int × Int × Int)) (bounds_run hac hc))) ?_)
  show wpAny _ _ (if ((1 : Int) == 1) = true then _ else _) _ _ s
  rw [if_pos (by decide)]
  refine wpAny_bind (wpAny_rule ?_)
  first
    | simp only [notLongL hsz, Bool.false_eq_true, if_false]
    | refine PySem.W.KFB.if_not (notLongL hsz) ?_
  first | refine wpAny_bind (wpAny_pure ?_) | skip
  show wpAny _ _ (updateSeq l (fun xs => xs.extract 0 ((a : Int)).toNat ++ new ++ xs.extract (max (a : Int) (c : Int)).toNat xs.size) >>= _) _ _ s
  rw [hmax, Int.toNat_natCast]
  refine wpAny_bind (wpAny_updateSeq (hz := Nat.le_trans (Nat.le_add_right _ _) hsz) (_hz' := hz') e rfl ?_)
  refine wpAny_bind (wpAny_letGo ?_)
  first
    | exact wpAny_bind (wpAny_pure (wpAny_pure ⟨.none, rfl, wpAny_pure h⟩))
    | exact wpAny_pure ⟨.none, rfl, wpAny_pure h⟩
end
section
variable {X : Cx}
theorem set_slice {pins : List (Addr × Obj)} {s : Shared} {σ : St} {H : Hp} {l b sl : Addr} {xs ys : List V} {a c : Int} {vl vu : Value} {Q : Unit → Shared → Prop} (I : Inv X pins σ H s)
    (hH : H l = some (.lst xs)) (hB : H b = some (.lst ys)) (hne : l ≠ b) (hs : s.heap.IsSliceOf sl vl vu .none) (ra : RelV (.int a) vl) (rc : RelV (.int c) vu) (h0 : 0 ≤ a) (hac : a ≤ c) (hc : c ≤ xs.length)
    (hz : xs.length + ys.length ≤ sizeLine) (h : ∀ s', Inv X pins σ (upd H l (.lst (xs.take a.toNat ++ ys ++ xs.drop c.toNat))) s' → Q () s') :
    wpAny (model X.prog X.w) X.A (setItem (.ref l) (.ref sl) (.ref b)) Q X.xe s := by
  obtain ⟨ta, rfl⟩ := ra
  obtain ⟨tc, rfl⟩ := rc
  obtain ⟨z, its, n, r, hl, e⟩ := I.lstM hH
  obtain ⟨z2, its2, n2, r2, hl2, e2⟩ := I.lstM hB
  obtain ⟨a', rfl⟩ := Int.eq_ofNat_of_zero_le h0
  obtain ⟨c', rfl⟩ := Int.eq_ofNat_of_zero_le (Int.le_trans h0 hac)
  simp only [Int.toNat_natCast] at h
  refine setItem_slice (a := a') (c := c') e e2 hne hs (.int _ _) (.int _ _) (by omega) (by rw [List.size_toArray]; omega) (by rw [List.size_toArray, List.size_toArray]; omega) (h _ ?_)
  refine I.lset (its' := its.take a' ++ its2 ++ its.drop c') (t' := s.toks) hH e ?_ (Vals.append (Vals.append (r.take _) r2) (r.drop _)) ?_
  · exact splice_eq its its2 a' c'
  · rw [List.length_append, List.length_append, List.length_take, List.length_drop]
    omega
end
end L2
namespace Att
open PySem PySem.W PySem.Calls PyProof.Rows
theorem ints_of_wellAll {P : Params} {h : Heap} : ∀ (ns : List Int) (vs : List Value), WellAll P h vs (ns.map WData.int) → IntsAre vs ns := by
  intro ns
  induction ns with
  | nil =>
    intro vs w
    rw [List.map_nil] at w
    cases w
    exact .nil
  | cons n ns ih =>
    intro vs w
    rw [List.map_cons] at w
    cases w with
    | cons a b =>
      cases a
      exact .cons _ _ (ih _ b)
theorem script_of {l : OpenLaw} {n : Nat} (hn : l.most = some n) {P : Params} {h : Heap} {args : List WData} {vals : List Value}
    (hpre : l.row.toRowW.claim.pre args = true) (hwl : WellAll P h vals args) :
    ∃ a vs ns, vals = [Value.ref a] ∧ args = [WData.list (ns.map WData.int)] ∧ h.get? a = some { cls := .type "list", data := .seq vs.toArray } ∧ IntsAre vs ns ∧ ns.length ≤ n := by
  have hsh : WShape.hasAll [] args [.list .int] = true := (pre_splitW hpre).1
  have hc : l.pre.holds [] { args := args } = true := (pre_splitW hpre).2
  obtain ⟨d, r, rfl, h1, h2⟩ := hasAllW_cons hsh
  obtain rfl := hasAllW_nil h2
  obtain ⟨xs, rfl, h3⟩ := hasW_list h1
  obtain ⟨ns, rfl⟩ := items_int h3
  have hlen : ns.length ≤ n := by
    unfold OpenLaw.pre at hc
    have h4 : (WTm.not (.lt (.lit (.int (n : Int))) (.len (.arg 0)))).holds [] { args := [.list (ns.map .int)] } = true := by
      have h4 := (holds_andW hc).1
      rw [hn] at h4
      exact h4
    have h5 := condW_of h4 (w_not (w_lt w_lit (w_len_list (w_arg rfl))))
    rw [List.length_map] at h5
    refine Nat.le_of_not_lt fun q => ?_
    have q' : (n : Int) < ((ns.length : Nat) : Int) := by omega
    first
      | (rw [decide_eq_true q'] at h5; exact absurd h5 (by decide))
      | (simp at h5; omega)
  cases hwl with
  | cons w1 w2 =>
    cases w2
    cases w1 with
    | list ho hall => exact ⟨_, _, ns, rfl, rfl, ho, ints_of_wellAll ns _ hall, hlen⟩
theorem post_true (l : OpenLaw) (args : List WData) : l.row.toRowW.claim.post args (.bool true) args = true :=
  postW_of (r := l.row.toRowW) (X := (true == true))
    (show WShape.has [] (.bool true) .bool = true by first | rfl | decide | simp [WShape.has, WShape.arms, WShape.armsAll])
    (show (WTm.eq .res (.lit (.bool true))).value [] { args := args, res := some (.bool true), after := args } = some (.bool (true == true)) from w_eq_bool (w_res rfl) w_lit) rfl
theorem attach_call {l : OpenLaw} {n : Nat} {q : Program} {loose : List Str} {XP : (Str → Option Value) → Heap → Prop} {YP : World → Heap → Prop} {d : DefRec}
    (hn : l.most = some n) (hdf : d.params.defaults = [])
    (call : ∀ (w : World) (s₀ s₁ : Shared) (mg mb : Str → Option Value) (fa : Addr) (o : Obj) (pm cd doc : Value) (a : Addr) (vs : List Value) (ns : List Int),
      Ground q loose [] XP w s₀ mg mb s₁.heap → YP w s₁.heap →
      s₁.heap.get? fa = some o → o.data = .func (docDef d.name d.params d.body d.scope pm cd doc) → s₁.heap.CodeRec cd d.name → mg d.name = some (.ref fa) →
      s₁.heap.get? a = some { cls := .type "list", data := .seq vs.toArray } → IntsAre vs ns → ns.length ≤ n → s₁.gens = #[] →
      codeAny (model l.prog w) callerA (.call (.ref fa) ⟨[.ref a], []⟩) (fun r s' => r = .ok (.ret (.bool true)) ∧ OldK s₁.heap s'.heap ∧ s'.os = s₁.os ∧ AllBare s'.gens) s₁) :
    WalkO q loose XP YP l.row.toRowW d [] (fun f vs => PySem.call f vs) := by
  intro w s₀ s₁ mg mb G Y fa o pm cd doc dV kV ho hd hcd hD hmg hg args vals as hpre hlay hrd hwl hlo
  obtain rfl : dV = .none := Dflts.none hD hdf
  obtain rfl : kV = .none := Dflts.noKw hD
  obtain ⟨a, vs, ns, rfl, rfl, hobj, hints, hlen⟩ := script_of hn hpre hwl
  refine enter_call (codeAny_mono (call w s₀ s₁ mg mb fa o pm cd doc a vs ns G Y ho (fd_plain hd) hcd hmg hobj hints hlen hg) fun r s' hq => ?_)
  obtain ⟨rfl, h2, h3, h4⟩ := hq
  exact ⟨.inl ⟨.bool true, .bool true, [], rfl, fun _ => rfl, .bool true, post_true l _, fun _ => ⟨List.Pairwise.nil, fun _ hm => (nomatch hm)⟩⟩, h2, h3, h4⟩
section
variable {prog : Program} {w : World} {A : Around} {E : Value → Shared → Prop} {s : Shared} {K : Frag}
end
end Att
namespace L2
open PySem PySem.Spec PyProof.Rows
theorem vals_ints : ∀ {vs : List Value} {ns : List Int}, IntsAre vs ns → Vals (ns.map V.int) vs
  | _, _, .nil => .nil
  | _, _, .cons n t h => .cons ⟨t, rfl⟩ (vals_ints h)
def Only (H : Hp) : Prop := ∀ b, H b = none ∨ ∃ o xs, H b = some (.frz o (.lst xs))
theorem law_call {P : Program} {w : World} {K : PySem.W.Frag} {mg mb : Str → Option Value} {CX : CXT} {k : Nat} {fa a : Addr} {fd : FuncData} {x : Str} {sp : Sp} {s₁ : Shared} {vs : List Value} {ns : List Int}
    (KX : K.In s₁.heap) (hns : s₁.heap.Ns mainGlobals mg) (hb : s₁.heap.Ns builtinsNs mb) (hbb : ∀ x : Str, x ≠ "__name__" → mb x = bootBuiltins x) (hlim : s₁.heap.NoLimit) (hg : s₁.gens = #[])
    (ha : s₁.heap.get? a = some { cls := .type "list", data := .seq vs.toArray }) (hi : IntsAre vs ns) (hl : ns.length ≤ sizeLine) (hr : Room k callerA)
    (F : ∀ base : Heap, K.In base → base.Ns mainGlobals mg → FnOk P w K mg base CX k fa fd [x] sp) (hbind : ∀ (s : Shared) (u : Value), BindsTo s fd ⟨[u], []⟩ [(x, u)])
    (hsp : ∀ H : Hp, Only H → SqL K H a (ns.map V.int) → sp [.ref a] H (fun v _ => v = .bl true) fun _ _ _ => False)
    (hCX : ∀ H e s', CX [] H s₁ (fun _ _ _ => False) e s' → False) :
    codeAny (model P w) callerA (.call (.ref fa) ⟨[.ref a], []⟩) (fun r s' => r = .ok (.ret (.bool true)) ∧ OldK s₁.heap s'.heap ∧ s'.os = s₁.os ∧ AllBare s'.gens) s₁ := by
  have rv := vals_ints hi
  have lenV := hi.length
  have core : ∀ H : Hp, Only H → SqL K H a (ns.map V.int) → HOk P w H s₁.heap → (∀ b, H b ≠ none → b = a) → (H a ≠ none → K.lookup a = none) →
      codeAny (model P w) callerA (.call (.ref fa) ⟨[.ref a], []⟩) (fun r s' => r = .ok (.ret (.bool true)) ∧ OldK s₁.heap s'.heap ∧ s'.os = s₁.os ∧ AllBare s'.gens) s₁ := by
    intro H hO hS hok hA hK
    have base_of : ∀ {b : Addr} {o : Obj}, s₁.heap.get? b = some o → H b = none → (hidT s₁.heap H).get? b = some o := fun e n => hidT_get e n
    have noA : ∀ {b : Addr} {o : Obj} {es : Array DictEntry} {ep : Nat}, s₁.heap.get? b = some o → o.data = .dict es ep → H b = none := fun {b o es ep} e d => by
      cases q : H b with
      | none => rfl
      | some u =>
        have e' : b = a := hA b (by rw [q]; simp)
        subst e'
        rw [ha] at e; cases e
        have d' : Data.seq vs.toArray _ = Data.dict es ep := d
        cases d'
    have nsK : ∀ {b : Addr} {m : Str → Option Value}, s₁.heap.Ns b m → (hidT s₁.heap H).Ns b m := fun {b m} ⟨o, es, ep, e, d, r⟩ => ⟨o, es, ep, base_of e (noA e d), d, r⟩
    have hKb : K.In (hidT s₁.heap H) := fun b o e => base_of (KX b o e) (by
      cases q : H b with
      | none => rfl
      | some u =>
        have e' : b = a := hA b (by rw [q]; simp)
        subst e'
        rw [hK (by rw [q]; simp)] at e; cases e)
    have hM : Mod K mg (hidT s₁.heap H) := ⟨hKb, nsK hns, ⟨mb, nsK hb, hbb⟩, let ⟨mc, h1, h2⟩ := hlim; ⟨mc, nsK h1, h2⟩⟩
    have e0 : Env0 P w K mg (hidT s₁.heap H) callerA [] s₁ H := ⟨rfl, hM, fun b o e => of_hidT e, Nat.le_of_eq (hidT_size _ _), trivial, fun b hb => absurd (show b ∈ ([] : List Addr) from hb) (by simp), hok, .of_eq hg⟩
    refine codeAny_mono ((F _ hKb (nsK hns)).run callerA [] s₁ H ⟨[.ref a], []⟩ [.ref a] [.ref a] _ _ hr e0 (hbind s₁ (.ref a)) (.cons rfl .nil) (hsp H hO hS)) fun r s' h => ?_
    cases r with
    | error e => exact (hCX H e s' h).elim
    | ok fl =>
      cases fl with
      | next => exact False.elim h
      | brk => exact False.elim h
      | cont => exact False.elim h
      | ret u =>
        obtain ⟨v, H', os, bare, un, hok', r', q⟩ := h
        have q' : v = .bl true := q
        subst q'
        obtain rfl : u = Value.bool true := r'
        refine ⟨rfl, OldK.of_keep fun b o e => ?_, os, bare⟩
        cases q : H b with
        | none => exact un.keep b o e q (by intro z; exact absurd (show b ∈ ([] : List Addr) from z) (by simp)) (by simp)
        | some u =>
          rcases hO b with z | ⟨ob, xs, z⟩
          · rw [q] at z; cases z
          · have z2 := un.frzs b ob _ z
            obtain ⟨e1, _⟩ := hok b _ z
            obtain ⟨e2, _⟩ := hok' b _ z2
            rw [e] at e1; cases e1
            exact e2
  cases hk : K.lookup a with
  | some o =>
    have e := KX a o hk
    rw [ha] at e
    cases e
    refine core (fun _ => none) (fun _ => .inl rfl) (.inr ⟨_, vs.toArray, _, hk, rfl, rfl, rfl, by rw [List.size_toArray, lenV]; exact hl, by simpa using rv⟩) (fun b u z => by have z' : (none : Option HO) = some u := z; cases z') (fun b z => absurd rfl z) fun z => absurd rfl z
  | none =>
    refine core (fun b => if b = a then some (.frz { cls := .type "list", data := .seq vs.toArray } (.lst (ns.map V.int))) else none) (fun b => ?_) (.inl (.inr ⟨{ cls := .type "list", data := .seq vs.toArray }, if_pos rfl⟩)) (fun b u z => ?_) (fun b z => ?_) fun _ => hk
    · by_cases hb : b = a
      · exact .inr ⟨_, _, if_pos hb⟩
      · exact .inl (if_neg hb)
    · by_cases hb : b = a
      · have z' := (if_pos hb).symm.trans z
        cases z'
        subst hb
        exact ⟨ha, by rw [List.length_map]; exact hl, vs, _, rv, ha⟩
      · have z' := (if_neg hb).symm.trans z
        cases z'
    · by_cases hb : b = a
      · exact hb
      · exact absurd (if_neg hb) z
end L2
namespace L2
open PySem PySem.Spec PyProof.Rows
abbrev KOf {K : PySem.W.Frag} {h : Heap} (_ : K.In h) : PySem.W.Frag := K
theorem walk_of {l : PySem.W.OpenLaw} {n k : Nat} {q : Program} {loose : List Str} {XP : (Str → Option Value) → Heap → Prop} {YP : World → Heap → Prop} {d : DefRec} {K : Params → PySem.W.Frag} {CX : World → CXT} {sp : World → Sp} {x : Str}
    (hn : l.most = some n) (hn2 : n ≤ sizeLine) (hdf : d.params.defaults = []) (hr : Room k callerA)
    (hY : ∀ (w : World) (h : Heap), YP w h → (K w.params).In h)
    (F : ∀ (w : World) (mg : Str → Option Value) (fa : Addr) (h : Heap), (K w.params).In h → h.Ns mainGlobals mg → mg d.name = some (.ref fa) →
      ∃ fd : FuncData, (∀ (s : Shared) (u : Value), BindsTo s fd ⟨[u], []⟩ [(x, u)]) ∧
        ∀ base : Heap, (K w.params).In base → base.Ns mainGlobals mg → FnOk l.prog w (K w.params) mg base (CX w) k fa fd [x] (sp w))
    (hsp : ∀ (w : World) (H : Hp) (a : Addr) (ns : List Int), ns.length ≤ n → Only H → SqL (K w.params) H a (ns.map V.int) → sp w [.ref a] H (fun v _ => v = .bl true) fun _ _ _ => False)
    (hCX : ∀ (w : World) (H : Hp) (s : Shared) (e : Value) (s' : Shared), CX w [] H s (fun _ _ _ => False) e s' → False) :
    PySem.W.WalkO q loose XP YP l.row.toRowW d [] (fun f vs => PySem.call f vs) := by
  refine Att.attach_call hn hdf fun w s₀ s₁ mg mb fa o pm cd doc a vs ns G Y ho hd hcd hmg hobj hints hlen hg => ?_
  have KX := hY w _ Y
  obtain ⟨fd, hb, hF⟩ := F w mg fa _ KX G.T.g hmg
  exact law_call KX G.T.g G.T.b G.T.builtins G.T.nolimit hg hobj hints (Nat.le_trans hlen hn2) hr hF hb (fun H hO hS => hsp w H a ns hlen hO hS) fun H e s' => hCX w H s₁ e s'
end L2
/- THE LAST THEOREM (shape; LID, My.* are yours):
   My.Adr: a structure of the addresses that your layer names (classes, functions); My.Txt K t: a structure (Prop) of the equations over K;
   My.txt_mk : {K} {implicit addresses ..} (e1 : nsIn K mainGlobals "law" = some (some (.ref f))) (e2 : K.lookup f = some ⟨oc, od, .func (fnOf "law" "law" params body scope dV kV doc pm an cdv ct), sl⟩) (e3 : codeIn K cdv "law" = true) .. : ∃ t, My.Txt K t
set_option maxRecDepth 100000 in
set_option maxHeartbeats 0 in
theorem PySem.Challenge.cw_LID_holds : PySem.Challenge.rw_LID.Holds := by
  w_on; o_law; k_head; (case hw => w_witness2)
  k_fill
  refine L2.walk_of (l := PySem.Challenge.rw_LID) (n := 63) (k := 40) (x := "script") (CX := fun w => ..) (sp := fun _ => My.sp_law) rfl (by decide) rfl ⟨rfl, by decide, by decide⟩ (fun w h Y => PySem.W.kIn_of Y) ?F ?S ?C
  case F =>
    intro w mg fa h KX G hmg
    have T : ∃ t, My.Txt (L2.KOf KX) t := by
      dsimp only [L2.KOf]                          -- K must stand as «<heap const> w.params» for k_is
      refine' My.txt_mk ?e1 ?e2 ?e3 ..
      (case e1 => PySem.W.k_is)                    -- in the order: a name -> its address -> its object -> its parts
      (case e2 => PySem.W.k_is)
      ..
    obtain ⟨t, T⟩ := T
    have e0 := hmg.symm.trans (PySem.W.mg_of KX G T.law)
    cases e0                                       -- fa is the law's own address
    exact ⟨_, fun s u => .of_eq rfl, fun base kb nb => My.law_fn T kb nb⟩     -- if «.of_eq rfl» comes too early: refine' ⟨_, ?b, fun base kb nb => My.law_fn T kb nb⟩; exact fun s u => .of_eq rfl
  case S => exact fun w H a ns hl hO hS => ..
  case C => exact ..
(the tactic k_is has no namespace: write k_is) -/
namespace L2
open PySem PySem.Spec PyProof.Rows
def inClass (s : Stmt) (j : Nat) : Stmt := match s with
  | .ClassDef _ _ _ body _ _ _ _ _ _ _ => body.getD j (.Pass ⟨0, 0, 0, 0⟩)
  | _ => .Pass ⟨0, 0, 0, 0⟩
def defArgs (s : Stmt) : Arguments := match s with
  | .FunctionDef _ a _ _ _ _ _ _ _ _ => a
  | _ => { posonlyargs := [], args := [], vararg := none, kwonlyargs := [], kw_defaults := [], kwarg := none, defaults := [] }
def defBody (s : Stmt) : List Stmt := match s with
  | .FunctionDef _ _ b _ _ _ _ _ _ _ => b
  | _ => []
def defScope (s : Stmt) : Scope := match s with
  | .FunctionDef _ _ _ _ _ _ sc _ _ _ => sc
  | _ => { kind := .function, names := [], isGenerator := false, isCoroutine := false }
abbrev CX0 : CXT := fun _ _ _ _ _ _ => False
abbrev E0 : XK := fun _ _ _ => False
theorem pass0 {X : Cx} : Passes CX0 X E0 := fun _ _ _ _ _ _ _ h => h.elim
structure Fun (K : PySem.W.Frag) (x qual : Str) (st : Stmt) (f : Addr) (fd : FuncData) : Prop where
  ex : ∃ (oc : Value) (od : Option Addr) (kV doc pm : Value) (an : Option Addr) (cdv ct : Value) (osl : Array (Option Value)),
    fd = PySem.W.fnOf x qual (defArgs st) (defBody st) (defScope st) .none kV doc pm an cdv ct ∧ K.lookup f = some ⟨oc, od, .func fd, osl⟩ ∧ PySem.W.codeIn K cdv qual = true
  kp : PySem.W.keepIn K (.ref f) = true
section
variable {P : Program} {w : World} {K : PySem.W.Frag} {mg : Str → Option Value} {base : Heap}
theorem Fun.ok {x qual : Str} {st : Stmt} {f : Addr} {fd : FuncData} {N ps : List Str} {k : Nat} {sp : Sp} (F : Fun K x qual st f fd) (S : FnScope N ps (defScope st)) (len : ∀ vs H Q E, sp vs H Q E → vs.length = ps.length)
    (hbody : ∀ (cdv : Value) (A : Around) (outer : List Env) (s : Shared) (H : Hp) (vs : List V) (Q : VK) (E : XK), Room k (A.deeper (envOfC qual (defScope st) s.heap.objs.size f cdv)) → sp vs H Q E →
      ∃ t, PSs (cxOf CX0 P w K mg base N qual (defScope st) f cdv A outer s H E).nox (defBody st) t ∧ t { nx := fun _ H' => Q .non H', rt := Q } (start N vs) H) : FnOk P w K mg base CX0 (k + 1) f fd ps sp := by
  obtain ⟨oc, od, kV, doc, pm, an, cdv, ct, osl, rfl, lk, hcd⟩ := F.ex
  refine fn_of lk hcd S len fun A outer s H vs Q E hr hsp => ?_
  obtain ⟨t, h, q⟩ := hbody cdv A outer s H vs Q E hr hsp
  exact ⟨t, h.nox, q⟩
theorem Fun.binds {x qual : Str} {st : Stmt} {f : Addr} {fd : FuncData} {ps : List Str} (F : Fun K x qual st f fd)
    (h : ∀ (kV doc pm : Value) (an : Option Addr) (cdv ct : Value) (us : List Value), us.length = ps.length → bindArgs (PySem.W.fnOf x qual (defArgs st) (defBody st) (defScope st) .none kV doc pm an cdv ct) ⟨us, []⟩ = pure (ps.zip us)) : Binds K fd ps [] := by
  obtain ⟨oc, od, kV, doc, pm, an, cdv, ct, osl, rfl, lk, hcd⟩ := F.ex
  exact .all (h kV doc pm an cdv ct)
theorem fun_mk {x qual : Str} {st : Stmt} {f : Addr} {oc : Value} {od an : Option Addr} {osl : Array (Option Value)} {kV doc pm cdv ct : Value} (l : K.lookup f = some ⟨oc, od, .func (PySem.W.fnOf x qual (defArgs st) (defBody st) (defScope st) .none kV doc pm an cdv ct), osl⟩)
    (c : PySem.W.codeIn K cdv qual = true) (k : PySem.W.keepIn K (.ref f) = true) : Fun K x qual st f (PySem.W.fnOf x qual (defArgs st) (defBody st) (defScope st) .none kV doc pm an cdv ct) := ⟨⟨oc, od, kV, doc, pm, an, cdv, ct, osl, rfl, l, c⟩, k⟩
end
theorem hu_of {A : Around} {k : Nat} (hr : Room k A) : A.units + 1 < cLine := Nat.lt_of_le_of_lt (Nat.add_le_add_left (by decide : 1 ≤ 64) _) hr.units
theorem small1000 {n : Nat} (h : n ≤ 1000) : n < sizeLine := Nat.lt_of_le_of_lt h (by decide)
section
variable {X : Cx}
theorem pv (i : Nat) {x : Str} {pos : Pos} (hN : X.N[i]? = some x := by rfl) (hv : Vis X.env.scope x := by first | exact Or.inl rfl | exact Or.inr (Or.inl rfl) | exact Or.inr (Or.inr rfl)) (hd : (x == ("__debug__" : Str)) = false := by decide)
    (hcd : (x == ("__classdict__" : Str)) = false := by decide) : PE X (.Name x pos) (tVar i) := pe_var hN hv hd hcd
end
theorem iteF {A B : Prop} (h : B) : if false = true then A else B := by
  rw [if_neg Bool.false_ne_true]
  exact h
theorem iteT {A B : Prop} (h : A) : if true = true then A else B := by
  rw [if_pos rfl]
  exact h
theorem ite2 {c A B : Prop} [Decidable c] (h1 : c → A) (h2 : ¬ c → B) : if c then A else B := by
  by_cases h : c
  · rw [if_pos h]
    exact h1 h
  · rw [if_neg h]
    exact h2 h
def Same (H H' : Hp) : Prop := ∀ b o, H b = some o → H' b = some o
theorem Same.refl (H : Hp) : Same H H := fun _ _ h => h
theorem Same.trans {H H1 H2 : Hp} (a : Same H H1) (b : Same H1 H2) : Same H H2 := fun c o h => b c o (a c o h)
theorem Same.free {H H' : Hp} (e : Same H H') {l : Addr} (h : H' l = Option.none) : H l = Option.none := by
  cases q : H l with
  | none => rfl
  | some o =>
    rw [e l o q] at h
    cases h
theorem Same.seq {K : PySem.W.Frag} {H H' : Hp} {a : Addr} {xs : List V} (e : Same H H') (h : SqL K H a xs) : SqL K H' a xs := by
  rcases h with (h | ⟨o, h⟩) | h
  · exact .inl (.inl (e _ _ h))
  · exact .inl (.inr ⟨o, e _ _ h⟩)
  · exact .inr h
end L2
set_option maxHeartbeats 4000000
namespace L2
open PySem PySem.Spec PyProof.Rows
def closOf (env : Env) : List (Str × NameKind) → List (Str × Addr) → List (Str × Addr)
  | [], acc => acc
  | p :: l, acc => closOf env l (if p.2 == .free then (p.1, (env.cells.lookup p.1).getD 0) :: acc else acc)
theorem clos_eq {env : Env} {scope : Scope} (h : ∀ p ∈ scope.names, p.2 = .free → ∃ c, env.cells.lookup p.1 = some c) : closureFor scope env = pure (closOf env scope.names []) := by
  have go : ∀ (l : List (Str × NameKind)) (acc : List (Str × Addr)), (∀ p ∈ l, p.2 = .free → ∃ c, env.cells.lookup p.1 = some c) →
      (forIn l acc fun (p : Str × NameKind) cs => if (p.2 == NameKind.free) = true then (cellOf env p.1 >>= fun a => pure (ForInStep.yield ((p.1, a) :: cs))) else pure (ForInStep.yield cs)) = (pure (closOf env l acc) : Sem (List (Str × Addr))) := by
    intro l
    induction l with
    | nil => intro acc _; rfl
    | cons p l ih =>
      intro acc hl
      rw [List.forIn_cons]
      have hr := fun q hq => hl q (List.mem_cons_of_mem _ hq)
      by_cases hk : p.2 = .free
      · obtain ⟨c, hc⟩ := hl p List.mem_cons_self hk
        have e1 : (p.2 == NameKind.free) = true := by rw [hk]; rfl
        rw [if_pos e1]
        have e2 : cellOf env p.1 = pure c := by unfold cellOf; rw [hc]
        rw [e2, pure_bind, pure_bind]
        show forIn l ((p.1, c) :: acc) _ = _
        rw [ih _ hr]
        show _ = pure (closOf env l (if p.2 == .free then (p.1, (env.cells.lookup p.1).getD 0) :: acc else acc))
        rw [if_pos e1, hc]
        rfl
      · have e1 : ¬ (p.2 == NameKind.free) = true := by intro z; exact hk (by simpa using z)
        rw [if_neg e1, pure_bind]
        show forIn l acc _ = _
        rw [ih _ hr]
        show _ = pure (closOf env l (if p.2 == .free then (p.1, (env.cells.lookup p.1).getD 0) :: acc else acc))
        rw [if_neg e1]
  have e := go scope.names [] h
  unfold closureFor
  show (forIn scope.names ([] : List (Str × Addr)) _ >>= fun r => pure r) = _
  rw [bind_pure]
  exact e
theorem clos_look {env : Env} {x : Str} : ∀ (l : List (Str × NameKind)) (acc : List (Str × Addr)) {c : Addr}, (closOf env l acc).lookup x = some c → acc.lookup x = some c ∨ ((x, NameKind.free) ∈ l ∧ c = (env.cells.lookup x).getD 0)
  | [], acc, c, h => .inl h
  | p :: l, acc, c, h => by
    rcases clos_look l _ h with z | ⟨z, e⟩
    · by_cases hk : (p.2 == NameKind.free) = true
      · rw [if_pos hk, List.lookup_cons] at z
        by_cases hx : (x == p.1) = true
        · rw [hx] at z
          have e : x = p.1 := by simpa using hx
          have e2 : p.2 = .free := by simpa using hk
          refine .inr ⟨?_, ?_⟩
          · rw [e, ← e2]; exact List.mem_cons_self
          · rw [e]; exact (Option.some.inj z).symm
        · have hx' : (x == p.1) = false := by simpa using hx
          rw [hx'] at z
          exact .inl z
      · rw [if_neg hk] at z
        exact .inl z
    · exact .inr ⟨List.mem_cons_of_mem _ z, e⟩
theorem clos_has {env : Env} {x : Str} : ∀ (l : List (Str × NameKind)) (acc : List (Str × Addr)), ((acc.lookup x).isSome = true ∨ (x, NameKind.free) ∈ l) → ((closOf env l acc).lookup x).isSome = true
  | [], acc, h => by
    rcases h with h | h
    · exact h
    · cases h
  | p :: l, acc, h => by
    refine clos_has l _ ?_
    rcases h with h | h
    · left
      by_cases hk : (p.2 == NameKind.free) = true
      · rw [if_pos hk, List.lookup_cons]
        cases (x == p.1) with
        | true => rfl
        | false => exact h
      · rw [if_neg hk]; exact h
    · rcases List.mem_cons.mp h with e | h
      · left
        have e1 : p.1 = x := by rw [← e]
        have e2 : (p.2 == NameKind.free) = true := by rw [← e]; rfl
        rw [if_pos e2, List.lookup_cons, e1]
        simp
      · exact .inr h
theorem relab_look {env : Env} {x : Str} {k : NameKind} : ∀ (l : List (Str × NameKind)),
    (l.map fun (n, k) => if (k == NameKind.free && env.scope.kind == .function && env.kindOf n == some .cell) then (n, NameKind.cell) else (n, k)).lookup x = some k →
      l.lookup x = some k ∨ (k = .cell ∧ l.lookup x = some .free)
  | [], h => by cases h
  | (n, q) :: l, h => by
    rw [List.map_cons] at h
    cases hx : (x == n) with
    | true =>
      rw [List.lookup_cons, hx]
      by_cases hc : (q == NameKind.free && env.scope.kind == .function && env.kindOf n == some .cell) = true
      · simp only [hc, if_true, List.lookup_cons, hx] at h
        have e : q = .free := by
          have := (Bool.and_eq_true_iff.mp (Bool.and_eq_true_iff.mp hc).1).1
          simpa using this
        right
        exact ⟨(Option.some.inj h).symm, by rw [e]⟩
      · have hc' : (q == NameKind.free && env.scope.kind == .function && env.kindOf n == some .cell) = false := by simpa using hc
        simp only [hc', Bool.false_eq_true, if_false, List.lookup_cons, hx] at h
        exact .inl h
    | false =>
      rw [List.lookup_cons, hx]
      refine relab_look (env := env) l ?_
      by_cases hc : (q == NameKind.free && env.scope.kind == .function && env.kindOf n == some .cell) = true
      · simp only [hc, if_true, List.lookup_cons, hx] at h
        exact h
      · have hc' : (q == NameKind.free && env.scope.kind == .function && env.kindOf n == some .cell) = false := by simpa using hc
        simp only [hc', Bool.false_eq_true, if_false, List.lookup_cons, hx] at h
        exact h
structure Bk where
  C : Addr
  s₂ : Shared
  H₂ : Hp
  fp : List Addr
  xe : Value → Shared → Prop
def compCx (X : Cx) (cn : List Str) (scope : Scope) (b : Bk) : Cx where
  prog := X.prog
  w := X.w
  K := X.K
  mg := X.mg
  base := X.base
  A := X.A
  N := cn ++ X.N
  s₀ := b.s₂
  H₀ := b.H₂
  env := compEnvC scope (closOf X.env scope.names []) b.C X.env
  outer := X.stack
  stack := X.stack
  ex := b.fp
  fn := fun _ => false
  calm := X.calm
  pn := []
  xe := b.xe
def compOk (sc : Scope) (N : List Str) (scope : Scope) : Bool :=
  (scope.kind == .function) &&
  (scope.names.all fun p => (p.2 != .cell) && ((p.2 != .free) || (sc.names.lookup p.1 == some .cell) || (sc.names.lookup p.1 == some .free)) && ((p.2 != .local) || (scope.names.lookup p.1 == some .local))) &&
  (N.all fun x => scope.names.lookup x != some .local)
structure CompFit (sc : Scope) (N : List Str) (scope : Scope) : Prop where
  kind : scope.kind = .function
  nocell : ∀ p ∈ scope.names, p.2 ≠ .cell
  free : ∀ p ∈ scope.names, p.2 = .free → sc.names.lookup p.1 = some .cell ∨ sc.names.lookup p.1 = some .free
  loc : ∀ p ∈ scope.names, p.2 = .local → scope.names.lookup p.1 = some .local
  apart : ∀ x ∈ N, scope.names.lookup x ≠ some .local
theorem CompFit.of {sc : Scope} {N : List Str} {scope : Scope} (h : compOk sc N scope = true) : CompFit sc N scope := by
  unfold compOk at h
  rw [Bool.and_eq_true, Bool.and_eq_true] at h
  obtain ⟨⟨h1, h2⟩, h3⟩ := h
  rw [List.all_eq_true] at h2 h3
  refine ⟨by simpa using h1, fun p hp => ?_, fun p hp e => ?_, fun p hp e => ?_, fun x hx => ?_⟩
  · have := h2 p hp
    rw [Bool.and_eq_true, Bool.and_eq_true] at this
    simpa using this.1.1
  · have := h2 p hp
    rw [Bool.and_eq_true, Bool.and_eq_true] at this
    have q := this.1.2
    rw [e] at q
    rw [Bool.or_eq_true, Bool.or_eq_true] at q
    rcases q with (q | q) | q
    · exact absurd q (by decide)
    · exact .inl (by simpa using q)
    · exact .inr (by simpa using q)
  · have := h2 p hp
    rw [Bool.and_eq_true, Bool.and_eq_true] at this
    have q := this.2
    rw [e] at q
    rw [Bool.or_eq_true] at q
    rcases q with q | q
    · exact absurd q (by decide)
    · simpa using q
  · have := h3 x hx
    simpa using this
section
variable {X : Cx} {pins : List (Addr × Obj)} {σ : St} {H : Hp}
theorem mem_of_look {l : List (Str × NameKind)} {x : Str} {k : NameKind} (h : l.lookup x = some k) : (x, k) ∈ l := PySem.mem_of_lookup h
theorem Inv.block {s₂ : Shared} {h₁ : Heap} {tk : Nat} {cn : List Str} {scope : Scope} {fp : List Addr} {xe : Value → Shared → Prop} {C D : Addr} {m : Str → Option Value}
    (I : Inv X pins σ H s₂) (F : CompFit X.env.scope X.N scope) (hc : X.calm = true) (hf : ∀ b ∈ fp, FpOk X pins H b) (hfl : ∀ b ∈ fp, b < s₂.heap.objs.size)
    (hC : s₂.heap.objs.size ≤ C) (hD : s₂.heap.objs.size ≤ D) (hDC : D ≠ C) (hn : h₁.Ns C m) (old : ∀ b o, s₂.heap.get? b = some o → h₁.get? b = some o)
    (hacc : h₁.get? D = some { cls := .type "list", data := .seq ([] : List Value).toArray 0 }) :
    Inv (compCx X cn scope ⟨C, s₂, H, fp, xe⟩) [] (List.replicate cn.length none ++ σ) (upd H D (.lst [])) { s₂ with heap := h₁, toks := tk } := by
  have cellHas : ∀ x, ((compCx X cn scope ⟨C, s₂, H, fp, xe⟩).env.kindOf x = some .cell ∨ (compCx X cn scope ⟨C, s₂, H, fp, xe⟩).env.kindOf x = some .free) → (x, NameKind.free) ∈ scope.names := by
    intro x hx
    have hx' : (relabel scope X.env).names.lookup x = some .cell ∨ (relabel scope X.env).names.lookup x = some .free := hx
    rcases hx' with z | z
    · rcases relab_look scope.names z with z | ⟨_, z⟩
      · exact absurd rfl (F.nocell _ (mem_of_look z))
      · exact mem_of_look z
    · rcases relab_look scope.names z with z | ⟨e, _⟩
      · exact mem_of_look z
      · cases e
  have kindOut : ∀ x, (x, NameKind.free) ∈ scope.names → X.env.kindOf x = some .cell ∨ X.env.kindOf x = some .free := fun x hx => F.free _ hx rfl
  have lookOut : ∀ x c, (closOf X.env scope.names []).lookup x = some c → X.env.cells.lookup x = some c := by
    intro x c e
    rcases clos_look _ _ e with z | ⟨z, e2⟩
    · cases z
    · obtain ⟨c', hc'⟩ := I.ok.has x (kindOut x z)
      rw [hc'] at e2 ⊢
      rw [e2]
      rfl
  have fsEq : (compCx X cn scope ⟨C, s₂, H, fp, xe⟩).fs = frs X.stack := rfl
  have fpfs : ∀ b ∈ fp, b ∉ frs X.stack := by
    intro b hb z
    obtain ⟨_, f1, f2, _⟩ := hf b hb
    rcases List.mem_cons.mp (I.stkSub b z) with e | e
    · exact f1 e
    · exact f2 e
  have cellLt : ∀ x c, X.env.cells.lookup x = some c → c < s₂.heap.objs.size := by
    intro x c e
    obtain ⟨v, o, ho, _⟩ := I.cell x c e
    exact Heap.lt_size ho
  have ok : (compCx X cn scope ⟨C, s₂, H, fp, xe⟩).Ok := by
    refine ⟨I.ok.mod, ?_, I.ok.glob, I.ok.blt, hC, fun x y c h1 h2 => I.ok.inj x y c (lookOut x c h1) (lookOut y c h2), fun x hx => ?_, fun x c z => ?_, fun _ => I.ok.hd hc, I.ok.frames, .inl rfl, fun b hb => ⟨?_, fun x c e => ?_⟩,
      fun b o e => I.bs b o e, Nat.le_trans I.ok.bsz I.sz, fun b o e hb => ?_, fun b hb => ?_, I.stack, I.stkFree⟩
    · show (relabel scope X.env).kind = .function
      exact F.kind
    · have := clos_has (env := X.env) (x := x) scope.names [] (.inr (cellHas x hx))
      exact Option.isSome_iff_exists.mp this
    · cases z
    · exact Nat.ne_of_lt (Nat.lt_of_lt_of_le (hfl b hb) hC)
    · exact (hf b hb).2.2.2.2.1 x c (lookOut x c e)
    · have : X.base.objs.size ≤ X.s₀.heap.objs.size := I.ok.bsz
      rcases (hf b hb).2.2.2.1 with z | z
      · exact I.ok.noex b o e z
      · exact absurd (Nat.lt_of_lt_of_le (Heap.lt_size e) (Nat.le_trans I.ok.bsz z)) (Nat.lt_irrefl _)
    · exact fpfs b hb
  have hDn : H D = none := I.hok.fresh hD
  have hok1 : HOk X.prog X.w (upd H D (.lst [])) h₁ := I.hok.laid old hD ⟨Nat.zero_le _, [], 0, .nil, hacc⟩
  refine ⟨ok, rfl, I.bare, Un.laid old hD hDn, ⟨m, hn, fun i x v e1 e2 e3 => ?_⟩, fun x c e => ?_, ?_, fun x c e => ?_, fun p hp => absurd (show p ∈ ([] : List (Addr × Obj)) from hp) (by simp), hok1, ?_⟩
  · have hi : ¬ i < cn.length := by
      intro hi
      rw [List.getElem?_append_left (by simpa using hi), List.getElem?_replicate] at e2
      split at e2 <;> cases e2
    rw [List.getElem?_append_right (by simpa using hi), List.length_replicate] at e2
    have e1' : (cn ++ X.N)[i]? = some x := e1
    rw [List.getElem?_append_right (by omega)] at e1'
    obtain ⟨m0, hm0, hl⟩ := I.loc
    have hxN : x ∈ X.N := List.mem_of_getElem? e1'
    have hfr : (x, NameKind.free) ∈ scope.names := by
      have e3' : (relabel scope X.env).names.lookup x = some .local ∨ (relabel scope X.env).names.lookup x = some .cell ∨ (relabel scope X.env).names.lookup x = some .free := e3
      rcases e3' with z | z | z
      · rcases relab_look scope.names z with z | ⟨e, _⟩
        · exact absurd z (F.apart x hxN)
        · cases e
      · exact cellHas x (.inl z)
      · exact cellHas x (.inr z)
    have hk := kindOut x hfr
    have vis : Vis X.env.scope x := by
      rcases hk with z | z
      · exact .inr (.inl z)
      · exact .inr (.inr z)
    obtain ⟨u, r, lk⟩ := hl (i - cn.length) x v e1' e2 vis
    refine ⟨u, r, ?_⟩
    rcases lk with ⟨z, _⟩ | ⟨_, c, ec, z⟩
    · rcases hk with q | q
      · rw [z] at q; cases q
      · rw [z] at q; cases q
    · have hcl : (closOf X.env scope.names []).lookup x = some c := by
        obtain ⟨c', e'⟩ := Option.isSome_iff_exists.mp (clos_has (env := X.env) (x := x) scope.names [] (.inr hfr))
        rw [e']
        have := lookOut x c' e'
        rw [ec] at this
        exact this.symm
      refine .inr ⟨?_, c, hcl, ?_⟩
      · have e3' : (relabel scope X.env).names.lookup x = some .local ∨ (relabel scope X.env).names.lookup x = some .cell ∨ (relabel scope X.env).names.lookup x = some .free := e3
        rcases e3' with y | y | y
        · rcases relab_look scope.names y with y | ⟨e, _⟩
          · exact absurd y (F.apart x hxN)
          · cases e
        · exact .inl y
        · exact .inr y
      · obtain ⟨o, ho, hd⟩ := z
        exact ⟨o, old c o ho, hd⟩
  · obtain ⟨v, o, ho, hd⟩ := I.cell x c (lookOut x c e)
    exact ⟨v, o, old c o ho, hd⟩
  · show upd H D (.lst []) C = none
    rw [upd_ne (Ne.symm hDC)]
    exact I.hok.fresh hC
  · rw [upd_ne (Nat.ne_of_lt (Nat.lt_of_lt_of_le (cellLt x c (lookOut x c e)) hD))]
    exact I.freeC x c (lookOut x c e)
  · show (List.replicate cn.length none ++ σ).length = (cn ++ X.N).length
    rw [List.length_append, List.length_replicate, List.length_append, I.len]
theorem Inv.unblock {s₂ s' : Shared} {h' : Heap} {cn : List Str} {scope : Scope} {fp : List Addr} {xe : Value → Shared → Prop} {C : Addr} {H' : Hp} {σ' : St} {pl : List (Addr × Obj)}
    (I : Inv X pins σ H s₂) (hf : ∀ b ∈ fp, FpOk X pins H b) (hC : s₂.heap.objs.size ≤ C) (J : Inv (compCx X cn scope ⟨C, s₂, H, fp, xe⟩) pl σ' H' s') (sb : Heap.SameBut C s'.heap h') :
    Inv X pins σ H' { s' with heap := h' } := by
  have neC : ∀ b o, s₂.heap.get? b = some o → b ≠ C := fun b o e => Nat.ne_of_lt (Nat.lt_of_lt_of_le (Heap.lt_size e) hC)
  have u : Un (frs X.stack) fp H H' s₂.heap s'.heap := J.base
  have un : Un (frs X.stack) fp H H' s₂.heap h' :=
    ⟨fun b o e n hb hx => (sb.2 b (neC b o e)).trans (u.keep b o e n hb hx),
     fun b o e n hb hx => by
      obtain ⟨sl, q⟩ := u.slot b o e n hb hx
      exact ⟨sl, (sb.2 b (neC b o e)).trans q⟩,
     u.free, fun b o e hx => by
      obtain ⟨o', q⟩ := u.there b o e hx
      exact ⟨o', (sb.2 b (neC b o e)).trans q⟩, u.tups, u.frzs, u.tbls⟩
  have fC : H' C = none := J.free
  have hok : HOk X.prog X.w H' h' := fun b o e => by
    refine (J.hok b o e).stay (fun c v hc q => (sb.2 c ?_).trans q) (fun _ q => q) fun _ _ q => q
    rintro rfl
    rcases hc with z | z
    · rw [← z, fC] at e; cases e
    · rw [fC] at z; cases z
  have os : s'.os = s₂.os := J.os
  refine I.call' (s' := { s' with heap := h' }) os un hok J.bare fun b hb => ?_
  obtain ⟨_, f1, _, f3, f4, f5⟩ := hf b hb
  exact ⟨f3, f1, f4, f5⟩
end
end L2
set_option maxHeartbeats 4000000
namespace L2
open PySem PySem.Spec PyProof.Rows
theorem comp_loop {prog : Program} {w : World} {A : Around} {R : Result → Shared → Prop} {s : Shared} {elt tg iter : Expr} {ifs : List Expr} {scope : Scope} {pos : Pos} {it acc : Value} {env : Env} (J : Nat → Shared → Prop)
    (turn : ∀ n s, J n s → wpAny (model prog w) A (pyNext it) (fun r s₁ => (r = none ∧ R (.ok .next) s₁) ∨ ∃ v, r = some v ∧
      wpAny (model prog w) A (letOwnedTupleGo tg it v) (fun _ s₂ => wpAny (model prog w) A (assign tg env v) (fun _ s₃ =>
        wpAny (model prog w) A (forIn ifs true fun c r => if r = true then do let ok ← isTrue c env (eval c env); pure (ForInStep.yield ok) else pure (ForInStep.yield r)) (fun ok s₄ =>
          if ok = true then wpAny (model prog w) A (eval elt env) (fun x s₅ => wpAny (model prog w) A (call (.builtin "list.append") [acc, x]) (fun _ s₆ => ∃ m, m < n ∧ J m s₆) (notedBy (model prog w) A env fun e s' => R (.error e) s') s₅)
            (notedBy (model prog w) A env fun e s' => R (.error e) s') s₄
          else ∃ m, m < n ∧ J m s₄) (notedBy (model prog w) A env fun e s' => R (.error e) s') s₃) (notedBy (model prog w) A env fun e s' => R (.error e) s') s₂) (notedBy (model prog w) A env fun e s' => R (.error e) s') s₁)
      (notedBy (model prog w) A env fun e s' => R (.error e) s') s)
    (n : Nat) (h : J n s) : codeAny (model prog w) A (.compLoop (.ListComp elt [⟨tg, iter, ifs, 0⟩] scope pos) 0 it acc env) R s := by
  refine codeAny_loop rfl J (fun n s hJ => ?_) n h
  refine wpAny_noted (A := A) (m := compTurn (.ListComp elt [⟨tg, iter, ifs, 0⟩] scope pos) 0 it acc env) (env := env) ?_
  rw [compTurn_list]
  refine wpAny_bind (wpAny_standAt (wpAny_bind (thn (turn n s hJ) fun r s₁ h₁ => ?_)))
  rcases h₁ with ⟨e, h₁⟩ | ⟨v, e, h₁⟩
  · subst e
    exact wpAny_pure h₁
  · subst e
    refine wpAny_bind (thn h₁ fun _ s₂ h₂ => wpAny_bind (thn h₂ fun _ s₃ h₃ => wpAny_bind (thn h₃ fun ok s₄ h₄ => ?_)))
    cases ok with
    | false => exact wpAny_pure ⟨rfl, h₄⟩
    | true => exact wpAny_bind (wpAny_bind (thn h₄ fun x s₅ h₅ => wpAny_bind (thn h₅ fun _ s₆ h₆ => wpAny_pure (wpAny_pure ⟨rfl, h₆⟩))))
def PF (X : Cx) (ifs : List Expr) (t : TT) : Prop :=
  ∀ (pins : List (Addr × Obj)) (s : Shared) (σ : St) (H : Hp) (Q : Bool → Hp → Prop), Inv X pins σ H s → t σ H Q →
    wpAny (model X.prog X.w) X.A (forIn ifs true fun c r => if r = true then do let ok ← isTrue c X.env (eval c X.env); pure (ForInStep.yield ok) else pure (ForInStep.yield r)) (TP X pins σ Q) X.xe s
def tAll : TT := fun _ H Q => Q true H
theorem pf_nil {X : Cx} : PF X [] tAll := by
  intro pins s σ H Q I h
  rw [List.forIn_nil]
  exact wpAny_pure ⟨H, I, h⟩
def blkErr (X : Cx) (C : Addr) (e : Value) (s' : Shared) : Prop :=
  ∃ m, s'.heap.Ns C m ∧ ∀ h', Heap.SameBut C s'.heap h' → ∀ cenv : Env, cenv.locals = C → wpAny (model X.prog X.w) X.A (passOn "comprehension.variables-let-go" e cenv : Sem Value) (fun _ _ => False) X.xe { s' with heap := h' }
def blkXe (X : Cx) (scope : Scope) (C : Addr) : Value → Shared → Prop :=
  notedBy (model X.prog X.w) X.A (compEnvC scope (closOf X.env scope.names []) C X.env) (blkErr X C)
def tComp (n : Nat) (wi : TI) (g : Bk → TG) (tc : Bk → TT) (te : Bk → TE) : TE := fun σ H Q => wi σ H fun J H1 => ∀ (D : Addr) (b : Bk), H1 D = none → ∃ W : Nat → Nat → List V → St → Hp → Prop,
  (∃ m, W 0 m [] (List.replicate n none ++ σ) (upd H1 D (.lst []))) ∧ ∀ i m ys σ H, W i m ys σ H →
    (J.stop i H ∧ Q (.ref D) H) ∨ (J.go i H ∧ ∀ x H', J.yld i H x H' → g b x σ H' fun σ2 H2 => tc b σ2 H2 fun ok H3 =>
      if ok = true then te b σ2 H3 fun y H4 => H4 D = some (.lst ys) ∧ ys.length < sizeLine ∧ ∃ m', m' < m ∧ W (i + 1) m' (ys ++ [y]) σ2 (upd H4 D (.lst (ys ++ [y])))
      else ∃ m', m' < m ∧ W (i + 1) m' ys σ2 H3)
section
variable {X : Cx} {tg iter elt : Expr} {ifs : List Expr} {scope : Scope} {pos : Pos} {cn : List Str} {wi : TI} {g : Bk → TG} {tc : Bk → TT} {te : Bk → TE} {TH : Bk → Prop}
theorem comp_run {pins : List (Addr × Obj)} {σ : St} {H : Hp} {s₂ : Shared} {it : Addr} {fp : List Addr} {tn : Nat → Heap → Prop} {J : It} {RR : Value → Addr → Result → Shared → Prop} {QQ : Addr → Hp → Prop} {EE : Value → Shared → Prop}
    (hcalm : X.calm = true) (F : CompFit X.env.scope X.N scope) (hg : ∀ b, TH b → PG (compCx X cn scope b) tg (g b)) (ht : ∀ b, TH b → PF (compCx X cn scope b) ifs (tc b)) (he : ∀ b, TH b → PE (compCx X cn scope b) elt (te b))
    (hTH : ∀ C, s₂.heap.objs.size ≤ C → TH ⟨C, s₂, H, fp, blkXe X scope C⟩)
    (I : Inv X pins σ H s₂) (T : Turn X.prog X.w X.K tg J fp it tn) (st : tn 0 s₂.heap) (hf : ∀ b ∈ fp, FpOk X pins H b)
    (h : ∀ (D : Addr) (b : Bk), H D = none → ∃ W : Nat → Nat → List V → St → Hp → Prop, (∃ m, W 0 m [] (List.replicate cn.length none ++ σ) (upd H D (.lst []))) ∧ ∀ i m ys σ H, W i m ys σ H →
      (J.stop i H ∧ QQ D H) ∨ (J.go i H ∧ ∀ x H', J.yld i H x H' → g b x σ H' fun σ2 H2 => tc b σ2 H2 fun ok H3 =>
        if ok = true then te b σ2 H3 fun y H4 => H4 D = some (.lst ys) ∧ ys.length < sizeLine ∧ ∃ m', m' < m ∧ W (i + 1) m' (ys ++ [y]) σ2 (upd H4 D (.lst (ys ++ [y])))
        else ∃ m', m' < m ∧ W (i + 1) m' ys σ2 H3))
    (hR : ∀ C D σ' H' s', s₂.heap.objs.size ≤ C → Inv (compCx X cn scope ⟨C, s₂, H, fp, blkXe X scope C⟩) [] σ' H' s' → QQ D H' → RR (.ref D) C (.ok .next) s')
    (hE : ∀ C D e s', blkErr X C e s' → RR (.ref D) C (.error e) s') :
    wpAny (model X.prog X.w) X.A (newList []) (fun acc s₃ => wpAny (model X.prog X.w) X.A (newFunctionEnv scope X.env.globals (closOf X.env scope.names []) [] X.env.qual none .none (some X.env)) (fun cenv s₄ =>
      codeAny (model X.prog X.w) X.A (.compStart (.ListComp elt [⟨tg, iter, ifs, 0⟩] scope pos) 0 (.ref it) acc { cenv with scope := relabel scope X.env }) (RR acc cenv.locals) s₄) EE s₃) EE s₂ := by
  refine wpAny_newObj_type (wpAny_newFunctionEnv F.nocell (by intro y hy; simp at hy) (fun h₁ hns₁ hsb₁ => ?_) F.kind)
  dsimp only at hns₁ hsb₁ ⊢
  generalize hH2 : s₂.heap.push { cls := .type "list", dict := none, data := .seq ([] : List Value).toArray } = H2 at hns₁ hsb₁ ⊢
  have hC : H2.objs.size = s₂.heap.objs.size + 1 := by rw [← hH2, Heap.size_push]
  have hDC : s₂.heap.objs.size ≠ H2.objs.size := by omega
  have hCle : s₂.heap.objs.size ≤ H2.objs.size := by omega
  have hfl : ∀ b ∈ fp, b < s₂.heap.objs.size := fun b hb => by
    obtain ⟨o, e, _⟩ := T.obj 0 _ st b hb
    exact Heap.lt_size e
  have old2 : ∀ b o, s₂.heap.get? b = some o → H2.get? b = some o := fun b o e => hH2 ▸ Heap.get?_push_of_some _ e
  have old : ∀ b o, s₂.heap.get? b = some o → h₁.get? b = some o := fun b o e => by
    have hb := Heap.lt_size e
    refine hsb₁.extBut b o (Nat.ne_of_lt (Nat.lt_of_lt_of_le hb hCle)) (Heap.get?_push_of_some _ (old2 b o e))
  have hacc : h₁.get? s₂.heap.objs.size = some { cls := .type "list", data := .seq ([] : List Value).toArray 0 } :=
    hsb₁.extBut _ _ hDC (Heap.get?_push_of_some _ (hH2 ▸ Heap.get?_push_size _ rfl))
  have I0 := Inv.block (cn := cn) (xe := blkXe X scope H2.objs.size) (tk := s₂.toks + ([] : List (Str × Value)).length) I F hcalm hf hfl hCle (Nat.le_refl _) hDC hns₁ old hacc
  have th := hTH _ hCle
  obtain ⟨W, ⟨m0, w0⟩, turn⟩ := h s₂.heap.objs.size ⟨H2.objs.size, s₂, H, fp, blkXe X scope H2.objs.size⟩ (I.hok.fresh (Nat.le_refl _))
  have fpx : ∀ {H' : Hp}, (∀ b ∈ fp, H' b = none) → ∀ b ∈ fp, FpOk (compCx X cn scope ⟨H2.objs.size, s₂, H, fp, blkXe X scope H2.objs.size⟩) [] H' b := fun {H'} hn b hb => by
    refine ⟨hn b hb, (I0.ok.exf b hb).1, I0.ok.exfs b hb, .inl hb, (I0.ok.exf b hb).2, fun p hp => absurd (show p ∈ ([] : List (Addr × Obj)) from hp) (by simp)⟩
  have hcomp : (compCx X cn scope ⟨H2.objs.size, s₂, H, fp, blkXe X scope H2.objs.size⟩).calm = true := hcalm
  have loop : ∀ s₃ : Shared, s₃ = { s₂ with heap := h₁, toks := s₂.toks + ([] : List (Str × Value)).length } →
      codeAny (model X.prog X.w) X.A (.compLoop (.ListComp elt [⟨tg, iter, ifs, 0⟩] scope pos) 0 (.ref it) (.ref s₂.heap.objs.size) (compEnvC scope (closOf X.env scope.names []) H2.objs.size X.env))
        (RR (.ref s₂.heap.objs.size) H2.objs.size) s₃ := by
    rintro s₃ rfl
    have toE : ∀ e s', (compCx X cn scope ⟨H2.objs.size, s₂, H, fp, blkXe X scope H2.objs.size⟩).xe e s' →
        notedBy (model X.prog X.w) X.A (compEnvC scope (closOf X.env scope.names []) H2.objs.size X.env) (fun e s' => RR (.ref s₂.heap.objs.size) H2.objs.size (.error e) s') e s' := fun e s' z =>
      wpAny_mono (show notedBy (model X.prog X.w) X.A (compEnvC scope (closOf X.env scope.names []) H2.objs.size X.env) (blkErr X H2.objs.size) e s' from z) (fun _ _ q => hE _ _ _ _ q) fun _ _ q => hE _ _ _ _ q
    refine comp_loop (env := compEnvC scope (closOf X.env scope.names []) H2.objs.size X.env)
      (fun n s' => ∃ i ys σ' H', Inv (compCx X cn scope ⟨H2.objs.size, s₂, H, fp, blkXe X scope H2.objs.size⟩) [] σ' H' s' ∧ tn i s'.heap ∧ (∀ b ∈ fp, H' b = none) ∧ W i n ys σ' H') ?_ m0
      ⟨0, [], _, _, I0, T.keep _ _ _ st fun b _ o e => old b o e, fun b hb => ?_, w0⟩
    · rintro n s' ⟨i, ys, σ', H', I', st', fr', w'⟩
      rcases turn i n ys σ' H' w' with ⟨stop, qn⟩ | ⟨go, step⟩
      · refine wpAny_mono (T.done (compCx X cn scope ⟨H2.objs.size, s₂, H, fp, blkXe X scope H2.objs.size⟩) rfl rfl rfl hcomp i [] s' σ' H' (fun _ _ => False) I' (fpx fr') st' stop) (fun r s4 ⟨hr, I4⟩ => ?_) fun _ _ z => z.elim
        exact .inl ⟨hr, hR _ _ _ _ _ hCle I4 qn⟩
      · refine wpAny_mono (T.item (compCx X cn scope ⟨H2.objs.size, s₂, H, fp, blkXe X scope H2.objs.size⟩) rfl rfl rfl hcomp i [] s' σ' H' (fun _ _ => False) I' (fpx fr') st' go) (fun r s4 ⟨u, hr, h4⟩ => ?_) fun _ _ z => z.elim
        refine .inr ⟨u, hr, wpAny_mono h4 (fun _ s5 ⟨x, H5, I5, r5, y5, st5, fr5⟩ => ?_) fun _ _ z => z.elim⟩
        have I5' := I5.pinned (fpx fr5) (T.obj _ _ st5)
        refine wpAny_mono (hg _ th _ s5 σ' H5 x u _ I5' r5 (step x H5 y5)) (fun _ s6 ⟨σ6, H6, I6, q6⟩ => ?_) toE
        refine wpAny_mono (ht _ th _ s6 σ6 H6 _ I6 q6) (fun ok s7 ⟨H7, I7, q7⟩ => ?_) toE
        have back : ∀ {σ8 : St} {H8 : Hp} {s8 : Shared}, Inv (compCx X cn scope ⟨H2.objs.size, s₂, H, fp, blkXe X scope H2.objs.size⟩) ([] ++ pinsAt fp s5.heap) σ8 H8 s8 → tn (i + 1) s8.heap ∧ ∀ b ∈ fp, H8 b = none := fun {σ8 H8 s8} I8 => by
          refine ⟨T.keep _ _ _ st5 fun b hb o e => (I8.pin (b, o) (List.mem_append_right _ (List.mem_append_right _ (mem_pinsAt hb e)))).1, fun b hb => ?_⟩
          obtain ⟨o, e, d⟩ := T.obj _ _ st5 b hb
          exact (I8.pin (b, o) (List.mem_append_right _ (List.mem_append_right _ (mem_pinsAt hb e)))).2.1
        cases ok with
        | false =>
          rw [if_neg Bool.false_ne_true] at q7 ⊢
          obtain ⟨m', hm, w7⟩ := q7
          obtain ⟨t8, f8⟩ := back I7
          exact ⟨m', hm, i + 1, ys, σ6, H7, I7.unpinned, t8, f8, w7⟩
        | true =>
          rw [if_pos rfl] at q7 ⊢
          refine wpAny_mono (he _ th _ s7 σ6 H7 _ I7 q7) (fun v s8 ⟨y, H8, I8, r8, hl, hz, m', hm, w8⟩ => ?_) toE
          refine wpAny_mono (mt_append (X := compCx X cn scope ⟨H2.objs.size, s₂, H, fp, blkXe X scope H2.objs.size⟩) _ s8 σ6 H8 (.ref s₂.heap.objs.size) [y] (.ref s₂.heap.objs.size) [v] (fun _ H9 => W (i + 1) m' (ys ++ [y]) σ6 H9) I8 rfl (.cons r8 .nil) ⟨_, ys, y, rfl, rfl, hl, hz, w8⟩)
            (fun _ s9 ⟨_, H9, I9, _, w9⟩ => ?_) toE
          obtain ⟨t9, f9⟩ := back I9
          exact ⟨m', hm, i + 1, _, σ6, H9, I9.unpinned, t9, f9, w9⟩
    · rw [upd_ne (Nat.ne_of_lt (hfl b hb))]
      exact (hf b hb).1
  exact codeAny_compStart_list (loop _ rfl) (T.self _ 0 _ _ _ (T.keep _ _ _ st fun b _ o e => old b o e) (loop _ rfl))
theorem pe_compT (hcalm : X.calm = true) (F : CompFit X.env.scope X.N scope) (hi : PI X tg iter wi) (hg : ∀ b, TH b → PG (compCx X cn scope b) tg (g b)) (ht : ∀ b, TH b → PF (compCx X cn scope b) ifs (tc b))
    (he : ∀ b, TH b → PE (compCx X cn scope b) elt (te b))
    (hTH : ∀ pins σ H s₂ fp C, Inv X pins σ H s₂ → (∀ b ∈ fp, FpOk X pins H b) → s₂.heap.objs.size ≤ C → TH ⟨C, s₂, H, fp, blkXe X scope C⟩)
    (hs : ∀ x, foldedSetIterable iter X.env x = pure x := by intro _; rfl) : PE X (.ListComp elt [⟨tg, iter, ifs, 0⟩] scope pos) (tComp cn.length wi g tc te) := by
  intro pins s σ H Q I h
  rw [eval_ListComp]
  have hcl : closureFor scope X.env = pure (closOf X.env scope.names []) := clos_eq fun p hp e => I.ok.has p.1 (F.free p hp e)
  refine wpAny_comprehension_free (use := none) rfl hs hcl F.kind F.loc (thn (hi pins s σ H _ I h) fun xv s₁ h₁ => thn h₁ fun itv s₂ h₂ => ?_)
  obtain ⟨it, fp, tn, J, H2, rfl, I2, T, st, f2, R⟩ := h₂
  refine comp_run (QQ := fun D H' => Q (.ref D) H') (RR := fun acc C => compPost (model X.prog X.w) X.A X.xe none (EP X pins σ Q) acc C) hcalm F hg ht he (fun C hC => hTH pins σ H2 s₂ fp C I2 f2 hC) I2 T st f2 R ?_ ?_
  · intro C D σ' H' s' hC I' q
    obtain ⟨m, hm, _⟩ := I'.loc
    exact ⟨m, hm, fun h' sb => ⟨.ref D, H', I2.unblock f2 hC I' sb, rfl, q⟩⟩
  · intro C D e s' z
    exact z
theorem pe_comp (hcalm : X.calm = true) (F : CompFit X.env.scope X.N scope) (hi : PI X tg iter wi) (hg : ∀ b, PG (compCx X cn scope b) tg (g b)) (ht : ∀ b, PF (compCx X cn scope b) ifs (tc b)) (he : ∀ b, PE (compCx X cn scope b) elt (te b))
    (hs : ∀ x, foldedSetIterable iter X.env x = pure x := by intro _; rfl) : PE X (.ListComp elt [⟨tg, iter, ifs, 0⟩] scope pos) (tComp cn.length wi g tc te) :=
  pe_compT (TH := fun _ => True) hcalm F hi (fun b _ => hg b) (fun b _ => ht b) (fun b _ => he b) (fun _ _ _ _ _ _ _ _ _ => trivial) hs
end
end L2
set_option maxHeartbeats 4000000
namespace L2
open PySem PySem.Spec PyProof.Rows
section
variable {X : Cx} {e : Expr} {es : List Expr} {te : TE} {pos : Pos}
abbrev TP1 := St → Hp → (Str → Hp → Prop) → Prop
abbrev TPs := Str → St → Hp → (Str → Hp → Prop) → Prop
theorem call_int_text : CallR X (.type "int") (fun xs H Q => ∃ z n, xs = [.str z] ∧ PySem.intText? z = some n ∧ z.length ≤ 640 ∧ Q (.int n) H) := by
  intro pins s σ H xs us Q I r h
  obtain ⟨z, n, rfl, hn, hl, q⟩ := h
  obtain ⟨u, rfl, t, rfl⟩ := r.one
  exact PySem.W.KIN.call_text hn hl ⟨.int n, H, I.tok _, ⟨_, rfl⟩, q⟩
def rSlS : V → Option Int → Option Int → Hp → VK → Prop := fun x lo hi H Q => ∃ z, x = .str z ∧ z.length ≤ sizeLine ∧ Q (.str (Txt.slice z lo hi)) H
theorem part_pair {v : Value} {o : Option Int} (p : IsPart v o) : ∃ l : Option (Int × Tok), v = partValue l ∧ l.map (·.1) = o := by
  cases p with
  | none => exact ⟨none, rfl, rfl⟩
  | int i t => exact ⟨some (i, t), rfl, rfl⟩
theorem sl_str : SlR X rSlS := by
  intro pins s σ H x v vl vu lo hi sl Q I rx hs pl pu h
  obtain ⟨z, rfl, hz, q⟩ := h
  obtain ⟨t, rfl⟩ := rx
  obtain ⟨l, rfl, el⟩ := part_pair pl
  obtain ⟨u, rfl, eu⟩ := part_pair pu
  subst el eu
  refine ⟨"str", _, F.slot_str_getitem.lookup, typeIs_str _ _ _, ?_⟩
  obtain ⟨o, ho, hc, hd⟩ := hs
  refine wpAny_getItem_str_slice (l := l) (u := u) (st := none) ⟨o, ho, hc, hd⟩ rfl ?_
  exact post_val_or_str ⟨Nat.le_trans (Txt.slice_le z _ _) hz, fun t' k => ⟨.str _, H, I.tok _, ⟨t', rfl⟩, q⟩⟩
def Its (z : Str) : It := ⟨fun i _ => i < z.cps.size, fun i H x H' => H' = H ∧ ∃ c, z.cps[i]? = some c ∧ x = .str ⟨#[c]⟩, fun i _ => z.cps.size ≤ i⟩
def iStr (tl : TE) : TI := fun σ H R => tl σ H fun x H1 => ∃ z, x = .str z ∧ R (Its z) H1
theorem turn_str {P : Program} {w : World} {K : PySem.W.Frag} {tg : Expr} {z : Str} {it : Addr} {T : String} {t : Tok} (hT : ["enumerate", "zip", "dict_itemiterator", "dict_reverseitemiterator", "odict_iterator", "itertools.zip_longest", "itertools.pairwise"].contains T = false)
    (W : ∀ A : Around, A.handled = none → Walks P w A it [it] [it] z.cps.size (SignAt z) (fun i h => h.IsStrIter it T z t i)) 
    (S : ∀ (A : Around) (i : Nat) (s : Shared) (Q : Value → Shared → Prop) (E : Value → Shared → Prop), s.heap.IsStrIter it T z t i → Q (.ref it) s → wpAny (model P w) A (pyIter (.ref it)) Q E s) :
    Turn P w K tg (Its z) [it] it (fun i h => h.IsStrIter it T z t i ∧ i ≤ z.cps.size) where
  mem := by simp
  obj := fun i h st b hb => by
    have e : b = it := by simpa using hb
    subst e
    obtain ⟨⟨o, e, c, d⟩, _⟩ := st
    exact ⟨o, e, fun v q => by rw [d] at q; cases q⟩
  keep := fun i h h' st k => ⟨by
    obtain ⟨⟨o, e, c, d⟩, _⟩ := st
    exact ⟨o, k it (by simp) o e, c, d⟩, st.2⟩
  item := by
    intro X hP hw hK hc i pins s σ H E I hf st hg
    subst hP hw hK
    obtain ⟨f0, f1, f2, f3, f4, f5⟩ := hf it (by simp)
    have hgi : i < z.cps.size := hg
    refine (W X.A (I.ok.hd hc)).item i s _ _ hgi st.1 fun v h' tk hv st' kk => ?_
    obtain ⟨c, u, hc', rfl⟩ := hv
    have I1 : Inv X pins σ H { s with heap := h', toks := tk } := I.turned (fun b o hb e => kk b o (by simpa using hb) e) f0 f1 f3 f4 f5
    obtain ⟨o, e, cc, d⟩ := id st'
    exact ⟨_, rfl, go_of (s := { s with heap := h', toks := tk }) e cc d hT ⟨.str ⟨#[c]⟩, H, I1, ⟨u, rfl⟩, ⟨rfl, c, hc', rfl⟩, ⟨st', hgi⟩, fun b hb => (hf b hb).1⟩⟩
  done := by
    intro X hP hw hK hc i pins s σ H E I hf st hg
    subst hP hw hK
    obtain ⟨f0, f1, f2, f3, f4, f5⟩ := hf it (by simp)
    have hge : z.cps.size ≤ i := hg
    have e : i = z.cps.size := Nat.le_antisymm st.2 hge
    subst e
    exact (W X.A (I.ok.hd hc)).done s _ _ st.1 fun h' tk kk => ⟨rfl, I.turned (fun b o hb e => kk b o (by simpa using hb) e) f0 f1 f3 f4 f5⟩
  self := fun A i s Q E st h => S A i s Q E st.1 h
theorem pi_str {tg l : Expr} {tl : TE} (hl : PE X l tl) : PI X tg l (iStr tl) := by
  intro pins s σ H R I h
  refine thn (hl pins s σ H _ I h) fun v s1 ⟨x, H1, I1, r1, q1⟩ => ?_
  obtain ⟨z, rfl, q⟩ := q1
  obtain ⟨t, rfl⟩ := r1
  have fp : ∀ b ∈ [s1.heap.objs.size], FpOk X pins H1 b := fun b hb => by
    have e : b = s1.heap.objs.size := by simpa using hb
    subst e
    exact I1.fpOk (Nat.le_refl _) (I1.hok.fresh (Nat.le_refl _))
  cases ha : z.cps.all (· < 128)
  · refine wpAny_pyIter_wide ha ?_
    refine ⟨s1.heap.objs.size, [s1.heap.objs.size], _, _, H1, rfl, I1.kept (t' := s1.toks) fun b o e => Heap.get?_push_of_some _ e, turn_str (T := "str_iterator") (t := t) (by decide) (fun A hA => Walks.strWide hA _ z t)
      (fun A i s Q E st hq => wpAny_pyIter_striter_wide st hq), ⟨⟨_, Heap.get?_push_size _ rfl, rfl, rfl⟩, Nat.zero_le _⟩, fp, q⟩
  · refine wpAny_pyIter_ascii ha ?_
    refine ⟨s1.heap.objs.size, [s1.heap.objs.size], _, _, H1, rfl, I1.kept (t' := s1.toks) fun b o e => Heap.get?_push_of_some _ e, turn_str (T := "str_ascii_iterator") (t := t) (by decide) (fun A hA => Walks.strAscii hA _ z t)
      (fun A i s Q E st hq => wpAny_pyIter_striter_ascii st hq), ⟨⟨_, Heap.get?_push_size _ rfl, rfl, rfl⟩, Nat.zero_le _⟩, fp, q⟩
theorem any_range : ∀ bs : List Bool, (List.range bs.length).any (fun i => bs.getD i false) = bs.any id
  | [] => rfl
  | b :: bs => by
    rw [List.length_cons, List.range_succ_eq_map, List.any_cons, List.any_map, List.any_cons]
    have : ((fun i => (b :: bs).getD i false) ∘ Nat.succ) = fun i => bs.getD i false := by
      funext i
      rfl
    rw [this, any_range bs]
    rfl
theorem call_any : CallR X (.builtin "any") (fun xs H Q => X.calm = true ∧ ∃ (a : Addr) (bs : List Bool), xs = [.ref a] ∧ SqL X.K H a (bs.map V.bl) ∧ Q (.bl (bs.any id)) H) := by
  intro pins s σ H xs us Q I r h
  obtain ⟨hc, a, bs, rfl, hq, q⟩ := h
  obtain ⟨u, rfl, rfl⟩ := r.one
  obtain ⟨its, rv, p, hz⟩ := I.list hq
  have hl := rv.length
  rw [List.length_map] at hl
  have bsAt : ∀ (i : Nat) (v : Value), its.toArray[i]? = some v → v = Value.bool (bs.getD i false) := by
    intro i v hv
    have hv' : its[i]? = some v := by simpa using hv
    have hi : i < its.length := (List.getElem?_eq_some_iff.mp hv').1
    have hb : i < bs.length := by omega
    obtain ⟨u, hu, ru⟩ := rv.get (i := i) (x := .bl (bs[i])) (by rw [List.getElem?_map, List.getElem?_eq_getElem hb]; rfl)
    rw [hv'] at hu; cases hu
    have : v = .bool bs[i] := ru
    rw [this, List.getD_eq_getElem?_getD, List.getElem?_eq_getElem hb]
    rfl
  refine call_any_walk (wpAny_pyIter_list p.isList ?_)
  have ane : a ≠ s.heap.objs.size := by
    obtain ⟨o, ho, _⟩ := p.isList
    exact Nat.ne_of_lt (Heap.lt_size ho)
  have hd : X.A.in1.handled = none := I.ok.hd hc
  refine ⟨s.heap.objs.size, _, _, _, _, _, fun i => bs.getD i false, rfl, Walks.list hd s.heap.objs.size a ane its.toArray, ⟨⟨_, Heap.get?_push_size _ rfl, rfl, rfl⟩, p.isList.push _⟩, ?_, ?_⟩
  · intro i v s' Q' E' hP hQ'
    rw [bsAt i v hP]
    exact wpAny_truthy_bool hQ'
  · intro h' tk kk
    have e : (List.range its.toArray.size).any (fun i => bs.getD i false) = bs.any id := by
      rw [List.size_toArray, ← hl]
      exact any_range bs
    rw [e]
    refine ⟨.bl _, H, I.kept (t' := tk) fun b o e => kk b o (fun z => ?_) (Heap.get?_push_of_some _ e), rfl, q⟩
    have : b = s.heap.objs.size := by simpa using z
    exact absurd (Heap.lt_size e) (by rw [this]; exact Nat.lt_irrefl _)
end
end L2
set_option maxHeartbeats 4000000
namespace L2
open PySem PySem.Spec PyProof.Rows PySem.SeqAt
inductive Deq (K : PySem.W.Frag) (H : Hp) : Nat → V → V → Prop where
  | flat {n : Nat} {x : V} (f : flatV x = true) : Deq K H n x x
  | tup {n : Nat} {a b : Addr} {xs ys : List V} (ha : SqT K H a xs) (hb : SqT K H b ys) (hl : xs.length = ys.length) (h : ∀ (i : Nat) x y, xs[i]? = some x → ys[i]? = some y → Deq K H n x y) : Deq K H (n + 1) (.ref a) (.ref b)
  | lst {n : Nat} {a b : Addr} {xs ys : List V} (ha : SqL K H a xs) (hb : SqL K H b ys) (hl : xs.length = ys.length) (h : ∀ (i : Nat) x y, xs[i]? = some x → ys[i]? = some y → Deq K H n x y) : Deq K H (n + 1) (.ref a) (.ref b)
section
variable {X : Cx} {pins : List (Addr × Obj)} {σ : St} {H : Hp} {s : Shared}
theorem eqV_self : ∀ {x : V}, flatV x = true → eqV x x = true := by
  intro x f
  cases x <;> first | (simp [eqV]; done) | (cases f)
theorem range_all_true (n : Nat) : (List.range n).all (fun _ => true) = true := by simp
theorem Deq.at {n : Nat} {x y : V} (d : Deq X.K H n x y) (I : Inv X pins σ H s) : ∀ {A : Around} {u v : Value}, A.units + n < cLine → RelV x u → RelV y v →
    EqAt A s u v true ∧ (∀ a b, x = .ref a → y = .ref b → RcAt A s u v true ∧ RcNeAt A s u v false) := by
  induction d with
  | @flat n x f =>
    intro A u v hu ru rv
    refine ⟨?_, fun a b e _ => ?_⟩
    · have := eqAt_V (A := A) (s := s) ru rv f f
      rw [eqV_self f] at this
      exact this
    · subst e; cases f
  | @tup n a b xs ys ha hb hl h ih =>
    intro A u v hu ru rv
    cases ru
    cases rv
    obtain ⟨its, r, p, _⟩ := I.tuple ha
    obtain ⟨its', r', p', _⟩ := I.tuple hb
    have e1 := r.length
    have e2 := r'.length
    have he : ∀ j (h1 : j < its.toArray.size) (h2 : j < its'.toArray.size), EqAt A.in1 s its.toArray[j] its'.toArray[j] true := by
      intro j h1 h2
      have h1' : j < its.length := by simpa using h1
      have h2' : j < its'.length := by simpa using h2
      have g1 : xs[j]? = some xs[j] := List.getElem?_eq_getElem (by omega)
      have g2 : ys[j]? = some ys[j] := List.getElem?_eq_getElem (by omega)
      obtain ⟨u1, q1, k1⟩ := r.get g1
      obtain ⟨u2, q2, k2⟩ := r'.get g2
      have z1 : its.toArray[j] = u1 := by
        rw [List.getElem?_eq_getElem h1'] at q1
        simpa using q1
      have z2 : its'.toArray[j] = u2 := by
        rw [List.getElem?_eq_getElem h2'] at q2
        simpa using q2
      rw [z1, z2]
      exact (ih j _ _ g1 g2 (by show A.units + 1 + n < cLine; omega) k1 k2).1
    have bt : ((List.range (min its.toArray.size its'.toArray.size)).all (fun _ => true) && its.toArray.size == its'.toArray.size) = true := by
      rw [range_all_true]
      simp
      omega
    have rc : RcAt A s (.ref a) (.ref b) true := by
      have := RcAt.tuples (A := A) (e := fun _ => true) (show s.heap.IsTuple a its.toArray from p) (show s.heap.IsTuple b its'.toArray from p') (by omega) he
      rw [bt] at this
      exact this
    have rn : RcNeAt A s (.ref a) (.ref b) false := by
      have := RcNeAt.tuples (A := A) (e := fun _ => true) (show s.heap.IsTuple a its.toArray from p) (show s.heap.IsTuple b its'.toArray from p') (by omega) he
      rw [bt] at this
      exact this
    refine ⟨?_, fun _ _ _ _ => ⟨rc, rn⟩⟩
    by_cases e : a = b
    · subst e; exact EqAt.same _
    · exact EqAt.of_refs e rc
  | @lst n a b xs ys ha hb hl h ih =>
    intro A u v hu ru rv
    cases ru
    cases rv
    obtain ⟨its, r, p, _⟩ := I.list ha
    obtain ⟨its', r', p', _⟩ := I.list hb
    have e1 := r.length
    have e2 := r'.length
    have he : ∀ j (h1 : j < its.toArray.size) (h2 : j < its'.toArray.size), EqAt A.in1 s its.toArray[j] its'.toArray[j] true := by
      intro j h1 h2
      have h1' : j < its.length := by simpa using h1
      have h2' : j < its'.length := by simpa using h2
      have g1 : xs[j]? = some xs[j] := List.getElem?_eq_getElem (by omega)
      have g2 : ys[j]? = some ys[j] := List.getElem?_eq_getElem (by omega)
      obtain ⟨u1, q1, k1⟩ := r.get g1
      obtain ⟨u2, q2, k2⟩ := r'.get g2
      have z1 : its.toArray[j] = u1 := by
        rw [List.getElem?_eq_getElem h1'] at q1
        simpa using q1
      have z2 : its'.toArray[j] = u2 := by
        rw [List.getElem?_eq_getElem h2'] at q2
        simpa using q2
      rw [z1, z2]
      exact (ih j _ _ g1 g2 (by show A.units + 1 + n < cLine; omega) k1 k2).1
    have bt : (List.range its.toArray.size).all (fun _ => true) = true := range_all_true _
    have rc : RcAt A s (.ref a) (.ref b) true := by
      have := RcAt.lists (A := A) (e := fun _ => true) p.isList p'.isList (by simp; omega) (by omega) he
      rw [bt] at this
      exact this
    have rn : RcNeAt A s (.ref a) (.ref b) false := by
      have := RcNeAt.lists (A := A) (e := fun _ => true) p.isList p'.isList (by simp; omega) (by omega) he
      rw [bt] at this
      exact this
    refine ⟨?_, fun _ _ _ _ => ⟨rc, rn⟩⟩
    by_cases e : a = b
    · subst e; exact EqAt.same _
    · exact EqAt.of_refs e rc
def rEqD (K : PySem.W.Frag) (b : Bool) : R2 := fun x y H Q => ∃ a c, x = .ref a ∧ y = .ref c ∧ Deq K H 60 x y ∧ Q (.bl b) H
theorem op_eqD (hu : X.A.units + 64 < cLine) : OpR X (compareOp .Eq) (rEqD X.K true) := by
  intro pins s σ H x y v u Q I r1 r2 h
  obtain ⟨a, c, rfl, rfl, d, q⟩ := h
  exact (((d.at I (A := X.A) (by omega) r1 r2).2 a c rfl rfl).1) X.prog X.w X.xe _ ⟨.bl true, H, I, rfl, q⟩
theorem op_neD (hu : X.A.units + 64 < cLine) : OpR X (compareOp .NotEq) (rEqD X.K false) := by
  intro pins s σ H x y v u Q I r1 r2 h
  obtain ⟨a, c, rfl, rfl, d, q⟩ := h
  exact (((d.at I (A := X.A) (by omega) r1 r2).2 a c rfl rfl).2) X.prog X.w X.xe _ ⟨.bl false, H, I, rfl, q⟩
theorem call_isT : CallR X (.builtin "isinstance") (fun xs H Q => ∃ x T t b, xs = [x, .ty T] ∧ TyOf X.K H x t ∧ PySem.W.kitOne X.K t (.type T) = some b ∧ Q (.bl b) H) := by
  intro pins s σ H xs us Q I r h
  obtain ⟨x, T, t, b, rfl, ty, e, q⟩ := h
  obtain ⟨u, v, rfl, r1, r2⟩ := r.two
  cases r2
  exact isinst_ok I r1 ty e fun tk => ⟨.bl b, H, I.tok _, rfl, q⟩
def Ite (K : PySem.W.Frag) (a : Addr) : It :=
  ⟨fun i H => ∃ xs x, SqL K H a xs ∧ xs[i]? = some x, fun i H x H' => ∃ y t, x = .ref t ∧ H t = none ∧ (∀ xs, SqL K H a xs → xs[i]? = some y) ∧ H' = upd H t (.tup [.int i, y]), fun i H => ∃ xs, SqL K H a xs ∧ xs.length ≤ i⟩
def Itz (K : PySem.W.Frag) (a b : Addr) : It :=
  ⟨fun i H => ∃ xs ys x y, SqL K H a xs ∧ SqL K H b ys ∧ xs[i]? = some x ∧ ys[i]? = some y,
   fun i H p H' => ∃ x y t, p = .ref t ∧ H t = none ∧ (∀ xs, SqL K H a xs → xs[i]? = some x) ∧ (∀ ys, SqL K H b ys → ys[i]? = some y) ∧ H' = upd H t (.tup [x, y]),
   fun i H => ∃ xs ys, SqL K H a xs ∧ SqL K H b ys ∧ min xs.length ys.length = i⟩
theorem notList_of {a : Addr} {K : PySem.W.Frag} {X : Cx} {pins : List (Addr × Obj)} {σ : St} {H : Hp} {s : Shared} {xs : List V} {b : Addr} {o : Obj} (I : Inv X pins σ H s) (hq : SqL X.K H a xs) (e : s.heap.get? b = some o) (hc : o.cls ≠ .type "list") : a ≠ b := by
  rintro rfl
  obtain ⟨its, _, p, _⟩ := I.list hq
  obtain ⟨o', e', c', _⟩ := p.isList
  rw [e] at e'; cases e'
  exact hc c'
theorem Inv.pairLaid {tk : Nat} {h' : Heap} {wr : List Addr} {T : Addr} {xs : List V} {vals : List Value} (I : Inv X pins σ H s) (hw : ∀ b ∈ wr, FpOk X pins H b) (hT : s.heap.objs.size ≤ T) (ht : h'.IsTuple T vals.toArray) (rv : Vals xs vals) (hz : xs.length ≤ sizeLine)
    (kk : ∀ b o, b ∉ wr → s.heap.get? b = some o → h'.get? b = some o) (there : ∀ b ∈ wr, ∃ o, h'.get? b = some o) : Inv X pins σ (upd H T (.tup xs)) { s with heap := h', toks := tk } := by
  have hTn : H T = none := I.hok.fresh hT
  have nT : ∀ b o, s.heap.get? b = some o → b ≠ T := fun b o e => Nat.ne_of_lt (Nat.lt_of_lt_of_le (Heap.lt_size e) hT)
  refine I.step (g' := s.gens) (d' := s.drawn) (ch := wr) (fun b hb => ?_) (fun b o _ _ hc e _ => kk b o hc e) (fun b o _ _ hc e _ => ⟨o.slots, kk b o hc e⟩) (fun b o _ e n => by rw [upd_ne (nT b o e)]; exact n)
    (fun b o hc e => ⟨o, kk b o hc e⟩) (fun b ys e => by rw [upd_ne (ne_of_none e hTn)]; exact e) (fun b o u e => by rw [upd_ne (ne_of_none e hTn)]; exact e) (fun b ps e => ⟨#[], by rw [upd_ne (ne_of_none e hTn), e]; simp⟩) (fun m hm => ?_) (fun b u e => ?_) I.bare
  · obtain ⟨_, f1, _, f3, f4, f5⟩ := hw b hb
    exact ⟨f3, f1, f4, f5⟩
  · obtain ⟨o, es, ep, ho, r⟩ := hm
    exact ⟨o, es, ep, kk _ o (fun z => (hw _ z).2.1 rfl) ho, r⟩
  · by_cases hb : b = T
    · subst hb
      rw [upd_same] at e
      cases e
      exact ⟨hz, vals, rv, ht⟩
    · rw [upd_ne hb] at e
      refine (I.hok b u e).stay (fun c v hc q => kk c v (fun z => ?_) q) (fun c q => by rw [upd_ne (ne_of_none q hTn)]; exact q) fun c ys q => by rw [upd_ne (ne_of_none q hTn)]; exact q
      have hn := (hw c z).1
      rcases hc with hc | hc
      · rw [hc, e] at hn; cases hn
      · rw [hc] at hn; cases hn
theorem Inv.turnedMany {tk : Nat} {h' : Heap} {wr : List Addr} (I : Inv X pins σ H s) (hw : ∀ b ∈ wr, FpOk X pins H b) (kk : ∀ b o, b ∉ wr → s.heap.get? b = some o → h'.get? b = some o) : Inv X pins σ H { s with heap := h', toks := tk } := by
  refine I.step (g' := s.gens) (d' := s.drawn) (ch := wr) (fun b hb => ?_) (fun b o _ _ hc e _ => kk b o hc e) (fun b o _ _ hc e _ => ⟨o.slots, kk b o hc e⟩) (fun b o _ e n => n)
    (fun b o hc e => ⟨o, kk b o hc e⟩) (fun b ys e => e) (fun b o u e => e) (fun b ps e => ⟨#[], by rw [e]; simp⟩) (fun m hm => ?_) (fun b u e => ?_) I.bare
  · obtain ⟨_, f1, _, f3, f4, f5⟩ := hw b hb
    exact ⟨f3, f1, f4, f5⟩
  · obtain ⟨o, es, ep, ho, r⟩ := hm
    exact ⟨o, es, ep, kk _ o (fun z => (hw _ z).2.1 rfl) ho, r⟩
  · refine (I.hok b u e).stay (fun c v hc q => kk c v (fun z => ?_) q) (fun c q => q) fun c ys q => q
    have hn := (hw c z).1
    rcases hc with hc | hc
    · rw [hc, e] at hn; cases hn
    · rw [hc] at hn; cases hn
end
end L2
set_option maxHeartbeats 4000000
namespace L2
open PySem PySem.Spec PyProof.Rows PySem.SeqAt
section
variable {X : Cx}
theorem hu_of64 {k : Nat} {A : Around} (hr : Room k A) : A.units + 64 < cLine := hr.units
theorem bt_len : bootBuiltins "len" = some (.builtin "len") := by decide +kernel
theorem bt_min : bootBuiltins "min" = some (.builtin "min") := by decide +kernel
theorem bt_max : bootBuiltins "max" = some (.builtin "max") := by decide +kernel
theorem bt_enumerate : bootBuiltins "enumerate" = some (.type "enumerate") := by decide +kernel
theorem bt_zip : bootBuiltins "zip" = some (.type "zip") := by decide +kernel
theorem bt_isinstance : bootBuiltins "isinstance" = some (.builtin "isinstance") := by decide +kernel
theorem bt_int : bootBuiltins "int" = some (.type "int") := by decide +kernel
theorem bt_bool : bootBuiltins "bool" = some (.type "bool") := by decide +kernel
theorem bt_str : bootBuiltins "str" = some (.type "str") := by decide +kernel
theorem bt_list : bootBuiltins "list" = some (.type "list") := by decide +kernel
theorem bt_tuple : bootBuiltins "tuple" = some (.type "tuple") := by decide +kernel
theorem bt_any : bootBuiltins "any" = some (.builtin "any") := by decide +kernel
theorem bt_all : bootBuiltins "all" = some (.builtin "all") := by decide +kernel
end
end L2
namespace L2
open PySem PySem.Spec PyProof.Rows
end L2
namespace L2
open PySem
theorem seq_upd {K : PySem.W.Frag} {H : Hp} {a l : Addr} {o : HO} {xs : List V} (h : SqL K H a xs) (hn : H l = none) : SqL K (upd H l o) a xs := by
  have ne : ∀ {u}, H a = some u → a ≠ l := fun e => ne_of_none e hn
  rcases h with (h | ⟨u, h⟩) | h
  · exact .inl (.inl (by rw [upd_ne (ne h)]; exact h))
  · exact .inl (.inr ⟨u, by rw [upd_ne (ne h)]; exact h⟩)
  · exact .inr h
theorem Same.upd {H : Hp} {l : Addr} {o : HO} (hn : H l = none) : Same H (upd H l o) := fun b u e => by
  rw [upd_ne (ne_of_none e hn)]
  exact e
end L2
namespace L2
theorem bodyOk {X : Cx} {b : List PySem.Stmt} {t : TS} {D : Ends} {σ : St} {H : Hp} (h : PSs X b t) (q : t D σ H) : ∃ t, PSs X b t ∧ t D σ H := ⟨t, h, q⟩
theorem dec_int' (i j : Int) : decide (V.int i = V.int j) = decide (i = j) := by
  by_cases h : i = j
  · subst h; simp
  · rw [decide_eq_false h]
    exact decide_eq_false fun e => h (V.int.inj e)
end L2
namespace L2
open PySem
end L2
namespace L2
open PySem
end L2
set_option maxHeartbeats 4000000
namespace L2
open PySem PySem.Spec PyProof.Rows
section
variable {X : Cx} {tg : Expr}
theorem list_inj2 {pins : List (Addr × Obj)} {σ : St} {H : Hp} {s : Shared} {a : Addr} {xs : List V} {i : Nat} {y : V} (I : Inv X pins σ H s) (hq : SqL X.K H a xs) (hy : xs[i]? = some y) : ∀ ys, SqL X.K H a ys → ys[i]? = some y := fun ys h => by
  rw [I.list_inj h hq]
  exact hy
theorem turn_enum {P : Program} {w : World} {K : PySem.W.Frag} {es : List Expr} {k : Nat} {tp : Pos} (a e it : Addr) (hei : e ≠ it) :
    Turn P w K (.Tuple es k tp) (Ite K a) [e, it] e (fun i h => (∃ old, IsEnum h e it i old) ∧ h.IsListIter it a i) where
  mem := by simp
  obj := fun i h st b hb => by
    obtain ⟨⟨old, he⟩, o, e2, c, d⟩ := st
    rcases List.mem_cons.mp hb with rfl | hb
    · exact ⟨_, he, fun v z => by
        have z' : Data.fields _ = Data.cell v := z
        cases z'⟩
    · have : b = it := by simpa using hb
      subst this
      exact ⟨o, e2, fun v z => by rw [d] at z; cases z⟩
  keep := fun i h h' st kp => by
    obtain ⟨⟨old, he⟩, hit⟩ := st
    exact ⟨⟨old, kp e (by simp) _ he⟩, hit.at fun o x => kp it (by simp) o x⟩
  item := by
    intro X hP hw hK hc i pins s σ H E I hf st hg
    subst hP hw hK
    obtain ⟨xs, x, hq, hx⟩ := hg
    obtain ⟨its, rv, p, hz⟩ := I.list hq
    obtain ⟨u, hu, ru⟩ := rv.get hx
    obtain ⟨⟨old, he⟩, hit⟩ := st
    have hle : a ≠ e := notList_of (K := X.K) I hq he (by intro z; injection z with z; exact absurd z (by decide))
    have hli : a ≠ it := by
      obtain ⟨o, e2, c, _⟩ := hit
      exact notList_of (K := X.K) I hq e2 (by rw [c]; intro z; injection z with z; exact absurd z (by decide))
    have hiu : i < its.toArray.size := by
      have := (List.getElem?_eq_some_iff.mp hu).1
      simpa using this
    have W := WalksT.enumerate (prog := X.prog) (w := X.w) (I.ok.hd hc) e it a hei hle hli its.toArray
    refine W.item i s _ _ hiu ⟨⟨old, he⟩, hit, p.isList⟩ fun T vals h' tk hv hT ht mid kk => ?_
    refine ⟨_, rfl, ?_⟩
    obtain ⟨t, x', hx', rfl⟩ := hv
    have ex : x' = u := by
      have : its[i]? = some x' := by simpa using hx'
      rw [hu] at this
      exact (Option.some.inj this).symm
    subst ex
    have fw : ∀ b ∈ [e, it], FpOk X pins H b := hf
    have I1 : Inv X pins σ (upd H T (.tup [.int i, x])) { s with heap := h', toks := tk } := by
      refine I.pairLaid (vals := [.int i t, x']) fw hT (by simpa using ht) (.cons ⟨t, rfl⟩ (.cons ru .nil)) (by show 2 ≤ sizeLine; decide) kk fun b hb => ?_
      obtain ⟨⟨xx, ho⟩, ⟨o, e2, _⟩, _⟩ := mid
      rcases List.mem_cons.mp hb with rfl | hb
      · exact ⟨_, ho⟩
      · have : b = it := by simpa using hb
        subst this
        exact ⟨o, e2⟩
    have hTn : H T = none := I.hok.fresh hT
    have neT : ∀ b ∈ [e, it], b ≠ T := fun b hb z => by
      subst z
      exact W.apart i b _ mid hb
    refine W.go es k tp i T _ _ _ mid fun h'' st'' kk'' => ?_
    have hf2 : ∀ b ∈ [e, it], FpOk X pins (upd H T (.tup [.int i, x])) b := fun b hb => by
      obtain ⟨f0, fr⟩ := hf b hb
      exact ⟨by rw [upd_ne (neT b hb)]; exact f0, fr⟩
    refine ⟨.ref T, upd H T (.tup [.int i, x]), I1.turnedMany (tk := tk) hf2 kk'', rfl, ⟨x, T, rfl, hTn, list_inj2 I hq hx, rfl⟩, ⟨st''.1, st''.2.1⟩, fun b hb => (hf2 b hb).1⟩
  done := by
    intro X hP hw hK hc i pins s σ H E I hf st hg
    subst hP hw hK
    obtain ⟨xs, hq, hx⟩ := hg
    obtain ⟨its, rv, p, hz⟩ := I.list hq
    obtain ⟨⟨old, he⟩, hit⟩ := st
    have hl := rv.length
    refine wpAny_pyNext_enum_end (I.ok.hd hc) he hit p.isList (Array.getElem?_eq_none (by simp; omega)) fun h' hx' => ?_
    exact ⟨rfl, I.turnedMany (tk := s.toks) hf fun b o hb q => hx' b o (fun z => hb (by simp [z])) q⟩
  self := fun _ _ _ _ _ st h => by
    obtain ⟨⟨old, he⟩, _⟩ := st
    exact wpAny_pyIter_enum he h
theorem pa_one {l : Expr} {tl : TE} (hl : PE X l tl) (hs : starEach [l] X.env = [(false, eval l X.env)]) (pos : Pos) (pins : List (Addr × Obj)) (s : Shared) (σ : St) (H : Hp) {Q : VK} (I : Inv X pins σ H s) (h : tl σ H Q) :
    wpAny (model X.prog X.w) X.A (spliced (backTo pos (starEach [l] X.env))) (fun us s1 => ∃ v u H1, Inv X pins σ H1 s1 ∧ us = [u] ∧ RelV v u ∧ Q v H1) X.xe s := by
  have ha : PA X [l] (fun σ H Q => tl σ H fun x H1 => Q [x] H1) := pa_cons hl pa_nil hs
  have mono : wpAny (model X.prog X.w) X.A (spliced (backTo pos (starEach [l] X.env))) (AP X pins σ fun vs H1 => ∃ v, vs = [v] ∧ Q v H1) X.xe s := by
    have he : PE X l (fun σ' H' Q' => σ' = σ ∧ H' = H ∧ ∀ v H1, Q v H1 → Q' v H1) := by
      intro pins s σ' H' Q' I' hw
      obtain ⟨rfl, rfl, hm⟩ := hw
      exact thn (hl pins s σ' H' Q I' h) fun u s1 ⟨v, H1, I1, r, q⟩ => ⟨v, H1, I1, r, hm v H1 q⟩
    exact pa_cons he pa_nil hs pos pins s σ H _ I ⟨rfl, rfl, fun v H1 q => ⟨v, rfl, q⟩⟩
  refine thn mono fun us s1 ⟨vs, H1, I1, r, v, e, q⟩ => ?_
  subst e
  obtain ⟨u, rfl, ru⟩ := r.one
  exact ⟨v, u, H1, I1, rfl, ru, q⟩
def iEnum (K : PySem.W.Frag) (tl : TE) : TI := fun σ H R => tl σ H fun x H1 => ∃ a, x = .ref a ∧ (∃ xs, SqL K H1 a xs) ∧ R (Ite K a) H1
theorem pi_enum {l : Expr} {tl : TE} {p pos tp : Pos} {es : List Expr} {k : Nat} (hg : Gl X "enumerate") (hm : X.mg "enumerate" = none) (hl : PE X l tl) (hs : starEach [l] X.env = [(false, eval l X.env)] := by rfl) :
    PI X (.Tuple es k tp) (.Call (.Name "enumerate" p) [l] [] pos) (iEnum X.K tl) := by
  intro pins s σ H R I h
  refine Call_ (ld_blt I hg hm bt_enumerate (PyProof.Rows.callWith_type1 (thn (pa_one hl hs pos pins s σ H I h) fun us s1 ⟨v, u, H1, I1, e1, r1, q1⟩ => ?_) (by rw [hs]; rfl) (by rfl)))
  · obtain ⟨a, rfl, ⟨xs, hq⟩, q⟩ := q1
    subst e1
    cases r1
    obtain ⟨its, rv, pl, hz⟩ := I1.list hq
    refine call_enumerate_list pl.isList fun h' he hit hsz kk => ?_
    have hee : s1.heap.objs.size + 1 ≠ s1.heap.objs.size := Nat.succ_ne_self _
    refine wpAny_pyIter_enum he ?_
    refine ⟨s1.heap.objs.size + 1, [s1.heap.objs.size + 1, s1.heap.objs.size], _, _, H1, rfl, I1.kept (t' := s1.toks) kk, turn_enum a _ _ hee, ⟨⟨.none, he⟩, hit⟩, fun b hb => ?_, q⟩
    have hb' : s1.heap.objs.size ≤ b := by
      rcases List.mem_cons.mp hb with rfl | hb
      · exact Nat.le_succ _
      · have : b = s1.heap.objs.size := by simpa using hb
        rw [this]
        exact Nat.le_refl _
    exact I1.fpOk hb' (I1.hok.fresh hb')
end
end L2
set_option maxHeartbeats 4000000
namespace L2
open PySem PySem.Spec PyProof.Rows
structure ZipOwn (z TI TO i1 i2 : Addr) : Prop where
  TIz : TI ≠ z
  TOz : TO ≠ z
  i1z : i1 ≠ z
  i2z : i2 ≠ z
  TITO : TI ≠ TO
  TIi1 : TI ≠ i1
  TIi2 : TI ≠ i2
  TOi1 : TO ≠ i1
  TOi2 : TO ≠ i2
  i12 : i1 ≠ i2
section
variable {X : Cx}
def zipSt (z TI TO i1 i2 a b : Addr) (i : Nat) (h : Heap) : Prop := IsZip h z TI TO .none ∧ IsPair h TI (.ref i1) (.ref i2) ∧ (∃ x y, IsPair h TO x y) ∧ h.IsListIter i1 a i ∧ h.IsListIter i2 b i
theorem zip_apart {pins : List (Addr × Obj)} {σ : St} {H : Hp} {s : Shared} {z TI TO i1 i2 a b : Addr} {i : Nat} {xs ys : List V} (I : Inv X pins σ H s) (O : ZipOwn z TI TO i1 i2) (st : zipSt z TI TO i1 i2 a b i s.heap) (ha : SqL X.K H a xs) (hb : SqL X.K H b ys) :
    ZipApart z TI TO i1 i2 a b := by
  obtain ⟨hz, hTI, ⟨x, y, hTO⟩, ⟨o1, e1, c1, _⟩, ⟨o2, e2, c2, _⟩⟩ := st
  have nz : ∀ {c : Addr} {zs : List V}, SqL X.K H c zs → c ≠ z := fun h => notList_of (K := X.K) I h hz (by intro q; injection q with q; exact absurd q (by decide))
  have nT : ∀ {c : Addr} {zs : List V}, SqL X.K H c zs → c ≠ TO := fun h => notList_of (K := X.K) I h hTO (by intro q; injection q with q; exact absurd q (by decide))
  have n1 : ∀ {c : Addr} {zs : List V}, SqL X.K H c zs → c ≠ i1 := fun h => notList_of (K := X.K) I h e1 (by rw [c1]; intro q; injection q with q; exact absurd q (by decide))
  have n2 : ∀ {c : Addr} {zs : List V}, SqL X.K H c zs → c ≠ i2 := fun h => notList_of (K := X.K) I h e2 (by rw [c2]; intro q; injection q with q; exact absurd q (by decide))
  exact ⟨O.TIz, O.TOz, O.i1z, O.i2z, O.TITO, O.TIi1, O.TIi2, O.TOi1, O.TOi2, O.i12, nz ha, nT ha, n1 ha, n2 ha, nz hb, nT hb, n1 hb, n2 hb⟩
theorem turn_zip {P : Program} {w : World} {K : PySem.W.Frag} {es : List Expr} {k : Nat} {tp : Pos} {z TI TO i1 i2 : Addr} (a b : Addr) (O : ZipOwn z TI TO i1 i2) :
    Turn P w K (.Tuple es k tp) (Itz K a b) [z, TI, TO, i1, i2] z (zipSt z TI TO i1 i2 a b) where
  mem := by simp
  obj := fun i h st c hc => by
    obtain ⟨hz, hTI, ⟨x, y, hTO⟩, ⟨o1, e1, _, d1⟩, ⟨o2, e2, _, d2⟩⟩ := st
    have hc' : c = z ∨ c = TI ∨ c = TO ∨ c = i1 ∨ c = i2 := by simpa using hc
    rcases hc' with rfl | rfl | rfl | rfl | rfl
    · exact ⟨_, hz, fun v q => by
        have q' : Data.fields _ = Data.cell v := q
        cases q'⟩
    · exact ⟨_, hTI, fun v q => by
        have q' : Data.seq _ _ = Data.cell v := q
        cases q'⟩
    · exact ⟨_, hTO, fun v q => by
        have q' : Data.seq _ _ = Data.cell v := q
        cases q'⟩
    · exact ⟨o1, e1, fun v q => by rw [d1] at q; cases q⟩
    · exact ⟨o2, e2, fun v q => by rw [d2] at q; cases q⟩
  keep := fun i h h' st kp => by
    obtain ⟨hz, hTI, ⟨x, y, hTO⟩, h1, h2⟩ := st
    exact ⟨kp z (by simp) _ hz, kp TI (by simp) _ hTI, ⟨x, y, kp TO (by simp) _ hTO⟩, h1.at fun o q => kp i1 (by simp) o q, h2.at fun o q => kp i2 (by simp) o q⟩
  item := by
    intro X hP hw hK hc i pins s σ H E I hf st hg
    subst hP hw hK
    obtain ⟨xs, ys, x, y, hq, hq2, hx, hy⟩ := hg
    have D := zip_apart I O st hq hq2
    obtain ⟨its, rv, p, _⟩ := I.list hq
    obtain ⟨its2, rv2, p2, _⟩ := I.list hq2
    obtain ⟨u, hu, ru⟩ := rv.get hx
    obtain ⟨u2, hu2, ru2⟩ := rv2.get hy
    have h1 : i < its.length := (List.getElem?_eq_some_iff.mp hu).1
    have h2 : i < its2.length := (List.getElem?_eq_some_iff.mp hu2).1
    have W := WalksT.zip2 (prog := X.prog) (w := X.w) (I.ok.hd hc) z TI TO i1 i2 a b D its.toArray its2.toArray
    obtain ⟨hz, hTI, hTO, g1, g2⟩ := st
    refine W.item i s _ _ (by simp; omega) ⟨hz, hTI, hTO, g1, g2, p.isList, p2.isList⟩ fun T vals h' tk hv hT ht mid kk => ?_
    refine ⟨_, rfl, ?_⟩
    obtain ⟨x', y', hx', hy', rfl⟩ := hv
    have ex : x' = u := by
      have : its[i]? = some x' := by simpa using hx'
      rw [hu] at this
      exact (Option.some.inj this).symm
    have ey : y' = u2 := by
      have : its2[i]? = some y' := by simpa using hy'
      rw [hu2] at this
      exact (Option.some.inj this).symm
    subst ex ey
    have sub : ∀ c ∈ [z, TO, i1, i2], c ∈ [z, TI, TO, i1, i2] := fun c hc => by
      have : c = z ∨ c = TO ∨ c = i1 ∨ c = i2 := by simpa using hc
      simp
      rcases this with r | r | r | r <;> simp [r]
    have fw : ∀ c ∈ [z, TO, i1, i2], FpOk X pins H c := fun c hc => hf c (sub c hc)
    have I1 : Inv X pins σ (upd H T (.tup [x, y])) { s with heap := h', toks := tk } := by
      refine I.pairLaid (vals := [x', y']) fw hT (by simpa using ht) (.cons ru (.cons ru2 .nil)) (by show 2 ≤ sizeLine; decide) kk fun c hc => ?_
      obtain ⟨m1, _, ⟨_, _, m2⟩, ⟨o1, m3, _⟩, ⟨o2, m4, _⟩, _⟩ := mid
      have : c = z ∨ c = TO ∨ c = i1 ∨ c = i2 := by simpa using hc
      rcases this with rfl | rfl | rfl | rfl
      · exact ⟨_, m1⟩
      · exact ⟨_, m2⟩
      · exact ⟨_, m3⟩
      · exact ⟨_, m4⟩
    have hTn : H T = none := I.hok.fresh hT
    have neT : ∀ c ∈ [z, TI, TO, i1, i2], c ≠ T := fun c hc q => by
      subst q
      have : c = TI ∨ c ∈ [z, TO, i1, i2] := by
        have : c = z ∨ c = TI ∨ c = TO ∨ c = i1 ∨ c = i2 := by simpa using hc
        simp
        rcases this with r | r | r | r | r <;> simp [r]
      rcases this with r | r
      · subst r
        exact absurd (Nat.lt_of_lt_of_le (Heap.lt_size hTI) hT) (Nat.lt_irrefl _)
      · exact W.apart i c _ mid r
    refine W.go es k tp i T _ _ _ mid fun h'' st'' kk'' => ?_
    have hf2 : ∀ c ∈ [z, TI, TO, i1, i2], FpOk X pins (upd H T (.tup [x, y])) c := fun c hc => by
      obtain ⟨f0, fr⟩ := hf c hc
      exact ⟨by rw [upd_ne (neT c hc)]; exact f0, fr⟩
    obtain ⟨s1, s2, s3, s4, s5, _⟩ := st''
    refine ⟨.ref T, upd H T (.tup [x, y]), I1.turnedMany (tk := tk) (fun c hc => hf2 c (sub c hc)) kk'', rfl, ⟨x, y, T, rfl, hTn, list_inj2 I hq hx, list_inj2 I hq2 hy, rfl⟩, ⟨s1, s2, s3, s4, s5⟩, fun c hc => (hf2 c hc).1⟩
  done := by
    intro X hP hw hK hc i pins s σ H E I hf st hg
    subst hP hw hK
    obtain ⟨xs, ys, hq, hq2, hx⟩ := hg
    have D := zip_apart I O st hq hq2
    obtain ⟨its, rv, p, _⟩ := I.list hq
    obtain ⟨its2, rv2, p2, _⟩ := I.list hq2
    have W := WalksT.zip2 (prog := X.prog) (w := X.w) (I.ok.hd hc) z TI TO i1 i2 a b D its.toArray its2.toArray
    obtain ⟨hz, hTI, hTO, g1, g2⟩ := st
    have e : min its.toArray.size its2.toArray.size = i := by
      rw [List.size_toArray, List.size_toArray, ← rv.length, ← rv2.length]
      exact hx
    refine W.done s _ _ (by rw [e]; exact ⟨hz, hTI, hTO, g1, g2, p.isList, p2.isList⟩) fun h' tk kk => ?_
    refine ⟨rfl, I.turnedMany (tk := tk) (wr := [z, TO, i1, i2]) (fun c hc => hf c ?_) kk⟩
    have : c = z ∨ c = TO ∨ c = i1 ∨ c = i2 := by simpa using hc
    simp
    rcases this with r | r | r | r <;> simp [r]
  self := fun _ i s _ _ st h => by
    obtain ⟨hz, _⟩ := st
    exact wpAny_pyIter_zip hz h
def iZip (K : PySem.W.Frag) (tl tm : TE) : TI := fun σ H R => tl σ H fun x H1 => tm σ H1 fun y H2 => ∃ a b, x = .ref a ∧ y = .ref b ∧ (∃ xs, SqL K H2 a xs) ∧ (∃ ys, SqL K H2 b ys) ∧ R (Itz K a b) H2
theorem pa_two {l m : Expr} {tl tm : TE} (hl : PE X l tl) (hm : PE X m tm) (hs : starEach [l, m] X.env = [(false, eval l X.env), (false, eval m X.env)]) (hs2 : starEach [m] X.env = [(false, eval m X.env)]) (pos : Pos) (pins : List (Addr × Obj)) (s : Shared) (σ : St) (H : Hp) {Q : V → V → Hp → Prop} (I : Inv X pins σ H s) (h : tl σ H fun x H1 => tm σ H1 fun y H2 => Q x y H2) :
    wpAny (model X.prog X.w) X.A (spliced (backTo pos (starEach [l, m] X.env))) (fun us s1 => ∃ x y u v H1, Inv X pins σ H1 s1 ∧ us = [u, v] ∧ RelV x u ∧ RelV y v ∧ Q x y H1) X.xe s := by
  have he : PE X l (fun σ' H' Q' => σ' = σ ∧ H' = H ∧ ∀ x H1, (tm σ H1 fun y H2 => Q x y H2) → Q' x H1) := by
    intro pins s σ' H' Q' I' hw
    obtain ⟨rfl, rfl, k⟩ := hw
    exact thn (hl pins s σ' H' _ I' h) fun u s1 ⟨v, H1, I1, r, q⟩ => ⟨v, H1, I1, r, k v H1 q⟩
  have hf : PE X m (fun σ' H' Q' => ∃ x, σ' = σ ∧ (tm σ H' fun y H2 => Q x y H2) ∧ ∀ y H2, Q x y H2 → Q' y H2) := by
    intro pins s σ' H' Q' I' hw
    obtain ⟨x, rfl, hh, k⟩ := hw
    exact thn (hm pins s σ' H' _ I' hh) fun u s1 ⟨v, H1, I1, r, q⟩ => ⟨v, H1, I1, r, k v H1 q⟩
  have main := pa_cons he (pa_cons hf pa_nil hs2) (by rw [hs, hs2]) pos pins s σ H (fun vs H2 => ∃ x y, vs = [x, y] ∧ Q x y H2) I ⟨rfl, rfl, fun x H1 q => ⟨x, rfl, q, fun y H2 q2 => ⟨x, y, rfl, q2⟩⟩⟩
  refine thn main fun us s1 ⟨vs, H1, I1, r, x, y, e, q⟩ => ?_
  subst e
  obtain ⟨u, v, rfl, r1, r2⟩ := r.two
  exact ⟨x, y, u, v, H1, I1, rfl, r1, r2, q⟩
theorem pi_zip {l m : Expr} {tl tm : TE} {p pos tp : Pos} {es : List Expr} {k : Nat} (hg : Gl X "zip") (hz : X.mg "zip" = none) (hl : PE X l tl) (hm : PE X m tm) (hs : starEach [l, m] X.env = [(false, eval l X.env), (false, eval m X.env)] := by rfl) (hs2 : starEach [m] X.env = [(false, eval m X.env)] := by rfl) :
    PI X (.Tuple es k tp) (.Call (.Name "zip" p) [l, m] [] pos) (iZip X.K tl tm) := by
  intro pins s σ H R I h
  refine Call_ (ld_blt I hg hz bt_zip (PyProof.Rows.callWith_type1 (thn (pa_two hl hm hs hs2 pos pins s σ H I h) fun us s1 ⟨x, y, u, v, H1, I1, e1, r1, r2, q1⟩ => ?_) (by rw [hs, hs2]) (by rw [hs2]; rfl)))
  obtain ⟨a, b, rfl, rfl, ⟨xs, hq⟩, ⟨ys, hq2⟩, q⟩ := q1
  subst e1
  cases r1
  cases r2
  obtain ⟨its, rv, pl, _⟩ := I1.list hq
  obtain ⟨its2, rv2, pl2, _⟩ := I1.list hq2
  refine call_zip_2 pl.isList pl2.isList fun h' z1 z2 z3 z4 z5 hsz kk => ?_
  refine wpAny_pyIter_zip z1 ?_
  have O : ZipOwn (s1.heap.objs.size + 4) (s1.heap.objs.size + 2) (s1.heap.objs.size + 3) s1.heap.objs.size (s1.heap.objs.size + 1) := by
    constructor <;> exact (by intro q; have q' : (_ : Nat) = _ := q; omega)
  refine ⟨_, [s1.heap.objs.size + 4, s1.heap.objs.size + 2, s1.heap.objs.size + 3, s1.heap.objs.size, s1.heap.objs.size + 1], _, _, H1, rfl, I1.kept (t' := s1.toks) kk, turn_zip a b O, ⟨z1, z2, ⟨_, _, z3⟩, z4, z5⟩, fun c hc => ?_, q⟩
  have hc' : s1.heap.objs.size ≤ c := by
    have : c = s1.heap.objs.size + 4 ∨ c = s1.heap.objs.size + 2 ∨ c = s1.heap.objs.size + 3 ∨ c = s1.heap.objs.size ∨ c = s1.heap.objs.size + 1 := by simpa using hc
    rcases this with r | r | r | r | r <;> (rw [r]; first | exact Nat.le_add_right _ _ | exact Nat.le_refl _)
  exact I1.fpOk hc' (I1.hok.fresh hc')
end
end L2
set_option maxHeartbeats 4000000
namespace L2
open PySem
abbrev CompW (J : It) (g : TG) (tc : TT) (te : TE) (D : Addr) (R : Hp → Prop) (σ : St) (H : Hp) : Prop := ∃ W : Nat → Nat → List V → St → Hp → Prop, (∃ m, W 0 m [] σ H) ∧ ∀ i m ys σ H, W i m ys σ H →
    (J.stop i H ∧ R H) ∨ (J.go i H ∧ ∀ x H', J.yld i H x H' → g x σ H' fun σ2 H2 => tc σ2 H2 fun ok H3 =>
      if ok = true then te σ2 H3 fun y H4 => H4 D = some (.lst ys) ∧ ys.length < sizeLine ∧ ∃ m', m' < m ∧ W (i + 1) m' (ys ++ [y]) σ2 (upd H4 D (.lst (ys ++ [y])))
      else ∃ m', m' < m ∧ W (i + 1) m' ys σ2 H3)
abbrev CompT (g : TG) (tc : TT) (te : TE) (D : Addr) (ys : List V) (x : V) (σ : St) (H : Hp) (N : List V → St → Hp → Prop) : Prop :=
  g x σ H fun σ2 H2 => tc σ2 H2 fun ok H3 => if ok = true then te σ2 H3 fun y H4 => H4 D = some (.lst ys) ∧ ys.length < sizeLine ∧ N (ys ++ [y]) σ2 (upd H4 D (.lst (ys ++ [y]))) else N ys σ2 H3
theorem comp_range {lo : Int} {n : Nat} {g : TG} {tc : TT} {te : TE} {D : Addr} {R : Hp → Prop} {σ : St} {H : Hp} (Pv : Nat → List V → St → Hp → Prop) (h0 : Pv 0 [] σ H)
    (hs : ∀ i ys σ H, i < n → Pv i ys σ H → ∀ N : List V → St → Hp → Prop, (∀ ys σ H, Pv (i + 1) ys σ H → N ys σ H) → CompT g tc te D ys (.int (lo + i)) σ H N) (hd : ∀ ys σ H, Pv n ys σ H → R H) : CompW (Itr lo n) g tc te D R σ H := by
  refine ⟨fun i m ys σ H => m = n - i ∧ i ≤ n ∧ Pv i ys σ H, ⟨n, by simp, Nat.zero_le _, h0⟩, ?_⟩
  rintro i m ys σ H ⟨rfl, hi, p⟩
  by_cases hlt : i < n
  · refine .inr ⟨hlt, fun x H' y => ?_⟩
    obtain ⟨e, y⟩ := y
    subst e y
    exact hs i ys σ _ hlt p (fun ys' σ' H' => ∃ m', m' < n - i ∧ m' = n - (i + 1) ∧ i + 1 ≤ n ∧ Pv (i + 1) ys' σ' H') fun ys' σ' H' q => ⟨n - (i + 1), by omega, rfl, hlt, q⟩
  · have e : i = n := by omega
    subst e
    exact .inl ⟨Nat.le_refl _, hd ys σ H p⟩
theorem comp_list {K : PySem.W.Frag} {a : Addr} {xs : List V} {g : TG} {tc : TT} {te : TE} {D : Addr} {R : Hp → Prop} {σ : St} {H : Hp} (Pv : Nat → List V → St → Hp → Prop) (h0 : Pv 0 [] σ H) (hl : ∀ i ys σ H, Pv i ys σ H → SqL K H a xs)
    (hs : ∀ i ys x σ H, xs[i]? = some x → Pv i ys σ H → ∀ N : List V → St → Hp → Prop, (∀ ys σ H, Pv (i + 1) ys σ H → N ys σ H) → CompT g tc te D ys x σ H N) (hd : ∀ ys σ H, Pv xs.length ys σ H → R H) : CompW (Itl K a) g tc te D R σ H := by
  refine ⟨fun i m ys σ H => m = xs.length - i ∧ i ≤ xs.length ∧ Pv i ys σ H, ⟨xs.length, by simp, Nat.zero_le _, h0⟩, ?_⟩
  rintro i m ys σ H ⟨rfl, hi, p⟩
  have q := hl i ys σ H p
  by_cases hlt : i < xs.length
  · refine .inr ⟨⟨xs, xs[i], q, by simp [hlt]⟩, fun x H' y => ?_⟩
    obtain ⟨e, y⟩ := y
    subst e
    exact hs i ys x σ _ (y xs q) p (fun ys' σ' H' => ∃ m', m' < xs.length - i ∧ m' = xs.length - (i + 1) ∧ i + 1 ≤ xs.length ∧ Pv (i + 1) ys' σ' H') fun ys' σ' H' q => ⟨xs.length - (i + 1), by omega, rfl, hlt, q⟩
  · have e : i = xs.length := by omega
    subst e
    exact .inl ⟨⟨xs, q, Nat.le_refl _⟩, hd ys σ H p⟩
theorem comp_str {z : Str} {g : TG} {tc : TT} {te : TE} {D : Addr} {R : Hp → Prop} {σ : St} {H : Hp} (Pv : Nat → List V → St → Hp → Prop) (h0 : Pv 0 [] σ H)
    (hs : ∀ i ys c σ H, z.cps[i]? = some c → Pv i ys σ H → ∀ N : List V → St → Hp → Prop, (∀ ys σ H, Pv (i + 1) ys σ H → N ys σ H) → CompT g tc te D ys (.str ⟨#[c]⟩) σ H N) (hd : ∀ ys σ H, Pv z.cps.size ys σ H → R H) : CompW (Its z) g tc te D R σ H := by
  refine ⟨fun i m ys σ H => m = z.cps.size - i ∧ i ≤ z.cps.size ∧ Pv i ys σ H, ⟨z.cps.size, by simp, Nat.zero_le _, h0⟩, ?_⟩
  rintro i m ys σ H ⟨rfl, hi, p⟩
  by_cases hlt : i < z.cps.size
  · refine .inr ⟨hlt, fun x H' y => ?_⟩
    obtain ⟨e, c, hc, y⟩ := y
    subst e y
    exact hs i ys c σ _ hc p (fun ys' σ' H' => ∃ m', m' < z.cps.size - i ∧ m' = z.cps.size - (i + 1) ∧ i + 1 ≤ z.cps.size ∧ Pv (i + 1) ys' σ' H') fun ys' σ' H' q => ⟨z.cps.size - (i + 1), by omega, rfl, hlt, q⟩
  · have e : i = z.cps.size := by omega
    subst e
    exact .inl ⟨Nat.le_refl _, hd ys σ H p⟩
theorem for_enum {K : PySem.W.Frag} {a : Addr} {xs : List V} {g : TG} {tb : TS} {D : Ends} {σ : St} {H : Hp} (Pv : Nat → St → Hp → Prop) (h0 : Pv 0 σ H) (hl : ∀ i σ H, Pv i σ H → SqL K H a xs)
    (hs : ∀ i x t σ H, xs[i]? = some x → Pv i σ H → H t = none → g (.ref t) σ (upd H t (.tup [.int i, x])) fun σ2 H2 => tb { D with nx := Pv (i + 1), ct := Pv (i + 1), bk := D.nx } σ2 H2) (hd : ∀ σ H, Pv xs.length σ H → D.nx σ H) :
    ∃ W : Nat → Nat → St → Hp → Prop, (∃ m, W 0 m σ H) ∧ ∀ i m σ H, W i m σ H →
      ((Ite K a).stop i H ∧ D.nx σ H) ∨ ((Ite K a).go i H ∧ ∃ N : St → Hp → Prop, (∀ σ' H', N σ' H' → ∃ m', m' < m ∧ W (i + 1) m' σ' H') ∧ ∀ x H', (Ite K a).yld i H x H' → g x σ H' fun σ2 H2 => tb { D with nx := N, ct := N, bk := D.nx } σ2 H2) := by
  refine ⟨fun i m σ H => m = xs.length - i ∧ i ≤ xs.length ∧ Pv i σ H, ⟨xs.length, by simp, Nat.zero_le _, h0⟩, ?_⟩
  rintro i m σ H ⟨rfl, hi, p⟩
  have q := hl i σ H p
  by_cases hlt : i < xs.length
  · refine .inr ⟨⟨xs, xs[i], q, by simp [hlt]⟩, Pv (i + 1), fun σ' H' p' => ⟨xs.length - (i + 1), by omega, rfl, hlt, p'⟩, fun x H' y => ?_⟩
    obtain ⟨y0, t, rfl, hn, hy, rfl⟩ := y
    exact hs i y0 t σ H (hy xs q) p hn
  · have e : i = xs.length := by omega
    subst e
    exact .inl ⟨⟨xs, q, Nat.le_refl _⟩, hd σ H p⟩
theorem for_zip {K : PySem.W.Frag} {a b : Addr} {xs ys : List V} {g : TG} {tb : TS} {D : Ends} {σ : St} {H : Hp} (Pv : Nat → St → Hp → Prop) (he : xs.length = ys.length) (h0 : Pv 0 σ H) (hl : ∀ i σ H, Pv i σ H → SqL K H a xs ∧ SqL K H b ys)
    (hs : ∀ i x y t σ H, xs[i]? = some x → ys[i]? = some y → Pv i σ H → H t = none → g (.ref t) σ (upd H t (.tup [x, y])) fun σ2 H2 => tb { D with nx := Pv (i + 1), ct := Pv (i + 1), bk := D.nx } σ2 H2) (hd : ∀ σ H, Pv xs.length σ H → D.nx σ H) :
    ∃ W : Nat → Nat → St → Hp → Prop, (∃ m, W 0 m σ H) ∧ ∀ i m σ H, W i m σ H →
      ((Itz K a b).stop i H ∧ D.nx σ H) ∨ ((Itz K a b).go i H ∧ ∃ N : St → Hp → Prop, (∀ σ' H', N σ' H' → ∃ m', m' < m ∧ W (i + 1) m' σ' H') ∧ ∀ x H', (Itz K a b).yld i H x H' → g x σ H' fun σ2 H2 => tb { D with nx := N, ct := N, bk := D.nx } σ2 H2) := by
  refine ⟨fun i m σ H => m = xs.length - i ∧ i ≤ xs.length ∧ Pv i σ H, ⟨xs.length, by simp, Nat.zero_le _, h0⟩, ?_⟩
  rintro i m σ H ⟨rfl, hi, p⟩
  obtain ⟨q, q2⟩ := hl i σ H p
  by_cases hlt : i < xs.length
  · have hlt2 : i < ys.length := by omega
    refine .inr ⟨⟨xs, ys, xs[i], ys[i], q, q2, by simp [hlt], by simp [hlt2]⟩, Pv (i + 1), fun σ' H' p' => ⟨xs.length - (i + 1), by omega, rfl, hlt, p'⟩, fun x H' y => ?_⟩
    obtain ⟨x0, y0, t, rfl, hn, hx, hy, rfl⟩ := y
    exact hs i x0 y0 t σ H (hx xs q) (hy ys q2) p hn
  · have e : i = xs.length := by omega
    subst e
    exact .inl ⟨⟨xs, ys, q, q2, by omega⟩, hd σ H p⟩
end L2
namespace L2
open PySem
theorem compT_name {j : Nat} {te : TE} {D : Addr} {ys : List V} {x : V} {σ : St} {H : Hp} {N : List V → St → Hp → Prop}
    (h : te (σ.set j (some x)) H fun y H4 => H4 D = some (.lst ys) ∧ ys.length < sizeLine ∧ N (ys ++ [y]) (σ.set j (some x)) (upd H4 D (.lst (ys ++ [y])))) : CompT (gName j) tAll te D ys x σ H N := by
  unfold CompT gName tAll
  exact (if_pos (rfl : true = true)).mpr h
end L2
set_option maxHeartbeats 4000000
namespace L2
open PySem PySem.Spec PyProof.Rows
open Sem (wp)
abbrev ZipG (h : Heap) (z TI TO : Addr) (f0 f1 : Value) : Prop :=
  h.get? z = some { cls := .type "zip", dict := none, data := .fields #[f0, f1, .bool false, .ref TI, .ref TO], slots := #[] }
def Loose (f0 f1 : Value) : Prop := (f0 = .none ∨ ∃ a : Nat, f0 = rawInt (a : Int)) ∧ ∃ b, f1 = .bool b
section
variable {prog : Program} {w : World} {A : Around} {E : Value → Shared → Prop} {s : Shared}
theorem alive_any {a : Addr} {Q : Option Obj → Shared → Prop} (h : ∀ o, Q o s) : wpAny (model prog w) A (loadIfAlive a) Q E s := fun _ _ _ => h _
theorem zip_free {z TI TO : Addr} {f0 f1 : Value} {Q : Bool → Shared → Prop} (hz : ZipG s.heap z TI TO f0 f1) (hf : Loose f0 f1)
    (hQ : ∀ (r : Bool) (h' : Heap) (g1 : Value), ZipG h' z TI TO f0 g1 → Loose f0 g1 → Heap.SameBut z s.heap h' → Q r { s with heap := h' }) :
    wpAny (model prog w) A (Builtin.SmallTypes.ownedTupleIsFree (.ref z)) Q E s := by
  unfold Builtin.SmallTypes.ownedTupleIsFree
  refine wpAny_bind (wpAny_field hz rfl (x := f0) rfl ?_)
  obtain ⟨hf0, b, rfl⟩ := hf
  rcases hf0 with rfl | ⟨a, rfl⟩
  · exact wpAny_pure (hQ true s.heap _ hz ⟨.inl rfl, b, rfl⟩ ⟨rfl, fun _ _ => rfl⟩)
  · show wpAny _ _ (loadIfAlive ((a : Int).toNat) >>= _) _ _ _
    refine wpAny_bind (alive_any fun o => ?_)
    cases o with
    | none =>
      simp only [Option.isNone_none, if_true]
      exact wpAny_pure (hQ true s.heap _ hz ⟨.inr ⟨a, rfl⟩, b, rfl⟩ ⟨rfl, fun _ _ => rfl⟩)
    | some o =>
      simp only [Option.isNone_some, Bool.false_eq_true, if_false]
      refine wpAny_bind (wpAny_field hz rfl (x := .bool b) rfl ?_)
      cases b with
      | true =>
        exact wpAny_pure (hQ false s.heap _ hz ⟨.inr ⟨a, rfl⟩, true, rfl⟩ ⟨rfl, fun _ _ => rfl⟩)
      | false =>
        show wpAny _ _ (setField (.ref z) 1 (.bool true) >>= _) _ _ _
        refine wpAny_bind (wpAny_setField_rec hz (by simp) fun h₁ hz₁ hs₁ => ?_)
        exact wpAny_pure (hQ false h₁ _ hz₁ ⟨.inr ⟨a, rfl⟩, true, rfl⟩ hs₁)
theorem zip_nextG {z TI TO i1 i2 l1 l2 : Addr} {k1 k2 : Nat} {xs ys : Array Value} {x y a b f0 f1 : Value} {Q : Value → Shared → Prop} (D : ZipApart z TI TO i1 i2 l1 l2)
    (hz : ZipG s.heap z TI TO f0 f1) (hf : Loose f0 f1) (hTI : IsPair s.heap TI (.ref i1) (.ref i2)) (hTO : IsPair s.heap TO a b)
    (h1 : s.heap.IsListIter i1 l1 k1) (h2 : s.heap.IsListIter i2 l2 k2) (hl1 : s.heap.IsList l1 xs) (hl2 : s.heap.IsList l2 ys) (hx : xs[k1]? = some x) (hy : ys[k2]? = some y)
    (hQ : ∀ h', (∃ g0 g1, ZipG h' z TI TO g0 g1 ∧ Loose g0 g1) → (∃ a b, IsPair h' TO a b) → h'.IsListIter i1 l1 (k1 + 1) → h'.IsListIter i2 l2 (k2 + 1) → IsPair h' s.heap.objs.size x y → h'.objs.size = s.heap.objs.size + 1 →
      (∀ c o, c ≠ z → c ≠ TO → c ≠ i1 → c ≠ i2 → s.heap.get? c = some o → h'.get? c = some o) → Q (.ref s.heap.objs.size) { s with heap := h' }) :
    wpAny (model prog w) A (Builtin.«zip.__next__» ⟨[.ref z], []⟩) (fun fin s' => ∃ v, fin = .done (.ret v) ∧ Q v s') E s := by
  show wpAny _ _ (field (.ref z) 2 >>= _) _ _ _
  refine wpAny_bind (wpAny_field hz rfl (x := .bool false) rfl ?_)
  show wpAny _ _ (field (.ref z) 3 >>= _) _ _ _
  refine wpAny_bind (wpAny_field hz rfl (x := .ref TI) rfl ?_)
  refine wpAny_bind (wpAny_seqItems hTI rfl ?_)
  show wpAny _ _ (Builtin.SmallTypes.ownedTupleIsFree (.ref z) >>= _) _ _ _
  refine wpAny_bind (zip_free hz hf fun r h₀ g1 hz₀ hl₀ hs₀ => ?_)
  cases r with
  | true =>
    simp only [if_true]
    refine wpAny_bind (wpAny_rule ?_)
    refine wpAny_bind (wpAny_field hz₀ rfl (x := .ref TO) rfl ?_)
    refine wpAny_bind (wpAny_setField_rec hz₀ (by simp) fun h₁ hz₁ hs₁' => ?_)
    replace hz₁ : ZipG h₁ z TI TO .ellipsis g1 := hz₁
    have hs₁ : Heap.SameBut z s.heap h₁ := ⟨hs₁'.1.trans hs₀.1, fun c hc => (hs₁'.2 c hc).trans (hs₀.2 c hc)⟩
    refine wpAny_bind ?_
    simp only [List.zipIdx_cons, List.zipIdx_nil, List.forIn_cons, List.forIn_nil]
    refine wpAny_bind (wpAny_bind (wpAny_onRaise ?_))
    show wpAny _ _ (Builtin.SmallTypes.nextOf (.ref i1) >>= _) _ _ _
    refine wpAny_bind (wpAny_nextOf_list_item (h1.extBut hs₁.extBut D.i1z) (hl1.extBut hs₁.extBut D.l1z) hx fun h₂ h1₂ hs₂ => wpAny_pure ?_)
    have hTO₂ : IsPair h₂ TO a b := hs₂.extBut _ _ D.TOi1 (hs₁.extBut _ _ D.TOz hTO)
    refine wpAny_bind (wpAny_seqItems hTO₂ rfl ?_)
    refine wpAny_bind (wpAny_updateSeq_pair hTO₂ fun h₃ hTO₃ hs₃ => ?_)
    replace hTO₃ : IsPair h₃ TO x b := hTO₃
    refine wpAny_bind (wpAny_letGo (wpAny_pure ?_))
    refine wpAny_bind (wpAny_bind (wpAny_onRaise ?_))
    show wpAny _ _ (Builtin.SmallTypes.nextOf (.ref i2) >>= _) _ _ _
    refine wpAny_bind (wpAny_nextOf_list_item (((h2.extBut hs₁.extBut D.i2z).extBut hs₂.extBut D.i12.symm).extBut hs₃.extBut D.TOi2.symm)
      (((hl2.extBut hs₁.extBut D.l2z).extBut hs₂.extBut D.l2i1).extBut hs₃.extBut D.l2TO) hy fun h₄ h2₄ hs₄ => wpAny_pure ?_)
    have hTO₄ : IsPair h₄ TO x b := hs₄.extBut _ _ D.TOi2 hTO₃
    refine wpAny_bind (wpAny_seqItems hTO₄ rfl ?_)
    refine wpAny_bind (wpAny_updateSeq_pair hTO₄ fun h₅ hTO₅ hs₅ => ?_)
    replace hTO₅ : IsPair h₅ TO x y := hTO₅
    refine wpAny_bind (wpAny_letGo (wpAny_pure (wpAny_pure ?_)))
    refine wpAny_bind (wpAny_seqItems hTO₅ rfl ?_)
    refine wpAny_bind (wpAny_newTuple ?_)
    have hsz : h₅.objs.size = s.heap.objs.size := by rw [hs₅.1, hs₄.1, hs₃.1, hs₂.1, hs₁.1]
    have hz₅ : ZipG h₅ z TI TO .ellipsis g1 := hs₅.extBut _ _ D.TOz.symm (hs₄.extBut _ _ D.i2z.symm (hs₃.extBut _ _ D.TOz.symm (hs₂.extBut _ _ D.i1z.symm hz₁)))
    have hk₅ : ∀ c o, c ≠ z → c ≠ TO → c ≠ i1 → c ≠ i2 → s.heap.get? c = some o → h₅.get? c = some o := fun c o c1 c2 c3 c4 e =>
      hs₅.extBut _ _ c2 (hs₄.extBut _ _ c4 (hs₃.extBut _ _ c2 (hs₂.extBut _ _ c3 (hs₁.extBut _ _ c1 e))))
    have h1₅ : h₅.IsListIter i1 l1 (k1 + 1) := ((h1₂.extBut hs₃.extBut D.TOi1.symm).extBut hs₄.extBut D.i12).extBut hs₅.extBut D.TOi1.symm
    have h2₅ : h₅.IsListIter i2 l2 (k2 + 1) := h2₄.extBut hs₅.extBut D.TOi2.symm
    have hzlt : z < h₅.objs.size := Heap.lt_size hz₅
    show wpAny _ _ (Builtin.SmallTypes.ownedTupleHandOut (.ref z) (.ref h₅.objs.size) >>= _) _ _ _
    refine wpAny_bind ?_
    unfold Builtin.SmallTypes.ownedTupleHandOut
    have hz₆ : ZipG (h₅.push { cls := .type "tuple", data := .seq #[x, y] }) z TI TO .ellipsis g1 := Heap.get?_push_of_some _ hz₅
    refine wpAny_bind (wpAny_setField_rec hz₆ (by simp) fun h₇ hz₇ hs₇ => ?_)
    replace hz₇ : ZipG h₇ z TI TO (rawInt h₅.objs.size) g1 := hz₇
    refine wpAny_setField_rec hz₇ (by simp) fun h₈ hz₈ hs₈ => ?_
    replace hz₈ : ZipG h₈ z TI TO (rawInt h₅.objs.size) (.bool false) := hz₈
    have up : ∀ c o, c ≠ z → h₅.get? c = some o → h₈.get? c = some o := fun c o c1 e => hs₈.extBut _ _ c1 (hs₇.extBut _ _ c1 (Heap.get?_push_of_some _ e))
    have hT₈ : IsPair h₈ h₅.objs.size x y := hs₈.extBut _ _ (Nat.ne_of_gt hzlt) (hs₇.extBut _ _ (Nat.ne_of_gt hzlt) (Heap.get?_push_size _ rfl))
    have hz8 : h₈.objs.size = h₅.objs.size + 1 := by rw [hs₈.1, hs₇.1, Heap.size_push]
    have hloose : ∃ g0 g1, ZipG h₈ z TI TO g0 g1 ∧ Loose g0 g1 := ⟨_, _, hz₈, .inr ⟨_, rfl⟩, _, rfl⟩
    rw [hsz] at hT₈ hz8
    refine wpAny_pure ⟨_, rfl, ?_⟩
    show Q (.ref h₅.objs.size) _
    rw [hsz]
    exact hQ h₈ hloose ⟨_, _, up _ _ D.TOz hTO₅⟩ (h1₅.at fun o e => up _ o D.i1z e) (h2₅.at fun o e => up _ o D.i2z e) hT₈ hz8 fun c o c1 c2 c3 c4 e => up c o c1 (hk₅ c o c1 c2 c3 c4 e)
  | false =>
    simp only [Bool.false_eq_true, if_false]
    have hs₁ := hs₀
    refine wpAny_bind ?_
    rw [← Array.forIn_toList]
    simp only [List.forIn_cons, List.forIn_nil]
    refine wpAny_bind (wpAny_bind (wpAny_holding ?_))
    show wpAny _ _ (Builtin.SmallTypes.nextOf (.ref i1) >>= _) _ _ _
    refine wpAny_bind (wpAny_nextOf_list_item (h1.extBut hs₁.extBut D.i1z) (hl1.extBut hs₁.extBut D.l1z) hx fun h₂ h1₂ hs₂ => wpAny_pure (wpAny_pure ?_))
    refine wpAny_bind (wpAny_bind (wpAny_holding ?_))
    show wpAny _ _ (Builtin.SmallTypes.nextOf (.ref i2) >>= _) _ _ _
    refine wpAny_bind (wpAny_nextOf_list_item ((h2.extBut hs₁.extBut D.i2z).extBut hs₂.extBut D.i12.symm)
      ((hl2.extBut hs₁.extBut D.l2z).extBut hs₂.extBut D.l2i1) hy fun h₄ h2₄ hs₄ => wpAny_pure (wpAny_pure (wpAny_pure ?_)))
    have hsz : h₄.objs.size = s.heap.objs.size := by rw [hs₄.1, hs₂.1, hs₁.1]
    refine wpAny_bind (wpAny_newTuple (hsz := by show 2 ≤ sizeLine; decide) ?_)
    have up : ∀ c o, c ≠ z → c ≠ i1 → c ≠ i2 → s.heap.get? c = some o → (h₄.push { cls := .type "tuple", data := .seq #[x, y] }).get? c = some o := fun c o c1 c3 c4 e =>
      Heap.get?_push_of_some _ (hs₄.extBut _ _ c4 (hs₂.extBut _ _ c3 (hs₁.extBut _ _ c1 e)))
    have hz₄ : ZipG (h₄.push { cls := .type "tuple", data := .seq #[x, y] }) z TI TO f0 g1 := Heap.get?_push_of_some _ (hs₄.extBut _ _ D.i2z.symm (hs₂.extBut _ _ D.i1z.symm hz₀))
    have hT₈ : IsPair (h₄.push { cls := .type "tuple", data := .seq #[x, y] }) h₄.objs.size x y := Heap.get?_push_size _ rfl
    have hz8 : (h₄.push { cls := .type "tuple", data := .seq #[x, y] }).objs.size = h₄.objs.size + 1 := Heap.size_push ..
    refine wpAny_pure ⟨_, rfl, ?_⟩
    show Q (.ref h₄.objs.size) { s with heap := h₄.push { cls := .type "tuple", data := .seq #[x, y] } }
    rw [hsz] at hT₈ hz8 ⊢
    exact hQ _ ⟨_, _, hz₄, hl₀⟩ ⟨a, b, up _ _ D.TOz D.TOi1 D.TOi2 hTO⟩ ((h1₂.extBut hs₄.extBut D.i12).at fun o e => Heap.get?_push_of_some _ e) (h2₄.at fun o e => Heap.get?_push_of_some _ e) hT₈ hz8 fun c o c1 _ c3 c4 e => up c o c1 c3 c4 e
theorem zip_endG {z TI TO i1 i2 l1 l2 : Addr} {k1 : Nat} {xs : Array Value} {a b f0 f1 : Value} {Q : Fin → Shared → Prop} (hh : A.handled = none) (D : ZipApart z TI TO i1 i2 l1 l2)
    (hz : ZipG s.heap z TI TO f0 f1) (hf : Loose f0 f1) (hTI : IsPair s.heap TI (.ref i1) (.ref i2)) (hTO : IsPair s.heap TO a b)
    (h1 : s.heap.IsListIter i1 l1 k1) (hl1 : s.heap.IsList l1 xs) (hend : xs[k1]? = none)
    (hE : ∀ h' e, (∀ c o, c ≠ z → c ≠ TO → c ≠ i1 → c ≠ i2 → s.heap.get? c = some o → h'.get? c = some o) → (∃ o, h'.get? e = some o ∧ o.cls = .type "StopIteration") → E (.ref e) { s with heap := h' }) :
    wpAny (model prog w) A (Builtin.«zip.__next__» ⟨[.ref z], []⟩) Q E s := by
  show wpAny _ _ (field (.ref z) 2 >>= _) _ _ _
  refine wpAny_bind (wpAny_field hz rfl (x := .bool false) rfl ?_)
  show wpAny _ _ (field (.ref z) 3 >>= _) _ _ _
  refine wpAny_bind (wpAny_field hz rfl (x := .ref TI) rfl ?_)
  refine wpAny_bind (wpAny_seqItems hTI rfl ?_)
  show wpAny _ _ (Builtin.SmallTypes.ownedTupleIsFree (.ref z) >>= _) _ _ _
  refine wpAny_bind (zip_free hz hf fun r h₀ g1 hz₀ hl₀ hs₀ => ?_)
  cases r with
  | true =>
    simp only [if_true]
    refine wpAny_bind (wpAny_rule ?_)
    refine wpAny_bind (wpAny_field hz₀ rfl (x := .ref TO) rfl ?_)
    refine wpAny_bind (wpAny_setField_rec hz₀ (by simp) fun h₁ hz₁ hs₁' => ?_)
    replace hz₁ : ZipG h₁ z TI TO .ellipsis g1 := hz₁
    have hs₁ : Heap.SameBut z s.heap h₁ := ⟨hs₁'.1.trans hs₀.1, fun c hc => (hs₁'.2 c hc).trans (hs₀.2 c hc)⟩
    refine wpAny_bind ?_
    simp only [List.zipIdx_cons, List.zipIdx_nil, List.forIn_cons, List.forIn_nil]
    refine wpAny_bind (wpAny_bind (wpAny_onRaise ?_))
    show wpAny _ _ (Builtin.SmallTypes.nextOf (.ref i1) >>= _) _ _ _
    refine wpAny_bind (wpAny_nextOf_list_end hh (h1.extBut hs₁.extBut D.i1z) (hl1.extBut hs₁.extBut D.l1z) hend fun h₂ e hs₂ he => ?_)
    obtain ⟨oe, hoe, hce⟩ := he
    have hz₂ : ZipG h₂ z TI TO .ellipsis g1 := hs₂ _ _ D.i1z.symm hz₁
    have hez : e ≠ z := fun x => by subst x; rw [hz₂] at hoe; cases hoe; simp at hce
    refine wpAny_setField_rec hz₂ (by simp) fun h₃ _ hs₃ => hE h₃ e (fun c o c1 _ c3 _ x => hs₃.extBut _ _ c1 (hs₂ _ _ c3 (hs₁.extBut _ _ c1 x))) ⟨oe, hs₃.extBut _ _ hez hoe, hce⟩
  | false =>
    simp only [Bool.false_eq_true, if_false]
    refine wpAny_bind ?_
    rw [← Array.forIn_toList]
    simp only [List.forIn_cons, List.forIn_nil]
    refine wpAny_bind (wpAny_bind (wpAny_holding ?_))
    show wpAny _ _ (Builtin.SmallTypes.nextOf (.ref i1) >>= _) _ _ _
    exact wpAny_bind (wpAny_nextOf_list_end hh (h1.extBut hs₀.extBut D.i1z) (hl1.extBut hs₀.extBut D.l1z) hend fun h₂ e hs₂ he => hE h₂ e (fun c o c1 _ c3 _ x => hs₂ _ _ c3 (hs₀.extBut _ _ c1 x)) he)
def zipS (z TI TO i1 i2 a b : Addr) (i : Nat) (h : Heap) : Prop := (∃ f0 f1, ZipG h z TI TO f0 f1 ∧ Loose f0 f1) ∧ IsPair h TI (.ref i1) (.ref i2) ∧ (∃ x y, IsPair h TO x y) ∧ h.IsListIter i1 a i ∧ h.IsListIter i2 b i
theorem ez_next {e z TI TO i1 i2 l1 l2 : Addr} {i : Nat} {xs ys : Array Value} {x y old : Value} {Q : Option Value → Shared → Prop} (D : ZipApart z TI TO i1 i2 l1 l2) (hne : ∀ c ∈ [z, TI, TO, i1, i2], e ≠ c)
    (he : IsEnum s.heap e z i old) (hst : zipS z TI TO i1 i2 l1 l2 i s.heap) (hl1 : s.heap.IsList l1 xs) (hl2 : s.heap.IsList l2 ys) (hx : xs[i]? = some x) (hy : ys[i]? = some y)
    (hQ : ∀ h' tk, IsEnumOut h' e z ((i : Int) + 1) (.ref s.heap.objs.size) (s.heap.objs.size + 1) → zipS z TI TO i1 i2 l1 l2 (i + 1) h' → IsPair h' s.heap.objs.size x y →
      h'.get? (s.heap.objs.size + 1) = some { cls := .type "tuple", data := .seq #[.int i tk, .ref s.heap.objs.size] } →
      (∀ c o, c ∉ [e, z, TO, i1, i2] → s.heap.get? c = some o → h'.get? c = some o) → Q (some (.ref (s.heap.objs.size + 1))) { s with heap := h', toks := tk + 1 }) :
    wpAny (model prog w) A (pyNext (.ref e)) Q E s := by
  have hT : s.TypeIs (.ref e) "enumerate" := ⟨_, he, rfl⟩
  unfold pyNext
  refine wpAny_bind (wpAny_attempt (wpAny_callSpecial?_slot (name := Str.ofString "__next__") hT PySem.F.slot_enumerate_next
    (wpAny_call_entry PySem.F.slot_enumerate_next hT PySem.F.entry_enumerate_next ?_ (PySem.F.args_enumerate_next_1 _))))
  obtain ⟨hp, g, d, tk, os⟩ := s
  obtain ⟨⟨f0, f1, hz, hlo⟩, hTI, ⟨ta, tb, hTO⟩, g1, g2⟩ := hst
  have ne := fun c hc => (hne c hc)
  have ez : e ≠ z := hne z (by simp)
  have eTI : e ≠ TI := hne TI (by simp)
  have eTO : e ≠ TO := hne TO (by simp)
  have ei1 : e ≠ i1 := hne i1 (by simp)
  have ei2 : e ≠ i2 := hne i2 (by simp)
  show wpAny _ _ (field (.ref e) 2 >>= _) _ _ _
  refine wpAny_bind (wpAny_field he rfl (x := .ref z) rfl ?_)
  refine wpAny_bind ?_
  have hTz : Shared.TypeIs ⟨hp, g, d, tk, os⟩ (.ref z) "zip" := ⟨_, hz, rfl⟩
  unfold Builtin.SmallTypes.nextOf
  refine wpAny_bind (wpAny_callSpecial?_slot (name := Str.ofString "__next__") hTz PySem.F.slot_zip_next
    (wpAny_call_entry PySem.F.slot_zip_next hTz PySem.F.entry_zip_next (zip_nextG D hz hlo hTI hTO g1 g2 hl1 hl2 hx hy fun h₁ q1 q2 q3 q4 q5 q6 q7 => wpAny_pure ?_) (PySem.F.args_zip_next_1 _)))
  replace q5 : IsPair h₁ hp.objs.size x y := q5
  replace q6 : h₁.objs.size = hp.objs.size + 1 := q6
  replace q7 : ∀ c o, c ≠ z → c ≠ TO → c ≠ i1 → c ≠ i2 → hp.get? c = some o → h₁.get? c = some o := q7
  have he₁ : IsEnum h₁ e z i old := q7 e _ ez eTO ei1 ei2 he
  have st₁ : zipS z TI TO i1 i2 l1 l2 (i + 1) h₁ := ⟨q1, q7 TI _ D.TIz D.TITO D.TIi1 D.TIi2 hTI, q2, q3, q4⟩
  show wpAny _ _ (field (.ref e) 3 >>= _) _ _ ⟨h₁, g, d, tk, os⟩
  refine wpAny_bind (wpAny_field he₁ rfl (x := rawInt i) rfl ?_)
  show wpAny _ _ (field (.ref e) 4 >>= _) _ _ ⟨h₁, g, d, tk, os⟩
  refine wpAny_bind (wpAny_field he₁ rfl (x := .none) rfl ?_)
  show wpAny _ _ (mkInt i >>= _) _ _ ⟨h₁, g, d, tk, os⟩
  refine wpAny_bind (wpAny_mkInt ?_)
  show wpAny _ _ (setField (.ref e) 3 (rawInt ((i : Int) + 1)) >>= _) _ _ ⟨h₁, g, d, tk + 1, os⟩
  refine wpAny_bind (wpAny_setField_rec he₁ (by simp) fun h₂ he₂ hs₂ => ?_)
  replace hs₂ : Heap.SameBut e h₁ h₂ := hs₂
  replace he₂ : IsEnum h₂ e z ((i : Int) + 1) old := he₂
  show wpAny _ _ (setField (.ref e) 4 .none >>= _) _ _ ⟨h₂, g, d, tk + 1, os⟩
  refine wpAny_bind (wpAny_setField_rec he₂ (by simp) fun h₃ he₃ hs₃ => ?_)
  replace hs₃ : Heap.SameBut e h₂ h₃ := hs₃
  replace he₃ : IsEnum h₃ e z ((i : Int) + 1) old := he₃
  show wpAny _ _ (newTuple [.int i tk, .ref hp.objs.size] >>= _) _ _ ⟨h₃, g, d, tk + 1, os⟩
  refine wpAny_bind (wpAny_newTuple ?_)
  have he₄ : IsEnum (h₃.push { cls := .type "tuple", data := .seq #[.int i tk, .ref hp.objs.size] }) e z ((i : Int) + 1) old := Heap.get?_push_of_some _ he₃
  have hsz : h₃.objs.size = hp.objs.size + 1 := by rw [hs₃.1, hs₂.1, q6]
  have hel : e < hp.objs.size := Heap.lt_size he
  have ht₄ : (h₃.push { cls := .type "tuple", data := .seq #[.int i tk, .ref hp.objs.size] }).get? (hp.objs.size + 1) = some { cls := .type "tuple", data := .seq #[.int i tk, .ref hp.objs.size] } := by rw [← hsz]; exact Heap.get?_push_size _ rfl
  have up₄ : ∀ c o, c ≠ e → h₁.get? c = some o → (h₃.push { cls := .type "tuple", data := .seq #[.int i tk, .ref hp.objs.size] }).get? c = some o := fun c o hc q =>
    Heap.get?_push_of_some _ (hs₃.extBut c o hc (hs₂.extBut c o hc q))
  generalize h₃.push { cls := .type "tuple", data := .seq #[.int i tk, .ref hp.objs.size] } = h₄ at he₄ ht₄ up₄
  show wpAny _ _ (Builtin.SmallTypes.ownedTupleIsFree (.ref e) >>= _) _ _ ⟨h₄, g, d, tk + 1, os⟩
  rw [hsz]
  refine wpAny_bind ?_
  unfold Builtin.SmallTypes.ownedTupleIsFree
  refine wpAny_bind (wpAny_field he₄ rfl (x := .none) rfl (wpAny_pure ?_))
  simp only [if_true]
  refine wpAny_bind (wpAny_rule ?_)
  refine wpAny_bind (wpAny_field he₄ rfl (x := old) rfl ?_)
  refine wpAny_bind (wpAny_setField_rec he₄ (by simp) fun h₅ he₅ hs₅ => ?_)
  replace hs₅ : Heap.SameBut e h₄ h₅ := hs₅
  replace he₅ : IsEnum h₅ e z ((i : Int) + 1) (.ref hp.objs.size) := he₅
  show wpAny _ _ (Builtin.SmallTypes.ownedTupleHandOut (.ref e) (.ref (hp.objs.size + 1)) >>= _) _ _ ⟨h₅, g, d, tk + 1, os⟩
  refine wpAny_bind ?_
  unfold Builtin.SmallTypes.ownedTupleHandOut
  refine wpAny_bind (wpAny_setField_rec he₅ (by simp) fun h₆ he₆ hs₆ => ?_)
  replace hs₆ : Heap.SameBut e h₅ h₆ := hs₆
  replace he₆ : IsEnumOut h₆ e z ((i : Int) + 1) (.ref hp.objs.size) (hp.objs.size + 1) := he₆
  refine wpAny_setField_rec he₆ (by simp) fun h₇ he₇ hs₇ => ?_
  replace hs₇ : Heap.SameBut e h₆ h₇ := hs₇
  replace he₇ : IsEnumOut h₇ e z ((i : Int) + 1) (.ref hp.objs.size) (hp.objs.size + 1) := he₇
  have up : ∀ c o, c ≠ e → h₁.get? c = some o → h₇.get? c = some o := fun c o hc q => hs₇.extBut c o hc (hs₆.extBut c o hc (hs₅.extBut c o hc (up₄ c o hc q)))
  have nT : (hp.objs.size : Nat) ≠ e := Nat.ne_of_gt hel
  have nT1 : (hp.objs.size + 1 : Nat) ≠ e := Nat.ne_of_gt (Nat.lt_succ_of_lt hel)
  refine wpAny_bind (wpAny_letGo (wpAny_pure ⟨_, rfl, wpAny_pure (hQ h₇ tk he₇ ?_ (up _ _ nT q5) ?_ ?_)⟩))
  · obtain ⟨⟨u0, u1, u2, u3⟩, u4, ⟨u5, u6, u7⟩, u8, u9⟩ := st₁
    exact ⟨⟨u0, u1, up _ _ ez.symm u2, u3⟩, up _ _ eTI.symm u4, ⟨u5, u6, up _ _ eTO.symm u7⟩, u8.at fun o q => up _ o ei1.symm q, u9.at fun o q => up _ o ei2.symm q⟩
  · exact hs₇.extBut _ _ nT1 (hs₆.extBut _ _ nT1 (hs₅.extBut _ _ nT1 ht₄))
  · intro c o hc q
    have hc' : c ≠ e ∧ c ≠ z ∧ c ≠ TO ∧ c ≠ i1 ∧ c ≠ i2 := by simpa using hc
    exact up c o hc'.1 (q7 c o hc'.2.1 hc'.2.2.1 hc'.2.2.2.1 hc'.2.2.2.2 q)
theorem ez_end {e z TI TO i1 i2 l1 l2 : Addr} {i : Nat} {xs : Array Value} {old : Value} {Q : Option Value → Shared → Prop} (hh : A.handled = none) (D : ZipApart z TI TO i1 i2 l1 l2)
    (he : IsEnum s.heap e z i old) (hst : zipS z TI TO i1 i2 l1 l2 i s.heap) (hl1 : s.heap.IsList l1 xs) (hx : xs[i]? = none)
    (hQ : ∀ h', (∀ c o, c ∉ [e, z, TO, i1, i2] → s.heap.get? c = some o → h'.get? c = some o) → Q none { s with heap := h' }) : wpAny (model prog w) A (pyNext (.ref e)) Q E s := by
  have hT : s.TypeIs (.ref e) "enumerate" := ⟨_, he, rfl⟩
  obtain ⟨⟨f0, f1, hz, hlo⟩, hTI, ⟨ta, tb, hTO⟩, g1, g2⟩ := hst
  unfold pyNext
  refine wpAny_bind (wpAny_attempt (wpAny_callSpecial?_slot (name := Str.ofString "__next__") hT PySem.F.slot_enumerate_next
    (wpAny_call_entry PySem.F.slot_enumerate_next hT PySem.F.entry_enumerate_next ?_ (PySem.F.args_enumerate_next_1 _))))
  show wpAny _ _ (field (.ref e) 2 >>= _) _ _ _
  refine wpAny_bind (wpAny_field he rfl (x := .ref z) rfl ?_)
  refine wpAny_bind ?_
  have hTz : s.TypeIs (.ref z) "zip" := ⟨_, hz, rfl⟩
  unfold Builtin.SmallTypes.nextOf
  refine wpAny_bind (wpAny_callSpecial?_slot (name := Str.ofString "__next__") hTz PySem.F.slot_zip_next
    (wpAny_call_entry PySem.F.slot_zip_next hTz PySem.F.entry_zip_next (zip_endG hh D hz hlo hTI hTO g1 hl1 hx fun h' x hk hx' => ?_) (PySem.F.args_zip_next_1 _)))
  obtain ⟨o, ho, hc⟩ := hx'
  refine wpAny_bind (wpAny_isInstance (T := "StopIteration") (b := true) ⟨o, ho, hc⟩ isSubtype_stop ?_)
  refine wpAny_pure (hQ _ fun c o hc q => ?_)
  have hc' : c ≠ e ∧ c ≠ z ∧ c ≠ TO ∧ c ≠ i1 ∧ c ≠ i2 := by simpa using hc
  exact hk c o hc'.2.1 hc'.2.2.1 hc'.2.2.2.1 hc'.2.2.2.2 q
theorem meets_enumerate_newZ (z TI TO : Addr) :
    Meets (Builtin.«enumerate.__new__» ⟨[.type "enumerate", .ref z], []⟩) (fun _ R s => IsZip s.heap z TI TO .none ∧
      R (.ok (.ret (.ref s.heap.objs.size)))
        { s with heap := s.heap.push { cls := .type "enumerate", data := .fields #[.none, .bool false, .ref z, rawInt 0, .none, .none] } }) :=
  .of_wp fun prog w A R s h => by
    obtain ⟨hp, g, d, tk, os⟩ := s; obtain ⟨hl, h⟩ := h
    have hsub := sub_enumerate
    have hL : IsZip (Shared.heap ⟨hp, g, d, tk, os⟩) z TI TO .none := hl
    wp_walk using wpAny_loadPart' hl
    refine wpAny_stack_any fun st => wpAny_pure ?_
    split
    · rename_i c _ _ _ _ _
      cases (c == Value.type "enumerate")
      · wp_walk using wpAny_loadPart' hl, wpAny_pyIter_zip hL
        exact ⟨_, rfl, h⟩
      · wp_walk using wpAny_loadPart' hl, wpAny_pyIter_zip hL
        exact ⟨_, rfl, h⟩
    · wp_walk using wpAny_loadPart' hl, wpAny_pyIter_zip hL
      exact ⟨_, rfl, h⟩
theorem call_enumerate_zip {z TI TO : Addr} {Q : Value → Shared → Prop} (hz : IsZip s.heap z TI TO .none)
    (h : ∀ h', IsEnum h' s.heap.objs.size z 0 .none → (∀ b o, s.heap.get? b = some o → h'.get? b = some o) → Q (.ref s.heap.objs.size) { s with heap := h' }) :
    wpAny (model prog w) A (call (.type "enumerate") [.ref z]) Q E s := by
  refine callType_new PySem.F.called_enumerate (by decide) (PySem.F.typeCall_enumerate_1 _) (PySem.F.newCall_enumerate_1 _) (fun obj => PySem.F.args_object_init_2 obj _) PySem.F.entry_enumerate_new
    (meets_enumerate_newZ z TI TO) ⟨hz, ?_⟩
  show _ ∧ _
  have he : IsEnum (s.heap.push { cls := .type "enumerate", data := .fields #[.none, .bool false, .ref z, rawInt 0, .none, .none] }) s.heap.objs.size z 0 .none := Heap.get?_push_size _ rfl
  exact ⟨⟨_, he, rfl⟩, h _ he fun b o x => Heap.get?_push_of_some _ x⟩
end
end L2
set_option maxHeartbeats 4000000
namespace L2
open PySem PySem.Spec PyProof.Rows
section
variable {X : Cx} {pins : List (Addr × Obj)} {σ : St} {H : Hp} {s : Shared}
theorem Inv.twoLaid {tk : Nat} {h' : Heap} {wr : List Addr} {T U : Addr} {xs ys : List V} {vals vals2 : List Value} (I : Inv X pins σ H s) (hw : ∀ b ∈ wr, FpOk X pins H b) (hT : s.heap.objs.size ≤ T) (hU : s.heap.objs.size ≤ U) (hTU : T ≠ U)
    (ht : h'.IsTuple T vals.toArray) (rv : Vals xs vals) (hz : xs.length ≤ sizeLine) (hu : h'.IsTuple U vals2.toArray) (rv2 : Vals ys vals2) (hz2 : ys.length ≤ sizeLine)
    (kk : ∀ b o, b ∉ wr → s.heap.get? b = some o → h'.get? b = some o) (there : ∀ b ∈ wr, ∃ o, h'.get? b = some o) : Inv X pins σ (upd (upd H T (.tup xs)) U (.tup ys)) { s with heap := h', toks := tk } := by
  have hTn : H T = none := I.hok.fresh hT
  have hUn : H U = none := I.hok.fresh hU
  have nT : ∀ b o, s.heap.get? b = some o → b ≠ T := fun b o e => Nat.ne_of_lt (Nat.lt_of_lt_of_le (Heap.lt_size e) hT)
  have nU : ∀ b o, s.heap.get? b = some o → b ≠ U := fun b o e => Nat.ne_of_lt (Nat.lt_of_lt_of_le (Heap.lt_size e) hU)
  have up : ∀ {b : Addr} {o : HO}, H b = some o → upd (upd H T (.tup xs)) U (.tup ys) b = some o := fun e => by
    rw [upd_ne (ne_of_none e hUn), upd_ne (ne_of_none e hTn)]; exact e
  refine I.step (g' := s.gens) (d' := s.drawn) (ch := wr) (fun b hb => ?_) (fun b o _ _ hc e _ => kk b o hc e) (fun b o _ _ hc e _ => ⟨o.slots, kk b o hc e⟩) (fun b o _ e n => by rw [upd_ne (nU b o e), upd_ne (nT b o e)]; exact n)
    (fun b o hc e => ⟨o, kk b o hc e⟩) (fun b ys e => up e) (fun b o u e => up e) (fun b ps e => ⟨#[], by rw [up e]; simp⟩) (fun m hm => ?_) (fun b u e => ?_) I.bare
  · obtain ⟨_, f1, _, f3, f4, f5⟩ := hw b hb
    exact ⟨f3, f1, f4, f5⟩
  · obtain ⟨o, es, ep, ho, r⟩ := hm
    exact ⟨o, es, ep, kk _ o (fun z => (hw _ z).2.1 rfl) ho, r⟩
  · by_cases hb : b = U
    · subst hb
      rw [upd_same] at e
      cases e
      exact ⟨hz2, vals2, rv2, hu⟩
    · rw [upd_ne hb] at e
      by_cases hb2 : b = T
      · subst hb2
        rw [upd_same] at e
        cases e
        exact ⟨hz, vals, rv, ht⟩
      · rw [upd_ne hb2] at e
        refine (I.hok b u e).stay (fun c v hc q => kk c v (fun z => ?_) q) (fun c q => up q) fun c ys q => up q
        have hn := (hw c z).1
        rcases hc with hc | hc
        · rw [hc, e] at hn; cases hn
        · rw [hc] at hn; cases hn
def Itez (K : PySem.W.Frag) (a b : Addr) : It :=
  ⟨fun i H => ∃ xs ys x y, SqL K H a xs ∧ SqL K H b ys ∧ xs[i]? = some x ∧ ys[i]? = some y,
   fun i H p H' => ∃ x y t0 t1, p = .ref t1 ∧ H t0 = none ∧ H t1 = none ∧ t0 ≠ t1 ∧ (∀ xs, SqL K H a xs → xs[i]? = some x) ∧ (∀ ys, SqL K H b ys → ys[i]? = some y) ∧ H' = upd (upd H t0 (.tup [x, y])) t1 (.tup [.int i, .ref t0]),
   fun i H => ∃ xs ys, SqL K H a xs ∧ SqL K H b ys ∧ xs.length ≤ i⟩
theorem turn_ez {P : Program} {w : World} {K : PySem.W.Frag} {es : List Expr} {k : Nat} {tp : Pos} {e z TI TO i1 i2 : Addr} (a b : Addr) (O : ZipOwn z TI TO i1 i2) (hne : ∀ c ∈ [z, TI, TO, i1, i2], e ≠ c) :
    Turn P w K (.Tuple es k tp) (Itez K a b) [e, z, TI, TO, i1, i2] e (fun i h => (∃ old, IsEnum h e z i old) ∧ zipS z TI TO i1 i2 a b i h) where
  mem := by simp
  obj := fun i h st c hc => by
    obtain ⟨⟨old, he⟩, ⟨f0, f1, hz, _⟩, hTI, ⟨x, y, hTO⟩, ⟨o1, e1, _, d1⟩, ⟨o2, e2, _, d2⟩⟩ := st
    have hc' : c = e ∨ c = z ∨ c = TI ∨ c = TO ∨ c = i1 ∨ c = i2 := by simpa using hc
    rcases hc' with rfl | rfl | rfl | rfl | rfl | rfl
    · exact ⟨_, he, fun v q => by
        have q' : Data.fields _ = Data.cell v := q
        cases q'⟩
    · exact ⟨_, hz, fun v q => by
        have q' : Data.fields _ = Data.cell v := q
        cases q'⟩
    · exact ⟨_, hTI, fun v q => by
        have q' : Data.seq _ _ = Data.cell v := q
        cases q'⟩
    · exact ⟨_, hTO, fun v q => by
        have q' : Data.seq _ _ = Data.cell v := q
        cases q'⟩
    · exact ⟨o1, e1, fun v q => by rw [d1] at q; cases q⟩
    · exact ⟨o2, e2, fun v q => by rw [d2] at q; cases q⟩
  keep := fun i h h' st kp => by
    obtain ⟨⟨old, he⟩, ⟨f0, f1, hz, hl⟩, hTI, ⟨x, y, hTO⟩, h1, h2⟩ := st
    exact ⟨⟨old, kp e (by simp) _ he⟩, ⟨f0, f1, kp z (by simp) _ hz, hl⟩, kp TI (by simp) _ hTI, ⟨x, y, kp TO (by simp) _ hTO⟩, h1.at fun o q => kp i1 (by simp) o q, h2.at fun o q => kp i2 (by simp) o q⟩
  item := by
    intro X hP hw hK hc i pins s σ H E I hf st hg
    subst hP hw hK
    obtain ⟨xs, ys, x, y, hq, hq2, hx, hy⟩ := hg
    obtain ⟨⟨old, he⟩, stz⟩ := st
    have D : ZipApart z TI TO i1 i2 a b := by
      obtain ⟨⟨f0, f1, hz, _⟩, hTI, ⟨x, y, hTO⟩, ⟨o1, e1, c1, _⟩, ⟨o2, e2, c2, _⟩⟩ := stz
      have nz : ∀ {c : Addr} {zs : List V}, SqL X.K H c zs → c ≠ z := fun h => notList_of (K := X.K) I h hz (by intro q; injection q with q; exact absurd q (by decide))
      have nT : ∀ {c : Addr} {zs : List V}, SqL X.K H c zs → c ≠ TO := fun h => notList_of (K := X.K) I h hTO (by intro q; injection q with q; exact absurd q (by decide))
      have n1 : ∀ {c : Addr} {zs : List V}, SqL X.K H c zs → c ≠ i1 := fun h => notList_of (K := X.K) I h e1 (by rw [c1]; intro q; injection q with q; exact absurd q (by decide))
      have n2 : ∀ {c : Addr} {zs : List V}, SqL X.K H c zs → c ≠ i2 := fun h => notList_of (K := X.K) I h e2 (by rw [c2]; intro q; injection q with q; exact absurd q (by decide))
      exact ⟨O.TIz, O.TOz, O.i1z, O.i2z, O.TITO, O.TIi1, O.TIi2, O.TOi1, O.TOi2, O.i12, nz hq, nT hq, n1 hq, n2 hq, nz hq2, nT hq2, n1 hq2, n2 hq2⟩
    obtain ⟨its, rv, p, _⟩ := I.list hq
    obtain ⟨its2, rv2, p2, _⟩ := I.list hq2
    obtain ⟨u, hu, ru⟩ := rv.get hx
    obtain ⟨u2, hu2, ru2⟩ := rv2.get hy
    refine ez_next D hne he stz p.isList p2.isList (x := u) (y := u2) (by simpa using hu) (by simpa using hu2) fun h' tk q1 q2 q3 q4 kk => ?_
    refine ⟨_, rfl, ?_⟩
    have sub : ∀ c ∈ [e, z, TO, i1, i2], c ∈ [e, z, TI, TO, i1, i2] := fun c hc => by
      have : c = e ∨ c = z ∨ c = TO ∨ c = i1 ∨ c = i2 := by simpa using hc
      simp
      rcases this with r | r | r | r | r <;> simp [r]
    have fw : ∀ c ∈ [e, z, TO, i1, i2], FpOk X pins H c := fun c hc => hf c (sub c hc)
    have I1 : Inv X pins σ (upd (upd H s.heap.objs.size (.tup [x, y])) (s.heap.objs.size + 1) (.tup [.int i, .ref s.heap.objs.size])) { s with heap := h', toks := tk + 1 } := by
      refine I.twoLaid (vals := [u, u2]) (vals2 := [.int i tk, .ref s.heap.objs.size]) fw (Nat.le_refl _) (Nat.le_succ _) (Nat.ne_of_lt (Nat.lt_succ_self _)) ⟨_, q3, rfl, _, rfl⟩ (.cons ru (.cons ru2 .nil)) (by show 2 ≤ sizeLine; decide)
        ⟨_, q4, rfl, _, rfl⟩ (.cons ⟨tk, rfl⟩ (.cons rfl .nil)) (by show 2 ≤ sizeLine; decide) kk fun c hc => ?_
      obtain ⟨⟨f0, f1, m1, _⟩, _, ⟨_, _, m2⟩, ⟨o1, m3, _⟩, ⟨o2, m4, _⟩⟩ := q2
      have : c = e ∨ c = z ∨ c = TO ∨ c = i1 ∨ c = i2 := by simpa using hc
      rcases this with rfl | rfl | rfl | rfl | rfl
      · exact ⟨_, q1⟩
      · exact ⟨_, m1⟩
      · exact ⟨_, m2⟩
      · exact ⟨_, m3⟩
      · exact ⟨_, m4⟩
    have hT0 : H s.heap.objs.size = none := I.hok.fresh (Nat.le_refl _)
    have hT1 : H (s.heap.objs.size + 1) = none := I.hok.fresh (Nat.le_succ _)
    have lt : ∀ c ∈ [e, z, TI, TO, i1, i2], c < s.heap.objs.size := fun c hc => by
      obtain ⟨⟨f0, f1, m1, _⟩, m5, ⟨_, _, m2⟩, ⟨o1, m3, _⟩, ⟨o2, m4, _⟩⟩ := stz
      have hc' : c = e ∨ c = z ∨ c = TI ∨ c = TO ∨ c = i1 ∨ c = i2 := by simpa using hc
      rcases hc' with rfl | rfl | rfl | rfl | rfl | rfl
      · exact Heap.lt_size he
      · exact Heap.lt_size m1
      · exact Heap.lt_size m5
      · exact Heap.lt_size m2
      · exact Heap.lt_size m3
      · exact Heap.lt_size m4
    refine wpAny_letOwnedTupleGo_enum q1 fun h'' he'' hs'' => ?_
    have hf2 : ∀ c ∈ [e, z, TI, TO, i1, i2], FpOk X pins (upd (upd H s.heap.objs.size (.tup [x, y])) (s.heap.objs.size + 1) (.tup [.int i, .ref s.heap.objs.size])) c := fun c hc => by
      obtain ⟨f0, fr⟩ := hf c hc
      have l := lt c hc
      exact ⟨by rw [upd_ne (Nat.ne_of_lt (Nat.lt_succ_of_lt l)), upd_ne (Nat.ne_of_lt l)]; exact f0, fr⟩
    have kk2 : ∀ c o, c ∉ [e] → h'.get? c = some o → h''.get? c = some o := fun c o hc q => hs''.extBut c o (fun r => hc (by simp [r])) q
    have up : ∀ {c : Addr} {o : Obj}, c ∈ [z, TI, TO, i1, i2] → h'.get? c = some o → h''.get? c = some o := fun hc q => hs''.extBut _ _ (hne _ hc).symm q
    have fe : ∀ c ∈ [e], FpOk X pins (upd (upd H s.heap.objs.size (.tup [x, y])) (s.heap.objs.size + 1) (.tup [.int i, .ref s.heap.objs.size])) c := fun c hc => by
      have : c = e := by simpa using hc
      exact hf2 c (by simp [this])
    refine ⟨.ref (s.heap.objs.size + 1), _, I1.turnedMany (tk := tk + 1) (wr := [e]) fe kk2, rfl, ⟨x, y, s.heap.objs.size, s.heap.objs.size + 1, rfl, hT0, hT1, Nat.ne_of_lt (Nat.lt_succ_self _), list_inj2 I hq hx, list_inj2 I hq2 hy, rfl⟩, ?_, fun c hc => (hf2 c hc).1⟩
    obtain ⟨⟨f0, f1, m1, m1'⟩, m5, ⟨_, _, m2⟩, m3, m4⟩ := q2
    exact ⟨⟨_, by simpa using he''⟩, ⟨f0, f1, up (by simp) m1, m1'⟩, up (by simp) m5, ⟨_, _, up (by simp) m2⟩, m3.at fun o q => up (by simp) q, m4.at fun o q => up (by simp) q⟩
  done := by
    intro X hP hw hK hc i pins s σ H E I hf st hg
    subst hP hw hK
    obtain ⟨xs, ys, hq, hq2, hx⟩ := hg
    obtain ⟨⟨old, he⟩, stz⟩ := st
    have D : ZipApart z TI TO i1 i2 a b := by
      obtain ⟨⟨f0, f1, hz, _⟩, hTI, ⟨x, y, hTO⟩, ⟨o1, e1, c1, _⟩, ⟨o2, e2, c2, _⟩⟩ := stz
      have nz : ∀ {c : Addr} {zs : List V}, SqL X.K H c zs → c ≠ z := fun h => notList_of (K := X.K) I h hz (by intro q; injection q with q; exact absurd q (by decide))
      have nT : ∀ {c : Addr} {zs : List V}, SqL X.K H c zs → c ≠ TO := fun h => notList_of (K := X.K) I h hTO (by intro q; injection q with q; exact absurd q (by decide))
      have n1 : ∀ {c : Addr} {zs : List V}, SqL X.K H c zs → c ≠ i1 := fun h => notList_of (K := X.K) I h e1 (by rw [c1]; intro q; injection q with q; exact absurd q (by decide))
      have n2 : ∀ {c : Addr} {zs : List V}, SqL X.K H c zs → c ≠ i2 := fun h => notList_of (K := X.K) I h e2 (by rw [c2]; intro q; injection q with q; exact absurd q (by decide))
      exact ⟨O.TIz, O.TOz, O.i1z, O.i2z, O.TITO, O.TIi1, O.TIi2, O.TOi1, O.TOi2, O.i12, nz hq, nT hq, n1 hq, n2 hq, nz hq2, nT hq2, n1 hq2, n2 hq2⟩
    obtain ⟨its, rv, p, _⟩ := I.list hq
    have hl := rv.length
    refine ez_end (I.ok.hd hc) D he stz p.isList (Array.getElem?_eq_none (by simp; omega)) fun h' kk => ?_
    refine ⟨rfl, I.turnedMany (tk := s.toks) (wr := [e, z, TO, i1, i2]) (fun c hc => hf c ?_) kk⟩
    have : c = e ∨ c = z ∨ c = TO ∨ c = i1 ∨ c = i2 := by simpa using hc
    simp
    rcases this with r | r | r | r | r <;> simp [r]
  self := fun _ _ _ _ _ st h => by
    obtain ⟨⟨old, he⟩, _⟩ := st
    exact wpAny_pyIter_enum he h
def iEz (K : PySem.W.Frag) (tl tm : TE) : TI := fun σ H R => tl σ H fun x H1 => tm σ H1 fun y H2 => ∃ a b, x = .ref a ∧ y = .ref b ∧ (∃ xs, SqL K H2 a xs) ∧ (∃ ys, SqL K H2 b ys) ∧ R (Itez K a b) H2
theorem zip_val {l m : Expr} {tl tm : TE} {p pos : Pos} (hg : Gl X "zip") (hz : X.mg "zip" = none) (hl : PE X l tl) (hm : PE X m tm) (hs : starEach [l, m] X.env = [(false, eval l X.env), (false, eval m X.env)]) (hs2 : starEach [m] X.env = [(false, eval m X.env)])
    {R : V → V → Hp → Prop} (I : Inv X pins σ H s) (h : tl σ H fun x H1 => tm σ H1 fun y H2 => R x y H2) (hR : ∀ x y H1, R x y H1 → ∃ a b, x = .ref a ∧ y = .ref b ∧ (∃ xs, SqL X.K H1 a xs) ∧ ∃ ys, SqL X.K H1 b ys) :
    wpAny (model X.prog X.w) X.A (eval (.Call (.Name "zip" p) [l, m] [] pos) X.env) (fun v s1 => ∃ a b z TI TO i1 i2 H1, R (.ref a) (.ref b) H1 ∧ v = .ref z ∧ Inv X pins σ H1 s1 ∧ ZipOwn z TI TO i1 i2 ∧ IsZip s1.heap z TI TO .none ∧ zipSt z TI TO i1 i2 a b 0 s1.heap ∧ ∀ c ∈ [z, TI, TO, i1, i2], FpOk X pins H1 c) X.xe s := by
  refine Call_ (ld_blt I hg hz bt_zip (PyProof.Rows.callWith_type1 (thn (pa_two hl hm hs hs2 pos pins s σ H I h) fun us s1 ⟨x, y, u, v, H1, I1, e1, r1, r2, q1⟩ => ?_) (by rw [hs, hs2]) (by rw [hs2]; rfl)))
  obtain ⟨a, b, rfl, rfl, ⟨xs, hq⟩, ⟨ys, hq2⟩⟩ := hR _ _ _ q1
  subst e1
  cases r1
  cases r2
  obtain ⟨its, rv, pl, _⟩ := I1.list hq
  obtain ⟨its2, rv2, pl2, _⟩ := I1.list hq2
  refine call_zip_2 pl.isList pl2.isList fun h' z1 z2 z3 z4 z5 hsz kk => ?_
  have O : ZipOwn (s1.heap.objs.size + 4) (s1.heap.objs.size + 2) (s1.heap.objs.size + 3) s1.heap.objs.size (s1.heap.objs.size + 1) := by
    constructor <;> exact (by intro q; have q' : (_ : Nat) = _ := q; omega)
  refine ⟨a, b, _, _, _, _, _, H1, q1, rfl, I1.kept (t' := s1.toks) kk, O, z1, ⟨z1, z2, ⟨_, _, z3⟩, z4, z5⟩, fun c hc => ?_⟩
  have hc' : s1.heap.objs.size ≤ c := by
    have : c = s1.heap.objs.size + 4 ∨ c = s1.heap.objs.size + 2 ∨ c = s1.heap.objs.size + 3 ∨ c = s1.heap.objs.size ∨ c = s1.heap.objs.size + 1 := by simpa using hc
    rcases this with r | r | r | r | r <;> (rw [r]; first | exact Nat.le_add_right _ _ | exact Nat.le_refl _)
  exact I1.fpOk hc' (I1.hok.fresh hc')
theorem pi_ez {l m : Expr} {tl tm : TE} {p p2 pos pos2 tp : Pos} {es : List Expr} {k : Nat} (hg : Gl X "zip") (hz : X.mg "zip" = none) (hg2 : Gl X "enumerate") (hm2 : X.mg "enumerate" = none) (hl : PE X l tl) (hm : PE X m tm)
    (hs : starEach [l, m] X.env = [(false, eval l X.env), (false, eval m X.env)] := by rfl) (hs2 : starEach [m] X.env = [(false, eval m X.env)] := by rfl)
    (hs3 : starEach [Expr.Call (.Name "zip" p) [l, m] [] pos] X.env = [(false, eval (.Call (.Name "zip" p) [l, m] [] pos) X.env)] := by rfl) :
    PI X (.Tuple es k tp) (.Call (.Name "enumerate" p2) [.Call (.Name "zip" p) [l, m] [] pos] [] pos2) (iEz X.K tl tm) := by
  intro pins s σ H R I h
  have hev : wpAny (model X.prog X.w) X.A (spliced (backTo pos2 (starEach [Expr.Call (.Name "zip" p) [l, m] [] pos] X.env))) (fun us s1 => ∃ a b z TI TO i1 i2 H1, R (Itez X.K a b) H1 ∧ us = [.ref z] ∧ Inv X pins σ H1 s1 ∧ ZipOwn z TI TO i1 i2 ∧ IsZip s1.heap z TI TO .none ∧ zipSt z TI TO i1 i2 a b 0 s1.heap ∧ ∀ c ∈ [z, TI, TO, i1, i2], FpOk X pins H1 c) X.xe s := by
    rw [hs3]
    refine Calls.spliced_cons (thn (zip_val hg hz hl hm hs hs2 I h fun x y H1 ⟨a, b, e1, e2, q1, q2, _⟩ => ⟨a, b, e1, e2, q1, q2⟩) fun v s1 ⟨a, b, z, TI, TO, i1, i2, H1, q, e, I1, O, g1, g2, g3⟩ => Calls.spliced_nil ?_)
    obtain ⟨a', b', e1, e2, _, _, q⟩ := q
    cases e1
    cases e2
    exact ⟨a, b, z, TI, TO, i1, i2, H1, q, by rw [e], I1, O, g1, g2, g3⟩
  refine Call_ (ld_blt I hg2 hm2 bt_enumerate (PyProof.Rows.callWith_type1 (thn hev fun us s1 ⟨a, b, z, TI, TO, i1, i2, H1, q, e, I1, O, g1, g2, g3⟩ => ?_) (by rw [hs3]; rfl) (by rfl)))
  subst e
  refine call_enumerate_zip g1 fun h' he kk => ?_
  refine wpAny_pyIter_enum he ?_
  obtain ⟨y1, y2, ⟨y3, y4, y5⟩, y6, y7⟩ := g2
  have hne : ∀ c ∈ [z, TI, TO, i1, i2], s1.heap.objs.size ≠ c := fun c hc => by
    have hc' : c = z ∨ c = TI ∨ c = TO ∨ c = i1 ∨ c = i2 := by simpa using hc
    rcases hc' with rfl | rfl | rfl | rfl | rfl
    · exact Nat.ne_of_gt (Heap.lt_size y1)
    · exact Nat.ne_of_gt (Heap.lt_size y2)
    · exact Nat.ne_of_gt (Heap.lt_size y5)
    · obtain ⟨_, y, _⟩ := y6; exact Nat.ne_of_gt (Heap.lt_size y)
    · obtain ⟨_, y, _⟩ := y7; exact Nat.ne_of_gt (Heap.lt_size y)
  refine ⟨s1.heap.objs.size, [s1.heap.objs.size, z, TI, TO, i1, i2], _, _, H1, rfl, I1.kept (t' := s1.toks) kk, turn_ez a b O hne, ⟨⟨.none, he⟩, ⟨.none, .bool false, kk _ _ y1, .inl rfl, false, rfl⟩, kk _ _ y2, ⟨y3, y4, kk _ _ y5⟩, y6.at fun o q => kk _ _ q, y7.at fun o q => kk _ _ q⟩, fun c hc => ?_, q⟩
  rcases List.mem_cons.mp hc with rfl | hc
  · exact I1.fpOk (Nat.le_refl _) (I1.hok.fresh (Nat.le_refl _))
  · exact g3 c hc
end
theorem for_ez {K : PySem.W.Frag} {a b : Addr} {xs ys : List V} {g : TG} {tb : TS} {D : Ends} {σ : St} {H : Hp} (Pv : Nat → St → Hp → Prop) (he : xs.length = ys.length) (h0 : Pv 0 σ H) (hl : ∀ i σ H, Pv i σ H → SqL K H a xs ∧ SqL K H b ys)
    (hs : ∀ i x y t u σ H, xs[i]? = some x → ys[i]? = some y → Pv i σ H → H t = none → H u = none → t ≠ u → g (.ref u) σ (upd (upd H t (.tup [x, y])) u (.tup [.int i, .ref t])) fun σ2 H2 => tb { D with nx := Pv (i + 1), ct := Pv (i + 1), bk := D.nx } σ2 H2) (hd : ∀ σ H, Pv xs.length σ H → D.nx σ H) :
    ∃ W : Nat → Nat → St → Hp → Prop, (∃ m, W 0 m σ H) ∧ ∀ i m σ H, W i m σ H →
      ((Itez K a b).stop i H ∧ D.nx σ H) ∨ ((Itez K a b).go i H ∧ ∃ N : St → Hp → Prop, (∀ σ' H', N σ' H' → ∃ m', m' < m ∧ W (i + 1) m' σ' H') ∧ ∀ x H', (Itez K a b).yld i H x H' → g x σ H' fun σ2 H2 => tb { D with nx := N, ct := N, bk := D.nx } σ2 H2) := by
  refine ⟨fun i m σ H => m = xs.length - i ∧ i ≤ xs.length ∧ Pv i σ H, ⟨xs.length, by simp, Nat.zero_le _, h0⟩, ?_⟩
  rintro i m σ H ⟨rfl, hi, p⟩
  obtain ⟨q, q2⟩ := hl i σ H p
  by_cases hlt : i < xs.length
  · have hlt2 : i < ys.length := by omega
    refine .inr ⟨⟨xs, ys, xs[i], ys[i], q, q2, by simp [hlt], by simp [hlt2]⟩, Pv (i + 1), fun σ' H' p' => ⟨xs.length - (i + 1), by omega, rfl, hlt, p'⟩, fun x H' y => ?_⟩
    obtain ⟨x0, y0, t, u, rfl, hn, hn2, tu, hx, hy, rfl⟩ := y
    exact hs i x0 y0 t u σ H (hx xs q) (hy ys q2) p hn hn2 tu
  · have e : i = xs.length := by omega
    subst e
    exact .inl ⟨⟨xs, ys, q, q2, Nat.le_refl _⟩, hd σ H p⟩
end L2
set_option maxHeartbeats 4000000
namespace L2
open PySem PySem.Spec PyProof.Rows
structure FunD (K : PySem.W.Frag) (x qual : Str) (st : Stmt) (f : Addr) (fd : FuncData) (dV : Value) : Prop where
  ex : ∃ (oc : Value) (od : Option Addr) (kV doc pm : Value) (an : Option Addr) (cdv ct : Value) (osl : Array (Option Value)),
    fd = PySem.W.fnOf x qual (defArgs st) (defBody st) (defScope st) dV kV doc pm an cdv ct ∧ K.lookup f = some ⟨oc, od, .func fd, osl⟩ ∧ PySem.W.codeIn K cdv qual = true
  kp : PySem.W.keepIn K (.ref f) = true
section
variable {P : Program} {w : World} {K : PySem.W.Frag} {mg : Str → Option Value} {base : Heap}
theorem FunD.ok {x qual : Str} {st : Stmt} {f : Addr} {fd : FuncData} {dV : Value} {N ps : List Str} {k : Nat} {sp : Sp} (F : FunD K x qual st f fd dV) (S : FnScope N ps (defScope st)) (len : ∀ vs H Q E, sp vs H Q E → vs.length = ps.length)
    (hbody : ∀ (cdv : Value) (A : Around) (outer : List Env) (s : Shared) (H : Hp) (vs : List V) (Q : VK) (E : XK), Room k (A.deeper (envOfC qual (defScope st) s.heap.objs.size f cdv)) → sp vs H Q E →
      ∃ t, PSs (cxOf CX0 P w K mg base N qual (defScope st) f cdv A outer s H E).nox (defBody st) t ∧ t { nx := fun _ H' => Q .non H', rt := Q } (start N vs) H) : FnOk P w K mg base CX0 (k + 1) f fd ps sp := by
  obtain ⟨oc, od, kV, doc, pm, an, cdv, ct, osl, rfl, lk, hcd⟩ := F.ex
  refine fn_of lk hcd S len fun A outer s H vs Q E hr hsp => ?_
  obtain ⟨t, h, q⟩ := hbody cdv A outer s H vs Q E hr hsp
  exact ⟨t, h.nox, q⟩
theorem FunD.binds {x qual : Str} {st : Stmt} {f : Addr} {fd : FuncData} {T : Addr} {o : Obj} {items : Array Value} {n : Nat} {ps : List Str} {ds : List Value} (F : FunD K x qual st f fd (.ref T)) (lk : K.lookup T = some o) (hs : o.data = .seq items n)
    (h : ∀ (kV doc pm : Value) (an : Option Addr) (cdv ct : Value) (us : List Value), (us ++ ds).length = ps.length → ∃ k, bindArgs (PySem.W.fnOf x qual (defArgs st) (defBody st) (defScope st) (.ref T) kV doc pm an cdv ct) ⟨us, []⟩ = seqItems? (.ref T) >>= k ∧ k (some items) = pure (ps.zip (us ++ ds))) : Binds K fd ps ds := by
  obtain ⟨oc, od, kV, doc, pm, an, cdv, ct, osl, rfl, lkf, hcd⟩ := F.ex
  intro s us KI hl
  obtain ⟨k, h1, h2⟩ := h kV doc pm an cdv ct us hl
  exact BindsTo.of_defaults rfl (KI _ _ lk) hs h1 h2
theorem funD_mk {x qual : Str} {st : Stmt} {f : Addr} {oc : Value} {od an : Option Addr} {osl : Array (Option Value)} {dV kV doc pm cdv ct : Value} (l : K.lookup f = some ⟨oc, od, .func (PySem.W.fnOf x qual (defArgs st) (defBody st) (defScope st) dV kV doc pm an cdv ct), osl⟩)
    (c : PySem.W.codeIn K cdv qual = true) (k : PySem.W.keepIn K (.ref f) = true) : FunD K x qual st f (PySem.W.fnOf x qual (defArgs st) (defBody st) (defScope st) dV kV doc pm an cdv ct) dV := ⟨⟨oc, od, kV, doc, pm, an, cdv, ct, osl, rfl, l, c⟩, k⟩
end
inductive EsOk (w : World) : List DictEntry → List (Str × V) → Prop
  | nil : EsOk w [] []
  | cons {x : Str} {t : Tok} {u : Value} {v : V} {es : List DictEntry} {kvs : List (Str × V)} : RelV v u → EsOk w es kvs → EsOk w (⟨PyData.keyHash w.params x, .str x t, u⟩ :: es) ((x, v) :: kvs)
structure KD (K : PySem.W.Frag) (w : World) (a : Addr) (kvs : List (Str × V)) : Prop where
  sys : (a == sysModules) = false
  ok : ∃ es n, K.lookup a = some ⟨.type "dict", none, .dict es n, #[]⟩ ∧ EsOk w es.toList kvs ∧ (kvs.map (·.1)).Nodup
theorem EsOk.vs (P : Program) {w : World} : ∀ {es : List DictEntry} {kvs : List (Str × V)}, EsOk w es kvs → ∃ vs : List (Key × Value), Pairs (mixKind P w) es vs ∧ vs.map (·.1) = kvs.map (fun p => (Sum.inr p.1 : Key)) ∧
    (∀ e ∈ es, ∃ k, (mixKind P w).is k e.key = true ∧ e.hash = (mixKind P w).hash k) ∧ ∀ x, RelO (kvs.lookup x) (valueAt vs (Sum.inr x))
  | _, _, .nil => ⟨[], .nil, rfl, fun e h => by simp at h, fun x => True.intro⟩
  | _, _, .cons (x := x) (t := t) (u := u) (v := v) r q => by
    obtain ⟨vs, h1, h2, h3, h4⟩ := EsOk.vs P q
    refine ⟨(Sum.inr x, u) :: vs, .cons (mixKind_str P w x t) rfl h1, by rw [List.map_cons, List.map_cons, h2], fun e he => ?_, fun y => ?_⟩
    · rcases List.mem_cons.mp he with rfl | he
      · exact ⟨Sum.inr x, mixKind_str P w x t, rfl⟩
      · exact h3 e he
    · by_cases hy : y = x
      · subst hy
        unfold valueAt
        simp only [List.lookup_cons, List.find?_cons]
        simp
        exact r
      · unfold valueAt
        have h5 := h4 y
        unfold valueAt at h5
        have e1 : (y == x) = false := by simpa using hy
        have e2 : decide ((Sum.inr x : Key) = Sum.inr y) = false := decide_eq_false fun e => hy (Sum.inr.inj e).symm
        simp only [List.lookup_cons, e1, List.find?_cons, e2]
        exact h5
theorem nodup_inr : ∀ {l : List Str}, l.Nodup → (l.map (fun p => (Sum.inr p : Key))).Nodup
  | [], _ => .nil
  | x :: l, h => by
    rw [List.map_cons, List.nodup_cons]
    obtain ⟨h1, h2⟩ := List.nodup_cons.mp h
    refine ⟨fun z => ?_, nodup_inr h2⟩
    obtain ⟨y, hy, e⟩ := List.mem_map.mp z
    cases e
    exact h1 hy
theorem KD.dict (P : Program) {K : PySem.W.Frag} {w : World} {a : Addr} {kvs : List (Str × V)} {h : Heap} (d : KD K w a kvs) (hi : K.In h) : ∃ vs, h.DictOf (mixKind P w) a vs ∧ ∀ x, RelO (kvs.lookup x) (valueAt vs (Sum.inr x)) := by
  obtain ⟨es, n, lk, ok, nd⟩ := d.ok
  obtain ⟨vs, h1, h2, h3, h4⟩ := ok.vs P
  refine ⟨vs, ⟨_, es, n, hi _ _ lk, ⟨rfl, rfl, rfl⟩, rfl, fun e he => h3 e (by simpa using he), h1, ?_⟩, h4⟩
  rw [h2]
  have := nodup_inr nd
  rw [List.map_map] at this
  exact this
theorem RelO.isSome' {o : Option V} {u : Option Value} (r : RelO o u) : o.isSome = u.isSome := by
  cases o <;> cases u <;> first | rfl | exact False.elim r
theorem RelO.getD' {o : Option V} {u : Option Value} {d : V} {d' : Value} (r : RelO o u) (rd : RelV d d') : RelV (o.getD d) (u.getD d') := by
  cases o with
  | none => cases u with
    | none => exact rd
    | some _ => exact False.elim r
  | some v => cases u with
    | none => exact False.elim r
    | some _ => exact r
section
variable {X : Cx}
theorem op_in_kd : OpR X (compareOp .In) (fun x y H Q => ∃ a z kvs, x = .str z ∧ y = .ref a ∧ KD X.K X.w a kvs ∧ Q (.bl (kvs.lookup z).isSome) H) := by
  intro pins s σ H x y v u Q I rx ry h
  obtain ⟨a, z, kvs, rfl, rfl, d, q⟩ := h
  obtain ⟨t, rfl⟩ := rx
  cases ry
  obtain ⟨vs, dd, rel⟩ := d.dict X.prog I.kIn
  refine wpAny_in_of (knd := mixKind X.prog X.w) (k := Sum.inr z) (mixKind_str _ _ z t) d.sys dd.mapOf ?_
  rw [← (rel z).isSome']
  exact ⟨.bl _, H, I.tok _, rfl, q⟩
theorem ix_kd : IxR X (fun x y H Q => ∃ a z kvs r, x = .ref a ∧ y = .str z ∧ KD X.K X.w a kvs ∧ kvs.lookup z = some r ∧ Q r H) := by
  intro value slice pins s σ H x y v u Q I rx ry h hs
  obtain ⟨a, z, kvs, r, rfl, rfl, d, l, q⟩ := h
  cases rx
  obtain ⟨t, rfl⟩ := ry
  obtain ⟨vs, dd, rel⟩ := d.dict X.prog I.kIn
  have hr := rel z
  rw [l] at hr
  cases hv : valueAt vs (Sum.inr z) with
  | none => rw [hv] at hr; exact False.elim hr
  | some rv =>
    rw [hv] at hr
    exact subscriptTail_builtinR (x := rv) dd.typeIs PySem.F.slot_dict_getitem.lookup
      (wpAny_getItem_of (knd := mixKind X.prog X.w) (k := Sum.inr z) (mixKind_str _ _ z t) dd.mapOf hv ⟨rfl, ⟨r, H, I.tok _, hr, q⟩⟩) hs
def tKGet2 (K : PySem.W.Frag) (w : World) (td ty tx : TE) : TE := fun σ H Q => td σ H fun x H1 => ∃ a kvs, x = .ref a ∧ KD K w a kvs ∧ ty σ H1 fun y H2 => tx σ H2 fun z H3 => ∃ k, y = .str k ∧ Q ((kvs.lookup k).getD z) H3
theorem pe_kget2 {o e f : Expr} {apos cpos : Pos} {td ty tx : TE} (ho : PE X o td) (he : PE X e ty) (hf : PE X f tx)
    (base : attributeBase o "get" X.env (eval o X.env) = eval o X.env := by rfl)
    (few : ((backTo cpos (starEach [e, f] X.env)).all (fun x => !x.1) && (backToKw cpos (keywordEach [] X.env)).all (fun x => x.1.isSome)
      && decide (([e, f] : List Expr).length + ([] : List Keyword).length + (if ([] : List Keyword).isEmpty then 0 else 1) < 30)) = true := by rfl)
    (line : (apos.endLine == cpos.line) = true := by rfl) (trees : backTo cpos (starEach [e, f] X.env) = [(false, eval e X.env), (false, eval f X.env)] := by rfl) :
    PE X (.Call (.Attribute o "get" apos) [e, f] [] cpos) (tKGet2 X.K X.w td ty tx) := by
  intro pins s σ H Q I h
  refine wpAny_Call_method base few line PySem.F.plainAttrs_dict PySem.F.slot_dict_get PySem.F.type_dict_get (thn (ho pins s σ H _ I h) fun u s1 ⟨x, H1, I1, rx, a, kvs, ex, d, q1⟩ => ?_)
  subst ex
  obtain rfl : u = Value.ref a := rx
  obtain ⟨vs, dd, rel⟩ := d.dict X.prog I1.kIn
  refine ⟨dd.typeIs, fun b q => ?_, ?_⟩
  · cases q
    obtain ⟨ob, _, _, h1, h2, _⟩ := dd
    exact ⟨ob, h1, h2.2.1⟩
  rw [trees]
  refine Calls.callWith_builtin rfl (Calls.evalArgs_plain (Calls.spliced_cons (thn (he pins s1 σ H1 _ I1 q1) fun iv s2 ⟨y, H2, I2, ry, q2⟩ =>
    Calls.spliced_cons (thn (hf pins s2 σ H2 _ I2 q2) fun fv s3 ⟨z, H3, I3, rz, k, ek, q3⟩ => Calls.spliced_nil ?_))))
  subst ek
  obtain ⟨t, rfl⟩ := ry
  obtain ⟨vs3, dd3, rel3⟩ := d.dict X.prog I3.kIn
  exact call_meetsIn PySem.F.slot_dict_get dd3.typeIs PySem.F.entry_dict_get (PySem.F.args_dict_get_3 _ _ _) (meets_dict_get_default (mixKind X.prog X.w) a (mixKind_str _ _ k t) d.sys fv) ⟨_, dd3.mapOf, _, H3, I3.tok _, (rel3 k).getD' rz, q3⟩
end
end L2
set_option maxHeartbeats 4000000
namespace L2
open PySem PySem.Spec PyProof.Rows
def tMidE (t : TE) : TE := fun σ H Q => ∃ R : V → Hp → Prop, t σ H R ∧ ∀ v H', R v H' → Q v H'
def tMidT (t : TT) : TT := fun σ H Q => ∃ R : Bool → Hp → Prop, t σ H R ∧ ∀ v H', R v H' → Q v H'
def tMidS (t : TS) : TS := fun D σ H => ∃ R : St → Hp → Prop, t { D with nx := R } σ H ∧ ∀ σ' H', R σ' H' → D.nx σ' H'
section
variable {X : Cx}
theorem pe_mid {e : Expr} {t : TE} (h : PE X e t) : PE X e (tMidE t) := by
  intro pins s σ H Q I ⟨R, hR, hQ⟩
  exact thn (h pins s σ H R I hR) fun u s1 ⟨v, H1, I1, r, q⟩ => ⟨v, H1, I1, r, hQ v H1 q⟩
theorem pt_mid {e : Expr} {t : TT} (h : PT X e t) : PT X e (tMidT t) := by
  intro pins s σ H Q I ⟨R, hR, hQ⟩
  exact thn (h pins s σ H R I hR) fun u s1 ⟨H1, I1, q⟩ => ⟨H1, I1, hQ u H1 q⟩
theorem ps_mid {st : Stmt} {t : TS} (h : PS X st t) : PS X st (tMidS t) := by
  intro pins s σ H D I ⟨R, hR, hQ⟩
  refine thn (h pins s σ H _ I hR) fun f s1 q => ?_
  cases f with
  | next => exact let ⟨σ', H', I', q'⟩ := q; ⟨σ', H', I', hQ _ _ q'⟩
  | brk => exact q
  | cont => exact q
  | ret u => exact q
end
theorem midV {t : TE} {σ : St} {H : Hp} {Q : VK} (v : V) (h : t σ H fun x H1 => x = v ∧ H1 = H) (q : Q v H) : ∃ R : V → Hp → Prop, t σ H R ∧ ∀ v H', R v H' → Q v H' := ⟨_, h, by rintro _ _ ⟨rfl, rfl⟩; exact q⟩
theorem midB {t : TT} {σ : St} {H : Hp} {Q : Bool → Hp → Prop} (b : Bool) (h : t σ H fun x H1 => x = b ∧ H1 = H) (q : Q b H) : ∃ R : Bool → Hp → Prop, t σ H R ∧ ∀ v H', R v H' → Q v H' := ⟨_, h, by rintro _ _ ⟨rfl, rfl⟩; exact q⟩
theorem midS {t : TS} {σ : St} {H : Hp} {D : Ends} (σ' : St) (H' : Hp) (h : t { D with nx := fun σ1 H1 => σ1 = σ' ∧ H1 = H' } σ H) (q : D.nx σ' H') : ∃ R : St → Hp → Prop, t { D with nx := R } σ H ∧ ∀ σ' H', R σ' H' → D.nx σ' H' :=
  ⟨_, h, by rintro _ _ ⟨rfl, rfl⟩; exact q⟩
theorem endV {x v : V} {H : Hp} (e : x = v) : x = v ∧ H = H := ⟨e, rfl⟩
theorem endB {x v : Bool} {H : Hp} (e : x = v) : x = v ∧ H = H := ⟨e, rfl⟩
end L2
set_option maxHeartbeats 4000000
namespace L2
open PySem PySem.Spec PyProof.Rows
abbrev Cx.names (X : Cx) (N : List Str) : Cx := { X with N := N }
section
variable {X : Cx} {pins : List (Addr × Obj)} {σ : St} {H : Hp} {s : Shared}
end
end L2
set_option maxHeartbeats 4000000
namespace L2
open PySem PySem.Spec PyProof.Rows
section
variable {X : Cx} {tg iter elt : Expr} {ifs : List Expr} {scope : Scope} {pos : Pos} {cn : List Str} {wi : TI} {g : Bk → TG} {tc : Bk → TT} {te : Bk → TE}
end
end L2
set_option maxHeartbeats 4000000
namespace L2
open PySem PySem.Spec PyProof.Rows PySem.SeqAt
section
variable {X : Cx}
def rEqE (K : PySem.W.Frag) (neg : Bool) : R2 := fun x y H Q => ∃ a c xs, x = .ref a ∧ y = .ref c ∧ SqL K H a xs ∧ SqL K H c [] ∧ Q (.bl (if neg then !xs.isEmpty else xs.isEmpty)) H
theorem eqE_at {pins : List (Addr × Obj)} {σ : St} {H : Hp} {s : Shared} {a c : Addr} {xs : List V} (hu : X.A.units + 64 < cLine) (I : Inv X pins σ H s) (ha : SqL X.K H a xs) (hc : SqL X.K H c []) : RcAt X.A s (.ref a) (.ref c) xs.isEmpty ∧ RcNeAt X.A s (.ref a) (.ref c) (!xs.isEmpty) := by
  obtain ⟨its, r, p, _⟩ := I.list ha
  obtain ⟨its', r', p', _⟩ := I.list hc
  have e1 := r.length
  have e2 := r'.length
  simp at e2
  cases xs with
  | nil =>
    simp at e1
    have z1 : its = [] := by simpa using e1.symm
    have z2 : its' = [] := by simpa using e2.symm
    subst z1 z2
    constructor
    · have := RcAt.lists (A := X.A) (e := fun _ => true) p.isList p'.isList rfl (by omega) (fun j h1 _ => absurd h1 (by simp))
      simpa using this
    · have := RcNeAt.lists (A := X.A) (e := fun _ => true) p.isList p'.isList rfl (by omega) (fun j h1 _ => absurd h1 (by simp))
      simpa using this
  | cons x t =>
    have hne : (its.toArray.size != its'.toArray.size) = true := by
      simp at e1
      have z2 : its' = [] := by simpa using e2.symm
      subst z2
      have : its.length ≠ 0 := by omega
      simpa using this
    exact ⟨RcAt.lists_lengths p.isList p'.isList hne (by omega), RcNeAt.lists_lengths p.isList p'.isList hne (by omega)⟩
theorem op_eqE (hu : X.A.units + 64 < cLine) : OpR X (compareOp .Eq) (rEqE X.K false) := by
  intro pins s σ H x y v u Q I r1 r2 h
  obtain ⟨a, c, xs, rfl, rfl, ha, hc, q⟩ := h
  cases r1
  cases r2
  exact (eqE_at hu I ha hc).1 X.prog X.w X.xe _ ⟨.bl _, H, I, rfl, q⟩
end
end L2
set_option maxHeartbeats 4000000
namespace L2
open PySem PySem.Spec PyProof.Rows
structure PEw (X : Cx) (e : Expr) (t : TE) : Prop where
  out : PE X e t
structure PAw (X : Cx) (es : List Expr) (t : TA) : Prop where
  out : PA X es t
end L2
set_option maxHeartbeats 4000000
namespace L2
open PySem PySem.Spec PyProof.Rows
abbrev XSt := St → Value → Hp → Prop
section
variable {X : Cx} {pins : List (Addr × Obj)} {σ : St} {H H' : Hp} {s s' : Shared}
end
section
variable {P : Program} {w : World} {K : PySem.W.Frag} {mg : Str → Option Value} {base : Heap}
end
section
variable {X : Cx} {W : Value → Shared → Prop} {XS : XSt} {k : Nat} {f C : Addr} {fd : FuncData} {ps : List Str} {sp : Sp} {dvs : List V} {ds : List Value} {x m : Str} {p pos apos : Pos} {e o : Expr} {es : List Expr} {ta : TE} {t : TA}
end
abbrev veMro : List Value := [.type "ValueError", .type "Exception", .type "BaseException", .type "object"]
def ExC (K : PySem.W.Frag) (C : Addr) : Prop := PySem.W.excIn K C veMro "ValueError.__new__" = true
abbrev Cx.pnd (X : Cx) (pn : List (Addr × Obj)) : Cx := { X with pn := pn }
abbrev Cx.hand (X : Cx) (a : Addr) : Cx := { X with A := X.A.mark (some (.ref a)), calm := false, xe := fun _ _ => False }
section
variable {X : Cx} {pins pins' : List (Addr × Obj)} {σ : St} {H H' : Hp} {s : Shared}
end
end L2
set_option maxHeartbeats 4000000
namespace L2
open PySem PySem.Spec PyProof.Rows
structure ExA (K : PySem.W.Frag) (C : Addr) : Prop where
  exc : ExC K C
  ga : PySem.W.findIn K (.ref C) "__getattribute__" = some (some (.builtin "BaseException.__getattribute__"))
  noga : PySem.W.findIn K (.ref C) "__getattr__" = some none
  cl : PySem.W.findIn K (.ref C) "__class__" = some (some (.builtin "object.__class__"))
section
variable {prog : Program} {w : World} {A : Around} {E : Value → Shared → Prop} {h : Heap} {g : Array GenState} {d : Drawn} {t : Nat} {os : OsState} {a : Addr} {o : Obj} {vs : Array Value} {K : PySem.W.Frag}
  {nm q : Str} {C N : Addr} {bs bm : List Value} {hdct : Bool} {sn : List Str} {sub : List Value} {ab : Bool} {col : Option Bool} {dd : Option Addr} {k0 k1 k2 k3 k5 : Option Value} {newId : String}
end
section
variable {X : Cx}
end
end L2
set_option maxHeartbeats 4000000
namespace L2
open PySem PySem.Spec PyProof.Rows
section
variable {P : Program} {w : World} {K : PySem.W.Frag} {mg : Str → Option Value} {base : Heap}
end
section
variable {X : Cx} {tg iter elt : Expr} {ifs : List Expr} {scope : Scope} {pos : Pos} {cn : List Str} {wi : TI} {g : Bk → TG} {tc : Bk → TT} {te : Bk → TE} {TH : Bk → Prop}
end
end L2
set_option maxHeartbeats 4000000
namespace L2
open PySem PySem.Spec PyProof.Rows
def gSlice (to : TE) (tl th : St → Hp → (Option Int → Hp → Prop) → Prop) : TG := fun v σ H Q => to σ H fun x H1 => tl σ H1 fun l H2 => th σ H2 fun u H3 =>
  ∃ (p b : Addr) (xs ys : List V) (a c : Int), x = .ref p ∧ v = .ref b ∧ l = some a ∧ u = some c ∧ H3 p = some (.lst xs) ∧ H3 b = some (.lst ys) ∧ p ≠ b ∧ 0 ≤ a ∧ a ≤ c ∧ c ≤ xs.length ∧ xs.length + ys.length ≤ sizeLine ∧ Q σ (upd H3 p (.lst (xs.take a.toNat ++ ys ++ xs.drop c.toNat)))
theorem pg_slice {X : Cx} {o : Expr} {lo hi : Option Expr} {p2 pos : Pos} {to : TE} {tl th : St → Hp → (Option Int → Hp → Prop) → Prop} (ho : PE X o to) (hl : PO X lo tl) (hu : PO X hi th)
    (ha : ∀ v, assign (.Subscript o (.Slice lo hi none p2) pos) X.env v = (do
      let ov ← holding [v] (eval o X.env)
      let iv ← holding [v, ov] (eval (.Slice lo hi none p2) X.env)
      standAt pos
      holding [v, ov, iv] (setItem ov iv v)
      release [iv, v, ov] []) := by intro _; rfl) : PG X (.Subscript o (.Slice lo hi none p2) pos) (gSlice to tl th) := by
  intro pins s σ H v u Q I r h
  rw [ha]
  refine wpAny_bind (wpAny_holding (thn (ho pins s σ H _ I h) fun ov s1 ⟨x, H1, I1, r1, q1⟩ => ?_))
  refine wpAny_bind (wpAny_holding ?_)
  refine wpAny_Slice (thn (hl pins s1 σ H1 _ I1 q1) fun vl s2 ⟨l, H2, I2, pl, q2⟩ => thn (hu pins s2 σ H2 _ I2 q2) fun vu s3 ⟨uu, H3, I3, pu, q3⟩ => ?_)
  rw [evalPart_none]
  refine wpAny_pure ?_
  have I4 : Inv X pins σ H3 { s3 with heap := s3.heap.push { cls := .type "slice", data := .fields #[vl, vu, .none] } } := I3.kept (t' := s3.toks) fun b ob q => Heap.get?_push_of_some _ q
  obtain ⟨p, b, xs, ys, a, c, rfl, rfl, rfl, rfl, hp, hb, hne, h0, hac, hc, hz, q4⟩ := q3
  cases r1
  cases r
  refine wpAny_bind (wpAny_standAt (wpAny_bind (wpAny_holding ?_)))
  refine set_slice I4 hp hb hne (Heap.IsSliceOf.new ..) (by cases pl; exact ⟨_, rfl⟩) (by cases pu; exact ⟨_, rfl⟩) h0 hac hc hz fun s5 I5 => ?_
  exact wpAny_release ⟨σ, _, I5, q4⟩
end L2
namespace L2
open PySem PySem.Spec PyProof.Rows
section
variable {X : Cx}
theorem all_range : ∀ bs : List Bool, (List.range bs.length).all (fun i => bs.getD i false) = bs.all id
  | [] => rfl
  | b :: bs => by
    rw [List.length_cons, List.range_succ_eq_map, List.all_cons, List.all_map, List.all_cons]
    have : ((fun i => (b :: bs).getD i false) ∘ Nat.succ) = fun i => bs.getD i false := by
      funext i
      rfl
    rw [this, all_range bs]
    rfl
theorem call_all : CallR X (.builtin "all") (fun xs H Q => X.calm = true ∧ ∃ (a : Addr) (bs : List Bool), xs = [.ref a] ∧ SqL X.K H a (bs.map V.bl) ∧ Q (.bl (bs.all id)) H) := by
  intro pins s σ H xs us Q I r h
  obtain ⟨hc, a, bs, rfl, hq, q⟩ := h
  obtain ⟨u, rfl, rfl⟩ := r.one
  obtain ⟨its, rv, p, hz⟩ := I.list hq
  have hl := rv.length
  rw [List.length_map] at hl
  have bsAt : ∀ (i : Nat) (v : Value), its.toArray[i]? = some v → v = Value.bool (bs.getD i false) := by
    intro i v hv
    have hv' : its[i]? = some v := by simpa using hv
    have hi : i < its.length := (List.getElem?_eq_some_iff.mp hv').1
    have hb : i < bs.length := by omega
    obtain ⟨u, hu, ru⟩ := rv.get (i := i) (x := .bl (bs[i])) (by rw [List.getElem?_map, List.getElem?_eq_getElem hb]; rfl)
    rw [hv'] at hu; cases hu
    have : v = .bool bs[i] := ru
    rw [this, List.getD_eq_getElem?_getD, List.getElem?_eq_getElem hb]
    rfl
  refine call_all_walk (wpAny_pyIter_list p.isList ?_)
  have ane : a ≠ s.heap.objs.size := by
    obtain ⟨o, ho, _⟩ := p.isList
    exact Nat.ne_of_lt (Heap.lt_size ho)
  have hd : X.A.in1.handled = none := I.ok.hd hc
  refine ⟨s.heap.objs.size, _, _, _, _, _, fun i => bs.getD i false, rfl, Walks.list hd s.heap.objs.size a ane its.toArray, ⟨⟨_, Heap.get?_push_size _ rfl, rfl, rfl⟩, p.isList.push _⟩, ?_, ?_⟩
  · intro i v s' Q' E' hP hQ'
    rw [bsAt i v hP]
    exact wpAny_truthy_bool hQ'
  · intro h' tk kk
    have e : (List.range its.toArray.size).all (fun i => bs.getD i false) = bs.all id := by
      rw [List.size_toArray, ← hl]
      exact all_range bs
    rw [e]
    refine ⟨.bl _, H, I.kept (t' := tk) fun b o e => kk b o (fun z => ?_) (Heap.get?_push_of_some _ e), rfl, q⟩
    have : b = s.heap.objs.size := by simpa using z
    exact absurd (Heap.lt_size e) (by rw [this]; exact Nat.lt_irrefl _)
def Itd (lo : Int) (n : Nat) : It := { go := fun i _ => i < n, yld := fun i H x H' => H' = H ∧ x = V.int (lo - (i : Int)), stop := fun i _ => n ≤ i }
theorem turn_down {P : Program} {w : World} {K : PySem.W.Frag} {tg : Expr} (it : Addr) (lo : Int) (n : Nat) : Turn P w K tg (Itd lo n) [it] it (fun i h => IsRangeIter h it (lo + (i : Nat) * (-1)) ((n : Int) - (i : Nat)) (-1)) where
  mem := by simp
  obj := fun i h st b hb => by
    have e : b = it := by simpa using hb
    subst e
    exact ⟨_, st, fun v z => by
      have z' : Data.fields _ = Data.cell v := z
      cases z'⟩
  keep := fun i h h' st k => k it (by simp) _ st
  item := by
    intro X hP hw hK hc i pins s σ H E I hf st hg
    subst hP hw hK
    obtain ⟨f0, f1, f2, f3, f4, f5⟩ := hf it (by simp)
    have W := Walks.range (prog := X.prog) (w := X.w) (I.ok.hd hc) it lo (-1) n
    refine W.item i s _ _ hg st fun v h' tk hv st' kk => ?_
    obtain ⟨t, rfl⟩ := hv
    have I1 : Inv X pins σ H { s with heap := h', toks := tk } := I.turned (fun b o hb e => kk b o (by simpa using hb) e) f0 f1 f3 f4 f5
    refine ⟨_, rfl, go_of (s := { s with heap := h', toks := tk }) (n := "range_iterator") st' rfl rfl (by decide) ⟨.int (lo - i), H, I1, ⟨t, ?_⟩, ⟨rfl, rfl⟩, st', fun b hb => (hf b hb).1⟩⟩
    have : lo + (i : Int) * (-1) = lo - i := by omega
    rw [this]
  done := by
    intro X hP hw hK hc i pins s σ H E I hf st hg
    subst hP hw hK
    obtain ⟨f0, f1, f2, f3, f4, f5⟩ := hf it (by simp)
    exact wpAny_pyNext_range_end (I.ok.hd hc) st (by have : n ≤ i := hg; omega) fun h' eb => ⟨rfl, I.turned (t' := s.toks) (fun b o hb e => eb b o hb e) f0 f1 f3 f4 f5⟩
  self := fun _ _ _ _ _ st h => wpAny_pyIter_rangeiter st h
theorem rangeSize_down (a b : Int) : Builtin.Range.rangeSize a b (-1) = if b < a then a - b else 0 := by
  unfold Builtin.Range.rangeSize
  rw [if_neg (by decide)]
  by_cases h : a > b
  · rw [if_pos h, if_pos h]
    show (a - b - 1) / 1 + 1 = a - b
    omega
  · rw [if_neg h, if_neg h]
theorem small_down {a b : Int} (h1 : -(2 ^ 62) ≤ a) (h2 : a < 2 ^ 62) (h3 : -(2 ^ 62) ≤ b) (h4 : b < 2 ^ 62) : Builtin.Range.small a b (-1) = true := by
  unfold Builtin.Range.small
  rw [rangeSize_down]
  have f : ∀ x : Int, -(2 ^ 63) ≤ x → x < 2 ^ 63 → Builtin.Range.rangeFitsLong x = true := fun x p q => by
    unfold Builtin.Range.rangeFitsLong
    simp
    omega
  rw [f a (by omega) (by omega), f b (by omega) (by omega), f (-1) (by omega) (by omega), f _ (by split <;> omega) (by split <;> omega), if_neg (show ¬ ((-1 : Int) > 0) by decide), f (b + (-1 + 1)) (by omega) (by omega)]
  simp
theorem down_it {tg : Expr} {pins : List (Addr × Obj)} {σ : St} {H : Hp} {s : Shared} {R : It → Hp → Prop} {E : Value → Shared → Prop} {lo hi : Int} {t u v : Tok} {tk : Nat} (I : Inv X pins σ H s) (h1 : -(2 ^ 62) ≤ lo) (h2 : lo < 2 ^ 62) (h3 : -(2 ^ 62) ≤ hi) (h4 : hi < 2 ^ 62)
    (q : R (Itd lo (lo - hi).toNat) H) : wpAny (model X.prog X.w) X.A (pyIter (.ref s.heap.objs.size)) (PIE X pins σ tg R) E { s with heap := s.heap.push { cls := .type "range", data := .fields #[.int lo t, .int hi u, .int (-1) v] }, toks := tk } := by
  refine wpAny_pyIter_range (IsRange.new ..) (small_down h1 h2 h3 h4) ?_
  have I1 : Inv X pins σ H { s with heap := s.heap.push { cls := .type "range", data := .fields #[.int lo t, .int hi u, .int (-1) v] }, toks := tk } := I.kept fun b o e => Heap.get?_push_of_some _ e
  refine ⟨(s.heap.push { cls := .type "range", data := .fields #[.int lo t, .int hi u, .int (-1) v] }).objs.size, [(s.heap.push { cls := .type "range", data := .fields #[.int lo t, .int hi u, .int (-1) v] }).objs.size], _, _, H, rfl,
    I1.kept (t' := tk) fun b o e => Heap.get?_push_of_some _ e, turn_down _ lo (lo - hi).toNat, ?_, fun b hb => ?_, q⟩
  · have e1 : lo + ((0 : Nat) : Int) * (-1) = lo := by simp
    have e2 : (((lo - hi).toNat : Nat) : Int) - ((0 : Nat) : Int) = Builtin.Range.rangeSize lo hi (-1) := by rw [rangeSize_down]; split <;> omega
    show IsRangeIter _ _ (lo + ((0 : Nat) : Int) * (-1)) ((((lo - hi).toNat : Nat) : Int) - ((0 : Nat) : Int)) (-1)
    rw [e1, e2]
    exact Heap.get?_push_size _ rfl
  · have e : b = (s.heap.push { cls := .type "range", data := .fields #[.int lo t, .int hi u, .int (-1) v] }).objs.size := by simpa using hb
    subst e
    exact I1.fpOk (Nat.le_refl _) (I1.hok.fresh (Nat.le_refl _))
def iRng3 (ta : TA) : TI := fun σ H R => ta σ H fun vs H1 => ∃ i j : Int, vs = [.int i, .int j, .int (-1)] ∧ (-(2 ^ 62) ≤ i ∧ i < 2 ^ 62 ∧ -(2 ^ 62) ≤ j ∧ j < 2 ^ 62) ∧ R (Itd i (i - j).toNat) H1
theorem pi_range3 {tg : Expr} {a b c : Expr} {ta : TA} {p pos : Pos} (hg : Gl X "range") (hm : X.mg "range" = none) (ha : PA X [a, b, c] ta) (hs : starEach [a, b, c] X.env = [(false, eval a X.env), (false, eval b X.env), (false, eval c X.env)] := by rfl) (hs2 : starEach [b, c] X.env = [(false, eval b X.env), (false, eval c X.env)] := by rfl) :
    PI X tg (.Call (.Name "range" p) [a, b, c] [] pos) (iRng3 ta) := by
  intro pins s σ H R I h
  refine Call_ (ld_blt I hg hm boot_range (PyProof.Rows.callWith_type1 (thn (ha pos pins s σ H _ I h) fun us s1 ⟨vs, H1, I1, r1, q1⟩ => ?_) (by rw [hs, hs2]) (by rw [hs2]; rfl)))
  obtain ⟨i, j, e, ⟨q1, q2, q3, q4⟩, q⟩ := q1
  subst e
  cases r1 with
  | cons r rr =>
    cases rr with
    | cons r' rr =>
      cases rr with
      | cons r'' rr =>
        cases rr
        obtain ⟨t, rfl⟩ := r
        obtain ⟨t', rfl⟩ := r'
        obtain ⟨t'', rfl⟩ := r''
        exact call_range_3 (by decide) (down_it I1 q1 q2 q3 q4 q) (.inl rfl)
theorem for_down {lo : Int} {n : Nat} {g : TG} {tb : TS} {D : Ends} {σ : St} {H : Hp} (Pv : Nat → St → Hp → Prop) (h0 : Pv 0 σ H)
    (hs : ∀ i σ H, i < n → Pv i σ H → g (.int (lo - i)) σ H fun σ2 H2 => tb { D with nx := Pv (i + 1), ct := Pv (i + 1), bk := D.nx } σ2 H2) (hd : ∀ σ H, Pv n σ H → D.nx σ H) :
    ∃ W : Nat → Nat → St → Hp → Prop, (∃ m, W 0 m σ H) ∧ ∀ i m σ H, W i m σ H →
      ((Itd lo n).stop i H ∧ D.nx σ H) ∨ ((Itd lo n).go i H ∧ ∃ N : St → Hp → Prop, (∀ σ' H', N σ' H' → ∃ m', m' < m ∧ W (i + 1) m' σ' H') ∧ ∀ x H', (Itd lo n).yld i H x H' → g x σ H' fun σ2 H2 => tb { D with nx := N, ct := N, bk := D.nx } σ2 H2) := by
  refine ⟨fun i m σ H => m = n - i ∧ i ≤ n ∧ Pv i σ H, ⟨n, by simp, Nat.zero_le _, h0⟩, ?_⟩
  rintro i m σ H ⟨rfl, hi, p⟩
  by_cases hlt : i < n
  · refine .inr ⟨hlt, Pv (i + 1), fun σ' H' p' => ⟨n - (i + 1), by omega, rfl, hlt, p'⟩, fun x H' y => ?_⟩
    obtain ⟨e, y⟩ := y
    subst e y
    exact hs i σ _ hlt p
  · have e : i = n := by omega
    subst e
    exact .inl ⟨Nat.le_refl _, hd _ _ p⟩
def tNeverE : TE := fun _ _ _ => False
theorem pe_never {e : Expr} : PE X e tNeverE := fun _ _ _ _ _ _ h => h.elim
end
end L2
namespace L2
open PySem PySem.Spec PyProof.Rows
section
variable {κ : Type} [DecidableEq κ]
def valV (kvs : List (κ × V)) (k : κ) : Option V := (kvs.find? fun kv => decide (kv.1 = k)).map (·.2)
def putK (kvs : List (κ × V)) (k : κ) (v : V) : List (κ × V) :=
  if (kvs.any fun kv => decide (kv.1 = k)) = true then kvs.map (fun kv => if kv.1 = k then (kv.1, v) else kv) else kvs ++ [(k, v)]
theorem valV_pos {p : κ × V} {r : List (κ × V)} {k : κ} (e : p.1 = k) : valV (p :: r) k = some p.2 := by simp [valV, List.find?_cons, e]
theorem valV_neg {p : κ × V} {r : List (κ × V)} {k : κ} (e : ¬ p.1 = k) : valV (p :: r) k = valV r k := by simp [valV, List.find?_cons, e]
theorem valV_any (k : κ) : ∀ kvs : List (κ × V), (kvs.any fun kv => decide (kv.1 = k)) = (valV kvs k).isSome
  | [] => rfl
  | p :: r => by
    rw [List.any_cons]
    by_cases e : p.1 = k
    · simp only [valV_pos e, decide_eq_true e, Bool.true_or, Option.isSome_some]
    · rw [valV_neg e, decide_eq_false e, Bool.false_or]; exact valV_any k r
theorem length_putK (kvs : List (κ × V)) (k : κ) (v : V) : (putK kvs k v).length ≤ kvs.length + 1 := by
  unfold putK
  split
  · rw [List.length_map]; omega
  · rw [List.length_append, List.length_cons, List.length_nil]; omega
theorem putK_new {kvs : List (κ × V)} {k : κ} (v : V) (h : valV kvs k = none) : putK kvs k v = kvs ++ [(k, v)] := by
  unfold putK
  rw [valV_any, h]
  exact if_neg (by decide)
theorem KV.val {kvs : List (κ × V)} {vs : List (κ × Value)} (r : KV kvs vs) (k : κ) : RelO (valV kvs k) (valueAt vs k) := by
  unfold KV at r
  induction r with
  | nil => exact True.intro
  | @cons p q ps qs h t ih =>
    obtain ⟨h1, h2⟩ := h
    by_cases e : p.1 = k
    · have e' : q.1 = k := h1.symm.trans e
      have b : valueAt (q :: qs) k = some q.2 := by simp [valueAt, List.find?_cons, e']
      rw [valV_pos e, b]; exact h2
    · have e' : ¬ q.1 = k := fun z => e (h1.trans z)
      have b : valueAt (q :: qs) k = valueAt qs k := by simp [valueAt, List.find?_cons, e']
      rw [valV_neg e, b]; exact ih
theorem KV.any {kvs : List (κ × V)} {vs : List (κ × Value)} (r : KV kvs vs) (k : κ) : (kvs.any fun kv => decide (kv.1 = k)) = vs.any fun kv => decide (kv.1 = k) := by
  unfold KV at r
  induction r with
  | nil => rfl
  | cons h t ih => rw [List.any_cons, List.any_cons, ih, h.1]
theorem KV.repl {kvs : List (κ × V)} {vs : List (κ × Value)} (r : KV kvs vs) (k : κ) {y : V} {u : Value} (ry : RelV y u) :
    KV (kvs.map fun kv => if kv.1 = k then (kv.1, y) else kv) (vs.map fun kv => if kv.1 = k then (kv.1, u) else kv) := by
  unfold KV at r ⊢
  induction r with
  | nil => exact .nil
  | @cons p q ps qs h t ih =>
    rw [List.map_cons, List.map_cons]
    refine .cons ?_ ih
    obtain ⟨h1, h2⟩ := h
    by_cases e : p.1 = k
    · rw [if_pos e, if_pos (h1.symm.trans e)]; exact ⟨h1, ry⟩
    · rw [if_neg e, if_neg (fun z => e (h1.trans z))]; exact ⟨h1, h2⟩
theorem KV.put {kvs : List (κ × V)} {vs : List (κ × Value)} (r : KV kvs vs) (k : κ) {y : V} {u : Value} (ry : RelV y u) : KV (putK kvs k y) (stored vs k u) := by
  unfold putK stored
  rw [r.any k]
  by_cases e : (vs.any fun kv => decide (kv.1 = k)) = true
  · rw [if_pos e, if_pos e]; exact r.repl k ry
  · rw [if_neg e, if_neg e]; exact Paired.snoc r ⟨rfl, ry⟩
theorem KV.keys {kvs : List (κ × V)} {vs : List (κ × Value)} (r : KV kvs vs) : kvs.map (·.1) = vs.map (·.1) := by
  unfold KV at r
  induction r with
  | nil => rfl
  | cons h t ih => rw [List.map_cons, List.map_cons, ih, h.1]
theorem KV.length {kvs : List (κ × V)} {vs : List (κ × Value)} (r : KV kvs vs) : kvs.length = vs.length := Paired.length r
end
theorem kV_is {P : Program} {w : World} {k : Key} {u : Value} (r : RelV (kV k) u) : (mixKind P w).is k u = true := by
  cases k with
  | inl i => obtain ⟨t, e⟩ := (show ∃ t, u = Value.int i t from r); subst e; exact mixKind_int P w i t
  | inr x => obtain ⟨t, e⟩ := (show ∃ t, u = Value.str x t from r); subst e; exact mixKind_str P w x t
theorem items_are {P : Program} {w : World} : ∀ {ks : List Key} {us : List Value}, Vals (ks.map kV) us → ItemsAre (mixKind P w) ks us
  | [], _, r => by rw [List.map_nil] at r; cases r; exact .nil
  | k :: ks, _, r => by
    rw [List.map_cons] at r
    cases r with
    | cons h t => exact .cons (kV_is h) (items_are t)
abbrev KT (H : Hp) : List (List Key × V) → List (List Key × Addr × Value) → Prop := Paired fun p q => p.1 = q.1 ∧ H q.2.1 = some (.tup (p.1.map kV)) ∧ RelV p.2 q.2.2
theorem KT.val {H : Hp} {kvs : List (List Key × V)} {xs : List (List Key × Addr × Value)} (r : KT H kvs xs) (k : List Key) : RelO (valV kvs k) ((atKey xs k).map (·.2)) := by
  induction r with
  | nil => exact True.intro
  | @cons p q ps qs h t ih =>
    obtain ⟨h1, _, h2⟩ := h
    by_cases e : p.1 = k
    · have e' : q.1 = k := h1.symm.trans e
      have b : atKey (q :: qs) k = some q.2 := by simp [atKey, List.find?_cons, e']
      rw [valV_pos e, b]; exact h2
    · have e' : ¬ q.1 = k := fun z => e (h1.trans z)
      have b : atKey (q :: qs) k = atKey qs k := by simp [atKey, List.find?_cons, e']
      rw [valV_neg e, b]; exact ih
section
variable {P : Program} {w : World} {H : Hp} {h : Heap} {a : Addr}
theorem rd_of {u : HO} (ok : HOk P w H h) (e : Rd H a u) : ObjOk P w H h a u := e.ok ok
theorem dk_rd {kvs : List (Key × V)} (ok : HOk P w H h) (e : Rd H a (.dK kvs)) : kvs.length ≤ sizeLine ∧ (a == sysModules) = false ∧ ∃ vs, KV kvs vs ∧ h.DictOf (mixKind P w) a vs :=
  show ObjOk P w H h a (.dK kvs) from rd_of ok e
theorem dk_of {kvs : List (Key × V)} (ok : HOk P w H h) (e : H a = some (.dK kvs)) : kvs.length ≤ sizeLine ∧ (a == sysModules) = false ∧ ∃ vs, KV kvs vs ∧ h.DictOf (mixKind P w) a vs := dk_rd ok (.inl e)
theorem key_of {ks : List Key} (ok : HOk P w H h) (e : H a = some (.tup (ks.map kV))) : (tupleKind (mixKind P w)).is h ks a := by
  obtain ⟨_, its, r, o, h1, h2, n, h3⟩ := (show ObjOk P w H h a (.tup (ks.map kV)) from ok a _ e)
  exact ⟨o, its.toArray, n, h1, h2, h3, by simpa using items_are r⟩
theorem dt_rd {kvs : List (List Key × V)} (ok : HOk P w H h) (e : Rd H a (.dT kvs)) : kvs.length ≤ sizeLine ∧ (a == sysModules) = false ∧
    ∃ xs, KT H kvs xs ∧ h.DictOfH (tupleKind (mixKind P w)) a xs := by
  obtain ⟨z, y, xs, r, o, es, ep, h1, h2, h3, h4, h5⟩ := (show ObjOk P w H h a (.dT kvs) from rd_of ok e)
  refine ⟨z, y, xs, r, o, es, ep, h1, h2, h3, h4, fun x hx => ?_, h5⟩
  have all : ∀ {l : List (List Key × V)} {m : List (List Key × Addr × Value)}, KT H l m → ∀ x ∈ m, (tupleKind (mixKind P w)).is h x.1 x.2.1 := by
    intro l m q
    induction q with
    | nil => intro x hx; exact nomatch hx
    | @cons p q ps qs hq t ih =>
      intro x hx
      rcases List.mem_cons.mp hx with e | hx
      · subst e
        exact key_of ok (by rw [← hq.1]; exact hq.2.1)
      · exact ih x hx
  exact all r x hx
end
def DGet (H : Hp) (a : Addr) (y : V) (r : Option V) : Prop :=
  (∃ kvs k, Rd H a (.dK kvs) ∧ y = kV k ∧ r = valV kvs k) ∨ ∃ kvs k b, Rd H a (.dT kvs) ∧ y = .ref b ∧ H b = some (.tup (k.map kV)) ∧ r = valV kvs k
theorem DGet.k {H : Hp} {a : Addr} {kvs : List (Key × V)} {k : Key} (e : H a = some (.dK kvs)) : DGet H a (kV k) (valV kvs k) := .inl ⟨kvs, k, .inl e, rfl, rfl⟩
section
variable {X : Cx} {pins : List (Addr × Obj)} {σ : St} {H : Hp} {s : Shared} {a : Addr} {y v : V} {u r : Value} {o : Option V} {A : Around} {E : Value → Shared → Prop}
theorem Inv.big (I : Inv X pins σ H s) : sysModules < s.heap.objs.size := by
  have h : mainGlobals < s.heap.objs.size := (I.mod.glob.keeps I.bk).lt
  exact Nat.lt_trans (by decide) h
theorem d_getItem {Q : Value → Shared → Prop} (hu : A.units + 1 < cLine) (I : Inv X pins σ H s) (g : DGet H a y (some v)) (ry : RelV y u) (h : ∀ w' s', Inv X pins σ H s' → RelV v w' → Q w' s') :
    wpAny (model X.prog X.w) A (getItem (.ref a) u) Q E s := by
  rcases g with ⟨kvs, k, e, ey, l⟩ | ⟨kvs, k, b, e, ey, eb, l⟩
  · subst ey
    obtain ⟨z, hd, vs, rel, dd⟩ := dk_rd I.hok e
    obtain ⟨w', hw, rw'⟩ := RelO.some_of (v := v) (o := valueAt vs k) (by rw [l]; exact rel.val k)
    exact wpAny_getItem_of (kV_is ry) dd.mapOf hw (h w' _ (I.tok _) rw')
  · subst ey
    cases (show u = Value.ref b from ry)
    obtain ⟨z, hd, xs, rel, dd⟩ := dt_rd I.hok e
    obtain ⟨w', hw, rw'⟩ := RelO.some_of (v := v) (o := (atKey xs k).map (·.2)) (by rw [l]; exact rel.val k)
    obtain ⟨p, hp, hp2⟩ := Option.map_eq_some_iff.mp hw
    refine wpAny_getItem_heap (tupleKind_room_in1 hu) (key_of I.hok eb) dd hp ?_
    rw [hp2]
    exact h w' _ (I.tok _) rw'
theorem d_write {h' : Heap} {t' : Nat} {ob : HO} (I : Inv X pins σ H s) (mu : Mut (H a)) (hs : Heap.SameBut a s.heap h') (he : ∃ q, h'.get? a = some q) (new : ObjOk X.prog X.w (upd H a ob) h' a ob) :
    Inv X pins σ (upd H a ob) { s with heap := h', toks := t' } :=
  I.write (x := a) (e := a) mu (.inl rfl) (fun b q hb z => (hs.2 b hb).trans z) he new
theorem dk_new {P : Program} {w : World} {H' : Hp} {h' : Heap} {kvs : List (Key × V)} {vs : List (Key × Value)} (z : kvs.length ≤ sizeLine) (hd : (a == sysModules) = false) (rel : KV kvs vs) (dd : h'.DictOf (mixKind P w) a vs) :
    ObjOk P w H' h' a (.dK kvs) := ⟨z, hd, vs, rel, dd⟩
end
section
variable {X : Cx} {pins : List (Addr × Obj)} {σ : St} {H : Hp} {s : Shared} {a : Addr} {kvs : List (Key × V)} {k : Key} {u : Value} {A : Around} {E : Value → Shared → Prop}
end
def NoSl (i : Expr) : Prop := ∀ ov iv, subscripted i false ov iv = operate [ov, iv] (getItem ov iv)
theorem subD_of {prog : Program} {w : World} {A : Around} {E : Value → Shared → Prop} {s : Shared} {env : Env} {value slice : Expr} {pos : Pos} {T id : String} {Q : Value → Shared → Prop}
    (hl : typeLookup (.type T) "__getitem__" = pure (some (.builtin id))) (hs : NoSl slice)
    (h : wpAny (model prog w) A (eval value env) (fun o s₁ => wpAny (model prog w) A (eval slice env) (fun i s₂ => s₂.TypeIs o T ∧ wpAny (model prog w) A (getItem o i) Q E s₂) E s₁) E s) :
    wpAny (model prog w) A (eval (.Subscript value slice pos) env) Q E s := by
  refine Subscript_ (wpAny_mono h (fun o s₁ h₁ => wpAny_mono h₁ (fun i s₂ h₂ => ?_) fun _ _ x => x) fun _ _ x => x)
  obtain ⟨hT, h₂⟩ := h₂
  unfold subscriptTail
  refine wpAny_bind ?_
  rw [getitemInPython_of_ne hT.not_modules]
  refine wpAny_bind (wpAny_specialOf hT hl ?_)
  have fin : wpAny (model prog w) A (subscripted slice false o i) (fun r s₃ => wpAny (model prog w) A (letTemporaryGo value o r >>= fun _ => pure r) Q E s₃) E s₂ := by
    rw [hs o i]
    exact wpAny_operating (wpAny_mono h₂ (fun r s₃ h₃ => wpAny_bind (wpAny_letTemporaryGo (wpAny_pure h₃))) fun _ _ x => x)
  first
    | exact wpAny_pure (wpAny_bind fin)
    | exact wpAny_bind (wpAny_pure (wpAny_bind fin))
    | exact wpAny_bind fin
theorem dict_typeIs {X : Cx} {pins : List (Addr × Obj)} {σ : St} {H : Hp} {s : Shared} {a : Addr} {y : V} {o : Option V} (I : Inv X pins σ H s) (g : DGet H a y o) : s.TypeIs (.ref a) "dict" := by
  rcases g with ⟨kvs, k, e, _, _⟩ | ⟨kvs, k, b, e, _, _, _⟩
  · obtain ⟨_, _, vs, _, dd⟩ := dk_rd I.hok e
    exact dd.typeIs
  · obtain ⟨_, _, xs, _, dd⟩ := dt_rd I.hok e
    exact dd.typeIs
def tDGet (td ty : TE) : TE := fun σ H Q => td σ H fun x H1 => ty σ H1 fun y H2 => ∃ a v, x = .ref a ∧ DGet H2 a y (some v) ∧ Q v H2
section
variable {X : Cx} {o i e value : Expr} {pos pos' tpos : Pos} {td ty tv : TE}
theorem pe_dget (hu : X.A.units + 1 < cLine) (ho : PE X o td) (hi : PE X i ty) (hs : NoSl i) : PE X (.Subscript o i pos) (tDGet td ty) := by
  intro pins s σ H Q I h
  refine subD_of PySem.F.slot_dict_getitem.lookup hs (thn (ho pins s σ H _ I h) fun u s1 ⟨x, H1, I1, rx, q1⟩ => thn (hi pins s1 σ H1 _ I1 q1) fun iv s2 ⟨y, H2, I2, ry, a, v, ex, g, q2⟩ => ?_)
  subst ex
  obtain rfl : u = Value.ref a := rx
  exact ⟨dict_typeIs I2 g, d_getItem hu I2 g ry fun w' s3 I3 rw' => ⟨v, H2, I3, rw', q2⟩⟩
end
theorem dk_empty {P : Program} {w : World} {H : Hp} (h : Heap) (hb : sysModules < h.objs.size) : ObjOk P w H (h.push { cls := .type "dict", data := .dict #[] }) h.objs.size (.dK []) :=
  ⟨Nat.zero_le _, beq_eq_false_iff_ne.mpr (Ne.symm (Nat.ne_of_lt hb)), [], .nil, Heap.DictOf.new h⟩
section
variable {X : Cx} {pos : Pos}
end
def tPairs : List (TE × TE) → St → Hp → (List (V × V) → Hp → Prop) → Prop
  | [], _, H, Q => Q [] H
  | (tk, tv) :: r, σ, H, Q => tk σ H fun x H1 => tv σ H1 fun y H2 => tPairs r σ H2 fun ps H3 => Q ((x, y) :: ps) H3
abbrev VV : List (V × V) → List (Value × Value) → Prop := Paired fun p q => RelV p.1 q.1 ∧ RelV p.2 q.2
def PDs (X : Cx) (pos : Pos) (keys : List (Option Expr)) (values : List Expr) (trs : List (TE × TE)) : Prop :=
  ∀ (pins : List (Addr × Obj)) (s : Shared) (σ : St) (H : Hp) (Q : List (V × V) → Hp → Prop), Inv X pins σ H s → tPairs trs σ H Q →
    wpAny (model X.prog X.w) X.A (evalPairs (pairTrees keys values X.env pos)) (fun vs s' => ∃ ps H', Inv X pins σ H' s' ∧ VV ps vs ∧ Q ps H') X.xe s
theorem pds_nil {X : Cx} {pos : Pos} : PDs X pos [] [] [] := fun pins s σ H Q I h => pairTrees_nil_walk ⟨[], H, I, .nil, h⟩
theorem pds_cons {X : Cx} {pos : Pos} {k v : Expr} {ks : List (Option Expr)} {vs : List Expr} {tk tv : TE} {trs : List (TE × TE)} (hk : PE X k tk) (hv : PE X v tv) (hr : PDs X pos ks vs trs) :
    PDs X pos (some k :: ks) (v :: vs) ((tk, tv) :: trs) := fun pins s σ H Q I h =>
  pairTrees_cons_walk (thn (hk pins s σ H _ I h) fun u s1 ⟨x, H1, I1, rx, q1⟩ => thn (hv pins s1 σ H1 _ I1 q1) fun w2 s2 ⟨y, H2, I2, ry, q2⟩ =>
    thn (hr pins s2 σ H2 _ I2 q2) fun ws s3 ⟨ps, H3, I3, rel, q3⟩ => ⟨(x, y) :: ps, H3, I3, .cons ⟨rx, ry⟩ rel, q3⟩)
def mergeK (kvs more : List (Key × V)) : List (Key × V) := more.foldl (fun acc kv => putK acc kv.1 kv.2) kvs
theorem KV.merge : ∀ {more : List (Key × V)} {rs : List (Key × Value)} {kvs : List (Key × V)} {vs : List (Key × Value)}, KV more rs → KV kvs vs → KV (mergeK kvs more) (merged vs rs) := by
  intro more rs kvs vs r
  unfold KV at r
  induction r generalizing kvs vs with
  | nil => intro q; exact q
  | @cons p q ps qs h t ih =>
    intro r0
    have e : KV (putK kvs p.1 p.2) (stored vs q.1 q.2) := by
      have := r0.put p.1 h.2
      rw [← h.1]; exact this
    exact ih e
theorem length_mergeK : ∀ (more kvs : List (Key × V)), (mergeK kvs more).length ≤ kvs.length + more.length
  | [], kvs => by show kvs.length ≤ kvs.length + 0; omega
  | p :: r, kvs => by
    have h1 := length_mergeK r (putK kvs p.1 p.2)
    have h2 := length_putK kvs p.1 p.2
    show (mergeK (putK kvs p.1 p.2) r).length ≤ _
    rw [List.length_cons]; omega
theorem carries_of {P : Program} {w : World} : ∀ {kvs : List (Key × V)} {ws : List (Value × Value)}, VV (kvs.map fun kv => (kV kv.1, kv.2)) ws → ∃ rs, Carries (mixKind P w) ws rs ∧ KV kvs rs
  | [], _, r => by rw [List.map_nil] at r; cases r; exact ⟨[], True.intro, .nil⟩
  | p :: kvs, _, r => by
    rw [List.map_cons] at r
    cases r with
    | @cons a b as bs h t =>
      obtain ⟨rs, c, q⟩ := carries_of (P := P) (w := w) t
      obtain ⟨b1, b2⟩ := b
      exact ⟨(p.1, b2) :: rs, ⟨kV_is h.1, rfl, c⟩, .cons ⟨rfl, h.2⟩ q⟩
def tDisp (trs : List (TE × TE)) : TE := fun σ H Q => ∀ p, H p = none → tPairs trs σ (upd H p (.dK [])) fun ps H2 => H2 p = some (.dK []) ∧ ∃ kvs : List (Key × V), ps = kvs.map (fun kv => (kV kv.1, kv.2)) ∧ kvs.length ≤ 15 ∧ Q (.ref p) (upd H2 p (.dK (mergeK [] kvs)))
theorem pe_disp {X : Cx} {pos : Pos} {keys : List (Option Expr)} {values : List Expr} {trs : List (TE × TE)} (h : PDs X pos keys values trs) (hall : keys.all (·.isSome) = true) (hl : keys.length = values.length) (h0 : keys ≠ [])
    (h15 : keys.length ≤ 15) : PE X (.Dict keys values pos) (tDisp trs) := by
  intro pins s σ H Q I q
  have hn := I.hok.fresh (Nat.le_refl s.heap.objs.size)
  have I1 := I.laid (a := s.heap.objs.size) (o := .dK []) (h' := s.heap.push { cls := .type "dict", data := .dict #[] }) (t' := s.toks) (fun _ _ q => Heap.get?_push_of_some _ q) (Nat.le_refl _) (dk_empty s.heap I.big)
  refine wpAny_Dict_walk (knd := mixKind X.prog X.w) hall hl h0 h15 (thn (h pins _ σ _ _ I1 (q _ hn)) fun ws s2 ⟨ps, H2, I2, rel, e, kvs, ep, lk, q2⟩ => ?_)
  subst ep
  obtain ⟨rs, c, rk⟩ := carries_of (P := X.prog) (w := X.w) rel
  obtain ⟨z, hd, vs0, r0, dd⟩ := dk_of I2.hok e
  cases r0
  refine ⟨rs, c, dd, fun h' dd' hs => ⟨.ref s.heap.objs.size, _, ?_, rfl, q2⟩⟩
  have hz : (mergeK [] kvs).length ≤ sizeLine := by
    have h1 := length_mergeK kvs []
    rw [List.length_nil] at h1
    rw [sizeLine_eq]; omega
  have he : ∃ q, h'.get? s.heap.objs.size = some q := let ⟨q, _, _, hq, _⟩ := dd'; ⟨q, hq⟩
  exact d_write I2 (by rw [e]; exact True.intro) hs he (dk_new hz hd (rk.merge .nil) dd')
structure M1 (X : Cx) (o : Expr) (m : Str) (apos : Pos) (e : Expr) (cpos : Pos) : Prop where
  base : attributeBase o m X.env (eval o X.env) = eval o X.env
  few : ((backTo cpos (starEach [e] X.env)).all (fun x => !x.1) && (backToKw cpos (keywordEach [] X.env)).all (fun x => x.1.isSome)
    && decide (([e] : List Expr).length + ([] : List Keyword).length + (if ([] : List Keyword).isEmpty then 0 else 1) < 30)) = true
  line : (apos.endLine == cpos.line) = true
  trees : backTo cpos (starEach [e] X.env) = [(false, eval e X.env)]
structure M2 (X : Cx) (o : Expr) (m : Str) (apos : Pos) (e f : Expr) (cpos : Pos) : Prop where
  base : attributeBase o m X.env (eval o X.env) = eval o X.env
  few : ((backTo cpos (starEach [e, f] X.env)).all (fun x => !x.1) && (backToKw cpos (keywordEach [] X.env)).all (fun x => x.1.isSome)
    && decide (([e, f] : List Expr).length + ([] : List Keyword).length + (if ([] : List Keyword).isEmpty then 0 else 1) < 30)) = true
  line : (apos.endLine == cpos.line) = true
  trees : backTo cpos (starEach [e, f] X.env) = [(false, eval e X.env), (false, eval f X.env)]
section
variable {X : Cx} {pins : List (Addr × Obj)} {σ : St} {H : Hp} {s : Shared} {a : Addr} {y d : V} {u r : Value} {o : Option V} {A : Around} {E : Value → Shared → Prop}
end
section
variable {X : Cx} {o e f : Expr} {apos cpos : Pos} {td ty tx : TE}
end
section
variable {X : Cx} {pins : List (Addr × Obj)} {σ : St} {H : Hp} {s : Shared} {a : Addr} {kvs : List (Key × V)} {A : Around} {E : Value → Shared → Prop}
end
section
variable {X : Cx} {pins : List (Addr × Obj)} {σ : St} {H : Hp} {s : Shared} {a : Addr} {y : V} {u : Value} {A : Around} {E : Value → Shared → Prop}
end
end L2
namespace L2
open PySem PySem.Spec PyProof.Rows
section
variable {X : Cx}
end
section
variable {κ : Type} [DecidableEq κ]
end
end L2
set_option maxHeartbeats 4000000
namespace L2
open PySem PySem.Spec PyProof.Rows
theorem kV_of {P : Program} {w : World} {k : Key} {u : Value} (h : (mixKind P w).is k u = true) : RelV (kV k) u := by
  rcases keyIs_shape (show keyIs k u = true from h) with ⟨i, t, rfl, rfl⟩ | ⟨x, t, rfl, rfl⟩
  · exact ⟨t, rfl⟩
  · exact ⟨t, rfl⟩
theorem valsI : ∀ {xs : List V} {us : List Value}, xs.length = us.length → (∀ (i : Nat) (x : V) (u : Value), xs[i]? = some x → us[i]? = some u → RelV x u) → Vals xs us
  | [], [], _, _ => .nil
  | x :: xs, u :: us, hl, h => .cons (h 0 x u rfl rfl) (valsI (by simpa using hl) fun i y v e1 e2 => h (i + 1) y v (by simpa using e1) (by simpa using e2))
  | [], _ :: _, hl, _ => by simp at hl
  | _ :: _, [], hl, _ => by simp at hl
section
variable {X : Cx}
theorem call_listD : CallR X (.type "list") (fun xs H Q => X.calm = true ∧ ∃ p kvs, xs = [.ref p] ∧ Rd H p (.dK kvs) ∧ ∀ l, H l = none → Q (.ref l) (upd H l (.lst (kvs.map fun kv => kV kv.1)))) := by
  intro pins s σ H xs us Q I r h
  obtain ⟨hc, p, kvs, rfl, hp, q⟩ := h
  obtain ⟨u, rfl, rx⟩ := vals1 r
  cases rx
  obtain ⟨z, hd, vs, rel, dd⟩ := dk_rd I.hok hp
  obtain ⟨ep, da⟩ := dd.dictAt
  have hl := rel.length
  refine PySem.W.kdl_call (PySem.W.kdl_dict (knd := mixKind X.prog X.w) (kvs := vs) (ep := ep) hd) (I.ok.hd hc) da (by omega) fun h' tk acc' c' kp e it => ?_
  refine ⟨.ref s.heap.objs.size, _, I.laid (t' := tk) kp (Nat.le_refl _) (show ObjOk X.prog X.w _ h' _ (.lst (kvs.map fun kv => kV kv.1)) from ⟨by rw [List.length_map]; exact z, acc'.toList, c', ?_, by rw [Array.toArray_toList]; exact e⟩), rfl, q _ (I.hok.fresh (Nat.le_refl _))⟩
  have hk := rel.keys
  refine valsI (by have h1 : acc'.toList.length = vs.length := by rw [Array.length_toList]; exact it.1
                   rw [List.length_map, h1, hl]) fun i x u e1 e2 => ?_
  obtain ⟨k, y, e3, e4⟩ := it.2 i u (by rw [← Array.getElem?_toList]; exact e2)
  have e5 : (kvs.map (·.1))[i]? = some k := by rw [hk, List.getElem?_map, e3]; rfl
  have e6 : (kvs.map fun kv => kV kv.1)[i]? = some (kV k) := by
    rw [List.getElem?_map] at e5 ⊢
    cases e7 : kvs[i]? with
    | none => rw [e7] at e5; cases e5
    | some w => rw [e7] at e5; cases e5; rfl
  rw [e6] at e1
  cases e1
  exact kV_of e4
end
section
variable {P : Program} {w : World} {K : PySem.W.Frag} {mg : Str → Option Value} {base : Heap}
end
end L2
set_option maxHeartbeats 4000000
namespace L2
open PySem PySem.Spec PyProof.Rows
section
variable {prog : Program} {w : World} {A : Around} {E : Value → Shared → Prop} {s : Shared}
end
section
variable {X : Cx}
end
end L2
set_option maxHeartbeats 1000000
namespace Mine
open PySem L2
inductive Kd where
  | G | D | R | s | d | r | dot | three | two
  deriving DecidableEq, Repr
def Kd.str : Kd → Str
  | .G => "G" | .D => "D" | .R => "R" | .s => "s" | .d => "d" | .r => "r" | .dot => "." | .three => "3" | .two => "2"
def Kd.cp : Kd → Nat
  | .G => 71 | .D => 68 | .R => 82 | .s => 115 | .d => 100 | .r => 114 | .dot => 46 | .three => 51 | .two => 50
def Kd.great : Kd → Bool
  | .G => true | .D => true | .R => true | _ => false
def Kd.small : Kd → Bool
  | .s => true | .d => true | .r => true | _ => false
def Kd.parting : Kd → Bool
  | .dot => true | .three => true | .two => true | _ => false
def Kd.meas : Kd → Bool
  | .three => true | .two => true | _ => false
def Kd.sounds : Kd → Bool
  | .G => true | .D => true | .s => true | .d => true | _ => false
def okstr : Option Kd → Str
  | some k => k.str
  | none => ""
abbrev Sg := Kd × Int
def inS (x y : Str) : Bool := !(Builtin.Str.occurrences y x 0 y.length 1).isEmpty
theorem kd_cp (k : Kd) : k.str = ⟨#[k.cp]⟩ := by cases k <;> decide +kernel
theorem str_inj {a b : Kd} : a.str = b.str ↔ a = b := by
  constructor
  · revert a b
    have : ∀ a b : Kd, a.str = b.str → a = b := by
      intro a b
      cases a <;> cases b <;> first | (intro _; rfl) | (intro h; exact absurd h (by decide +kernel))
    exact fun {a b} => this a b
  · exact fun h => by rw [h]
theorem ostr_inj {a b : Option Kd} : okstr a = okstr b ↔ a = b := by
  constructor
  · have : ∀ a b : Option Kd, okstr a = okstr b → a = b := by
      intro a b
      cases a with
      | none => cases b with
        | none => intro _; rfl
        | some b => cases b <;> (intro h; exact absurd h (by decide +kernel))
      | some a => cases b with
        | none => cases a <;> (intro h; exact absurd h (by decide +kernel))
        | some b => intro h; exact congrArg some (str_inj.mp h)
    exact fun h => this a b h
  · exact fun h => by rw [h]
theorem decV (a b : Str) : decide (V.str a = V.str b) = decide (a = b) := by
  by_cases h : a = b
  · rw [h]; simp
  · rw [decide_eq_false h]; exact decide_eq_false fun e => h (V.str.inj e)
theorem decK (a b : Kd) : decide (V.str a.str = V.str b.str) = decide (a = b) := by
  rw [decV]; exact decide_eq_decide.mpr str_inj
theorem decO (a b : Option Kd) : decide (V.str (okstr a) = V.str (okstr b)) = decide (a = b) := by
  rw [decV]; exact decide_eq_decide.mpr ostr_inj
theorem o_G (o : Option Kd) : decide (V.str (okstr o) = V.str "G") = decide (o = some .G) := decO o (some .G)
theorem k_G (k : Kd) : decide (V.str k.str = V.str "G") = decide (k = .G) := decK k .G
theorem k_D (k : Kd) : decide (V.str k.str = V.str "D") = decide (k = .D) := decK k .D
theorem o_s (o : Option Kd) : decide (V.str (okstr o) = V.str "s") = decide (o = some .s) := decO o (some .s)
theorem k_s (k : Kd) : decide (V.str k.str = V.str "s") = decide (k = .s) := decK k .s
theorem k_dot (k : Kd) : decide (V.str k.str = V.str ".") = decide (k = .dot) := decK k .dot
theorem k_three (k : Kd) : decide (V.str k.str = V.str "3") = decide (k = .three) := decK k .three
theorem k_two (k : Kd) : decide (V.str k.str = V.str "2") = decide (k = .two) := decK k .two
def SgAt (H : Hp) (v : V) (s : Sg) : Prop := ∃ p, v = .ref p ∧ H p = some (.tup [.str s.1.str, .int s.2])
theorem SgAt.same {H H' : Hp} {v : V} {s : Sg} (e : Same H H') (h : SgAt H v s) : SgAt H' v s := by
  obtain ⟨p, rfl, q⟩ := h
  exact ⟨p, rfl, e _ _ q⟩
abbrev Sgs (H : Hp) : List V → List Sg → Prop := Paired (SgAt H)
theorem Sgs.same {H H' : Hp} (e : Same H H') : ∀ {xs : List V} {ss : List Sg}, Sgs H xs ss → Sgs H' xs ss
  | _, _, .nil => .nil
  | _, _, .cons a b => .cons (a.same e) (Sgs.same e b)
theorem pget {α β : Type} {F : α → β → Prop} : ∀ {xs : List α} {ys : List β} {i : Nat} {x : α}, Paired F xs ys → xs[i]? = some x → ∃ y, ys[i]? = some y ∧ F x y
  | _, _, _, _, .nil, e => by simp at e
  | _, _, 0, _, .cons r _, e => by simp at e; subst e; exact ⟨_, rfl, r⟩
  | _, _, i + 1, x, .cons _ t, e => by
    obtain ⟨u, h1, h2⟩ := pget (i := i) (x := x) t (by simpa using e)
    exact ⟨u, by simpa using h1, h2⟩
theorem pgetR {α β : Type} {F : α → β → Prop} : ∀ {xs : List α} {ys : List β} {i : Nat} {y : β}, Paired F xs ys → ys[i]? = some y → ∃ x, xs[i]? = some x ∧ F x y
  | _, _, _, _, .nil, e => by simp at e
  | _, _, 0, _, .cons r _, e => by simp at e; subst e; exact ⟨_, rfl, r⟩
  | _, _, i + 1, x, .cons _ t, e => by
    obtain ⟨u, h1, h2⟩ := pgetR (i := i) t (by simpa using e)
    exact ⟨u, by simpa using h1, h2⟩
theorem plen {α β : Type} {F : α → β → Prop} {xs : List α} {ys : List β} (h : Paired F xs ys) : xs.length = ys.length := Paired.length h
theorem psnoc {α β : Type} {F : α → β → Prop} : ∀ {xs : List α} {ys : List β} {x : α} {y : β}, Paired F xs ys → F x y → Paired F (xs ++ [x]) (ys ++ [y])
  | _, _, _, _, .nil, h => .cons h .nil
  | _, _, _, _, .cons a b, h => .cons a (psnoc b h)
theorem papp {α β : Type} {F : α → β → Prop} : ∀ {xs : List α} {ys : List β} {xs' : List α} {ys' : List β}, Paired F xs ys → Paired F xs' ys' → Paired F (xs ++ xs') (ys ++ ys')
  | _, _, _, _, .nil, h => h
  | _, _, _, _, .cons a b, h => .cons a (papp b h)
theorem pdrop {α β : Type} {F : α → β → Prop} : ∀ {xs : List α} {ys : List β} (n : Nat), Paired F xs ys → Paired F (xs.drop n) (ys.drop n)
  | _, _, 0, h => h
  | _, _, n + 1, .nil => .nil
  | _, _, n + 1, .cons a b => pdrop n b
theorem ptake {α β : Type} {F : α → β → Prop} : ∀ {xs : List α} {ys : List β} (n : Nat), Paired F xs ys → Paired F (xs.take n) (ys.take n)
  | _, _, 0, h => .nil
  | _, _, n + 1, .nil => .nil
  | _, _, n + 1, .cons a b => .cons a (ptake n b)
theorem pmono {α β : Type} {F G : α → β → Prop} (h : ∀ x y, F x y → G x y) : ∀ {xs : List α} {ys : List β}, Paired F xs ys → Paired G xs ys
  | _, _, .nil => .nil
  | _, _, .cons a b => .cons (h _ _ a) (pmono h b)
theorem sameOwn {H0 H : Hp} {l : Addr} {o : HO} (s : Same H0 H) (hl : H0 l = none) : Same H0 (upd H l o) := fun b u e => by
  rw [upd_ne (ne_of_none e hl)]
  exact s b u e
theorem sgUpd {H : Hp} {D : Addr} {o : HO} {zs : List V} {v : V} {s : Sg} (hD : H D = some (.lst zs)) (h : SgAt H v s) : SgAt (upd H D o) v s := by
  obtain ⟨p, e, q⟩ := h
  exact ⟨p, e, by rw [upd_ne (ne_of q hD (by intro z; cases z))]; exact q⟩
theorem sgsUpd {H : Hp} {D : Addr} {o : HO} {zs : List V} {xs : List V} {ss : List Sg} (hD : H D = some (.lst zs)) (h : Sgs H xs ss) : Sgs (upd H D o) xs ss := pmono (fun _ _ q => sgUpd hD q) h
theorem intsAt {ms : List Int} {i : Nat} {x : V} (h : (ms.map V.int)[i]? = some x) : ∃ z, ms[i]? = some z ∧ x = V.int z := by
  rw [List.getElem?_map] at h
  cases e : ms[i]? with
  | none => rw [e] at h; cases h
  | some z => rw [e] at h; exact ⟨z, rfl, (Option.some.inj h).symm⟩
section
variable {K : PySem.W.Frag} {H : Hp} {p : Addr} {Q : VK}
theorem ix0 {a b : V} (h : H p = some (.tup [a, b])) (q : Q a H) : rIxL K (.ref p) (.int 0) H Q ∨ rIxT K (.ref p) (.int 0) H Q ∨ rIxS (.ref p) (.int 0) H Q := .inr (.inl ⟨p, _, 0, a, rfl, rfl, SqT.of h, rfl, q⟩)
theorem ix1 {a b : V} (h : H p = some (.tup [a, b])) (q : Q b H) : rIxL K (.ref p) (.int 1) H Q ∨ rIxT K (.ref p) (.int 1) H Q ∨ rIxS (.ref p) (.int 1) H Q := .inr (.inl ⟨p, _, 1, b, rfl, rfl, SqT.of h, rfl, q⟩)
theorem ixL {xs : List V} {i : Int} {n : Nat} {v : V} (h : SqL K H p xs) (hn : i = n) (e : xs[n]? = some v) (q : Q v H) : rIxL K (.ref p) (.int i) H Q ∨ rIxT K (.ref p) (.int i) H Q ∨ rIxS (.ref p) (.int i) H Q := .inl ⟨p, xs, i, v, rfl, rfl, h, by rw [hn]; exact atI_nat e, q⟩
theorem ixSg {xs : List V} {ss : List Sg} {i : Int} {n : Nat} {s : Sg} (h : SqL K H p xs) (g : Sgs H xs ss) (hn : i = n) (e : ss[n]? = some s) (q : ∀ b, H b = some (.tup [.str s.1.str, .int s.2]) → Q (.ref b) H) :
    rIxL K (.ref p) (.int i) H Q ∨ rIxT K (.ref p) (.int i) H Q ∨ rIxS (.ref p) (.int i) H Q := by
  obtain ⟨x, hx, b, rfl, hb⟩ := pgetR g e
  exact ixL h hn hx (q b hb)
theorem ixN' {ns : List Int} {i : Int} {n : Nat} {z : Int} (h : SqL K H p (ns.map V.int)) (hn : i = n) (e : ns[n]? = some z) (q : Q (.int z) H) : rIxL K (.ref p) (.int i) H Q ∨ rIxT K (.ref p) (.int i) H Q ∨ rIxS (.ref p) (.int i) H Q :=
  ixL h hn (by rw [List.getElem?_map, e]; rfl) q
end
end Mine
set_option maxHeartbeats 1000000
namespace Mine
open PySem L2
def nm (m : Int) : Kd → Int
  | .three => 3
  | .two => 2
  | _ => m
def Ms (m : Int) : Prop := m = 3 ∨ m = 2
theorem Ms.nm {m : Int} (h : Ms m) (k : Kd) : Ms (nm m k) := by
  cases k <;> first | exact h | exact .inl rfl | exact .inr rfl
def measL (m : Int) : List Kd → List Int
  | [] => []
  | k :: t => nm m k :: measL (nm m k) t
theorem measL_len (m : Int) (ks : List Kd) : (measL m ks).length = ks.length := by
  induction ks generalizing m with
  | nil => rfl
  | cons k t ih => simp [measL, ih]
def pw : Kd → Int → Int
  | .G, m => if m = 2 then 2 else 3
  | .R, m => if m = 2 then 2 else 3
  | .D, _ => 2
  | .s, _ => 1
  | .d, _ => 1
  | .r, _ => 1
  | _, _ => 0
def bw (m : Int) (k : Kd) (n : Option Kd) : Int := if m = 2 ∧ k = .G ∧ n = some .dot then 3 else pw k m
def baseL (m : Int) : List Kd → List Int
  | [] => []
  | k :: t => bw (nm m k) k t.head? :: baseL (nm m k) t
def baseOn : List Kd → List Int → List Int
  | k :: t, m :: ms => bw m k t.head? :: baseOn t ms
  | _, _ => []
theorem baseOn_meas (m : Int) (ks : List Kd) : baseOn ks (measL m ks) = baseL m ks := by
  induction ks generalizing m with
  | nil => rfl
  | cons k t ih => simp [measL, baseOn, baseL, ih]
theorem baseL_len (m : Int) (ks : List Kd) : (baseL m ks).length = ks.length := by
  induction ks generalizing m with
  | nil => rfl
  | cons k t ih => simp [baseL, ih]
def inR (m : Int) (k : Kd) : Bool := decide (m ≠ 2) && k.small
def insL (m : Int) : List Kd → List Bool
  | [] => []
  | k :: t => inR (nm m k) k :: insL (nm m k) t
theorem insL_len (m : Int) (ks : List Kd) : (insL m ks).length = ks.length := by
  induction ks generalizing m with
  | nil => rfl
  | cons k t ih => simp [insL, ih]
def insOn : List Kd → List Int → List Bool
  | k :: t, m :: ms => inR m k :: insOn t ms
  | _, _ => []
theorem insOn_meas (m : Int) (ks : List Kd) : insOn ks (measL m ks) = insL m ks := by
  induction ks generalizing m with
  | nil => rfl
  | cons k t ih => simp [measL, insOn, insL, ih]
def runsF (at' first : Nat) : List Bool → List (Nat × Nat)
  | [] => if first < at' then [(first, at')] else []
  | true :: t => runsF (at' + 1) first t
  | false :: t => (if first < at' then [(first, at')] else []) ++ runsF (at' + 1) (at' + 1) t
def runsL (m : Int) (ks : List Kd) : List (Nat × Nat) := runsF 0 0 (insL m ks)
def kAt (ks : List Kd) (i : Int) : Option Kd := if 0 ≤ i then ks[i.toNat]? else none
theorem kAt_nat (ks : List Kd) (n : Nat) : kAt ks (n : Int) = ks[n]? := by
  unfold kAt
  rw [if_pos (by omega)]
  rfl
def greatO : Option Kd → Bool
  | some k => k.great
  | none => false
def leftN (ks : List Kd) (f : List Int) (a : Nat) : Bool := decide (kAt ks ((a : Int) - 1) = some .G) && decide (f.getD (a - 1) 0 = 3)
def rightN (ks : List Kd) (z : Nat) : Bool := decide (ks[z]? = some .G) && !greatO ks[z + 1]?
def settle1 (ks : List Kd) (f : List Int) (a z : Nat) : Bool × List Int := if leftN ks f a then (true, f.set (a - 1) 2) else if rightN ks z then (true, f.set z 2) else (false, f)
def settle2 (ks : List Kd) (f : List Int) (a z : Nat) : Bool × List Int := if greatO ks[z]? && decide (ks[z - 1]? = some .s) then (true, f.set (z - 1) 2) else if leftN ks f a && rightN ks z then (true, (f.set (a - 1) 2).set z 2) else (false, f)
def settle (ks : List Kd) (f : List Int) (a z : Nat) : Bool × List Int := if (z - a) % 3 = 1 then settle1 ks f a z else if (z - a) % 3 = 2 then settle2 ks f a z else (true, f)
theorem settle_len (ks : List Kd) (f : List Int) (a z : Nat) : (settle ks f a z).2.length = f.length := by
  unfold settle settle1 settle2
  repeat' split
  all_goals simp
abbrev RdS := List Int × List (Nat × Nat)
def rdStep (ks : List Kd) (c : RdS) (p : Nat × Nat) : RdS := ((settle ks c.1 p.1 p.2).2, if (settle ks c.1 p.1 p.2).1 then c.2 else c.2 ++ [p])
def readL (m : Int) (ks : List Kd) : RdS := (runsL m ks).foldl (rdStep ks) (baseL m ks, [])
theorem fold_len (ks : List Kd) (rs : List (Nat × Nat)) (c : RdS) : (rs.foldl (rdStep ks) c).1.length = c.1.length := by
  induction rs generalizing c with
  | nil => rfl
  | cons p t ih => rw [List.foldl_cons, ih]; exact settle_len ..
theorem readL_len (m : Int) (ks : List Kd) : (readL m ks).1.length = ks.length := by
  unfold readL
  rw [fold_len, baseL_len]
theorem runsF_in : ∀ (bs : List Bool) (at' first : Nat), first ≤ at' → ∀ p ∈ runsF at' first bs, first ≤ p.1 ∧ p.1 < p.2 ∧ p.2 ≤ at' + bs.length
  | [], at', first, h, p, hp => by
    unfold runsF at hp
    split at hp
    · have : p = (first, at') := by simpa using hp
      subst this
      exact ⟨Nat.le_refl _, by assumption, by simp⟩
    · cases hp
  | true :: t, at', first, h, p, hp => by
    have := runsF_in t (at' + 1) first (by omega) p hp
    simp only [List.length_cons]
    omega
  | false :: t, at', first, h, p, hp => by
    unfold runsF at hp
    simp only [List.length_cons]
    rcases List.mem_append.mp hp with hp | hp
    · split at hp
      · have : p = (first, at') := by simpa using hp
        subst this
        exact ⟨Nat.le_refl _, by assumption, by simp⟩
      · cases hp
    · have := runsF_in t (at' + 1) (at' + 1) (Nat.le_refl _) p hp
      omega
theorem runsL_in (m : Int) (ks : List Kd) : ∀ p ∈ runsL m ks, p.1 < p.2 ∧ p.2 ≤ ks.length := by
  intro p hp
  have := runsF_in (insL m ks) 0 0 (Nat.le_refl _) p hp
  rw [insL_len] at this
  omega
theorem runsF_count : ∀ (bs : List Bool) (at' first : Nat), (runsF at' first bs).length ≤ bs.length + 1
  | [], at', first => by unfold runsF; split <;> simp
  | true :: t, at', first => by
    unfold runsF
    have := runsF_count t (at' + 1) first
    simp only [List.length_cons]; omega
  | false :: t, at', first => by
    unfold runsF
    have := runsF_count t (at' + 1) (at' + 1)
    simp only [List.length_cons, List.length_append]
    split <;> simp <;> omega
def PrAt (H : Hp) (v : V) (q : Nat × Nat) : Prop := ∃ p, v = .ref p ∧ H p = some (.tup [.int (q.1 : Int), .int (q.2 : Int)])
abbrev Prs (H : Hp) : List V → List (Nat × Nat) → Prop := Paired (PrAt H)
theorem PrAt.same {H H' : Hp} {v : V} {q : Nat × Nat} (e : Same H H') (h : PrAt H v q) : PrAt H' v q := by
  obtain ⟨p, rfl, z⟩ := h
  exact ⟨p, rfl, e _ _ z⟩
theorem prsSame {H H' : Hp} (e : Same H H') {xs : List V} {qs : List (Nat × Nat)} (h : Prs H xs qs) : Prs H' xs qs := pmono (fun _ _ z => z.same e) h
theorem prUpd {H : Hp} {D : Addr} {o : HO} {zs : List V} {v : V} {q : Nat × Nat} (hD : H D = some (.lst zs)) (h : PrAt H v q) : PrAt (upd H D o) v q := by
  obtain ⟨p, e, z⟩ := h
  exact ⟨p, e, by rw [upd_ne (ne_of z hD (by intro z; cases z))]; exact z⟩
theorem prsUpd {H : Hp} {D : Addr} {o : HO} {zs : List V} {xs : List V} {qs : List (Nat × Nat)} (hD : H D = some (.lst zs)) (h : Prs H xs qs) : Prs (upd H D o) xs qs := pmono (fun _ _ q => prUpd hD q) h
theorem upd_self {H : Hp} {a : Addr} {o : HO} (h : H a = some o) : upd H a o = H := by
  funext b
  unfold upd
  split
  · rename_i e; rw [e, h]
  · rfl
theorem leftN_pos {ks : List Kd} {f : List Int} {a : Nat} (h : leftN ks f a = true) : 1 ≤ a ∧ a - 1 < ks.length := by
  unfold leftN at h
  have h1 := of_decide_eq_true (Bool.and_eq_true_iff.mp h).1
  unfold kAt at h1
  split at h1
  · have := (List.getElem?_eq_some_iff.mp h1).1
    omega
  · cases h1
theorem rightN_pos {ks : List Kd} {z : Nat} (h : rightN ks z = true) : z < ks.length := by
  unfold rightN at h
  have h1 := of_decide_eq_true (Bool.and_eq_true_iff.mp h).1
  exact (List.getElem?_eq_some_iff.mp h1).1
theorem ixN_nat {n : Nat} {i : Int} {j : Nat} (e : i = j) (h : j < n) : ixN n i = some j := by
  unfold ixN
  subst e
  rw [if_pos (by omega), if_pos (by omega)]
  rfl
theorem drop_at {α : Type} {l : List α} {i : Nat} {x : α} (h : l[i]? = some x) : l.drop i = x :: l.drop (i + 1) := by
  obtain ⟨hi, e⟩ := List.getElem?_eq_some_iff.mp h
  rw [List.drop_eq_getElem_cons hi, e]
theorem map_at {α β : Type} {l : List α} {f : α → β} {i : Nat} {x : α} (h : l[i]? = some x) : (l.map f)[i]? = some (f x) := by rw [List.getElem?_map, h]; rfl
abbrev kds (ss : List Sg) : List Kd := ss.map Prod.fst
theorem set_map {fs : List Int} {j : Nat} {v : Int} : (fs.map V.int).set j (V.int v) = (fs.set j v).map V.int := by rw [List.map_set]
theorem big {n : Nat} (h : n ≤ 1000) : n ≤ sizeLine := Nat.le_of_lt (small1000 h)
theorem head_drop {α : Type} (l : List α) (i : Nat) : (l.drop i).head? = l[i]? := by
  rw [List.head?_drop]
def threeL (m : Int) : List Kd → List Bool
  | [] => []
  | k :: t => decide (nm m k = 3) :: threeL (nm m k) t
theorem threeL_len (m : Int) (ks : List Kd) : (threeL m ks).length = ks.length := by
  induction ks generalizing m with
  | nil => rfl
  | cons k t ih => simp [threeL, ih]
def lead : List Bool → Nat
  | true :: t => lead t + 1
  | _ => 0
theorem lead_le : ∀ bs : List Bool, lead bs ≤ bs.length
  | [] => Nat.le_refl _
  | true :: t => by simp only [lead, List.length_cons]; have := lead_le t; omega
  | false :: t => Nat.zero_le _
theorem runsF_lead : ∀ (bs : List Bool) (at' first : Nat), first < at' + lead bs ∨ lead bs = 0 → first ≤ at' → runsF at' first bs = (if first < at' + lead bs then [(first, at' + lead bs)] else []) ++ runsF (at' + lead bs) (at' + lead bs) (bs.drop (lead bs))
  | [], at', first, _, h => by
    show (if first < at' then [(first, at')] else []) = (if first < at' then [(first, at')] else []) ++ runsF at' at' []
    rw [show runsF at' at' [] = [] by unfold runsF; rw [if_neg (Nat.lt_irrefl _)], List.append_nil]
  | true :: t, at', first, h0, h => by
    have ih := runsF_lead t (at' + 1) first (.inl (by omega)) (by omega)
    have e : at' + 1 + lead t = at' + (lead t + 1) := by omega
    rw [e] at ih
    simp only [runsF, lead, List.drop_succ_cons]
    exact ih
  | false :: t, at', first, _, h => by
    show (if first < at' then [(first, at')] else []) ++ runsF (at' + 1) (at' + 1) t = (if first < at' then [(first, at')] else []) ++ ((if at' < at' then [(at', at')] else []) ++ runsF (at' + 1) (at' + 1) t)
    rw [if_neg (Nat.lt_irrefl at'), List.nil_append]
theorem threeIn {m : Int} (h : Ms m) : ∀ (ks : List Kd) (i : Nat) (k : Kd), ks[i]? = some k → ∃ b, (threeL m ks)[i]? = some b ∧ (insL m ks)[i]? = some (k.small && b)
  | [], i, k, e => by simp at e
  | c :: t, 0, k, e => by
    have : c = k := by simpa using e
    subst this
    refine ⟨decide (nm m c = 3), rfl, ?_⟩
    simp only [insL, List.getElem?_cons_zero, inR]
    have hm := h.nm c
    rcases hm with e | e <;> rw [e] <;> cases c <;> rfl
  | c :: t, i + 1, k, e => by
    obtain ⟨b, h1, h2⟩ := threeIn (h.nm c) t i k (by simpa using e)
    exact ⟨b, by simpa [threeL] using h1, by simpa [insL] using h2⟩
theorem lead_at : ∀ (bs : List Bool) (j : Nat), j ≤ lead bs → (j < lead bs ↔ bs[j]? = some true)
  | [], j, h => by simp [lead]
  | true :: t, 0, h => by simp [lead]
  | true :: t, j + 1, h => by
    have := lead_at t j (by simp only [lead] at h; omega)
    simp only [lead, List.getElem?_cons_succ]
    rw [← this]
    omega
  | false :: t, j, h => by
    have : j = 0 := by simp only [lead] at h; omega
    subst this
    simp [lead]
theorem ins_at {m : Int} {ks : List Kd} {low j : Nat} : ((insL m ks).drop low)[j]? = (insL m ks)[low + j]? := by rw [List.getElem?_drop]
end Mine
set_option maxHeartbeats 1000000
namespace Mine
open PySem L2
theorem cutTo (xs : List V) (n : Nat) : cutV xs none (some (n : Int)) = xs.take n := by
  unfold cutV
  have e : HT.sIx xs.length xs.length (some (n : Int)) = min n xs.length := HT.sIx_nat xs.length xs.length n
  rw [HT.sIx_none, e, Nat.sub_zero, List.drop_zero]
  rcases Nat.le_total n xs.length with h | h
  · rw [Nat.min_eq_left h]
  · rw [Nat.min_eq_right h, List.take_length, List.take_of_length_le h]
theorem cutFrom (xs : List V) (n : Nat) (h : n ≤ xs.length) : cutV xs (some (n : Int)) none = xs.drop n := by
  unfold cutV
  have e : HT.sIx xs.length 0 (some (n : Int)) = min n xs.length := HT.sIx_nat xs.length 0 n
  rw [HT.sIx_none, e, Nat.min_eq_left h]
  exact List.take_of_length_le (by rw [List.length_drop]; omega)
theorem sgDeq {K : PySem.W.Frag} {H : Hp} {p p2 : Addr} {s : Sg} (n : Nat) (h1 : H p = some (.tup [.str s.1.str, .int s.2])) (h2 : H p2 = some (.tup [.str s.1.str, .int s.2])) : Deq K H (n + 1) (.ref p) (.ref p2) := by
  refine .tup (SqT.of h1) (SqT.of h2) rfl fun i x y e1 e2 => ?_
  have e : x = y := Option.some.inj (e1.symm.trans e2)
  subst e
  match i, e1 with
  | 0, e1 => cases e1; exact .flat rfl
  | 1, e1 => cases e1; exact .flat rfl
  | n + 2, e1 => simp at e1
def PrI (H : Hp) (v : V) (q : Int × Int) : Prop := ∃ p, v = .ref p ∧ H p = some (.tup [.int q.1, .int q.2])
abbrev PrsI (H : Hp) : List V → List (Int × Int) → Prop := Paired (PrI H)
structure LineAt (H0 H : Hp) (l : Addr) (xs : List V) (ss : List Sg) : Prop where
  same : Same H0 H
  new : H0 l = none
  at' : H l = some (.lst xs)
  sg : Sgs H xs ss
def sp_law (K : PySem.W.Frag) : Sp := fun vs H Q _ => ∃ (a : Addr) (ns : List Int), vs = [.ref a] ∧ SqL K H a (ns.map V.int) ∧ ns.length ≤ 63 ∧ ∀ H', Q (.bl true) H'
theorem law_start {K : PySem.W.Frag} {H : Hp} {a : Addr} {ns : List Int} (hl : ns.length ≤ 63) (_ : Only H) (hS : SqL K H a (ns.map V.int)) : sp_law K [.ref a] H (fun v _ => v = .bl true) fun _ _ _ => False :=
  ⟨a, ns, rfl, hS, hl, fun _ => rfl⟩
end Mine
set_option maxHeartbeats 1000000
namespace Mine
open PySem L2
theorem lk_hit {k : Str} {v : V} {r : List (Str × V)} : ((k, v) :: r).lookup k = some v := by simp [List.lookup]
theorem lk_miss {k g : Str} {v : V} {r : List (Str × V)} (h : ¬ g = k) : ((k, v) :: r).lookup g = r.lookup g := by
  have : (g == k) = false := beq_eq_false_iff_ne.mpr h
  simp [List.lookup, this]
theorem pf_miss {k g : Str} {x y : V} {r : List (Str × V)} (h : ¬ g = k) : putF k y ((g, x) :: r) = (g, x) :: putF k y r := if_neg h
def voF (n : Str) (tm : V) (L : Addr) : List (Str × V) := [("name", V.str n), ("terms", tm), ("signs", V.ref L)]
theorem voF_name (n : Str) (tm : V) (L : Addr) : (voF n tm L).lookup ("name" : Str) = some (V.str n) := lk_hit
theorem voF_terms (n : Str) (tm : V) (L : Addr) : (voF n tm L).lookup ("terms" : Str) = some (tm) := (lk_miss (by decide +kernel)).trans (lk_hit)
theorem voF_signs (n : Str) (tm : V) (L : Addr) : (voF n tm L).lookup ("signs" : Str) = some (V.ref L) := (lk_miss (by decide +kernel)).trans ((lk_miss (by decide +kernel)).trans (lk_hit))
theorem voF_mk0 (v0 : V) : putF "name" v0 ([] : List (Str × V)) = ([("name", v0)] : List (Str × V)) := rfl
theorem voF_mk1 (v0 v1 : V) : putF "terms" v1 ([("name", v0)] : List (Str × V)) = ([("name", v0), ("terms", v1)] : List (Str × V)) := (pf_miss (by decide +kernel)).trans (congrArg _ (rfl))
theorem voF_mk2 (v0 v1 v2 : V) : putF "signs" v2 ([("name", v0), ("terms", v1)] : List (Str × V)) = ([("name", v0), ("terms", v1), ("signs", v2)] : List (Str × V)) := (pf_miss (by decide +kernel)).trans (congrArg _ ((pf_miss (by decide +kernel)).trans (congrArg _ (rfl))))
def deF (T : Addr) (at_ : Int) (B A : Addr) : List (Str × V) := [("things", V.ref T), ("at", V.int at_), ("before", V.ref B), ("after", V.ref A)]
theorem deF_things (T : Addr) (at_ : Int) (B A : Addr) : (deF T at_ B A).lookup ("things" : Str) = some (V.ref T) := lk_hit
theorem deF_at (T : Addr) (at_ : Int) (B A : Addr) : (deF T at_ B A).lookup ("at" : Str) = some (V.int at_) := (lk_miss (by decide +kernel)).trans (lk_hit)
theorem deF_before (T : Addr) (at_ : Int) (B A : Addr) : (deF T at_ B A).lookup ("before" : Str) = some (V.ref B) := (lk_miss (by decide +kernel)).trans ((lk_miss (by decide +kernel)).trans (lk_hit))
theorem deF_after (T : Addr) (at_ : Int) (B A : Addr) : (deF T at_ B A).lookup ("after" : Str) = some (V.ref A) := (lk_miss (by decide +kernel)).trans ((lk_miss (by decide +kernel)).trans ((lk_miss (by decide +kernel)).trans (lk_hit)))
theorem deF_no_do (T : Addr) (at_ : Int) (B A : Addr) : (deF T at_ B A).lookup ("do" : Str) = none := (lk_miss (by decide +kernel)).trans ((lk_miss (by decide +kernel)).trans ((lk_miss (by decide +kernel)).trans ((lk_miss (by decide +kernel)).trans (rfl))))
theorem deF_no_undo (T : Addr) (at_ : Int) (B A : Addr) : (deF T at_ B A).lookup ("undo" : Str) = none := (lk_miss (by decide +kernel)).trans ((lk_miss (by decide +kernel)).trans ((lk_miss (by decide +kernel)).trans ((lk_miss (by decide +kernel)).trans (rfl))))
theorem deF_mk0 (v0 : V) : putF "things" v0 ([] : List (Str × V)) = ([("things", v0)] : List (Str × V)) := rfl
theorem deF_mk1 (v0 v1 : V) : putF "at" v1 ([("things", v0)] : List (Str × V)) = ([("things", v0), ("at", v1)] : List (Str × V)) := (pf_miss (by decide +kernel)).trans (congrArg _ (rfl))
theorem deF_mk2 (v0 v1 v2 : V) : putF "before" v2 ([("things", v0), ("at", v1)] : List (Str × V)) = ([("things", v0), ("at", v1), ("before", v2)] : List (Str × V)) := (pf_miss (by decide +kernel)).trans (congrArg _ ((pf_miss (by decide +kernel)).trans (congrArg _ (rfl))))
theorem deF_mk3 (v0 v1 v2 v3 : V) : putF "after" v3 ([("things", v0), ("at", v1), ("before", v2)] : List (Str × V)) = ([("things", v0), ("at", v1), ("before", v2), ("after", v3)] : List (Str × V)) := (pf_miss (by decide +kernel)).trans (congrArg _ ((pf_miss (by decide +kernel)).trans (congrArg _ ((pf_miss (by decide +kernel)).trans (congrArg _ (rfl))))))
def boF (V_ D U : Addr) : List (Str × V) := [("voices", V.ref V_), ("done", V.ref D), ("undone", V.ref U)]
theorem boF_voices (V_ D U : Addr) : (boF V_ D U).lookup ("voices" : Str) = some (V.ref V_) := lk_hit
theorem boF_done (V_ D U : Addr) : (boF V_ D U).lookup ("done" : Str) = some (V.ref D) := (lk_miss (by decide +kernel)).trans (lk_hit)
theorem boF_undone (V_ D U : Addr) : (boF V_ D U).lookup ("undone" : Str) = some (V.ref U) := (lk_miss (by decide +kernel)).trans ((lk_miss (by decide +kernel)).trans (lk_hit))
theorem boF_no_add_voice (V_ D U : Addr) : (boF V_ D U).lookup ("add_voice" : Str) = none := (lk_miss (by decide +kernel)).trans ((lk_miss (by decide +kernel)).trans ((lk_miss (by decide +kernel)).trans (rfl)))
theorem boF_no_add_canon (V_ D U : Addr) : (boF V_ D U).lookup ("add_canon" : Str) = none := (lk_miss (by decide +kernel)).trans ((lk_miss (by decide +kernel)).trans ((lk_miss (by decide +kernel)).trans (rfl)))
theorem boF_no_put (V_ D U : Addr) : (boF V_ D U).lookup ("put" : Str) = none := (lk_miss (by decide +kernel)).trans ((lk_miss (by decide +kernel)).trans ((lk_miss (by decide +kernel)).trans (rfl)))
theorem boF_no_undo (V_ D U : Addr) : (boF V_ D U).lookup ("undo" : Str) = none := (lk_miss (by decide +kernel)).trans ((lk_miss (by decide +kernel)).trans ((lk_miss (by decide +kernel)).trans (rfl)))
theorem boF_no_names (V_ D U : Addr) : (boF V_ D U).lookup ("names" : Str) = none := (lk_miss (by decide +kernel)).trans ((lk_miss (by decide +kernel)).trans ((lk_miss (by decide +kernel)).trans (rfl)))
theorem boF_no_line (V_ D U : Addr) : (boF V_ D U).lookup ("line" : Str) = none := (lk_miss (by decide +kernel)).trans ((lk_miss (by decide +kernel)).trans ((lk_miss (by decide +kernel)).trans (rfl)))
theorem boF_no_kept (V_ D U : Addr) : (boF V_ D U).lookup ("kept" : Str) = none := (lk_miss (by decide +kernel)).trans ((lk_miss (by decide +kernel)).trans ((lk_miss (by decide +kernel)).trans (rfl)))
theorem boF_no_canon (V_ D U : Addr) : (boF V_ D U).lookup ("canon" : Str) = none := (lk_miss (by decide +kernel)).trans ((lk_miss (by decide +kernel)).trans ((lk_miss (by decide +kernel)).trans (rfl)))
theorem boF_no_perform (V_ D U : Addr) : (boF V_ D U).lookup ("perform" : Str) = none := (lk_miss (by decide +kernel)).trans ((lk_miss (by decide +kernel)).trans ((lk_miss (by decide +kernel)).trans (rfl)))
theorem boF_no_put_in (V_ D U : Addr) : (boF V_ D U).lookup ("put_in" : Str) = none := (lk_miss (by decide +kernel)).trans ((lk_miss (by decide +kernel)).trans ((lk_miss (by decide +kernel)).trans (rfl)))
theorem boF_no_refuse_new (V_ D U : Addr) : (boF V_ D U).lookup ("refuse_new" : Str) = none := (lk_miss (by decide +kernel)).trans ((lk_miss (by decide +kernel)).trans ((lk_miss (by decide +kernel)).trans (rfl)))
theorem boF_no_voice_called (V_ D U : Addr) : (boF V_ D U).lookup ("voice_called" : Str) = none := (lk_miss (by decide +kernel)).trans ((lk_miss (by decide +kernel)).trans ((lk_miss (by decide +kernel)).trans (rfl)))
theorem boF_no_plain_voice (V_ D U : Addr) : (boF V_ D U).lookup ("plain_voice" : Str) = none := (lk_miss (by decide +kernel)).trans ((lk_miss (by decide +kernel)).trans ((lk_miss (by decide +kernel)).trans (rfl)))
theorem boF_mk0 (v0 : V) : putF "voices" v0 ([] : List (Str × V)) = ([("voices", v0)] : List (Str × V)) := rfl
theorem boF_mk1 (v0 v1 : V) : putF "done" v1 ([("voices", v0)] : List (Str × V)) = ([("voices", v0), ("done", v1)] : List (Str × V)) := (pf_miss (by decide +kernel)).trans (congrArg _ (rfl))
theorem boF_mk2 (v0 v1 v2 : V) : putF "undone" v2 ([("voices", v0), ("done", v1)] : List (Str × V)) = ([("voices", v0), ("done", v1), ("undone", v2)] : List (Str × V)) := (pf_miss (by decide +kernel)).trans (congrArg _ ((pf_miss (by decide +kernel)).trans (congrArg _ (rfl))))
end Mine
set_option maxHeartbeats 1000000
namespace Mine
open PySem L2
structure Vx where
  o : Addr
  d : Addr
  n : Str
  tm : V
  l : Addr
def VxAt (C : Addr) (H : Hp) (v : V) (a : Vx) : Prop := v = .ref a.o ∧ H a.o = some (.ins C a.d (voF a.n a.tm a.l))
structure Dd where
  o : Addr
  d : Addr
  T : Addr
  i : Nat
  B : Addr
  A : Addr
  bs : List V
  as : List V
def DdAt (C : Addr) (H : Hp) (v : V) (e : Dd) : Prop := v = .ref e.o ∧ H e.o = some (.ins C e.d (deF e.T (e.i : Int) e.B e.A)) ∧ H e.B = some (.lst e.bs) ∧ H e.A = some (.lst e.as)
abbrev MM := Addr → List V
def putAt (S : MM) (T : Addr) (zs : List V) : MM := fun b => if b = T then zs else S b
theorem putAt_same {S : MM} {T : Addr} {zs : List V} : putAt S T zs T = zs := if_pos rfl
theorem putAt_ne {S : MM} {T b : Addr} {zs : List V} (h : b ≠ T) : putAt S T zs b = S b := if_neg h
def doD (e : Dd) (S : MM) : MM := putAt S e.T ((S e.T).take e.i ++ e.as ++ (S e.T).drop (e.i + e.bs.length))
def unD (e : Dd) (S : MM) : MM := putAt S e.T ((S e.T).take e.i ++ e.bs ++ (S e.T).drop (e.i + e.as.length))
def Fits (e : Dd) (S : MM) : Prop := e.i + e.bs.length ≤ (S e.T).length ∧ ((S e.T).drop e.i).take e.bs.length = e.bs
theorem cut3 {α : Type} {xs bs as : List α} {i : Nat} (h : i + bs.length ≤ xs.length) : (xs.take i ++ as ++ xs.drop (i + bs.length)).take i = xs.take i ∧ (xs.take i ++ as ++ xs.drop (i + bs.length)).drop (i + as.length) = xs.drop (i + bs.length) := by
  have h1 : (xs.take i).length = i := by rw [List.length_take]; omega
  constructor
  · rw [List.append_assoc]
    exact List.take_left' h1
  · exact List.drop_left' (by rw [List.length_append, h1])
theorem un_do {e : Dd} {S : MM} (h : Fits e S) : unD e (doD e S) = S := by
  funext b
  unfold unD
  by_cases hb : b = e.T
  · subst hb
    rw [putAt_same]
    unfold doD
    rw [putAt_same, (cut3 h.1).1, (cut3 h.1).2]
    have h2 : e.bs ++ (S e.T).drop (e.i + e.bs.length) = (S e.T).drop e.i := by
      rw [← List.drop_drop]
      have := List.take_append_drop e.bs.length ((S e.T).drop e.i)
      rw [h.2] at this
      exact this
    rw [List.append_assoc, h2, List.take_append_drop]
  · rw [putAt_ne hb]
    unfold doD
    rw [putAt_ne hb]
theorem do_fits {e : Dd} {S : MM} (h : Fits e S) : e.i + e.as.length ≤ (doD e S e.T).length := by
  unfold doD
  rw [putAt_same, List.length_append, List.length_append, List.length_take]
  have := h.1
  omega
inductive Path : List MM → List Dd → MM → Prop
  | nil {M : MM} : Path [] [] M
  | snoc {Ps : List MM} {es : List Dd} {S : MM} {e : Dd} : Path Ps es S → Fits e S → Path (Ps ++ [S]) (es ++ [e]) (doD e S)
inductive Fut : MM → List Dd → List MM → Prop
  | nil {M : MM} : Fut M [] []
  | snoc {M : MM} {us : List Dd} {Fs : List MM} {e : Dd} : Fits e M → Fut (doD e M) us Fs → Fut M (us ++ [e]) (Fs ++ [doD e M])
theorem snoc_inj {α : Type} {a b : List α} {x y : α} (h : a ++ [x] = b ++ [y]) : a = b ∧ x = y := by
  have := List.append_inj' h rfl
  exact ⟨this.1, by simpa using this.2⟩
theorem Path.last {Ps : List MM} {es : List Dd} {e : Dd} {M : MM} (h : Path Ps (es ++ [e]) M) : ∃ Ps' S, Ps = Ps' ++ [S] ∧ Path Ps' es S ∧ Fits e S ∧ M = doD e S := by
  generalize he : es ++ [e] = es' at h
  cases h with
  | nil => simp at he
  | snoc p f =>
    obtain ⟨rfl, rfl⟩ := snoc_inj he
    exact ⟨_, _, rfl, p, f, rfl⟩
theorem Path.len {Ps : List MM} {es : List Dd} {M : MM} (h : Path Ps es M) : Ps.length = es.length := by
  induction h with
  | nil => rfl
  | snoc _ _ ih => rw [List.length_append, List.length_append, ih]; rfl
theorem Fut.len {us : List Dd} {M : MM} {Fs : List MM} (h : Fut M us Fs) : Fs.length = us.length := by
  induction h with
  | nil => rfl
  | snoc _ _ ih => rw [List.length_append, List.length_append, ih]; rfl
def GoodT (s : Sg) : Prop := (s.1.sounds = true → 0 ≤ s.2 ∧ s.2 < 100) ∧ (s.1.sounds = false → s.2 = 0)
def GV (H : Hp) (v : V) : Prop := ∃ s, SgAt H v s ∧ GoodT s
structure WF (H : Hp) (L : Addr) (all : List Vx) (S : MM) : Prop where
  vs : ∃ vx : List Vx, Paired (fun v a => v = V.ref a.o ∧ a ∈ all) (S L) vx
  ln : ∀ a ∈ all, (S a.l).length ≤ 200 ∧ ∀ v ∈ S a.l, GV H v
  len : (S L).length ≤ 12
  out : ∀ b, b ≠ L → (∀ a ∈ all, b ≠ a.l) → S b = []
inductive Th where
  | pl (ss : List Sg)
  | cn (ld : Str) (lt sl : Int) (tn : Bool)
abbrev Vw := List (Str × Th)
def ThAt (H : Hp) (S : MM) (a : Vx) : Th → Prop
  | .pl ss => a.tm = .non ∧ Sgs H (S a.l) ss
  | .cn ld lt sl tn => ∃ p, a.tm = .ref p ∧ H p = some (.tup [.str ld, .int lt, .int sl, .bl tn])
def VwAt (H : Hp) (all : List Vx) (S : MM) (v : V) (q : Str × Th) : Prop := ∃ a ∈ all, v = .ref a.o ∧ a.n = q.1 ∧ ThAt H S a q.2
abbrev Is (H : Hp) (L : Addr) (all : List Vx) (S : MM) (vw : Vw) : Prop := Paired (VwAt H all S) (S L) vw
structure WFV (vw : Vw) : Prop where
  nd : (vw.map (·.1)).Nodup
  ld : ∀ n ld lt sl tn, (n, Th.cn ld lt sl tn) ∈ vw → (∃ ss, (ld, Th.pl ss) ∈ vw) ∧ 0 ≤ lt ∧ lt ≤ 999 ∧ 1 ≤ sl ∧ sl ≤ 9
  gd : ∀ n ss, (n, Th.pl ss) ∈ vw → ss.length ≤ 200 ∧ ∀ s ∈ ss, GoodT s
  len : vw.length ≤ 12
structure BkI (CB CV CD : Addr) (H : Hp) (x L D U : Addr) (all : List Vx) (M : MM) (Ps Fs : List MM) (es us : List Dd) : Prop where
  hx : ∃ dx, H x = some (.ins CB dx (boF L D U))
  hL : H L = some (.lst (M L))
  hD : ∃ xs, H D = some (.lst xs) ∧ Paired (DdAt CD H) xs es
  hU : ∃ xs, H U = some (.lst xs) ∧ Paired (DdAt CD H) xs us
  ha : ∀ a ∈ all, H a.o = some (.ins CV a.d (voF a.n a.tm a.l)) ∧ H a.l = some (.lst (M a.l))
  LD : L ≠ D
  LU : L ≠ U
  DU : D ≠ U
  nl : ∀ a ∈ all, a.l ≠ L ∧ a.l ≠ D ∧ a.l ≠ U
  ni : ∀ a ∈ all, ∀ b ∈ all, a.l = b.l → a = b
  no : ∀ a ∈ all, ∀ b ∈ all, a.o = b.o → a = b
  dd : ∀ e, e ∈ es ∨ e ∈ us → (e.T = L ∨ ∃ a ∈ all, e.T = a.l) ∧ (e.B ≠ L ∧ e.B ≠ D ∧ e.B ≠ U ∧ ∀ a ∈ all, e.B ≠ a.l) ∧ (e.A ≠ L ∧ e.A ≠ D ∧ e.A ≠ U ∧ ∀ a ∈ all, e.A ≠ a.l) ∧ e.bs.length ≤ 1 ∧ e.as.length ≤ 1
  past : Path Ps es M
  fut : Fut M us Fs
  wf : ∀ S, S ∈ Ps ∨ S = M ∨ S ∈ Fs → WF H L all S
structure Foot (F : Addr → Prop) (L D U : Addr) (all : List Vx) (es us : List Dd) : Prop where
  L : F L
  D : F D
  U : F U
  l : ∀ a ∈ all, F a.l
  d : ∀ e, e ∈ es ∨ e ∈ us → F e.B ∧ F e.A
structure Bk (CB CV CD : Addr) (H : Hp) (x : Addr) (F : Addr → Prop) (vw : Vw) (ps fs : List Vw) : Prop where
  ex : ∃ (L D U : Addr) (all : List Vx) (M : MM) (Ps Fs : List MM) (es us : List Dd), BkI CB CV CD H x L D U all M Ps Fs es us ∧ Is H L all M vw ∧ Paired (Is H L all) Ps ps ∧ Paired (Is H L all) Fs fs ∧ Foot F L D U all es us
  wv : ∀ v, v ∈ ps ∨ v = vw ∨ v ∈ fs → WFV v
def Kept (F : Addr → Prop) (H H' : Hp) : Prop := ∀ y o, H y = some o → (F y ∨ ∀ xs, o ≠ .lst xs) → H' y = some o
theorem Kept.same {F : Addr → Prop} {H H' : Hp} (s : Same H H') : Kept F H H' := fun y o e _ => s y o e
section
variable {CB CV CD : Addr} {H H' : Hp} {x L D U : Addr} {all : List Vx} {M S : MM} {Ps Fs : List MM} {es us : List Dd} {F : Addr → Prop} {vw : Vw} {ps fs : List Vw}
theorem Kept.sgs (k : Kept F H H') {xs : List V} {ss : List Sg} (h : Sgs H xs ss) : Sgs H' xs ss := pmono (fun _ _ ⟨p, e1, e2⟩ => ⟨p, e1, k _ _ e2 (.inr fun _ z => nomatch z)⟩) h
theorem Kept.gv (k : Kept F H H') {v : V} (h : GV H v) : GV H' v := by
  obtain ⟨s, ⟨p, e1, e2⟩, g⟩ := h
  exact ⟨s, ⟨p, e1, k _ _ e2 (.inr fun _ z => nomatch z)⟩, g⟩
theorem WF.kept (k : Kept F H H') (h : WF H L all S) : WF H' L all S := ⟨h.vs, fun a ha => ⟨(h.ln a ha).1, fun v hv => k.gv ((h.ln a ha).2 v hv)⟩, h.len, h.out⟩
theorem VwAt.kept (k : Kept F H H') {v : V} {q : Str × Th} (h : VwAt H all S v q) : VwAt H' all S v q := by
  obtain ⟨a, ha, e1, e2, t⟩ := h
  refine ⟨a, ha, e1, e2, ?_⟩
  cases hq : q.2 with
  | pl ss => rw [hq] at t; exact ⟨t.1, k.sgs t.2⟩
  | cn ld lt sl tn =>
    rw [hq] at t
    obtain ⟨p, e3, e4⟩ := t
    exact ⟨p, e3, k _ _ e4 (.inr fun _ z => nomatch z)⟩
theorem Is.kept (k : Kept F H H') (h : Is H L all S vw) : Is H' L all S vw := pmono (fun _ _ q => VwAt.kept k q) h
theorem ddAt_kept (k : Kept F H H') {v : V} {e : Dd} (f : F e.B ∧ F e.A) (h : DdAt CD H v e) : DdAt CD H' v e := ⟨h.1, k _ _ h.2.1 (.inr fun _ z => nomatch z), k _ _ h.2.2.1 (.inl f.1), k _ _ h.2.2.2 (.inl f.2)⟩
theorem pmonoM {α β : Type} {F G : α → β → Prop} : ∀ {xs : List α} {ys : List β}, (∀ x y, y ∈ ys → F x y → G x y) → Paired F xs ys → Paired G xs ys
  | _, _, _, .nil => .nil
  | _, _, h, .cons a b => .cons (h _ _ (List.mem_cons_self ..) a) (pmonoM (fun x y hy => h x y (List.mem_cons_of_mem _ hy)) b)
theorem BkI.kept (h : BkI CB CV CD H x L D U all M Ps Fs es us) (f : Foot F L D U all es us) (k : Kept F H H') : BkI CB CV CD H' x L D U all M Ps Fs es us :=
  { h with
    hx := let ⟨dx, e⟩ := h.hx; ⟨dx, k _ _ e (.inr fun _ z => nomatch z)⟩
    hL := k _ _ h.hL (.inl f.L)
    hD := let ⟨xs, e, p⟩ := h.hD; ⟨xs, k _ _ e (.inl f.D), pmonoM (fun _ e he q => ddAt_kept k (f.d e (.inl he)) q) p⟩
    hU := let ⟨xs, e, p⟩ := h.hU; ⟨xs, k _ _ e (.inl f.U), pmonoM (fun _ e he q => ddAt_kept k (f.d e (.inr he)) q) p⟩
    ha := fun a m => ⟨k _ _ (h.ha a m).1 (.inr fun _ z => nomatch z), k _ _ (h.ha a m).2 (.inl (f.l a m))⟩
    wf := fun S hS => (h.wf S hS).kept k }
theorem Bk.kept (h : Bk CB CV CD H x F vw ps fs) (k : Kept F H H') : Bk CB CV CD H' x F vw ps fs := by
  obtain ⟨L, D, U, all, M, Ps, Fs, es, us, b, i, pp, pf, f⟩ := h.ex
  exact ⟨⟨L, D, U, all, M, Ps, Fs, es, us, b.kept f k, Is.kept k i, pmono (fun _ _ q => Is.kept k q) pp, pmono (fun _ _ q => Is.kept k q) pf, f⟩, h.wv⟩
theorem Bk.same (h : Bk CB CV CD H x F vw ps fs) (s : Same H H') : Bk CB CV CD H' x F vw ps fs := h.kept (.same s)
theorem BkI.voices (b : BkI CB CV CD H x L D U all M Ps Fs es us) (i : Is H L all M vw) : ∃ vx : List Vx, Paired (VxAt CV H) (M L) vx ∧ Paired (fun a q => a ∈ all ∧ a.n = q.1 ∧ ThAt H M a q.2) vx vw := by
  have go : ∀ {xs : List V} {vw : Vw}, Paired (VwAt H all M) xs vw → ∃ vx : List Vx, Paired (VxAt CV H) xs vx ∧ Paired (fun a q => a ∈ all ∧ a.n = q.1 ∧ ThAt H M a q.2) vx vw := by
    intro xs vw h
    induction h with
    | nil => exact ⟨[], .nil, .nil⟩
    | cons q _ ih =>
      obtain ⟨a, ha, e1, e2, e3⟩ := q
      obtain ⟨vx, p1, p2⟩ := ih
      exact ⟨a :: vx, .cons ⟨e1, (b.ha a ha).1⟩ p1, .cons ⟨ha, e2, e3⟩ p2⟩
  exact go i
def DdOk (L D U : Addr) (all : List Vx) (e : Dd) : Prop := (e.T = L ∨ ∃ a ∈ all, e.T = a.l) ∧ (e.B ≠ L ∧ e.B ≠ D ∧ e.B ≠ U ∧ ∀ a ∈ all, e.B ≠ a.l) ∧ (e.A ≠ L ∧ e.A ≠ D ∧ e.A ≠ U ∧ ∀ a ∈ all, e.A ≠ a.l) ∧ e.bs.length ≤ 1 ∧ e.as.length ≤ 1
theorem BkI.lists (b : BkI CB CV CD H x L D U all M Ps Fs es us) {T : Addr} (tg : T = L ∨ ∃ a ∈ all, T = a.l) : H T = some (.lst (M T)) ∧ T ≠ D ∧ T ≠ U := by
  rcases tg with rfl | ⟨a, ha, rfl⟩
  · exact ⟨b.hL, b.LD, b.LU⟩
  · exact ⟨(b.ha a ha).2, (b.nl a ha).2.1, (b.nl a ha).2.2⟩
theorem BkI.chg (b : BkI CB CV CD H x L D U all M Ps Fs es us) {T : Addr} (tg : T = L ∨ ∃ a ∈ all, T = a.l) {H2 : Hp} (fr : ∀ y o, H y = some o → y ≠ T → y ≠ D → y ≠ U → H2 y = some o) {M' : MM} (m1 : ∀ c, c ≠ T → M' c = M c) (hT : H2 T = some (.lst (M' T)))
    {dx : List V} {es' : List Dd} (hD : H2 D = some (.lst dx)) (pD : Paired (DdAt CD H) dx es') {ux : List V} {us' : List Dd} (hU : H2 U = some (.lst ux)) (pU : Paired (DdAt CD H) ux us') (dd' : ∀ e, e ∈ es' ∨ e ∈ us' → DdOk L D U all e)
    {Ps' Fs' : List MM} (past' : Path Ps' es' M') (fut' : Fut M' us' Fs') (wf' : ∀ S, S ∈ Ps' ∨ S = M' ∨ S ∈ Fs' → WF H L all S) : BkI CB CV CD H2 x L D U all M' Ps' Fs' es' us' ∧ Kept (fun _ => False) H H2 := by
  obtain ⟨hT0, TD, TU⟩ := b.lists tg
  obtain ⟨dx0, hD0, _⟩ := b.hD
  obtain ⟨ux0, hU0, _⟩ := b.hU
  have kN : ∀ y o, H y = some o → (∀ zs, o ≠ .lst zs) → H2 y = some o := fun y o hy hn => fr y o hy
    (fun e => by rw [e, hT0] at hy; cases hy; exact hn _ rfl) (fun e => by rw [e, hD0] at hy; cases hy; exact hn _ rfl) (fun e => by rw [e, hU0] at hy; cases hy; exact hn _ rfl)
  have k : Kept (fun _ => False) H H2 := fun y o hy h => kN y o hy (h.elim False.elim id)
  have dk : ∀ {v e}, DdOk L D U all e → DdAt CD H v e → DdAt CD H2 v e := fun {v e} ok h => by
    have nT : ∀ {c : Addr}, c ≠ L ∧ c ≠ D ∧ c ≠ U ∧ (∀ a ∈ all, c ≠ a.l) → c ≠ T := fun {c} q z => by
      rcases tg with rfl | ⟨a, ha, rfl⟩
      · exact q.1 z
      · exact q.2.2.2 a ha z
    exact ⟨h.1, kN _ _ h.2.1 (fun _ z => nomatch z), fr _ _ h.2.2.1 (nT ok.2.1) ok.2.1.2.1 ok.2.1.2.2.1, fr _ _ h.2.2.2 (nT ok.2.2.1) ok.2.2.1.2.1 ok.2.2.1.2.2.1⟩
  have at_ : ∀ {c : Addr}, (c = L ∨ ∃ a ∈ all, c = a.l) → H2 c = some (.lst (M' c)) := fun {c} hc => by
    by_cases e : c = T
    · rw [e]; exact hT
    · obtain ⟨h1, h2, h3⟩ := b.lists hc
      rw [m1 c e]
      exact fr _ _ h1 e h2 h3
  refine ⟨{ hx := let ⟨dx, e⟩ := b.hx; ⟨dx, kN _ _ e (fun _ z => nomatch z)⟩
            hL := at_ (.inl rfl)
            hD := ⟨_, hD, pmonoM (fun _ e he q => dk (dd' e (.inl he)) q) pD⟩
            hU := ⟨_, hU, pmonoM (fun _ e he q => dk (dd' e (.inr he)) q) pU⟩
            ha := fun a ha => ⟨kN _ _ (b.ha a ha).1 (fun _ z => nomatch z), at_ (.inr ⟨a, ha, rfl⟩)⟩
            LD := b.LD, LU := b.LU, DU := b.DU, nl := b.nl, ni := b.ni, no := b.no, dd := dd'
            past := past'
            fut := fut'
            wf := fun S hS => (wf' S hS).kept k }, k⟩
theorem BkI.grow (b : BkI CB CV CD H x L D U all M Ps Fs es us) {a : Vx} {H1 : Hp} (s : Same H H1) (n1 : H a.o = none) (n2 : H a.l = none) (h1 : H1 a.o = some (.ins CV a.d (voF a.n a.tm a.l))) (h2 : H1 a.l = some (.lst [])) : BkI CB CV CD H1 x L D U (all ++ [a]) M Ps Fs es us := by
  have b1 := b.kept (F := fun _ => True) ⟨trivial, trivial, trivial, fun _ _ => trivial, fun _ _ => ⟨trivial, trivial⟩⟩ (.same s)
  obtain ⟨dx0, hD0, pD0⟩ := b.hD
  obtain ⟨ux0, hU0, pU0⟩ := b.hU
  have nL : a.l ≠ L := Ne.symm (ne_of_none b.hL n2)
  have nD : a.l ≠ D := Ne.symm (ne_of_none hD0 n2)
  have nU : a.l ≠ U := Ne.symm (ne_of_none hU0 n2)
  have nA : ∀ c ∈ all, a.l ≠ c.l := fun c hc => Ne.symm (ne_of_none (b.ha c hc).2 n2)
  have nO : ∀ c ∈ all, a.o ≠ c.o := fun c hc => Ne.symm (ne_of_none (b.ha c hc).1 n1)
  have mem : ∀ {c : Vx}, c ∈ all ++ [a] → c ∈ all ∨ c = a := fun h => by simpa using h
  have wf2 : ∀ S, WF H1 L all S → WF H1 L (all ++ [a]) S := fun S w =>
    { vs := let ⟨vx, p⟩ := w.vs; ⟨vx, pmono (fun _ _ q => ⟨q.1, List.mem_append_left _ q.2⟩) p⟩
      ln := fun c hc => by
        rcases mem hc with hc | rfl
        · exact w.ln c hc
        · have e : S c.l = [] := w.out c.l nL fun d hd => nA d hd
          rw [e]
          exact ⟨Nat.zero_le _, fun _ z => nomatch z⟩
      len := w.len
      out := fun c h h' => w.out c h fun d hd => h' d (List.mem_append_left _ hd) }
  have dds : ∀ {v e}, DdAt CD H v e → e.B ≠ a.l ∧ e.A ≠ a.l := fun h => ⟨ne_of_none h.2.2.1 n2, ne_of_none h.2.2.2 n2⟩
  have ddn : ∀ e, e ∈ es ∨ e ∈ us → e.B ≠ a.l ∧ e.A ≠ a.l := fun e he => by
    rcases he with he | he
    · obtain ⟨i, hi⟩ := List.getElem?_of_mem he
      obtain ⟨v, _, q⟩ := pgetR pD0 hi
      exact dds q
    · obtain ⟨i, hi⟩ := List.getElem?_of_mem he
      obtain ⟨v, _, q⟩ := pgetR pU0 hi
      exact dds q
  exact { b1 with
    ha := fun c hc => by
      rcases mem hc with hc | rfl
      · exact b1.ha c hc
      · refine ⟨h1, ?_⟩
        rw [(b.wf M (.inr (.inl rfl))).out c.l nL fun d hd => nA d hd]
        exact h2
    nl := fun c hc => by
      rcases mem hc with hc | rfl
      · exact b1.nl c hc
      · exact ⟨nL, nD, nU⟩
    ni := fun c hc d hd e => by
      rcases mem hc with z1 | z1 <;> rcases mem hd with z2 | z2
      · exact b1.ni c z1 d z2 e
      · rw [z2] at e; exact absurd e.symm (nA c z1)
      · rw [z1] at e; exact absurd e (nA d z2)
      · rw [z1, z2]
    no := fun c hc d hd e => by
      rcases mem hc with z1 | z1 <;> rcases mem hd with z2 | z2
      · exact b1.no c z1 d z2 e
      · rw [z2] at e; exact absurd e.symm (nO c z1)
      · rw [z1] at e; exact absurd e (nO d z2)
      · rw [z1, z2]
    dd := fun e he => by
      obtain ⟨q1, q2, q3, q4⟩ := b1.dd e he
      refine ⟨q1.imp id fun ⟨c, hc, z⟩ => ⟨c, List.mem_append_left _ hc, z⟩, ⟨q2.1, q2.2.1, q2.2.2.1, fun c hc => ?_⟩, ⟨q3.1, q3.2.1, q3.2.2.1, fun c hc => ?_⟩, q4⟩
      · rcases mem hc with hc | rfl
        · exact q2.2.2.2 c hc
        · exact (ddn e he).1
      · rcases mem hc with hc | rfl
        · exact q3.2.2.2 c hc
        · exact (ddn e he).2
    wf := fun S hS => wf2 S (b1.wf S hS) }
theorem Is.grow {a : Vx} (h : Is H L all S vw) : Is H L (all ++ [a]) S vw := pmono (fun _ _ ⟨c, hc, q⟩ => ⟨c, List.mem_append_left _ hc, q⟩) h
end
end Mine
set_option maxHeartbeats 1000000
namespace Mine
open PySem L2
section
variable {CB CV CD : Addr} {H H1 H2 H' : Hp} {x L D U : Addr} {all : List Vx} {M S : MM} {Ps Fs : List MM} {es us : List Dd} {F : Addr → Prop} {vw vw' : Vw} {ps fs : List Vw}
theorem Bk.deed (b : BkI CB CV CD H1 x L D U all M Ps Fs es us) (i : Is H1 L all M vw) (pp : Paired (Is H1 L all) Ps ps) (f : Foot F L D U all es us) (wv : ∀ v, v ∈ ps ∨ v = vw → WFV v) {e : Dd} (hd : DdAt CD H1 (.ref e.o) e) (ok : DdOk L D U all e) (ft : Fits e M) (w : WF H1 L all (doD e M))
    (i' : Is H1 L all (doD e M) vw') (wv' : WFV vw') {dx : List V} (pD : Paired (DdAt CD H1) dx es) (fr : ∀ y o, H1 y = some o → y ≠ e.T → y ≠ D → y ≠ U → H2 y = some o) (hT : H2 e.T = some (.lst (doD e M e.T))) (hD2 : H2 D = some (.lst (dx ++ [.ref e.o]))) (hU2 : H2 U = some (.lst [])) :
    Bk CB CV CD H2 x (fun y => F y ∨ y = e.B ∨ y = e.A) vw' (ps ++ [vw]) [] := by
  obtain ⟨b2, k⟩ := b.chg ok.1 fr (M' := doD e M) (fun c hc => putAt_ne hc) hT hD2 (psnoc pD hd) hU2 .nil (fun e' he => by
    rcases he with he | he
    · rcases List.mem_append.mp he with he | he
      · exact b.dd e' (.inl he)
      · rw [List.mem_singleton.mp he]; exact ok
    · cases he) (b.past.snoc ft) .nil (fun S hS => by
    rcases hS with hS | hS | hS
    · rcases List.mem_append.mp hS with hS | hS
      · exact b.wf S (.inl hS)
      · exact b.wf S (.inr (.inl (List.mem_singleton.mp hS)))
    · rw [hS]; exact w
    · cases hS)
  refine ⟨⟨L, D, U, all, _, _, _, _, _, b2, Is.kept k i', psnoc (pmono (fun _ _ q => Is.kept k q) pp) (Is.kept k i), .nil, ⟨.inl f.L, .inl f.D, .inl f.U, fun a ha => .inl (f.l a ha), fun e' he => ?_⟩⟩, fun v hv => ?_⟩
  · rcases he with he | he
    · rcases List.mem_append.mp he with he | he
      · exact ⟨.inl (f.d e' (.inl he)).1, .inl (f.d e' (.inl he)).2⟩
      · rw [List.mem_singleton.mp he]; exact ⟨.inr (.inl rfl), .inr (.inr rfl)⟩
    · cases he
  · rcases hv with hv | hv | hv
    · rcases List.mem_append.mp hv with hv | hv
      · exact wv v (.inl hv)
      · exact wv v (.inr (List.mem_singleton.mp hv))
    · rw [hv]; exact wv'
    · cases hv
theorem psplit {α β : Type} {F : α → β → Prop} : ∀ {xs : List α} {x : α} {zs : List β}, Paired F (xs ++ [x]) zs → ∃ ys y, zs = ys ++ [y] ∧ Paired F xs ys ∧ F x y
  | [], _, _, .cons r .nil => ⟨[], _, rfl, .nil, r⟩
  | _ :: _, _, _, .cons r t => by
    obtain ⟨ys, y, rfl, p, q⟩ := psplit t
    exact ⟨_ :: ys, y, rfl, .cons r p, q⟩
theorem Bk.undone (b : BkI CB CV CD H x L D U all M Ps Fs es us) (i : Is H L all M vw) (pp : Paired (Is H L all) Ps ps) (pf : Paired (Is H L all) Fs fs) (f : Foot F L D U all es us) (wv : ∀ v, v ∈ ps ∨ v = vw ∨ v ∈ fs → WFV v) {e : Dd} {es0 : List Dd} (he : es = es0 ++ [e]) {dx ux : List V} (pD : Paired (DdAt CD H) dx es0) (hd : DdAt CD H (.ref e.o) e) (pU : Paired (DdAt CD H) ux us)
    (fr : ∀ y o, H y = some o → y ≠ e.T → y ≠ D → y ≠ U → H2 y = some o) (hT : H2 e.T = some (.lst (unD e M e.T))) (hD2 : H2 D = some (.lst dx)) (hU2 : H2 U = some (.lst (ux ++ [.ref e.o]))) :
    ∃ ps0 v, ps = ps0 ++ [v] ∧ Bk CB CV CD H2 x F v ps0 (fs ++ [vw]) := by
  subst he
  obtain ⟨Ps0, S, rfl, p0, ft, rfl⟩ := b.past.last
  have ok := b.dd e (.inl (List.mem_append_right _ (List.mem_singleton_self _)))
  rw [un_do ft] at hT
  obtain ⟨b2, k⟩ := b.chg ok.1 fr (M' := S) (fun c hc => (putAt_ne hc).symm) hT hD2 pD hU2 (psnoc pU hd) (fun e' he => by
    rcases he with he | he
    · exact b.dd e' (.inl (List.mem_append_left _ he))
    · rcases List.mem_append.mp he with he | he
      · exact b.dd e' (.inr he)
      · rw [List.mem_singleton.mp he]; exact ok) p0 (Fut.snoc ft b.fut) (fun T hT => by
    rcases hT with hT | hT | hT
    · exact b.wf T (.inl (List.mem_append_left _ hT))
    · exact b.wf T (.inl (List.mem_append_right _ (List.mem_singleton.mpr hT)))
    · rcases List.mem_append.mp hT with hT | hT
      · exact b.wf T (.inr (.inr hT))
      · exact b.wf T (.inr (.inl (List.mem_singleton.mp hT))))
  obtain ⟨ps0, v, rfl, pp0, iv⟩ := psplit pp
  refine ⟨ps0, v, rfl, ⟨⟨L, D, U, all, _, _, _, _, _, b2, Is.kept k iv, pmono (fun _ _ q => Is.kept k q) pp0, psnoc (pmono (fun _ _ q => Is.kept k q) pf) (Is.kept k i), ⟨f.L, f.D, f.U, f.l, fun e' he => ?_⟩⟩, fun u hu => ?_⟩⟩
  · rcases he with he | he
    · exact f.d e' (.inl (List.mem_append_left _ he))
    · rcases List.mem_append.mp he with he | he
      · exact f.d e' (.inr he)
      · rw [List.mem_singleton.mp he]; exact f.d e (.inl (List.mem_append_right _ (List.mem_singleton_self _)))
  · rcases hu with hu | hu | hu
    · exact wv u (.inl (List.mem_append_left _ hu))
    · exact wv u (.inl (List.mem_append_right _ (List.mem_singleton.mpr hu)))
    · rcases List.mem_append.mp hu with hu | hu
      · exact wv u (.inr (.inr hu))
      · exact wv u (.inr (.inl (List.mem_singleton.mp hu)))
def findV (vw : Vw) (n : Str) : Option Th := (vw.find? fun q => decide (q.1 = n)).map (·.2)
def setV (vw : Vw) (n : Str) (th : Th) : Vw := vw.map fun q => if q.1 = n then (n, th) else q
theorem findV_mem {n : Str} {th : Th} (h : findV vw n = some th) : (n, th) ∈ vw := by
  unfold findV at h
  cases e : vw.find? (fun q => decide (q.1 = n)) with
  | none => rw [e] at h; cases h
  | some q =>
    rw [e] at h
    have h1 := List.mem_of_find?_eq_some e
    have h2 := List.find?_some e
    have h3 : q.1 = n := of_decide_eq_true h2
    have h4 : q.2 = th := Option.some.inj h
    rw [← h3, ← h4]
    exact h1
theorem findV_none {n : Str} (h : findV vw n = none) : ∀ q ∈ vw, q.1 ≠ n := by
  unfold findV at h
  rw [Option.map_eq_none_iff] at h
  intro q hq e
  exact List.find?_eq_none.mp h q hq (decide_eq_true e)
theorem nodup_at : ∀ {l : List Str} {i j : Nat} {n : Str}, l.Nodup → l[i]? = some n → l[j]? = some n → i = j
  | [], _, _, _, _, h, _ => by simp at h
  | a :: l, i, j, n, nd, h1, h2 => by
    obtain ⟨na, nd'⟩ := List.nodup_cons.mp nd
    match i, j, h1, h2 with
    | 0, 0, _, _ => rfl
    | 0, j + 1, h1, h2 =>
      rw [List.getElem?_cons_zero] at h1
      rw [List.getElem?_cons_succ] at h2
      cases h1
      exact absurd (List.mem_of_getElem? h2) na
    | i + 1, 0, h1, h2 =>
      rw [List.getElem?_cons_zero] at h2
      rw [List.getElem?_cons_succ] at h1
      cases h2
      exact absurd (List.mem_of_getElem? h1) na
    | i + 1, j + 1, h1, h2 =>
      rw [List.getElem?_cons_succ] at h1 h2
      rw [nodup_at nd' h1 h2]
theorem WFV.uniq (w : WFV vw) {q q' : Str × Th} (h : q ∈ vw) (h' : q' ∈ vw) (e : q.1 = q'.1) : q = q' := by
  obtain ⟨i, hi⟩ := List.getElem?_of_mem h
  obtain ⟨j, hj⟩ := List.getElem?_of_mem h'
  have h1 : (vw.map (·.1))[i]? = some q.1 := by rw [List.getElem?_map, hi]; rfl
  have h2 : (vw.map (·.1))[j]? = some q.1 := by rw [List.getElem?_map, hj, e]; rfl
  have := nodup_at w.nd h1 h2
  subst this
  rw [hi] at hj
  exact Option.some.inj hj
theorem WFV.find (w : WFV vw) {n : Str} {th : Th} (h : (n, th) ∈ vw) : findV vw n = some th := by
  cases e : findV vw n with
  | none => exact absurd rfl (findV_none e _ h)
  | some t =>
    have := w.uniq (findV_mem e) h rfl
    rw [Prod.mk.injEq] at this
    rw [this.2]
theorem setV_names (n : Str) (th : Th) : (setV vw n th).map (·.1) = vw.map (·.1) := by
  unfold setV
  rw [List.map_map]
  refine List.map_congr_left fun q _ => ?_
  show (if q.1 = n then (n, th) else q).1 = q.1
  split
  · next h => exact h.symm
  · rfl
theorem setV_mem {n : Str} {th : Th} {q : Str × Th} (h : q ∈ setV vw n th) : (q = (n, th) ∧ ∃ q' ∈ vw, q'.1 = n) ∨ (q ∈ vw ∧ q.1 ≠ n) := by
  obtain ⟨q', h1, h2⟩ := List.mem_map.mp h
  split at h2
  · next e => exact .inl ⟨h2.symm, q', h1, e⟩
  · next e => rw [← h2]; exact .inr ⟨h1, e⟩
theorem setV_keeps {n : Str} {th : Th} {q : Str × Th} (h : q ∈ vw) (hn : q.1 ≠ n) : q ∈ setV vw n th := List.mem_map.mpr ⟨q, h, if_neg hn⟩
theorem setV_has {n : Str} {th t : Th} (h : (n, t) ∈ vw) : (n, th) ∈ setV vw n th := List.mem_map.mpr ⟨(n, t), h, if_pos rfl⟩
theorem WFV.set (w : WFV vw) {n : Str} {ss ss' : List Sg} (h : (n, Th.pl ss) ∈ vw) (h1 : ss'.length ≤ 200) (h2 : ∀ s ∈ ss', GoodT s) : WFV (setV vw n (.pl ss')) where
  nd := by rw [setV_names]; exact w.nd
  ld := fun m ld lt sl tn hm => by
    rcases setV_mem hm with ⟨e, _⟩ | ⟨hm', _⟩
    · cases e
    · obtain ⟨⟨s0, h0⟩, r⟩ := w.ld m ld lt sl tn hm'
      refine ⟨?_, r⟩
      by_cases e : ld = n
      · rw [e]; exact ⟨ss', setV_has h⟩
      · exact ⟨s0, setV_keeps h0 e⟩
  gd := fun m s0 hm => by
    rcases setV_mem hm with ⟨e, _⟩ | ⟨hm', _⟩
    · cases e; exact ⟨h1, h2⟩
    · exact w.gd m s0 hm'
  len := by
    have := congrArg List.length (setV_names (vw := vw) n (.pl ss'))
    rw [List.length_map, List.length_map] at this
    rw [this]
    exact w.len
theorem WFV.addPl (w : WFV vw) {n : Str} (hn : ∀ q ∈ vw, q.1 ≠ n) (hl : vw.length < 12) : WFV (vw ++ [(n, .pl [])]) where
  nd := by
    rw [List.map_append, List.nodup_append]
    refine ⟨w.nd, by simp, ?_⟩
    intro a ha c hc e
    obtain ⟨q, hq, e1⟩ := List.mem_map.mp ha
    have : c = n := by simpa using hc
    exact hn q hq (by rw [e1, e, this])
  ld := fun m ld lt sl tn hm => by
    rcases List.mem_append.mp hm with hm | hm
    · obtain ⟨⟨s0, h0⟩, r⟩ := w.ld m ld lt sl tn hm
      exact ⟨⟨s0, List.mem_append_left _ h0⟩, r⟩
    · have := List.mem_singleton.mp hm
      cases this
  gd := fun m s0 hm => by
    rcases List.mem_append.mp hm with hm | hm
    · exact w.gd m s0 hm
    · have := List.mem_singleton.mp hm
      cases this
      exact ⟨Nat.zero_le _, fun _ z => nomatch z⟩
  len := by rw [List.length_append]; exact hl
theorem WFV.addCn (w : WFV vw) {n ld : Str} {lt sl : Int} {tn : Bool} {ss : List Sg} (hn : ∀ q ∈ vw, q.1 ≠ n) (hl : vw.length < 12) (h : (ld, Th.pl ss) ∈ vw) (h1 : 0 ≤ lt) (h2 : lt ≤ 999) (h3 : 1 ≤ sl) (h4 : sl ≤ 9) : WFV (vw ++ [(n, .cn ld lt sl tn)]) where
  nd := by
    rw [List.map_append, List.nodup_append]
    refine ⟨w.nd, by simp, ?_⟩
    intro a ha c hc e
    obtain ⟨q, hq, e1⟩ := List.mem_map.mp ha
    have : c = n := by simpa using hc
    exact hn q hq (by rw [e1, e, this])
  ld := fun m l2 t2 s2 n2 hm => by
    rcases List.mem_append.mp hm with hm | hm
    · obtain ⟨⟨s0, h0⟩, r⟩ := w.ld m l2 t2 s2 n2 hm
      exact ⟨⟨s0, List.mem_append_left _ h0⟩, r⟩
    · have := List.mem_singleton.mp hm
      cases this
      exact ⟨⟨ss, List.mem_append_left _ h⟩, h1, h2, h3, h4⟩
  gd := fun m s0 hm => by
    rcases List.mem_append.mp hm with hm | hm
    · exact w.gd m s0 hm
    · have := List.mem_singleton.mp hm
      cases this
  len := by rw [List.length_append]; exact hl
theorem pmapJ {α β γ : Type} {F : α → β → Prop} {G : α → γ → Prop} {f : β → γ} : ∀ {xs : List α} {ys : List β}, Paired F xs ys → (∀ (k : Nat) x y, xs[k]? = some x → ys[k]? = some y → F x y → G x (f y)) → Paired G xs (ys.map f)
  | _, _, .nil, _ => .nil
  | _, _, .cons a b, h => .cons (h 0 _ _ rfl rfl a) (pmapJ b fun k x y e1 e2 => h (k + 1) x y (by simpa using e1) (by simpa using e2))
theorem Is.line (b : BkI CB CV CD H x L D U all M Ps Fs es us) (i : Is H L all M vw) (w : WFV vw) {a : Vx} (ha : a ∈ all) {j : Nat} {th : Th} {ss' : List Sg} (hj : (M L)[j]? = some (.ref a.o)) (hm : vw[j]? = some (a.n, th)) (htm : a.tm = .non) {M' : MM} (m1 : ∀ c, c ≠ a.l → M' c = M c) (g : Sgs H (M' a.l) ss') : Is H L all M' (setV vw a.n (.pl ss')) := by
  show Paired _ (M' L) _
  rw [m1 L (Ne.symm (b.nl a ha).1)]
  refine pmapJ i fun k v q hk hq hvq => ?_
  obtain ⟨c, hc, rfl, e1, t⟩ := hvq
  split
  · next e =>
    have h1 : (vw.map (·.1))[k]? = some a.n := by rw [List.getElem?_map, hq, ← e]; rfl
    have h2 : (vw.map (·.1))[j]? = some a.n := by rw [List.getElem?_map, hm]; rfl
    have hkj := nodup_at w.nd h1 h2
    subst hkj
    rw [hj] at hk
    have : a.o = c.o := V.ref.inj (Option.some.inj hk)
    have := b.no a ha c hc this
    subst this
    exact ⟨a, hc, rfl, rfl, htm, g⟩
  · next e =>
    refine ⟨c, hc, rfl, e1, ?_⟩
    have ne : c.l ≠ a.l := fun z => e (by rw [← e1, b.ni c hc a ha z])
    cases hq2 : q.2 with
    | pl s0 => rw [hq2] at t; exact ⟨t.1, by rw [m1 _ ne]; exact t.2⟩
    | cn ld lt sl tn => rw [hq2] at t; exact t
end
end Mine
set_option maxHeartbeats 1000000
namespace Mine
open PySem L2
abbrev Sn := Str × Int
def soundV : List V := [.str "G", .str "D", .str "s", .str "d"]
def silentV : List V := [.str "R", .str "r", .str ".", .str "3", .str "2"]
def goodB (s : Sn) : Bool := if inV (.str s.1) soundV = true then (if decide (0 ≤ s.2) = true then decide (s.2 ≤ 99) else false) else (if inV (.str s.1) silentV = true then decide (s.2 = 0) else false)
end Mine
set_option maxHeartbeats 1000000
namespace Mine
open PySem L2
inductive Rf where
  | BadSign | BadName | NameTaken | Full | NoVoice | NotPlain | NoPlace | BadTerm | Leaned | NoMore
structure Cs where
  B : Addr
  V : Addr
  D : Addr
  on : Bool
  x : Rf → Addr
def RX (E : XK) (c : Cs) (r : Rf) (H : Hp) : Prop := c.on = true ∧ E (.ref (c.x r)) none H
abbrev BkC (c : Cs) := Bk c.B c.V c.D
def Fr (F : Addr → Prop) (H H' : Hp) : Prop := ∀ y o, H y = some o → ¬ F y → H' y = some o
def Gr (F F' : Addr → Prop) (H : Hp) : Prop := ∀ y, F' y → F y ∨ H y = none
theorem Gr.refl (F : Addr → Prop) (H : Hp) : Gr F F H := fun _ h => .inl h
theorem Gr.old {F F' : Addr → Prop} {H H' : Hp} (s : Same H H') (g : Gr F F' H') : Gr F F' H := fun y z => (g y z).imp id fun q => s.free q
def nameB (x : Str) : Bool := decide (1 ≤ x.length) && (decide (x.length ≤ 8) && x.cps.toList.all fun c => inS ⟨#[c]⟩ "abcdefghijklmnopqrstuvwxyz")
theorem kinds_of {k : Str} (h : inV (.str k) soundV = true ∨ inV (.str k) silentV = true) : ∃ d : Kd, d.str = k := by
  have go : ∀ l : List V, (∀ v ∈ l, ∃ d : Kd, v = .str d.str) → inV (.str k) l = true → ∃ d : Kd, d.str = k := fun l hl h => by
    unfold inV at h
    obtain ⟨y, hy, e⟩ := List.any_eq_true.mp h
    obtain ⟨d, rfl⟩ := hl y hy
    have : d.str = k := by simpa [eqV] using e
    exact ⟨d, this⟩
  have c : ∀ (l : List Kd), ∀ v ∈ l.map (fun d => V.str d.str), ∃ d : Kd, v = .str d.str := fun l v hv => by
    obtain ⟨d, _, e⟩ := List.mem_map.mp hv
    exact ⟨d, e.symm⟩
  rcases h with h | h
  · exact go soundV (c [.G, .D, .s, .d]) h
  · exact go silentV (c [.R, .r, .dot, .three, .two]) h
theorem snd_k (d : Kd) : inV (.str d.str) soundV = d.sounds := by cases d <;> decide +kernel
theorem sil_k (d : Kd) : inV (.str d.str) silentV = !d.sounds := by cases d <;> decide +kernel
theorem good_of {sn : Sn} (h : goodB sn = true) : ∃ s : Sg, s.1.str = sn.1 ∧ s.2 = sn.2 ∧ GoodT s := by
  unfold goodB at h
  split at h
  · next h1 =>
    obtain ⟨d, hd⟩ := kinds_of (.inl h1)
    rw [← hd, snd_k] at h1
    split at h
    · next h2 => exact ⟨(d, sn.2), hd, rfl, ⟨(fun _ => ⟨of_decide_eq_true h2, by have := of_decide_eq_true h; show sn.2 < 100; omega⟩), fun z => by rw [show d.sounds = false from z] at h1; cases h1⟩⟩
    · cases h
  · next h1 =>
    split at h
    · next h2 =>
      obtain ⟨d, hd⟩ := kinds_of (.inr h2)
      rw [← hd, sil_k] at h2
      exact ⟨(d, sn.2), hd, rfl, ⟨(fun z => by rw [show d.sounds = true from z] at h2; cases h2), fun _ => of_decide_eq_true h⟩⟩
    · cases h
theorem good_sg {s : Sg} (h : GoodT s) : goodB (s.1.str, s.2) = true := by
  unfold goodB
  rw [snd_k, sil_k]
  cases hs : s.1.sounds with
  | true =>
    obtain ⟨a, b⟩ := h.1 hs
    simp only [if_true]
    rw [if_pos (decide_eq_true a)]
    exact decide_eq_true (by omega)
  | false =>
    have := h.2 hs
    simp [this]
def turnK : Kd → Kd
  | .three => .two
  | .two => .three
  | k => k
def turnS (s : Sg) : Sg := (turnK s.1, s.2)
def lineV (vw : Vw) (n : Str) : List Sg := match findV vw n with
  | some (.pl ss) => ss
  | some (.cn ld _ _ tn) => match findV vw ld with
    | some (.pl ss) => if tn then ss.map turnS else ss
    | _ => []
  | none => []
def keptV (vw : Vw) (n : Str) : List Int := match findV vw n with
  | some (.pl ss) => (readL 3 (kds ss)).1
  | some (.cn ld _ sl tn) => match findV vw ld with
    | some (.pl ss) => (readL (if tn then 2 else 3) (kds (if tn then ss.map turnS else ss))).1.map fun w => sl * w
    | _ => []
  | none => []
theorem lineV_pl {vw : Vw} {n : Str} {ss : List Sg} (h : findV vw n = some (.pl ss)) : lineV vw n = ss := by
  unfold lineV
  rw [h]
theorem lineV_cn {vw : Vw} {n ld : Str} {lt sl : Int} {tn : Bool} {ss : List Sg} (h : findV vw n = some (.cn ld lt sl tn)) (h' : findV vw ld = some (.pl ss)) : lineV vw n = if tn = true then ss.map turnS else ss := by
  unfold lineV
  rw [h]
  show (match findV vw ld with | some (.pl ss) => if tn = true then ss.map turnS else ss | _ => []) = _
  rw [h']
theorem keptV_pl {vw : Vw} {n : Str} {ss : List Sg} (h : findV vw n = some (.pl ss)) : keptV vw n = (readL 3 (kds ss)).1 := by
  unfold keptV
  rw [h]
theorem keptV_cn {vw : Vw} {n ld : Str} {lt sl : Int} {tn : Bool} {ss : List Sg} (h : findV vw n = some (.cn ld lt sl tn)) (h' : findV vw ld = some (.pl ss)) : keptV vw n = (readL (if tn then 2 else 3) (kds (if tn then ss.map turnS else ss))).1.map fun w => sl * w := by
  unfold keptV
  rw [h]
  show (match findV vw ld with | some (.pl ss) => (readL (if tn then 2 else 3) (kds (if tn then ss.map turnS else ss))).1.map fun w => sl * w | _ => []) = _
  rw [h']
theorem mkSame {H H' : Hp} {x dx C : Addr} (hx : H x = none) (hdx : H dx = none) (kp : ∀ y o, (upd (upd H dx (.own x)) x (.ins C dx [])) y = some o → y ≠ x → H' y = some o) : Same H H' := fun y o hy =>
  kp y o (by rw [upd_ne (ne_of_none hy hx), upd_ne (ne_of_none hy hdx)]; exact hy) (ne_of_none hy hx)
theorem mkFree {H : Hp} {x dx D : Addr} {o1 o2 : HO} (h : upd (upd H dx o1) x o2 D = none) : H D = none := by
  unfold upd at h
  split at h
  · cases h
  · split at h
    · cases h
    · exact h
theorem updFree {H : Hp} {B A : Addr} {o : HO} (h : upd H B o A = none) : H A = none := by
  unfold upd at h
  split at h
  · cases h
  · exact h
theorem modN (z : Int) {k : Int} (hk : 0 < k) : ∃ m : Nat, z % k = (m : Int) ∧ (m : Int) < k := by
  have z1 := Int.emod_nonneg z (show k ≠ 0 by omega)
  have z2 := Int.emod_lt_of_pos z hk
  exact ⟨(z % k).toNat, by omega, by omega⟩
theorem put_end {α : Type} {xs : List α} {i : Nat} {y : α} (h : xs[i]? = some y) : (xs.take i).take i ++ [y] ++ (xs.take i).drop i = xs.take (i + 1) := by
  rw [List.take_take, Nat.min_self, List.drop_eq_nil_of_le (by rw [List.length_take]; omega), List.append_nil, List.take_succ, h]
  rfl
theorem Bk.new {c : Cs} {H : Hp} {x dx L D U : Addr} (hx : H x = some (.ins c.B dx (boF L D U))) (hL : H L = some (.lst [])) (hD : H D = some (.lst [])) (hU : H U = some (.lst [])) (LD : L ≠ D) (LU : L ≠ U) (DU : D ≠ U) : BkC c H x (fun y => y = L ∨ y = D ∨ y = U) [] [] [] where
  ex := ⟨L, D, U, [], fun _ => [], [], [], [], [],
    { hx := ⟨dx, hx⟩, hL := hL, hD := ⟨[], hD, .nil⟩, hU := ⟨[], hU, .nil⟩, ha := fun _ h => (nomatch h), LD := LD, LU := LU, DU := DU, nl := fun _ h => (nomatch h), ni := fun _ h => (nomatch h), no := fun _ h => (nomatch h)
      dd := fun _ h => h.elim (fun z => (nomatch z)) fun z => (nomatch z)
      past := .nil
      fut := .nil
      wf := fun S hS => by
        rcases hS with hS | hS | hS
        · cases hS
        · subst hS
          exact ⟨⟨[], .nil⟩, fun _ h => (nomatch h), Nat.zero_le _, fun _ _ _ => rfl⟩
        · cases hS },
    .nil, .nil, .nil, ⟨.inl rfl, .inr (.inl rfl), .inr (.inr rfl), fun _ h => (nomatch h), fun _ h => h.elim (fun z => (nomatch z)) fun z => (nomatch z)⟩⟩
  wv := fun v hv => by
    rcases hv with hv | hv | hv
    · cases hv
    · subst hv
      exact ⟨.nil, fun _ _ _ _ _ h => (nomatch h), fun _ _ h => (nomatch h), Nat.zero_le _⟩
    · cases hv
theorem pnames {R : Vx → Str × Th → Prop} {vx : List Vx} {vw : Vw} (h : Paired R vx vw) (hn : ∀ a q, R a q → a.n = q.1) : vx.map (fun a => V.str a.n) = vw.map (fun a => V.str a.1) := by
  induction h with
  | nil => rfl
  | cons r _ ih => rw [List.map_cons, List.map_cons, ih, hn _ _ r]
theorem pfind {vx : List Vx} {vw : Vw} {R : Vx → Str × Th → Prop} (h : Paired R vx vw) (hn : ∀ a q, R a q → a.n = q.1) (n : Str) :
    (vx.find? (fun a => decide (a.n = n)) = none ∧ findV vw n = none) ∨ ∃ a th, ∃ j : Nat, vx.find? (fun a => decide (a.n = n)) = some a ∧ findV vw n = some th ∧ R a (n, th) ∧ a.n = n ∧ vx[j]? = some a ∧ vw[j]? = some (n, th) := by
  induction h with
  | nil => exact .inl ⟨rfl, rfl⟩
  | @cons a q as qs r t ih =>
    have e := hn a q r
    by_cases hq : q.1 = n
    · refine .inr ⟨a, q.2, 0, ?_, ?_, ?_, e.trans hq, rfl, by rw [← hq]; rfl⟩
      · rw [List.find?_cons_of_pos]
        exact decide_eq_true (e.trans hq)
      · unfold findV
        rw [List.find?_cons_of_pos (p := fun q : Str × Th => decide (q.1 = n)) (decide_eq_true hq)]
        rfl
      · rw [← hq]; exact r
    · have h1 : ¬ decide (a.n = n) = true := fun z => hq (e ▸ of_decide_eq_true z)
      have h2 : ¬ decide (q.1 = n) = true := fun z => hq (of_decide_eq_true z)
      have f1 : (a :: as).find? (fun a => decide (a.n = n)) = as.find? (fun a => decide (a.n = n)) := List.find?_cons_of_neg h1
      have f2 : findV (q :: qs) n = findV qs n := by
        unfold findV
        rw [List.find?_cons_of_neg (p := fun q : Str × Th => decide (q.1 = n)) h2]
      rw [f1, f2]
      exact ih.imp id fun ⟨a, th, j, h1, h2, h3, h4, h5, h6⟩ => ⟨a, th, j + 1, h1, h2, h3, h4, by simpa using h5, by simpa using h6⟩
theorem Bk.added {c : Cs} {H H1 H2 H' : Hp} {x L D U : Addr} {all : List Vx} {M : MM} {Ps Fs : List MM} {es us : List Dd} {F : Addr → Prop} {vw : Vw} {ps fs : List Vw} (b : BkI c.B c.V c.D H x L D U all M Ps Fs es us) (i : Is H L all M vw) (pp : Paired (Is H L all) Ps ps) (f : Foot F L D U all es us) (wv : ∀ v, v ∈ ps ∨ v = vw ∨ v ∈ fs → WFV v)
    {a : Vx} {th : Th} (s1 : Same H H1) (n1 : H a.o = none) (n2 : H a.l = none) (h1 : H1 a.o = some (.ins c.V a.d (voF a.n a.tm a.l))) (h2 : H1 a.l = some (.lst [])) (ht : ∀ M', M' a.l = [] → ThAt H1 M' a th) (w' : WFV (vw ++ [(a.n, th)]))
    {e : Dd} (eT : e.T = L) (ei : e.i = (M L).length) (eb : e.bs = []) (ea : e.as = [.ref a.o]) (s2 : Same H1 H2) (nB : H1 e.B = none) (nA : H1 e.A = none) (hd : DdAt c.D H2 (.ref e.o) e) {ds : List V} (hD : H D = some (.lst ds)) (pD : Paired (DdAt c.D H) ds es)
    (fr : ∀ y o, H2 y = some o → y ≠ L → y ≠ D → y ≠ U → H' y = some o) (hL' : H' L = some (.lst (M L ++ [.ref a.o]))) (hD' : H' D = some (.lst (ds ++ [.ref e.o]))) (hU' : H' U = some (.lst [])) :
    ∃ F', Gr F F' H ∧ Fr F H H' ∧ BkC c H' x F' (vw ++ [(a.n, th)]) (ps ++ [vw]) [] := by
  have s12 := s1.trans s2
  have kT : Kept (fun _ => True) H H2 := .same s12
  have b2 := (b.grow s1 n1 n2 h1 h2).kept (F := fun _ => True) ⟨trivial, trivial, trivial, fun _ _ => trivial, fun _ _ => ⟨trivial, trivial⟩⟩ (.same s2)
  have w2 := w'.len
  rw [List.length_append] at w2
  have ll := plen i
  have w2' : vw.length + 1 ≤ 12 := w2
  have hM : doD e M L = M L ++ [.ref a.o] := by
    unfold doD
    rw [eT, putAt_same, ei, eb, ea]
    simp
  have mo : ∀ y, y ≠ L → doD e M y = M y := fun y hy => by
    unfold doD
    exact putAt_ne (by rw [eT]; exact hy)
  have wM := b2.wf M (.inr (.inl rfl))
  have naL : ∀ z ∈ all ++ [a], z.l ≠ L := fun z hz => (b2.nl z hz).1
  obtain ⟨ux, hU, _⟩ := b2.hU
  have old : ∀ {y : Addr}, H1 y = none → ∀ {z o}, H z = some o → y ≠ z := fun {y} hy {z o} hz q => by rw [q, s1 _ _ hz] at hy; cases hy
  have oA : ∀ {y : Addr}, H1 y = none → y ≠ L ∧ y ≠ D ∧ y ≠ U ∧ ∀ z ∈ all ++ [a], y ≠ z.l := fun {y} hy => by
    obtain ⟨u0, hU0, _⟩ := b.hU
    refine ⟨old hy b.hL, old hy hD, old hy hU0, fun z hz => ?_⟩
    rcases List.mem_append.mp hz with hz | hz
    · exact old hy (b.ha z hz).2
    · rw [List.mem_singleton.mp hz]
      exact fun q => by rw [q, h2] at hy; cases hy
  have ok : DdOk L D U (all ++ [a]) e := ⟨.inl eT, oA nB, oA nA, by rw [eb]; simp, by rw [ea]; simp⟩
  have ft : Fits e M := ⟨by rw [ei, eb, eT]; simp, by rw [eb]; simp⟩
  have wf2 : WF H2 L (all ++ [a]) (doD e M) :=
    { vs := by
        obtain ⟨vx, p⟩ := wM.vs
        exact ⟨vx ++ [a], by rw [hM]; exact psnoc p ⟨rfl, List.mem_append_right _ (List.mem_singleton_self _)⟩⟩
      ln := fun z hz => by rw [mo _ (naL z hz)]; exact wM.ln z hz
      len := by rw [hM, List.length_append, ll]; exact w2'
      out := fun y h1 h2 => by rw [mo y h1]; exact wM.out y h1 h2 }
  have i2 : Is H2 L (all ++ [a]) M vw := Is.kept kT (Is.grow i)
  have i' : Is H2 L (all ++ [a]) (doD e M) (vw ++ [(a.n, th)]) := by
    show Paired _ (doD e M L) _
    rw [hM]
    refine psnoc ?_ ?_
    · refine pmono (fun v q hq => ?_) i2
      obtain ⟨z, hz, e1, e2, e3⟩ := hq
      refine ⟨z, hz, e1, e2, ?_⟩
      cases hq2 : q.2 with
      | pl ss => rw [hq2] at e3; exact ⟨e3.1, by rw [mo _ (naL z hz)]; exact e3.2⟩
      | cn ld lt sl tn => rw [hq2] at e3; exact e3
    · refine ⟨a, List.mem_append_right _ (List.mem_singleton_self _), rfl, rfl, ?_⟩
      have nal : a.l ≠ L := naL a (List.mem_append_right _ (List.mem_singleton_self _))
      have := ht (doD e M) (by rw [mo _ nal]; exact (b.wf M (.inr (.inl rfl))).out _ nal fun z hz q => by rw [q, (b.ha z hz).2] at n2; cases n2)
      show ThAt H2 (doD e M) a th
      cases th with
      | pl ss => exact ⟨this.1, this.2.same s2⟩
      | cn ld lt sl tn => obtain ⟨p, e1, e2⟩ := this; exact ⟨p, e1, s2 _ _ e2⟩
  have B := Bk.deed b2 i2 (pmono (fun _ _ q => Is.kept kT (Is.grow q)) pp) (F := fun y => F y ∨ y = a.l) ⟨.inl f.L, .inl f.D, .inl f.U, fun z hz => by
      rcases List.mem_append.mp hz with hz | hz
      · exact .inl (f.l z hz)
      · rw [List.mem_singleton.mp hz]; exact .inr rfl, fun e' he => ⟨.inl (f.d e' he).1, .inl (f.d e' he).2⟩⟩ (fun v hv => wv v (hv.imp id .inl)) hd ok ft wf2 i' w' (pmonoM (fun _ e' he q => ddAt_kept (F := fun _ => True) kT ⟨trivial, trivial⟩ q) pD) (H2 := H')
    (fun y o hy y1 y2 y3 => fr y o hy (by rw [← eT]; exact y1) y2 y3) (by rw [eT, hM]; exact hL') hD' hU'
  refine ⟨_, fun y hy => ?_, fun y o hy hn => fr y o (s12 y o hy) (fun q => hn (q ▸ f.L)) (fun q => hn (q ▸ f.D)) (fun q => hn (q ▸ f.U)), B⟩
  rcases hy with (hy | hy) | hy | hy
  · exact .inl hy
  · rw [hy]; exact .inr n2
  · rw [hy]; exact .inr (s1.free nB)
  · rw [hy]; exact .inr (s1.free nA)
theorem Bk.lined {c : Cs} {H H1 H' : Hp} {x L D U : Addr} {all : List Vx} {M : MM} {Ps Fs : List MM} {es us : List Dd} {F : Addr → Prop} {vw : Vw} {ps fs : List Vw} (b : BkI c.B c.V c.D H x L D U all M Ps Fs es us) (i : Is H L all M vw) (pp : Paired (Is H L all) Ps ps) (f : Foot F L D U all es us) (wv : ∀ v, v ∈ ps ∨ v = vw ∨ v ∈ fs → WFV v)
    {a : Vx} (ha : a ∈ all) {j : Nat} {ss ss' : List Sg} (hj : (M L)[j]? = some (.ref a.o)) (hm : vw[j]? = some (a.n, .pl ss)) (htm : a.tm = .non) {e : Dd} (eT : e.T = a.l) (ft : Fits e M) (lb : e.bs.length ≤ 1) (la : e.as.length ≤ 1) (s1 : Same H H1) (nB : H e.B = none) (nA : H e.A = none) (hd : DdAt c.D H1 (.ref e.o) e)
    (g' : Sgs H1 (doD e M a.l) ss') (gl : ss'.length ≤ 200) (gg : ∀ s ∈ ss', GoodT s) {ds : List V} (hD : H D = some (.lst ds)) (pD : Paired (DdAt c.D H) ds es)
    (fr : ∀ y o, H1 y = some o → y ≠ a.l → y ≠ D → y ≠ U → H' y = some o) (hl' : H' a.l = some (.lst (doD e M a.l))) (hD' : H' D = some (.lst (ds ++ [.ref e.o]))) (hU' : H' U = some (.lst [])) :
    ∃ F', Gr F F' H ∧ Fr F H H' ∧ BkC c H' x F' (setV vw a.n (.pl ss')) (ps ++ [vw]) [] := by
  have kT : Kept (fun _ => True) H H1 := .same s1
  have b2 := b.kept (F := fun _ => True) ⟨trivial, trivial, trivial, fun _ _ => trivial, fun _ _ => ⟨trivial, trivial⟩⟩ kT
  have mo : ∀ y, y ≠ a.l → doD e M y = M y := fun y hy => putAt_ne (by rw [eT]; exact hy)
  have wM := b2.wf M (.inr (.inl rfl))
  have wvw := wv vw (.inr (.inl rfl))
  have oA : ∀ {y : Addr}, H y = none → y ≠ L ∧ y ≠ D ∧ y ≠ U ∧ ∀ z ∈ all, y ≠ z.l := fun {y} hy => by
    obtain ⟨u0, hU0, _⟩ := b.hU
    exact ⟨Ne.symm (ne_of_none b.hL hy), Ne.symm (ne_of_none hD hy), Ne.symm (ne_of_none hU0 hy), fun z hz => Ne.symm (ne_of_none (b.ha z hz).2 hy)⟩
  have ok : DdOk L D U all e := ⟨.inr ⟨a, ha, eT⟩, oA nB, oA nA, lb, la⟩
  have nal : L ≠ a.l := Ne.symm (b.nl a ha).1
  have wf2 : WF H1 L all (doD e M) :=
    { vs := by rw [mo L nal]; exact wM.vs
      ln := fun z hz => by
        by_cases hza : z.l = a.l
        · rw [hza]
          refine ⟨by rw [plen g']; exact gl, fun v hv => ?_⟩
          obtain ⟨k, hk⟩ := List.getElem?_of_mem hv
          obtain ⟨sg, e1, e2⟩ := pget g' hk
          exact ⟨sg, e2, gg sg (List.mem_of_getElem? e1)⟩
        · rw [mo _ hza]; exact wM.ln z hz
      len := by rw [mo L nal]; exact wM.len
      out := fun y h1 h2 => by rw [mo y (h2 a ha)]; exact wM.out y h1 h2 }
  have i2 : Is H1 L all M vw := Is.kept kT i
  have B := Bk.deed b2 i2 (pmono (fun _ _ q => Is.kept kT q) pp) f (fun v hv => wv v (hv.imp id .inl)) hd ok ft wf2 (Is.line b2 i2 wvw ha hj hm htm mo g') (wvw.set (List.mem_of_getElem? hm) gl gg) (pmonoM (fun _ e' he q => ddAt_kept (F := fun _ => True) kT ⟨trivial, trivial⟩ q) pD) (H2 := H')
    (fun y o hy y1 y2 y3 => fr y o hy (by rw [← eT]; exact y1) y2 y3) (by rw [eT]; exact hl') hD' hU'
  refine ⟨_, fun y hy => ?_, fun y o hy hn => fr y o (s1 y o hy) (fun q => hn (q ▸ f.l a ha)) (fun q => hn (q ▸ f.D)) (fun q => hn (q ▸ f.U)), B⟩
  rcases hy with hy | hy | hy
  · exact .inl hy
  · rw [hy]; exact .inr nB
  · rw [hy]; exact .inr nA
def ThV (H : Hp) (v : V) : Th → Prop
  | .pl ss => ∃ l ys, v = .ref l ∧ H l = some (.lst ys) ∧ Sgs H ys ss
  | .cn ld lt sl tn => ∃ p, v = .ref p ∧ H p = some (.tup [.str ld, .int lt, .int sl, .bl tn])
def KvAt (H : Hp) (kv : Key × V) (q : Str × Th) : Prop := kv.1 = Sum.inr q.1 ∧ ThV H kv.2 q.2
def DvAt (H : Hp) (d : Addr) (vw : Vw) : Prop := ∃ kvs, H d = some (.dK kvs) ∧ Paired (KvAt H) kvs vw
theorem ThV.same {H H' : Hp} (s : Same H H') {v : V} {th : Th} (h : ThV H v th) : ThV H' v th := by
  cases th with
  | pl ss => obtain ⟨l, ys, e1, e2, e3⟩ := h; exact ⟨l, ys, e1, s _ _ e2, e3.same s⟩
  | cn ld lt sl tn => obtain ⟨p, e1, e2⟩ := h; exact ⟨p, e1, s _ _ e2⟩
theorem KvAt.same {H H' : Hp} (s : Same H H') {kv : Key × V} {q : Str × Th} (h : KvAt H kv q) : KvAt H' kv q := ⟨h.1, h.2.same s⟩
theorem DvAt.same {H H' : Hp} (s : Same H H') {d : Addr} {vw : Vw} (h : DvAt H d vw) : DvAt H' d vw := by
  obtain ⟨kvs, e, p⟩ := h
  exact ⟨kvs, s _ _ e, pmono (fun _ _ q => q.same s) p⟩
theorem pfindK {H : Hp} {kvs : List (Key × V)} {vw : Vw} (h : Paired (KvAt H) kvs vw) {n : Str} {th : Th} (hf : findV vw n = some th) : ∃ v, valV kvs (Sum.inr n) = some v ∧ ThV H v th := by
  induction h with
  | nil => cases hf
  | @cons kv q as qs r t ih =>
    by_cases hq : q.1 = n
    · have e : findV (q :: qs) n = some q.2 := by
        unfold findV
        rw [List.find?_cons_of_pos (p := fun q : Str × Th => decide (q.1 = n)) (decide_eq_true hq)]
        rfl
      rw [e] at hf
      cases hf
      refine ⟨kv.2, ?_, r.2⟩
      unfold valV
      rw [List.find?_cons_of_pos (p := fun kv : Key × V => decide (kv.1 = Sum.inr n)) (decide_eq_true (by rw [r.1, hq]))]
      rfl
    · have e : findV (q :: qs) n = findV qs n := by
        unfold findV
        rw [List.find?_cons_of_neg (p := fun q : Str × Th => decide (q.1 = n)) (fun z => hq (of_decide_eq_true z))]
      rw [e] at hf
      obtain ⟨v, h1, h2⟩ := ih hf
      refine ⟨v, ?_, h2⟩
      unfold valV at h1 ⊢
      rw [List.find?_cons_of_neg (p := fun kv : Key × V => decide (kv.1 = Sum.inr n)) (fun z => hq (Sum.inr.inj (r.1.symm.trans (of_decide_eq_true z))))]
      exact h1
theorem DvAt.get {H : Hp} {d : Addr} {vw : Vw} (h : DvAt H d vw) {n : Str} {th : Th} (hf : findV vw n = some th) : ∃ v, DGet H d (.str n) (some v) ∧ ThV H v th := by
  obtain ⟨kvs, e, p⟩ := h
  obtain ⟨v, h1, h2⟩ := pfindK p hf
  refine ⟨v, ?_, h2⟩
  have := DGet.k (k := Sum.inr n) e
  rw [h1] at this
  exact this
theorem DvAt.keys {H : Hp} {d : Addr} {vw : Vw} (h : DvAt H d vw) : ∃ kvs, H d = some (.dK kvs) ∧ (kvs.map fun kv => kV kv.1) = vw.map fun q => V.str q.1 := by
  obtain ⟨kvs, e, p⟩ := h
  refine ⟨kvs, e, ?_⟩
  clear e
  induction p with
  | nil => rfl
  | cons r _ ih => rw [List.map_cons, List.map_cons, ih, r.1]; rfl
end Mine
set_option maxHeartbeats 1000000
namespace Mine
open PySem L2
theorem Bk.tight {CB CV CD : Addr} {H : Hp} {x : Addr} {F : Addr → Prop} {vw : Vw} {ps fs : List Vw} (h : Bk CB CV CD H x F vw ps fs) : ∃ F0 : Addr → Prop, (∀ y, F0 y → F y) ∧ (∀ y, F0 y → ∃ xs, H y = some (.lst xs)) ∧ Bk CB CV CD H x F0 vw ps fs := by
  obtain ⟨L, D, U, all, M, Ps, Fs, es, us, b, i, pp, pf, f⟩ := h.ex
  obtain ⟨ds, hD, pD⟩ := b.hD
  obtain ⟨ux, hU, pU⟩ := b.hU
  have dd : ∀ e, e ∈ es ∨ e ∈ us → H e.B = some (.lst e.bs) ∧ H e.A = some (.lst e.as) := fun e he => by
    rcases he with he | he
    · obtain ⟨k, hk⟩ := List.getElem?_of_mem he
      obtain ⟨v, _, q⟩ := pgetR pD hk
      exact ⟨q.2.2.1, q.2.2.2⟩
    · obtain ⟨k, hk⟩ := List.getElem?_of_mem he
      obtain ⟨v, _, q⟩ := pgetR pU hk
      exact ⟨q.2.2.1, q.2.2.2⟩
  refine ⟨fun y => y = L ∨ y = D ∨ y = U ∨ (∃ a ∈ all, y = a.l) ∨ ∃ e, (e ∈ es ∨ e ∈ us) ∧ (y = e.B ∨ y = e.A), fun y hy => ?_, fun y hy => ?_, ⟨⟨L, D, U, all, M, Ps, Fs, es, us, b, i, pp, pf, ⟨.inl rfl, .inr (.inl rfl), .inr (.inr (.inl rfl)), fun a ha => .inr (.inr (.inr (.inl ⟨a, ha, rfl⟩))), fun e he => ⟨.inr (.inr (.inr (.inr ⟨e, he, .inl rfl⟩))), .inr (.inr (.inr (.inr ⟨e, he, .inr rfl⟩)))⟩⟩⟩, h.wv⟩⟩
  · rcases hy with rfl | rfl | rfl | ⟨a, ha, rfl⟩ | ⟨e, he, rfl | rfl⟩
    · exact f.L
    · exact f.D
    · exact f.U
    · exact f.l a ha
    · exact (f.d e he).1
    · exact (f.d e he).2
  · rcases hy with rfl | rfl | rfl | ⟨a, ha, rfl⟩ | ⟨e, he, rfl | rfl⟩
    · exact ⟨_, b.hL⟩
    · exact ⟨_, hD⟩
    · exact ⟨_, hU⟩
    · exact ⟨_, (b.ha a ha).2⟩
    · exact ⟨_, (dd e he).1⟩
    · exact ⟨_, (dd e he).2⟩
structure Bq (c : Cs) (H : Hp) (x : Addr) (own : List Addr) (vw : Vw) (ps fs : List Vw) : Prop where
  ex : ∃ F, BkC c H x F vw ps fs ∧ (∀ y, F y → ∃ xs, H y = some (.lst xs)) ∧ ∀ a ∈ own, ¬ F a ∧ ∃ o, H a = some o
def Keep (own : List Addr) (H H' : Hp) : Prop := ∀ y o, H y = some o → ((∀ xs, o ≠ .lst xs) ∨ y ∈ own) → H' y = some o
section
variable {c : Cs} {H H' H1 : Hp} {x : Addr} {own : List Addr} {vw vw' : Vw} {ps ps' fs fs' : List Vw} {F F' : Addr → Prop}
theorem Keep.tup (k : Keep own H H') {p : Addr} {xs : List V} (h : H p = some (.tup xs)) : H' p = some (.tup xs) := k _ _ h (.inl fun _ z => nomatch z)
end
theorem merge2 {a b : Str} (h : a ≠ b) (v w : V) : mergeK [] [((Sum.inr a : Key), v), ((Sum.inr b : Key), w)] = [((Sum.inr a : Key), v), ((Sum.inr b : Key), w)] := by
  unfold mergeK
  simp only [List.foldl]
  have h1 : valV ([] : List (Key × V)) (Sum.inr a) = none := rfl
  rw [putK_new v h1]
  have h2 : valV ([] ++ [((Sum.inr a : Key), v)]) (Sum.inr b) = none := by
    unfold valV
    simp [h]
  rw [putK_new w h2]
  rfl
end Mine
namespace Mine
end Mine
set_option maxHeartbeats 1000000
local macro_rules | `(tactic| array_get_dec) => `(tactic| first
  | refine ⟨_, rfl, ?_⟩
  | refine ⟨_, _, rfl, rfl, ⟨by decide, by decide⟩, ?_⟩
  | refine ⟨_, _, rfl, rfl, (by first | decide | (show (0 : Int) < _; decide)), ?_⟩
  | refine .inl ⟨_, _, rfl, rfl, .inr ⟨by decide, by decide⟩, ?_⟩
  | refine ⟨_, _, rfl, rfl, ?_⟩
  | refine .inl ⟨_, _, rfl, rfl, ?_⟩
  | refine .inl ⟨rfl, ?_⟩
  | refine .inr ⟨_, _, rfl, rfl, ?_⟩
  | refine Mine.ix0 (by assumption) ?_
  | refine Mine.ix1 (by assumption) ?_)
namespace Mine
open PySem L2
def top (i : Nat) : Stmt := PySem.Challenge.pw_noteworth_k38_canons_read.main.body.getD i (.Pass ⟨0, 0, 0, 0⟩)
abbrev s_Book___init__ : Stmt := inClass (top 61) 0
abbrev s_is_name : Stmt := top 55
abbrev s_Book_names : Stmt := inClass (top 61) 9
abbrev s_Book_refuse_new : Stmt := inClass (top 61) 16
abbrev s_Deed_do : Stmt := inClass (top 54) 1
abbrev s_Book_perform : Stmt := inClass (top 61) 14
abbrev s_Deed___init__ : Stmt := inClass (top 54) 0
abbrev s_Book_put_in : Stmt := inClass (top 61) 15
abbrev s_Voice___init__ : Stmt := inClass (top 53) 0
abbrev s_Book_add_voice : Stmt := inClass (top 61) 1
abbrev s_l_sign_by : Stmt := top 66
abbrev s_refuse_other_places : Stmt := top 56
abbrev s_good : Stmt := top 21
abbrev s_refuse_bad_sign : Stmt := top 57
abbrev s_small : Stmt := top 22
abbrev s_low_end : Stmt := top 58
abbrev s_high_end : Stmt := top 59
abbrev s_sets_measure : Stmt := top 23
abbrev s_window : Stmt := top 60
abbrev s_Book_voice_called : Stmt := inClass (top 61) 17
abbrev s_Book_plain_voice : Stmt := inClass (top 61) 18
abbrev s_Book_put : Stmt := inClass (top 61) 4
abbrev s_Deed_undo : Stmt := inClass (top 54) 2
abbrev s_Book_undo : Stmt := inClass (top 61) 7
abbrev s_Book_canon : Stmt := inClass (top 61) 12
abbrev s_turned : Stmt := top 28
abbrev s_Book_line : Stmt := inClass (top 61) 10
abbrev s_l_whole : Stmt := top 74
abbrev s_l_signs : Stmt := top 76
abbrev s_l_nums : Stmt := top 75
abbrev s_measures : Stmt := top 26
abbrev s_kind_at : Stmt := top 37
abbrev s_plain_worth : Stmt := top 36
abbrev s_worths_without_runs : Stmt := top 38
abbrev s_runs : Stmt := top 27
abbrev s_has_left_note : Stmt := top 39
abbrev s_has_right_note : Stmt := top 40
abbrev s_settle_one_over : Stmt := top 41
abbrev s_settle_two_over : Stmt := top 42
abbrev s_settle_run : Stmt := top 43
abbrev s_reading : Stmt := top 44
abbrev s_worths : Stmt := top 45
abbrev s_Book_kept : Stmt := inClass (top 61) 11
abbrev s_l_line_of : Stmt := top 68
abbrev s_l_base : Stmt := top 70
abbrev s_l_three : Stmt := top 71
abbrev s_l_run : Stmt := top 72
abbrev s_l_read : Stmt := top 73
abbrev s_l_kept_of : Stmt := top 69
abbrev s_l_stands : Stmt := top 77
abbrev s_l_cell_at : Stmt := top 63
abbrev s_l_mixed : Stmt := top 64
abbrev s_l_numbers : Stmt := top 65
abbrev s_l_line : Stmt := top 67
abbrev s_Book_add_canon : Stmt := inClass (top 61) 2
abbrev s_law : Stmt := top 81
theorem sc_Book___init__ : FnScope ["self"] ["self"] (defScope s_Book___init__) := ⟨rfl, rfl, rfl, by decide +kernel, rfl, by decide +kernel, by decide +kernel⟩
theorem sc_is_name : FnScope ["name"] ["name"] (defScope s_is_name) := ⟨rfl, rfl, rfl, by decide +kernel, rfl, by decide +kernel, by decide +kernel⟩
theorem sc_Book_names : FnScope ["self"] ["self"] (defScope s_Book_names) := ⟨rfl, rfl, rfl, by decide +kernel, rfl, by decide +kernel, by decide +kernel⟩
theorem sc_Book_refuse_new : FnScope ["self", "name"] ["self", "name"] (defScope s_Book_refuse_new) := ⟨rfl, rfl, rfl, by decide +kernel, rfl, by decide +kernel, by decide +kernel⟩
theorem sc_Deed_do : FnScope ["self"] ["self"] (defScope s_Deed_do) := ⟨rfl, rfl, rfl, by decide +kernel, rfl, by decide +kernel, by decide +kernel⟩
theorem sc_Book_perform : FnScope ["self", "deed"] ["self", "deed"] (defScope s_Book_perform) := ⟨rfl, rfl, rfl, by decide +kernel, rfl, by decide +kernel, by decide +kernel⟩
theorem sc_Deed___init__ : FnScope ["self", "things", "at", "before", "after"] ["self", "things", "at", "before", "after"] (defScope s_Deed___init__) := ⟨rfl, rfl, rfl, by decide +kernel, rfl, by decide +kernel, by decide +kernel⟩
theorem sc_Book_put_in : FnScope ["self", "voice"] ["self", "voice"] (defScope s_Book_put_in) := ⟨rfl, rfl, rfl, by decide +kernel, rfl, by decide +kernel, by decide +kernel⟩
theorem sc_Voice___init__ : FnScope ["self", "name", "terms"] ["self", "name", "terms"] (defScope s_Voice___init__) := ⟨rfl, rfl, rfl, by decide +kernel, rfl, by decide +kernel, by decide +kernel⟩
theorem sc_Book_add_voice : FnScope ["self", "name"] ["self", "name"] (defScope s_Book_add_voice) := ⟨rfl, rfl, rfl, by decide +kernel, rfl, by decide +kernel, by decide +kernel⟩
theorem sc_l_sign_by : FnScope ["_law_number", "_law_kind"] ["_law_number"] (defScope s_l_sign_by) := ⟨rfl, rfl, rfl, by decide +kernel, rfl, by decide +kernel, by decide +kernel⟩
theorem sc_refuse_other_places : FnScope ["at", "last"] ["at", "last"] (defScope s_refuse_other_places) := ⟨rfl, rfl, rfl, by decide +kernel, rfl, by decide +kernel, by decide +kernel⟩
theorem sc_good : FnScope ["sign", "kind", "tone"] ["sign"] (defScope s_good) := ⟨rfl, rfl, rfl, by decide +kernel, rfl, by decide +kernel, by decide +kernel⟩
theorem sc_refuse_bad_sign : FnScope ["sign"] ["sign"] (defScope s_refuse_bad_sign) := ⟨rfl, rfl, rfl, by decide +kernel, rfl, by decide +kernel, by decide +kernel⟩
theorem sc_small : FnScope ["sign"] ["sign"] (defScope s_small) := ⟨rfl, rfl, rfl, by decide +kernel, rfl, by decide +kernel, by decide +kernel⟩
theorem sc_low_end : FnScope ["line", "at", "met", "place"] ["line", "at"] (defScope s_low_end) := ⟨rfl, rfl, rfl, by decide +kernel, rfl, by decide +kernel, by decide +kernel⟩
theorem sc_high_end : FnScope ["line", "first", "kinds", "place"] ["line", "first", "kinds"] (defScope s_high_end) := ⟨rfl, rfl, rfl, by decide +kernel, rfl, by decide +kernel, by decide +kernel⟩
theorem sc_sets_measure : FnScope ["sign"] ["sign"] (defScope s_sets_measure) := ⟨rfl, rfl, rfl, by decide +kernel, rfl, by decide +kernel, by decide +kernel⟩
theorem sc_window : FnScope ["line", "at", "behind", "changed", "kinds"] ["line", "at", "behind", "changed"] (defScope s_window) := ⟨rfl, rfl, rfl, by decide +kernel, rfl, by decide +kernel, by decide +kernel⟩
theorem sc_Book_voice_called : FnScope ["self", "name", "voice"] ["self", "name"] (defScope s_Book_voice_called) := ⟨rfl, rfl, rfl, by decide +kernel, rfl, by decide +kernel, by decide +kernel⟩
theorem sc_Book_plain_voice : FnScope ["self", "name", "voice"] ["self", "name"] (defScope s_Book_plain_voice) := ⟨rfl, rfl, rfl, by decide +kernel, rfl, by decide +kernel, by decide +kernel⟩
theorem sc_Book_put : FnScope ["self", "name", "at", "sign", "signs"] ["self", "name", "at", "sign"] (defScope s_Book_put) := ⟨rfl, rfl, rfl, by decide +kernel, rfl, by decide +kernel, by decide +kernel⟩
theorem sc_Deed_undo : FnScope ["self"] ["self"] (defScope s_Deed_undo) := ⟨rfl, rfl, rfl, by decide +kernel, rfl, by decide +kernel, by decide +kernel⟩
theorem sc_Book_undo : FnScope ["self", "deed"] ["self"] (defScope s_Book_undo) := ⟨rfl, rfl, rfl, by decide +kernel, rfl, by decide +kernel, by decide +kernel⟩
theorem sc_Book_canon : FnScope ["self", "name"] ["self", "name"] (defScope s_Book_canon) := ⟨rfl, rfl, rfl, by decide +kernel, rfl, by decide +kernel, by decide +kernel⟩
theorem sc_turned : FnScope ["line"] ["line"] (defScope s_turned) := ⟨rfl, rfl, rfl, by decide +kernel, rfl, by decide +kernel, by decide +kernel⟩
theorem sc_Book_line : FnScope ["self", "name", "terms", "leader", "later", "slow", "is_turned", "heard"] ["self", "name"] (defScope s_Book_line) := ⟨rfl, rfl, rfl, by decide +kernel, rfl, by decide +kernel, by decide +kernel⟩
theorem sc_l_whole : FnScope ["_law_found"] ["_law_found"] (defScope s_l_whole) := ⟨rfl, rfl, rfl, by decide +kernel, rfl, by decide +kernel, by decide +kernel⟩
theorem sc_l_signs : FnScope ["_law_found", "_law_due", "_law_one", "_law_other"] ["_law_found", "_law_due"] (defScope s_l_signs) := ⟨rfl, rfl, rfl, by decide +kernel, rfl, by decide +kernel, by decide +kernel⟩
theorem sc_l_nums : FnScope ["_law_found", "_law_due", "_law_k"] ["_law_found", "_law_due"] (defScope s_l_nums) := ⟨rfl, rfl, rfl, by decide +kernel, rfl, by decide +kernel, by decide +kernel⟩
theorem sc_measures : FnScope ["line", "begin", "found", "measure", "sign"] ["line", "begin"] (defScope s_measures) := ⟨rfl, rfl, rfl, by decide +kernel, rfl, by decide +kernel, by decide +kernel⟩
theorem sc_kind_at : FnScope ["line", "at"] ["line", "at"] (defScope s_kind_at) := ⟨rfl, rfl, rfl, by decide +kernel, rfl, by decide +kernel, by decide +kernel⟩
theorem sc_plain_worth : FnScope ["kind", "measure"] ["kind", "measure"] (defScope s_plain_worth) := ⟨rfl, rfl, rfl, by decide +kernel, rfl, by decide +kernel, by decide +kernel⟩
theorem sc_worths_without_runs : FnScope ["line", "begin", "found", "at", "measure"] ["line", "begin"] (defScope s_worths_without_runs) := ⟨rfl, rfl, rfl, by decide +kernel, rfl, by decide +kernel, by decide +kernel⟩
theorem sc_runs : FnScope ["line", "begin", "found", "first", "at", "sign", "measure"] ["line", "begin"] (defScope s_runs) := ⟨rfl, rfl, rfl, by decide +kernel, rfl, by decide +kernel, by decide +kernel⟩
theorem sc_has_left_note : FnScope ["line", "found", "first"] ["line", "found", "first"] (defScope s_has_left_note) := ⟨rfl, rfl, rfl, by decide +kernel, rfl, by decide +kernel, by decide +kernel⟩
theorem sc_has_right_note : FnScope ["line", "behind"] ["line", "behind"] (defScope s_has_right_note) := ⟨rfl, rfl, rfl, by decide +kernel, rfl, by decide +kernel, by decide +kernel⟩
theorem sc_settle_one_over : FnScope ["line", "found", "first", "behind"] ["line", "found", "first", "behind"] (defScope s_settle_one_over) := ⟨rfl, rfl, rfl, by decide +kernel, rfl, by decide +kernel, by decide +kernel⟩
theorem sc_settle_two_over : FnScope ["line", "found", "first", "behind"] ["line", "found", "first", "behind"] (defScope s_settle_two_over) := ⟨rfl, rfl, rfl, by decide +kernel, rfl, by decide +kernel, by decide +kernel⟩
theorem sc_settle_run : FnScope ["line", "found", "first", "behind", "rest"] ["line", "found", "first", "behind"] (defScope s_settle_run) := ⟨rfl, rfl, rfl, by decide +kernel, rfl, by decide +kernel, by decide +kernel⟩
theorem sc_reading : FnScope ["line", "begin", "found", "loose_runs", "first", "behind"] ["line", "begin"] (defScope s_reading) := ⟨rfl, rfl, rfl, by decide +kernel, rfl, by decide +kernel, by decide +kernel⟩
theorem sc_worths : FnScope ["line", "begin"] ["line", "begin"] (defScope s_worths) := ⟨rfl, rfl, rfl, by decide +kernel, rfl, by decide +kernel, by decide +kernel⟩
theorem sc_Book_kept : FnScope ["self", "name", "terms", "leader", "later", "slow", "is_turned", "begin"] ["self", "name"] (defScope s_Book_kept) := ⟨rfl, rfl, rfl, by decide +kernel, rfl, by decide +kernel, by decide +kernel⟩
theorem sc_l_line_of : FnScope ["_law_voices", "_law_name", "_law_thing", "_law_told", "_law_sign", "_law_kind"] ["_law_voices", "_law_name"] (defScope s_l_line_of) := ⟨rfl, rfl, rfl, by decide +kernel, rfl, by decide +kernel, by decide +kernel⟩
theorem sc_l_base : FnScope ["_law_line_here", "_law_begin", "_law_told", "_law_now", "_law_at", "_law_kind"] ["_law_line_here", "_law_begin"] (defScope s_l_base) := ⟨rfl, rfl, rfl, by decide +kernel, rfl, by decide +kernel, by decide +kernel⟩
theorem sc_l_three : FnScope ["_law_line_here", "_law_begin", "_law_told", "_law_now", "_law_sign"] ["_law_line_here", "_law_begin"] (defScope s_l_three) := ⟨rfl, rfl, rfl, by decide +kernel, rfl, by decide +kernel, by decide +kernel⟩
theorem sc_l_run : FnScope ["_law_line_here", "_law_told", "_law_low", "_law_high", "_law_rest", "_law_behind", "_law_after", "_law_left", "_law_right"] ["_law_line_here", "_law_told", "_law_low", "_law_high"] (defScope s_l_run) := ⟨rfl, rfl, rfl, by decide +kernel, rfl, by decide +kernel, by decide +kernel⟩
theorem sc_l_read : FnScope ["_law_line_here", "_law_begin", "_law_told", "_law_three_here", "_law_left", "_law_low", "_law_high"] ["_law_line_here", "_law_begin"] (defScope s_l_read) := ⟨rfl, rfl, rfl, by decide +kernel, rfl, by decide +kernel, by decide +kernel⟩
theorem sc_l_kept_of : FnScope ["_law_voices", "_law_name", "_law_thing", "_law_line_here"] ["_law_voices", "_law_name"] (defScope s_l_kept_of) := ⟨rfl, rfl, rfl, by decide +kernel, rfl, by decide +kernel, by decide +kernel⟩
theorem sc_l_stands : FnScope ["_law_book", "_law_voices", "_law_told", "_law_name", "_law_terms"] ["_law_book", "_law_voices"] (defScope s_l_stands) := ⟨rfl, rfl, rfl, by decide +kernel, rfl, by decide +kernel, by decide +kernel⟩
theorem sc_l_cell_at : FnScope ["_law_script", "_law_k"] ["_law_script", "_law_k"] (defScope s_l_cell_at) := ⟨rfl, rfl, rfl, by decide +kernel, rfl, by decide +kernel, by decide +kernel⟩
theorem sc_l_mixed : FnScope ["_law_seed", "_law_k", "_law_one", "_law_two"] ["_law_seed", "_law_k"] (defScope s_l_mixed) := ⟨rfl, rfl, rfl, by decide +kernel, rfl, by decide +kernel, by decide +kernel⟩
theorem sc_l_numbers : FnScope ["_law_script", "_law_at", "_law_many", "_law_seed", "_law_left", "_law_row"] ["_law_script", "_law_at", "_law_many"] (defScope s_l_numbers) := ⟨rfl, rfl, rfl, by decide +kernel, rfl, by decide +kernel, by decide +kernel⟩
theorem sc_l_line : FnScope ["_law_script", "_law_at", "_law_many"] ["_law_script", "_law_at", "_law_many"] (defScope s_l_line) := ⟨rfl, rfl, rfl, by decide +kernel, rfl, by decide +kernel, by decide +kernel⟩
theorem sc_Book_add_canon : FnScope ["self", "name", "leader", "later", "slow", "is_turned"] ["self", "name", "leader", "later", "slow", "is_turned"] (defScope s_Book_add_canon) := ⟨rfl, rfl, rfl, by decide +kernel, rfl, by decide +kernel, by decide +kernel⟩
theorem sc_law : FnScope ["_law_script", "_law_line_here", "_law_terms", "_law_book", "_law_at", "_law_sign", "_law_found"] ["_law_script"] (defScope s_law) := ⟨rfl, rfl, rfl, by decide +kernel, rfl, by decide +kernel, by decide +kernel⟩
theorem nd_is_name_0 : (["letter", "name"] : List Str).Nodup := by decide +kernel
theorem nd_Book_names_1 : (["voice", "self"] : List Str).Nodup := by decide +kernel
theorem nd_window_2 : (["sign", "line", "at", "behind", "changed", "kinds"] : List Str).Nodup := by decide +kernel
theorem nd_turned_3 : (["kind", "tone", "line"] : List Str).Nodup := by decide +kernel
theorem nd_Book_kept_4 : (["worth", "self", "name", "terms", "leader", "later", "slow", "is_turned", "begin"] : List Str).Nodup := by decide +kernel
theorem nd_l_kept_of_5 : (["_law_worth", "_law_voices", "_law_name", "_law_thing", "_law_line_here"] : List Str).Nodup := by decide +kernel
theorem nd_l_numbers_6 : (["_law_k", "_law_script", "_law_at", "_law_many", "_law_seed", "_law_left", "_law_row"] : List Str).Nodup := by decide +kernel
theorem nd_l_line_7 : (["_law_number", "_law_script", "_law_at", "_law_many"] : List Str).Nodup := by decide +kernel
structure Adr where
  f_Book___init__ : Addr
  d_Book___init__ : FuncData
  f_is_name : Addr
  d_is_name : FuncData
  f_Book_names : Addr
  d_Book_names : FuncData
  f_Book_refuse_new : Addr
  d_Book_refuse_new : FuncData
  f_Deed_do : Addr
  d_Deed_do : FuncData
  f_Book_perform : Addr
  d_Book_perform : FuncData
  f_Deed___init__ : Addr
  d_Deed___init__ : FuncData
  f_Book_put_in : Addr
  d_Book_put_in : FuncData
  f_Voice___init__ : Addr
  d_Voice___init__ : FuncData
  f_Book_add_voice : Addr
  d_Book_add_voice : FuncData
  f_l_sign_by : Addr
  d_l_sign_by : FuncData
  f_refuse_other_places : Addr
  d_refuse_other_places : FuncData
  f_good : Addr
  d_good : FuncData
  f_refuse_bad_sign : Addr
  d_refuse_bad_sign : FuncData
  f_small : Addr
  d_small : FuncData
  f_low_end : Addr
  d_low_end : FuncData
  f_high_end : Addr
  d_high_end : FuncData
  f_sets_measure : Addr
  d_sets_measure : FuncData
  f_window : Addr
  d_window : FuncData
  f_Book_voice_called : Addr
  d_Book_voice_called : FuncData
  f_Book_plain_voice : Addr
  d_Book_plain_voice : FuncData
  f_Book_put : Addr
  d_Book_put : FuncData
  f_Deed_undo : Addr
  d_Deed_undo : FuncData
  f_Book_undo : Addr
  d_Book_undo : FuncData
  f_Book_canon : Addr
  d_Book_canon : FuncData
  f_turned : Addr
  d_turned : FuncData
  f_Book_line : Addr
  d_Book_line : FuncData
  f_l_whole : Addr
  d_l_whole : FuncData
  f_l_signs : Addr
  d_l_signs : FuncData
  f_l_nums : Addr
  d_l_nums : FuncData
  f_measures : Addr
  d_measures : FuncData
  df_measures : Addr
  dt0_measures : Tok
  f_kind_at : Addr
  d_kind_at : FuncData
  f_plain_worth : Addr
  d_plain_worth : FuncData
  f_worths_without_runs : Addr
  d_worths_without_runs : FuncData
  f_runs : Addr
  d_runs : FuncData
  df_runs : Addr
  dt0_runs : Tok
  f_has_left_note : Addr
  d_has_left_note : FuncData
  f_has_right_note : Addr
  d_has_right_note : FuncData
  f_settle_one_over : Addr
  d_settle_one_over : FuncData
  f_settle_two_over : Addr
  d_settle_two_over : FuncData
  f_settle_run : Addr
  d_settle_run : FuncData
  f_reading : Addr
  d_reading : FuncData
  f_worths : Addr
  d_worths : FuncData
  df_worths : Addr
  dt0_worths : Tok
  f_Book_kept : Addr
  d_Book_kept : FuncData
  f_l_line_of : Addr
  d_l_line_of : FuncData
  f_l_base : Addr
  d_l_base : FuncData
  f_l_three : Addr
  d_l_three : FuncData
  f_l_run : Addr
  d_l_run : FuncData
  f_l_read : Addr
  d_l_read : FuncData
  f_l_kept_of : Addr
  d_l_kept_of : FuncData
  f_l_stands : Addr
  d_l_stands : FuncData
  f_l_cell_at : Addr
  d_l_cell_at : FuncData
  f_l_mixed : Addr
  d_l_mixed : FuncData
  f_l_numbers : Addr
  d_l_numbers : FuncData
  f_l_line : Addr
  d_l_line : FuncData
  f_Book_add_canon : Addr
  d_Book_add_canon : FuncData
  df_Book_add_canon : Addr
  dt0_Book_add_canon : Tok
  dt1_Book_add_canon : Tok
  f_law : Addr
  d_law : FuncData
  a_GREAT_KINDS : Addr
  a_SMALL_KINDS : Addr
  a_PARTING_KINDS : Addr
  a_MEASURE_KINDS : Addr
  a_SOUNDING_KINDS : Addr
  a_SILENT_KINDS : Addr
  t_HIGHEST_TONE : Tok
  a_TURNED_KINDS : Addr
  a_PLAIN_WORTHS : Addr
  a_TWOFOLD_WORTHS : Addr
  t_FULL_WORTH : Tok
  t_SHORTENED_WORTH : Tok
  t_DOUBLED_WORTH : Tok
  t_DOTTED_WORTH : Tok
  t_LETTERS : Tok
  t_LONGEST_NAME : Tok
  t_MOST_VOICES : Tok
  t_MOST_SIGNS : Tok
  t_LATEST : Tok
  t_SLOWEST : Tok
  C_Voice : Addr
  C_Deed : Addr
  C_Book : Addr
structure Txt (K : PySem.W.Frag) (w : World) (mg : Str → Option Value) (t : Adr) : Prop where
  F_Book___init__ : Fun K "__init__" "Book.__init__" s_Book___init__ t.f_Book___init__ t.d_Book___init__
  b_Book___init__ : Binds K t.d_Book___init__ ["self"] []
  F_is_name : Fun K "is_name" "is_name" s_is_name t.f_is_name t.d_is_name
  b_is_name : Binds K t.d_is_name ["name"] []
  mg_is_name : mg "is_name" = some (.ref t.f_is_name)
  F_Book_names : Fun K "names" "Book.names" s_Book_names t.f_Book_names t.d_Book_names
  b_Book_names : Binds K t.d_Book_names ["self"] []
  me_Book_names : Meth K t.C_Book "names" t.f_Book_names
  F_Book_refuse_new : Fun K "refuse_new" "Book.refuse_new" s_Book_refuse_new t.f_Book_refuse_new t.d_Book_refuse_new
  b_Book_refuse_new : Binds K t.d_Book_refuse_new ["self", "name"] []
  me_Book_refuse_new : Meth K t.C_Book "refuse_new" t.f_Book_refuse_new
  F_Deed_do : Fun K "do" "Deed.do" s_Deed_do t.f_Deed_do t.d_Deed_do
  b_Deed_do : Binds K t.d_Deed_do ["self"] []
  me_Deed_do : Meth K t.C_Deed "do" t.f_Deed_do
  F_Book_perform : Fun K "perform" "Book.perform" s_Book_perform t.f_Book_perform t.d_Book_perform
  b_Book_perform : Binds K t.d_Book_perform ["self", "deed"] []
  me_Book_perform : Meth K t.C_Book "perform" t.f_Book_perform
  F_Deed___init__ : Fun K "__init__" "Deed.__init__" s_Deed___init__ t.f_Deed___init__ t.d_Deed___init__
  b_Deed___init__ : Binds K t.d_Deed___init__ ["self", "things", "at", "before", "after"] []
  F_Book_put_in : Fun K "put_in" "Book.put_in" s_Book_put_in t.f_Book_put_in t.d_Book_put_in
  b_Book_put_in : Binds K t.d_Book_put_in ["self", "voice"] []
  me_Book_put_in : Meth K t.C_Book "put_in" t.f_Book_put_in
  F_Voice___init__ : Fun K "__init__" "Voice.__init__" s_Voice___init__ t.f_Voice___init__ t.d_Voice___init__
  b_Voice___init__ : Binds K t.d_Voice___init__ ["self", "name", "terms"] []
  F_Book_add_voice : Fun K "add_voice" "Book.add_voice" s_Book_add_voice t.f_Book_add_voice t.d_Book_add_voice
  b_Book_add_voice : Binds K t.d_Book_add_voice ["self", "name"] []
  me_Book_add_voice : Meth K t.C_Book "add_voice" t.f_Book_add_voice
  F_l_sign_by : Fun K "_law_sign_by" "_law_sign_by" s_l_sign_by t.f_l_sign_by t.d_l_sign_by
  b_l_sign_by : Binds K t.d_l_sign_by ["_law_number"] []
  mg_l_sign_by : mg "_law_sign_by" = some (.ref t.f_l_sign_by)
  F_refuse_other_places : Fun K "refuse_other_places" "refuse_other_places" s_refuse_other_places t.f_refuse_other_places t.d_refuse_other_places
  b_refuse_other_places : Binds K t.d_refuse_other_places ["at", "last"] []
  mg_refuse_other_places : mg "refuse_other_places" = some (.ref t.f_refuse_other_places)
  F_good : Fun K "good" "good" s_good t.f_good t.d_good
  b_good : Binds K t.d_good ["sign"] []
  mg_good : mg "good" = some (.ref t.f_good)
  F_refuse_bad_sign : Fun K "refuse_bad_sign" "refuse_bad_sign" s_refuse_bad_sign t.f_refuse_bad_sign t.d_refuse_bad_sign
  b_refuse_bad_sign : Binds K t.d_refuse_bad_sign ["sign"] []
  mg_refuse_bad_sign : mg "refuse_bad_sign" = some (.ref t.f_refuse_bad_sign)
  F_small : Fun K "small" "small" s_small t.f_small t.d_small
  b_small : Binds K t.d_small ["sign"] []
  mg_small : mg "small" = some (.ref t.f_small)
  F_low_end : Fun K "low_end" "low_end" s_low_end t.f_low_end t.d_low_end
  b_low_end : Binds K t.d_low_end ["line", "at"] []
  mg_low_end : mg "low_end" = some (.ref t.f_low_end)
  F_high_end : Fun K "high_end" "high_end" s_high_end t.f_high_end t.d_high_end
  b_high_end : Binds K t.d_high_end ["line", "first", "kinds"] []
  mg_high_end : mg "high_end" = some (.ref t.f_high_end)
  F_sets_measure : Fun K "sets_measure" "sets_measure" s_sets_measure t.f_sets_measure t.d_sets_measure
  b_sets_measure : Binds K t.d_sets_measure ["sign"] []
  mg_sets_measure : mg "sets_measure" = some (.ref t.f_sets_measure)
  F_window : Fun K "window" "window" s_window t.f_window t.d_window
  b_window : Binds K t.d_window ["line", "at", "behind", "changed"] []
  mg_window : mg "window" = some (.ref t.f_window)
  F_Book_voice_called : Fun K "voice_called" "Book.voice_called" s_Book_voice_called t.f_Book_voice_called t.d_Book_voice_called
  b_Book_voice_called : Binds K t.d_Book_voice_called ["self", "name"] []
  me_Book_voice_called : Meth K t.C_Book "voice_called" t.f_Book_voice_called
  F_Book_plain_voice : Fun K "plain_voice" "Book.plain_voice" s_Book_plain_voice t.f_Book_plain_voice t.d_Book_plain_voice
  b_Book_plain_voice : Binds K t.d_Book_plain_voice ["self", "name"] []
  me_Book_plain_voice : Meth K t.C_Book "plain_voice" t.f_Book_plain_voice
  F_Book_put : Fun K "put" "Book.put" s_Book_put t.f_Book_put t.d_Book_put
  b_Book_put : Binds K t.d_Book_put ["self", "name", "at", "sign"] []
  me_Book_put : Meth K t.C_Book "put" t.f_Book_put
  F_Deed_undo : Fun K "undo" "Deed.undo" s_Deed_undo t.f_Deed_undo t.d_Deed_undo
  b_Deed_undo : Binds K t.d_Deed_undo ["self"] []
  me_Deed_undo : Meth K t.C_Deed "undo" t.f_Deed_undo
  F_Book_undo : Fun K "undo" "Book.undo" s_Book_undo t.f_Book_undo t.d_Book_undo
  b_Book_undo : Binds K t.d_Book_undo ["self"] []
  me_Book_undo : Meth K t.C_Book "undo" t.f_Book_undo
  F_Book_canon : Fun K "canon" "Book.canon" s_Book_canon t.f_Book_canon t.d_Book_canon
  b_Book_canon : Binds K t.d_Book_canon ["self", "name"] []
  me_Book_canon : Meth K t.C_Book "canon" t.f_Book_canon
  F_turned : Fun K "turned" "turned" s_turned t.f_turned t.d_turned
  b_turned : Binds K t.d_turned ["line"] []
  mg_turned : mg "turned" = some (.ref t.f_turned)
  F_Book_line : Fun K "line" "Book.line" s_Book_line t.f_Book_line t.d_Book_line
  b_Book_line : Binds K t.d_Book_line ["self", "name"] []
  me_Book_line : Meth K t.C_Book "line" t.f_Book_line
  F_l_whole : Fun K "_law_whole" "_law_whole" s_l_whole t.f_l_whole t.d_l_whole
  b_l_whole : Binds K t.d_l_whole ["_law_found"] []
  mg_l_whole : mg "_law_whole" = some (.ref t.f_l_whole)
  F_l_signs : Fun K "_law_signs" "_law_signs" s_l_signs t.f_l_signs t.d_l_signs
  b_l_signs : Binds K t.d_l_signs ["_law_found", "_law_due"] []
  mg_l_signs : mg "_law_signs" = some (.ref t.f_l_signs)
  F_l_nums : Fun K "_law_nums" "_law_nums" s_l_nums t.f_l_nums t.d_l_nums
  b_l_nums : Binds K t.d_l_nums ["_law_found", "_law_due"] []
  mg_l_nums : mg "_law_nums" = some (.ref t.f_l_nums)
  F_measures : FunD K "measures" "measures" s_measures t.f_measures t.d_measures (.ref t.df_measures)
  bd_measures : Binds K t.d_measures ["line", "begin"] [.int 3 t.dt0_measures]
  b_measures : Binds K t.d_measures ["line", "begin"] []
  mg_measures : mg "measures" = some (.ref t.f_measures)
  F_kind_at : Fun K "kind_at" "kind_at" s_kind_at t.f_kind_at t.d_kind_at
  b_kind_at : Binds K t.d_kind_at ["line", "at"] []
  mg_kind_at : mg "kind_at" = some (.ref t.f_kind_at)
  F_plain_worth : Fun K "plain_worth" "plain_worth" s_plain_worth t.f_plain_worth t.d_plain_worth
  b_plain_worth : Binds K t.d_plain_worth ["kind", "measure"] []
  mg_plain_worth : mg "plain_worth" = some (.ref t.f_plain_worth)
  F_worths_without_runs : Fun K "worths_without_runs" "worths_without_runs" s_worths_without_runs t.f_worths_without_runs t.d_worths_without_runs
  b_worths_without_runs : Binds K t.d_worths_without_runs ["line", "begin"] []
  mg_worths_without_runs : mg "worths_without_runs" = some (.ref t.f_worths_without_runs)
  F_runs : FunD K "runs" "runs" s_runs t.f_runs t.d_runs (.ref t.df_runs)
  bd_runs : Binds K t.d_runs ["line", "begin"] [.int 3 t.dt0_runs]
  b_runs : Binds K t.d_runs ["line", "begin"] []
  mg_runs : mg "runs" = some (.ref t.f_runs)
  F_has_left_note : Fun K "has_left_note" "has_left_note" s_has_left_note t.f_has_left_note t.d_has_left_note
  b_has_left_note : Binds K t.d_has_left_note ["line", "found", "first"] []
  mg_has_left_note : mg "has_left_note" = some (.ref t.f_has_left_note)
  F_has_right_note : Fun K "has_right_note" "has_right_note" s_has_right_note t.f_has_right_note t.d_has_right_note
  b_has_right_note : Binds K t.d_has_right_note ["line", "behind"] []
  mg_has_right_note : mg "has_right_note" = some (.ref t.f_has_right_note)
  F_settle_one_over : Fun K "settle_one_over" "settle_one_over" s_settle_one_over t.f_settle_one_over t.d_settle_one_over
  b_settle_one_over : Binds K t.d_settle_one_over ["line", "found", "first", "behind"] []
  mg_settle_one_over : mg "settle_one_over" = some (.ref t.f_settle_one_over)
  F_settle_two_over : Fun K "settle_two_over" "settle_two_over" s_settle_two_over t.f_settle_two_over t.d_settle_two_over
  b_settle_two_over : Binds K t.d_settle_two_over ["line", "found", "first", "behind"] []
  mg_settle_two_over : mg "settle_two_over" = some (.ref t.f_settle_two_over)
  F_settle_run : Fun K "settle_run" "settle_run" s_settle_run t.f_settle_run t.d_settle_run
  b_settle_run : Binds K t.d_settle_run ["line", "found", "first", "behind"] []
  mg_settle_run : mg "settle_run" = some (.ref t.f_settle_run)
  F_reading : Fun K "reading" "reading" s_reading t.f_reading t.d_reading
  b_reading : Binds K t.d_reading ["line", "begin"] []
  mg_reading : mg "reading" = some (.ref t.f_reading)
  F_worths : FunD K "worths" "worths" s_worths t.f_worths t.d_worths (.ref t.df_worths)
  bd_worths : Binds K t.d_worths ["line", "begin"] [.int 3 t.dt0_worths]
  b_worths : Binds K t.d_worths ["line", "begin"] []
  mg_worths : mg "worths" = some (.ref t.f_worths)
  F_Book_kept : Fun K "kept" "Book.kept" s_Book_kept t.f_Book_kept t.d_Book_kept
  b_Book_kept : Binds K t.d_Book_kept ["self", "name"] []
  me_Book_kept : Meth K t.C_Book "kept" t.f_Book_kept
  F_l_line_of : Fun K "_law_line_of" "_law_line_of" s_l_line_of t.f_l_line_of t.d_l_line_of
  b_l_line_of : Binds K t.d_l_line_of ["_law_voices", "_law_name"] []
  mg_l_line_of : mg "_law_line_of" = some (.ref t.f_l_line_of)
  F_l_base : Fun K "_law_base" "_law_base" s_l_base t.f_l_base t.d_l_base
  b_l_base : Binds K t.d_l_base ["_law_line_here", "_law_begin"] []
  mg_l_base : mg "_law_base" = some (.ref t.f_l_base)
  F_l_three : Fun K "_law_three" "_law_three" s_l_three t.f_l_three t.d_l_three
  b_l_three : Binds K t.d_l_three ["_law_line_here", "_law_begin"] []
  mg_l_three : mg "_law_three" = some (.ref t.f_l_three)
  F_l_run : Fun K "_law_run" "_law_run" s_l_run t.f_l_run t.d_l_run
  b_l_run : Binds K t.d_l_run ["_law_line_here", "_law_told", "_law_low", "_law_high"] []
  mg_l_run : mg "_law_run" = some (.ref t.f_l_run)
  F_l_read : Fun K "_law_read" "_law_read" s_l_read t.f_l_read t.d_l_read
  b_l_read : Binds K t.d_l_read ["_law_line_here", "_law_begin"] []
  mg_l_read : mg "_law_read" = some (.ref t.f_l_read)
  F_l_kept_of : Fun K "_law_kept_of" "_law_kept_of" s_l_kept_of t.f_l_kept_of t.d_l_kept_of
  b_l_kept_of : Binds K t.d_l_kept_of ["_law_voices", "_law_name"] []
  mg_l_kept_of : mg "_law_kept_of" = some (.ref t.f_l_kept_of)
  F_l_stands : Fun K "_law_stands" "_law_stands" s_l_stands t.f_l_stands t.d_l_stands
  b_l_stands : Binds K t.d_l_stands ["_law_book", "_law_voices"] []
  mg_l_stands : mg "_law_stands" = some (.ref t.f_l_stands)
  F_l_cell_at : Fun K "_law_cell_at" "_law_cell_at" s_l_cell_at t.f_l_cell_at t.d_l_cell_at
  b_l_cell_at : Binds K t.d_l_cell_at ["_law_script", "_law_k"] []
  mg_l_cell_at : mg "_law_cell_at" = some (.ref t.f_l_cell_at)
  F_l_mixed : Fun K "_law_mixed" "_law_mixed" s_l_mixed t.f_l_mixed t.d_l_mixed
  b_l_mixed : Binds K t.d_l_mixed ["_law_seed", "_law_k"] []
  mg_l_mixed : mg "_law_mixed" = some (.ref t.f_l_mixed)
  F_l_numbers : Fun K "_law_numbers" "_law_numbers" s_l_numbers t.f_l_numbers t.d_l_numbers
  b_l_numbers : Binds K t.d_l_numbers ["_law_script", "_law_at", "_law_many"] []
  mg_l_numbers : mg "_law_numbers" = some (.ref t.f_l_numbers)
  F_l_line : Fun K "_law_line" "_law_line" s_l_line t.f_l_line t.d_l_line
  b_l_line : Binds K t.d_l_line ["_law_script", "_law_at", "_law_many"] []
  mg_l_line : mg "_law_line" = some (.ref t.f_l_line)
  F_Book_add_canon : FunD K "add_canon" "Book.add_canon" s_Book_add_canon t.f_Book_add_canon t.d_Book_add_canon (.ref t.df_Book_add_canon)
  bd_Book_add_canon : Binds K t.d_Book_add_canon ["self", "name", "leader", "later", "slow", "is_turned"] [.int 0 t.dt0_Book_add_canon, .int 1 t.dt1_Book_add_canon, .bool false]
  b_Book_add_canon : Binds K t.d_Book_add_canon ["self", "name", "leader", "later", "slow", "is_turned"] []
  me_Book_add_canon : Meth K t.C_Book "add_canon" t.f_Book_add_canon
  F_law : Fun K "law" "law" s_law t.f_law t.d_law
  b_law : Binds K t.d_law ["_law_script"] []
  mg_law : mg "law" = some (.ref t.f_law)
  nb_all : mg "all" = none
  nb_any : mg "any" = none
  nb_bool : mg "bool" = none
  nb_enumerate : mg "enumerate" = none
  nb_int : mg "int" = none
  nb_isinstance : mg "isinstance" = none
  nb_len : mg "len" = none
  nb_list : mg "list" = none
  nb_max : mg "max" = none
  nb_min : mg "min" = none
  nb_range : mg "range" = none
  nb_str : mg "str" = none
  nb_tuple : mg "tuple" = none
  nb_zip : mg "zip" = none
  c_GREAT_KINDS : mg "GREAT_KINDS" = some (.ref t.a_GREAT_KINDS)
  q_GREAT_KINDS : ∀ H, SqT K H t.a_GREAT_KINDS [.str "G", .str "D", .str "R"]
  c_SMALL_KINDS : mg "SMALL_KINDS" = some (.ref t.a_SMALL_KINDS)
  q_SMALL_KINDS : ∀ H, SqT K H t.a_SMALL_KINDS [.str "s", .str "d", .str "r"]
  c_PARTING_KINDS : mg "PARTING_KINDS" = some (.ref t.a_PARTING_KINDS)
  q_PARTING_KINDS : ∀ H, SqT K H t.a_PARTING_KINDS [.str ".", .str "3", .str "2"]
  c_MEASURE_KINDS : mg "MEASURE_KINDS" = some (.ref t.a_MEASURE_KINDS)
  q_MEASURE_KINDS : ∀ H, SqT K H t.a_MEASURE_KINDS [.str "3", .str "2"]
  c_SOUNDING_KINDS : mg "SOUNDING_KINDS" = some (.ref t.a_SOUNDING_KINDS)
  q_SOUNDING_KINDS : ∀ H, SqT K H t.a_SOUNDING_KINDS [.str "G", .str "D", .str "s", .str "d"]
  c_SILENT_KINDS : mg "SILENT_KINDS" = some (.ref t.a_SILENT_KINDS)
  q_SILENT_KINDS : ∀ H, SqT K H t.a_SILENT_KINDS [.str "R", .str "r", .str ".", .str "3", .str "2"]
  c_HIGHEST_TONE : mg "HIGHEST_TONE" = some (.int 99 t.t_HIGHEST_TONE)
  c_TURNED_KINDS : mg "TURNED_KINDS" = some (.ref t.a_TURNED_KINDS)
  kd_TURNED_KINDS : KD K w t.a_TURNED_KINDS [("3", .str "2"), ("2", .str "3")]
  c_PLAIN_WORTHS : mg "PLAIN_WORTHS" = some (.ref t.a_PLAIN_WORTHS)
  kd_PLAIN_WORTHS : KD K w t.a_PLAIN_WORTHS [("G", .int 3), ("D", .int 2), ("R", .int 3), ("s", .int 1), ("d", .int 1), ("r", .int 1), (".", .int 0), ("3", .int 0), ("2", .int 0)]
  c_TWOFOLD_WORTHS : mg "TWOFOLD_WORTHS" = some (.ref t.a_TWOFOLD_WORTHS)
  kd_TWOFOLD_WORTHS : KD K w t.a_TWOFOLD_WORTHS [("G", .int 2), ("R", .int 2)]
  c_FULL_WORTH : mg "FULL_WORTH" = some (.int 3 t.t_FULL_WORTH)
  c_SHORTENED_WORTH : mg "SHORTENED_WORTH" = some (.int 2 t.t_SHORTENED_WORTH)
  c_DOUBLED_WORTH : mg "DOUBLED_WORTH" = some (.int 2 t.t_DOUBLED_WORTH)
  c_DOTTED_WORTH : mg "DOTTED_WORTH" = some (.int 3 t.t_DOTTED_WORTH)
  c_LETTERS : mg "LETTERS" = some (.str "abcdefghijklmnopqrstuvwxyz" t.t_LETTERS)
  c_LONGEST_NAME : mg "LONGEST_NAME" = some (.int 8 t.t_LONGEST_NAME)
  c_MOST_VOICES : mg "MOST_VOICES" = some (.int 12 t.t_MOST_VOICES)
  c_MOST_SIGNS : mg "MOST_SIGNS" = some (.int 200 t.t_MOST_SIGNS)
  c_LATEST : mg "LATEST" = some (.int 999 t.t_LATEST)
  c_SLOWEST : mg "SLOWEST" = some (.int 9 t.t_SLOWEST)
  mg_Voice : mg "Voice" = some (.ref t.C_Voice)
  mk_Voice : Mk K t.C_Voice t.f_Voice___init__
  cl_Voice : Cls K t.C_Voice
  na_Voice_name : NoAttr K t.C_Voice "name"
  na_Voice_terms : NoAttr K t.C_Voice "terms"
  na_Voice_signs : NoAttr K t.C_Voice "signs"
  mg_Deed : mg "Deed" = some (.ref t.C_Deed)
  mk_Deed : Mk K t.C_Deed t.f_Deed___init__
  cl_Deed : Cls K t.C_Deed
  na_Deed_things : NoAttr K t.C_Deed "things"
  na_Deed_at : NoAttr K t.C_Deed "at"
  na_Deed_before : NoAttr K t.C_Deed "before"
  na_Deed_after : NoAttr K t.C_Deed "after"
  mg_Book : mg "Book" = some (.ref t.C_Book)
  mk_Book : Mk K t.C_Book t.f_Book___init__
  cl_Book : Cls K t.C_Book
  na_Book_voices : NoAttr K t.C_Book "voices"
  na_Book_done : NoAttr K t.C_Book "done"
  na_Book_undone : NoAttr K t.C_Book "undone"
end Mine
namespace Mine
open PySem L2
def cs (t : Adr) : Cs := ⟨t.C_Book, t.C_Voice, t.C_Deed, false, fun r => match r with
  | .BadSign => 0
  | .BadName => 0
  | .NameTaken => 0
  | .Full => 0
  | .NoVoice => 0
  | .NotPlain => 0
  | .NoPlace => 0
  | .BadTerm => 0
  | .Leaned => 0
  | .NoMore => 0⟩
end Mine
namespace Mine
open PySem L2
def sp_Book_init (C : Addr) : Sp := fun vs H Q _ => ∃ (x dx : Addr), vs = [.ref x] ∧ H x = some (.ins C dx []) ∧
  ∀ (L D U : Addr) (H' : Hp), (∀ y o, H y = some o → y ≠ x → H' y = some o) → H L = none → H D = none → H U = none → L ≠ D → L ≠ U → D ≠ U → H' x = some (.ins C dx (boF L D U)) → H' L = some (.lst []) → H' D = some (.lst []) → H' U = some (.lst []) → Q .non H'
theorem ok_Book___init__ {P : Program} {w : World} {K : PySem.W.Frag} {mg : Str → Option Value} {base : Heap} {t : Adr} (T : Txt K w mg t) : FnOk P w K mg base CX0 (0 + 1) t.f_Book___init__ t.d_Book___init__ ["self"] (sp_Book_init t.C_Book) := by
  refine T.F_Book___init__.ok sc_Book___init__ (fun vs H Q E h => ?_) (fun cdv A outer s H vs Q E hr h => ?_)
  · obtain ⟨_, _, rfl, _⟩ := h
    rfl
  · obtain ⟨x, dx, rfl, hx, q⟩ := h
    refine bodyOk (pss_cons (ps_fld (pv 0) (pe_lst pa_nil) rfl) (pss_cons (ps_fld (pv 0) (pe_lst pa_nil) rfl) (pss_one (ps_fld (pv 0) (pe_lst pa_nil) rfl)))) ?_
    refine ⟨big (by show 0 ≤ 1000; omega), fun L hL => ?_⟩
    have xL : x ≠ L := ne_of_none hx hL
    refine ⟨_, rfl, x, _, dx, _, rfl, by rw [upd_ne xL]; exact hx, T.cl_Book, T.na_Book_voices, by show 0 < 1000; decide, ?_⟩
    refine ⟨big (by show 0 ≤ 1000; omega), fun D hD => ?_⟩
    have xD : x ≠ D := ne_of_none upd_same hD
    have DL : L ≠ D := ne_of_none (show upd (upd H L (.lst [])) x _ L = some (.lst []) by rw [upd_ne (Ne.symm xL)]; exact upd_same) hD
    have hD0 : H D = none := by rw [upd_ne (Ne.symm xD), upd_ne (Ne.symm DL)] at hD; exact hD
    refine ⟨_, rfl, x, _, dx, _, rfl, by rw [upd_ne xD]; exact upd_same, T.cl_Book, T.na_Book_done, by rw [boF_mk0]; show 1 < 1000; decide, ?_⟩
    refine ⟨big (by show 0 ≤ 1000; omega), fun U hU => ?_⟩
    have xU : x ≠ U := ne_of_none upd_same hU
    have DU : D ≠ U := by
      rintro rfl
      rw [upd_ne (Ne.symm xU), upd_same] at hU
      cases hU
    have LU : L ≠ U := by
      rintro rfl
      rw [upd_ne (Ne.symm xU), upd_ne DL, upd_ne (Ne.symm xU), upd_same] at hU
      cases hU
    have hU0 : H U = none := by rw [upd_ne (Ne.symm xU), upd_ne (Ne.symm DU), upd_ne (Ne.symm xU), upd_ne (Ne.symm LU)] at hU; exact hU
    refine ⟨_, rfl, x, _, dx, _, rfl, by rw [upd_ne xU]; exact upd_same, T.cl_Book, T.na_Book_undone, by rw [boF_mk0, boF_mk1]; show 2 < 1000; decide, ?_⟩
    rw [boF_mk0, boF_mk1, boF_mk2]
    refine q L D U _ (fun y o hy ny => ?_) hL hD0 hU0 DL LU DU upd_same ?_ ?_ ?_
    · rw [upd_ne ny, upd_ne (ne_of_none hy hU0), upd_ne ny, upd_ne (ne_of_none hy hD0), upd_ne ny, upd_ne (ne_of_none hy hL)]; exact hy
    · rw [upd_ne (Ne.symm xL), upd_ne LU, upd_ne (Ne.symm xL), upd_ne DL, upd_ne (Ne.symm xL)]; exact upd_same
    · rw [upd_ne (Ne.symm xD), upd_ne DU, upd_ne (Ne.symm xD)]; exact upd_same
    · rw [upd_ne (Ne.symm xU)]; exact upd_same
end Mine
namespace Mine
open PySem L2
def sp_is_name : Sp := fun vs H Q _ => ∃ x : Str, vs = [.str x] ∧ x.length ≤ 1000 ∧ ∀ H', Same H H' → Q (.bl (nameB x)) H'
theorem ok_is_name {P : Program} {w : World} {K : PySem.W.Frag} {mg : Str → Option Value} {base : Heap} {t : Adr} (T : Txt K w mg t) : FnOk P w K mg base CX0 (0 + 1) t.f_is_name t.d_is_name ["name"] sp_is_name := by
  refine T.F_is_name.ok sc_is_name (fun vs H Q E h => ?_) (fun cdv A outer s H vs Q E hr h => ?_)
  · obtain ⟨_, rfl, _⟩ := h
    rfl
  · obtain ⟨x, rfl, hx, q⟩ := h
    refine bodyOk (pss_one (ps_ret (pe_mid (pe_and (pe_chain op_le op_le pe_int (pe_callB (call_len_seq.or call_len_str) rfl T.nb_len bt_len (pa_cons (pv 0) pa_nil)) (pe_glob (v := .int 8) rfl T.c_LONGEST_NAME ⟨_, rfl⟩)) (pe_one (pe_callB call_all rfl T.nb_all bt_all (pa_cons (pe_comp (cn := ["letter"]) rfl (CompFit.of rfl) (pi_str (pv 0)) (fun _ => (pg_name (i := 0) nd_is_name_0 rfl (Or.inl rfl))) (fun _ => pf_nil) (fun _ => (pe_cmpR (op_in_seq.or op_in_str) (pv 0) (pe_glob (v := .str "abcdefghijklmnopqrstuvwxyz") rfl T.c_LETTERS ⟨_, rfl⟩) rfl))) pa_nil))))))) ?_
    have xb : x.length ≤ sizeLine := Nat.le_trans hx (by decide)
    refine ⟨fun v H' => v = .bl (nameB x) ∧ Same H H', ?_, fun _ _ ⟨e1, e2⟩ => by rw [e1]; exact q _ e2⟩
    unfold nameB
    refine ⟨_, rfl, .inr ⟨_, rfl, xb, _, _, rfl, rfl, _, rfl, ?_⟩⟩
    refine ite2 (fun h1 => ?_) (fun h1 => ?_)
    rotate_left
    · have e1 : decide (1 ≤ x.length) = false := decide_eq_false fun z => h1 (decide_eq_true (by omega))
      rw [e1]
      exact ⟨_, rfl, iteF ⟨rfl, Same.refl _⟩⟩
    have e1 : decide (1 ≤ x.length) = true := decide_eq_true (by have := of_decide_eq_true h1; omega)
    rw [e1, Bool.true_and]
    refine ⟨_, _, rfl, rfl, _, rfl, ?_⟩
    refine ite2 (fun h2 => ?_) (fun h2 => ?_)
    rotate_left
    · have e2 : decide (x.length ≤ 8) = false := decide_eq_false fun z => h2 (decide_eq_true (by omega))
      rw [e2]
      exact ⟨rfl, Same.refl _⟩
    have n2 : x.length ≤ 8 := by have := of_decide_eq_true h2; omega
    have e2 : decide (x.length ≤ 8) = true := decide_eq_true n2
    rw [e2, Bool.true_and]
    refine ⟨_, rfl, _, rfl, fun D b hD => ?_⟩
    refine comp_str (fun i ys σ H' => ∃ v, σ = [v, some (.str x)] ∧ H' = upd H D (.lst ys) ∧ ys = ((x.cps.toList.take i).map fun c => inS ⟨#[c]⟩ "abcdefghijklmnopqrstuvwxyz").map V.bl ∧ i ≤ x.cps.size) ⟨none, rfl, rfl, rfl, Nat.zero_le _⟩ ?_ ?_
    · rintro i ys c σ H' hc ⟨v, rfl, rfl, rfl, hi⟩ N hN
      have hi2 : i < x.cps.size := (Array.getElem?_eq_some_iff.mp hc).1
      have hcm : x.cps.toList[i]? = some c := by simpa using hc
      have sz : x.cps.size ≤ 8 := n2
      refine compT_name ?_
      refine ⟨_, rfl, .inr ⟨_, _, rfl, rfl, upd_same, ?_, ?_⟩⟩
      · rw [List.length_map, List.length_map, List.length_take]
        exact small1000 (by omega)
      · refine hN _ _ _ ⟨_, rfl, upd_upd, ?_, hi2⟩
        rw [List.take_succ, hcm, List.map_append, List.map_append]
        rfl
    · rintro ys σ H' ⟨v, rfl, rfl, rfl, hi⟩
      refine ⟨rfl, D, _, rfl, SqL.of upd_same, ?_, Same.upd hD⟩
      rw [show x.cps.size = x.cps.toList.length from rfl, List.take_length]
      refine congrArg V.bl ?_
      rw [List.all_map]
      rfl
end Mine
namespace Mine
open PySem L2
def sp_Book_names (c : Cs) : Sp := fun vs H Q _ => ∃ (x : Addr) (F : Addr → Prop) (vw : Vw) (ps fs : List Vw), vs = [.ref x] ∧ BkC c H x F vw ps fs ∧
  ∀ (l : Addr) (H' : Hp), H l = none → Same H H' → H' l = some (.lst (vw.map fun a => V.str a.1)) → Q (.ref l) H'
theorem ok_Book_names {P : Program} {w : World} {K : PySem.W.Frag} {mg : Str → Option Value} {base : Heap} {t : Adr} (T : Txt K w mg t) : FnOk P w K mg base CX0 (0 + 1) t.f_Book_names t.d_Book_names ["self"] (sp_Book_names (cs t)) := by
  refine T.F_Book_names.ok sc_Book_names (fun vs H Q E h => ?_) (fun cdv A outer s H vs Q E hr h => ?_)
  · obtain ⟨_, _, _, _, _, rfl, _⟩ := h
    rfl
  · obtain ⟨x, F, vw, ps, fs, rfl, B, q⟩ := h
    refine bodyOk (pss_one (ps_ret (pe_comp (cn := ["voice"]) rfl (CompFit.of rfl) (pi_list (pe_fld (pv 0) rfl)) (fun _ => (pg_name (i := 0) nd_Book_names_1 rfl (Or.inl rfl))) (fun _ => pf_nil) (fun _ => (pe_fld (pv 0) rfl))))) ?_
    obtain ⟨L, D, U, all, M, Ps, Fs, es, us, b, i, pp, pf, f⟩ := B.ex
    obtain ⟨dx, hx⟩ := b.hx
    obtain ⟨vx, g, gv⟩ := b.voices i
    have hL := b.hL
    have xl := plen g
    have vl := plen gv
    have ln := (b.wf M (.inr (.inl rfl))).len
    have hn := pnames gv fun _ _ r => r.2.1
    refine ⟨_, rfl, x, _, dx, _, _, rfl, hx, T.cl_Book, T.na_Book_voices, boF_voices _ _ _, L, rfl, ⟨_, SqL.of hL⟩, fun D' b' hD' => ?_⟩
    refine comp_list (K := K) (xs := M L) (fun i ys σ H' => ∃ v, σ = [v, some (.ref x)] ∧ H' = upd H D' (.lst ys) ∧ ys = (vx.take i).map fun a => V.str a.n) ⟨none, rfl, rfl, by simp⟩ ?_ ?_ ?_
    · rintro i ys σ H' ⟨v, rfl, rfl, _⟩
      exact seq_upd (SqL.of hL) hD'
    · rintro i ys y σ H' hy ⟨v, rfl, rfl, rfl⟩ N hN
      obtain ⟨a, e1, rfl, ha⟩ := pget g hy
      have hi : i < vx.length := (List.getElem?_eq_some_iff.mp e1).1
      refine compT_name ?_
      refine ⟨_, rfl, a.o, _, a.d, _, _, rfl, by rw [upd_ne (ne_of_none ha hD')]; exact ha, T.cl_Voice, T.na_Voice_name, voF_name _ _ _, upd_same, ?_, ?_⟩
      · rw [List.length_map, List.length_take]
        exact small1000 (by omega)
      · refine hN _ _ _ ⟨_, rfl, upd_upd, ?_⟩
        rw [List.take_succ, e1]
        simp
    · rintro ys σ H' ⟨v, rfl, rfl, rfl⟩
      rw [xl, List.take_length, hn]
      exact q D' _ hD' (Same.upd hD') upd_same
end Mine
namespace Mine
open PySem L2
theorem inV_mem' {x : Str} {l : List V} (h : inV (.str x) l = true) : V.str x ∈ l := by
  unfold inV at h
  obtain ⟨y, hy, e⟩ := List.any_eq_true.mp h
  cases y with
  | str z =>
    have : z = x := by simpa [eqV] using e
    rw [← this]
    exact hy
  | _ => simp [eqV] at e
theorem inV_of_mem {x : Str} {l : List V} (h : V.str x ∈ l) : inV (.str x) l = true := by
  unfold inV
  exact List.any_eq_true.mpr ⟨_, h, by simp [eqV]⟩
def newOut (vw : Vw) (n : Str) : Option Rf := if nameB n = false then some .BadName else if (findV vw n).isSome then some .NameTaken else if 12 ≤ vw.length then some .Full else none
theorem newOut_none {vw : Vw} {n : Str} (h : newOut vw n = none) : nameB n = true ∧ findV vw n = none ∧ vw.length < 12 := by
  unfold newOut at h
  split at h
  · cases h
  · next h1 =>
    split at h
    · cases h
    · next h2 =>
      split at h
      · cases h
      · next h3 => exact ⟨by simpa using h1, by cases e : findV vw n with | none => rfl | some _ => rw [e] at h2; exact absurd rfl h2, by omega⟩
def sp_Book_refuse_new (c : Cs) : Sp := fun vs H Q E => ∃ (x : Addr) (F : Addr → Prop) (vw : Vw) (ps fs : List Vw) (n : Str), vs = [.ref x, .str n] ∧ BkC c H x F vw ps fs ∧ n.length ≤ 1000 ∧
  match newOut vw n with
  | some r => ∀ H', Same H H' → RX E c r H'
  | none => ∀ H', Same H H' → Q .non H'
theorem ok_Book_refuse_new {P : Program} {w : World} {K : PySem.W.Frag} {mg : Str → Option Value} {base : Heap} {t : Adr} (T : Txt K w mg t) : FnOk P w K mg base CX0 (0 + 2) t.f_Book_refuse_new t.d_Book_refuse_new ["self", "name"] (sp_Book_refuse_new (cs t)) := by
  have G_is_name := ok_is_name (P := P) (w := w) (base := base) T
  have G_Book_names := ok_Book_names (P := P) (w := w) (base := base) T
  refine T.F_Book_refuse_new.ok sc_Book_refuse_new (fun vs H Q E h => ?_) (fun cdv A outer s H vs Q E hr h => ?_)
  · obtain ⟨_, _, _, _, _, _, rfl, _⟩ := h
    rfl
  · obtain ⟨x, F, vw, ps, fs, n, rfl, B, hlen, q⟩ := h
    refine bodyOk (pss_cons (ps_if (pt_not (pt_val (pe_call G_is_name (hr.mono (by decide)) rfl T.mg_is_name T.F_is_name.kp T.b_is_name .nil pass0 (pa_cons (pv 1) pa_nil)))) (pss_one ps_never) pss_nil) (pss_cons (ps_if (pt_cmpR (op_in_seq.or op_in_str) (pv 1) (pe_meth0 (pv 0) T.cl_Book T.me_Book_names G_Book_names (hr.mono (by decide)) T.b_Book_names .nil pass0) rfl) (pss_one ps_never) pss_nil) (pss_one (ps_if (pt_cmpR op_ge (pe_callB (call_len_seq.or call_len_str) rfl T.nb_len bt_len (pa_cons (pe_fld (pv 0) rfl) pa_nil)) (pe_glob (v := .int 12) rfl T.c_MOST_VOICES ⟨_, rfl⟩) (nomark _)) (pss_one ps_never) pss_nil)))) ?_
    refine ⟨_, rfl, n, rfl, hlen, fun H1 s1 => ?_⟩
    unfold newOut at q
    refine ⟨_, rfl, ?_⟩
    cases hnb : nameB n with
    | false =>
      rw [if_pos hnb] at q
      have q := q H1 s1
      exact iteT (Bool.noConfusion (show false = true from q.1))
    | true =>
      rw [if_neg (by rw [hnb]; decide)] at q
      refine iteF ?_
      have B1 := B.same s1
      obtain ⟨L, D, U, all, M, Ps, Fs, es, us, b, i, pp, pf, f⟩ := B1.ex
      obtain ⟨dx, hx⟩ := b.hx
      refine ⟨_, rfl, _, rfl, x, dx, _, rfl, hx, boF_no_names _ _ _, ?_⟩
      refine ⟨x, F, vw, ps, fs, rfl, B1, fun l H2 hl s2 hl2 => ?_⟩
      refine .inl ⟨l, _, rfl, .inl (SqL.of hl2), rfl, ?_, _, rfl, ?_⟩
      · rw [List.all_map]
        exact List.all_eq_true.mpr fun _ _ => rfl
      have mem : inV (.str n) (vw.map fun a => V.str a.1) = true ↔ (findV vw n).isSome = true := by
        constructor
        · intro h
          obtain ⟨a, ha, e⟩ := List.mem_map.mp (inV_mem' h)
          cases e2 : findV vw n with
          | some _ => rfl
          | none => exact absurd (V.str.inj e) (findV_none e2 a ha)
        · intro h
          cases e2 : findV vw n with
          | none => rw [e2] at h; cases h
          | some th => exact inV_of_mem (List.mem_map.mpr ⟨_, findV_mem e2, rfl⟩)
      refine ite2 (fun h => ?_) (fun h => ?_)
      · rw [if_pos (mem.mp h)] at q
        have q := q H2 (s1.trans s2)
        exact (Bool.noConfusion (show false = true from q.1))
      rw [if_neg (fun z => h (mem.mpr z))] at q
      refine ⟨_, rfl, x, _, dx, _, _, rfl, s2 _ _ hx, T.cl_Book, T.na_Book_voices, boF_voices _ _ _, ?_⟩
      refine .inl ⟨L, M L, rfl, .inl (SqL.of (s2 _ _ b.hL)), ?_⟩
      refine ⟨_, _, rfl, rfl, _, rfl, ?_⟩
      have ll := plen i
      refine ite2 (fun h => ?_) (fun h => ?_)
      · have h' := of_decide_eq_true h
        rw [if_pos (by omega)] at q
        have q := q H2 (s1.trans s2)
        exact (Bool.noConfusion (show false = true from q.1))
      · rw [if_neg (fun z => h (decide_eq_true (by omega)))] at q
        exact q _ (s1.trans s2)
end Mine
namespace Mine
open PySem L2
def sp_Deed_do (C : Addr) : Sp := fun vs H Q _ => ∃ (x dx T_ B A : Addr) (i : Nat) (xs bs as : List V), vs = [.ref x] ∧ H x = some (.ins C dx (deF T_ (i : Int) B A)) ∧ H T_ = some (.lst xs) ∧ H B = some (.lst bs) ∧ H A = some (.lst as) ∧ T_ ≠ A ∧ i + bs.length ≤ xs.length ∧ xs.length + as.length ≤ 1000 ∧
  Q .non (upd H T_ (.lst (xs.take i ++ as ++ xs.drop (i + bs.length))))
theorem ok_Deed_do {P : Program} {w : World} {K : PySem.W.Frag} {mg : Str → Option Value} {base : Heap} {t : Adr} (T : Txt K w mg t) : FnOk P w K mg base CX0 (0 + 1) t.f_Deed_do t.d_Deed_do ["self"] (sp_Deed_do t.C_Deed) := by
  refine T.F_Deed_do.ok sc_Deed_do (fun vs H Q E h => ?_) (fun cdv A outer s H vs Q E hr h => ?_)
  · obtain ⟨_, _, _, _, _, _, _, _, _, rfl, _⟩ := h
    rfl
  · obtain ⟨x, dx, T_, B, A_, i, xs, bs, as, rfl, hx, hT, hB, hA, hne, hi, hz, q⟩ := h
    refine bodyOk (pss_one (ps_asg (pe_fld (pv 0) rfl) (pg_slice (pe_fld (pv 0) rfl) (po_some (pe_fld (pv 0) rfl)) (po_some (pe_op (op_add.or (op_add_str.or op_cat)) (pe_fld (pv 0) rfl) (pe_callB (call_len_seq.or call_len_str) rfl T.nb_len bt_len (pa_cons (pe_fld (pv 0) rfl) pa_nil))))))) ?_
    refine ⟨_, rfl, x, _, dx, _, _, rfl, hx, T.cl_Deed, T.na_Deed_after, deF_after _ _ _ _, ?_⟩
    refine ⟨_, rfl, x, _, dx, _, _, rfl, hx, T.cl_Deed, T.na_Deed_things, deF_things _ _ _ _, ?_⟩
    refine ⟨_, rfl, x, _, dx, _, _, rfl, hx, T.cl_Deed, T.na_Deed_at, deF_at _ _ _ _, _, rfl, ?_⟩
    refine ⟨_, rfl, x, _, dx, _, _, rfl, hx, T.cl_Deed, T.na_Deed_at, deF_at _ _ _ _, ?_⟩
    refine ⟨_, rfl, x, _, dx, _, _, rfl, hx, T.cl_Deed, T.na_Deed_before, deF_before _ _ _ _, ?_⟩
    refine .inl ⟨B, bs, rfl, .inl (SqL.of hB), .inl ⟨_, _, rfl, rfl, _, rfl, ?_⟩⟩
    refine ⟨T_, A_, xs, as, (i : Int), ((i + bs.length : Nat) : Int), rfl, rfl, rfl, by simp, hT, hA, hne, by omega, by omega, by omega, Nat.le_trans hz (by decide), ?_⟩
    rw [Int.toNat_natCast, Int.toNat_natCast]
    exact q
end Mine
namespace Mine
open PySem L2
def sp_Book_perform (CB CD : Addr) : Sp := fun vs H Q _ => ∃ (x dx L D U d dd T_ B A : Addr) (i : Nat) (ds us xs bs as : List V), vs = [.ref x, .ref d] ∧ H x = some (.ins CB dx (boF L D U)) ∧ H D = some (.lst ds) ∧ H U = some (.lst us) ∧ H d = some (.ins CD dd (deF T_ (i : Int) B A)) ∧ H T_ = some (.lst xs) ∧ H B = some (.lst bs) ∧ H A = some (.lst as) ∧ T_ ≠ A ∧ T_ ≠ D ∧ T_ ≠ U ∧ D ≠ U ∧ i + bs.length ≤ xs.length ∧ xs.length + as.length ≤ 1000 ∧ ds.length ≤ 900 ∧
  Q .non (upd (upd (upd H T_ (.lst (xs.take i ++ as ++ xs.drop (i + bs.length)))) D (.lst (ds ++ [.ref d]))) U (.lst []))
theorem ok_Book_perform {P : Program} {w : World} {K : PySem.W.Frag} {mg : Str → Option Value} {base : Heap} {t : Adr} (T : Txt K w mg t) : FnOk P w K mg base CX0 (0 + 2) t.f_Book_perform t.d_Book_perform ["self", "deed"] (sp_Book_perform t.C_Book t.C_Deed) := by
  have G_Deed_do := ok_Deed_do (P := P) (w := w) (base := base) T
  refine T.F_Book_perform.ok sc_Book_perform (fun vs H Q E h => ?_) (fun cdv A outer s H vs Q E hr h => ?_)
  · obtain ⟨_, _, _, _, _, _, _, _, _, _, _, _, _, _, _, _, rfl, _⟩ := h
    rfl
  · obtain ⟨x, dx, L, D, U, d, dd, T_, B, A_, i, ds, us, xs, bs, as, rfl, hx, hD, hU, hd, hT, hB, hA, n1, n2, n3, n4, hi, hz, hds, q⟩ := h
    refine bodyOk (pss_cons (ps_expr (pe_meth0 (pv 1) T.cl_Deed T.me_Deed_do G_Deed_do (hr.mono (by decide)) T.b_Deed_do .nil pass0)) (pss_cons (ps_expr (pe_bm PySem.F.plainAttrs_list PySem.F.slot_list_append PySem.F.type_list_append mt_append (pe_fld (pv 0) rfl) (pa_cons (pv 1) pa_nil))) (pss_one (ps_expr (pe_bm0 PySem.F.plainAttrs_list PySem.F.slot_list_clear PySem.F.type_list_clear mt_clear (pe_fld (pv 0) rfl)))))) ?_
    have xT : x ≠ T_ := ne_of hx hT (by intro z; cases z)
    have xD : x ≠ D := ne_of hx hD (by intro z; cases z)
    refine ⟨_, rfl, d, dd, _, rfl, hd, deF_no_do _ _ _ _, ?_⟩
    refine ⟨d, dd, T_, B, A_, i, xs, bs, as, rfl, hd, hT, hB, hA, n1, hi, hz, ?_⟩
    refine ⟨_, rfl, x, _, dx, _, _, rfl, by rw [upd_ne xT]; exact hx, T.cl_Book, T.na_Book_done, boF_done _ _ _, ?_⟩
    refine ⟨.inl ⟨rfl, _, SqL.of (show upd H T_ _ D = some (.lst ds) by rw [upd_ne (Ne.symm n2)]; exact hD)⟩, _, rfl, D, _, _, rfl, rfl, by rw [upd_ne (Ne.symm n2)]; exact hD, small1000 (by omega), ?_⟩
    refine ⟨_, rfl, x, _, dx, _, _, rfl, by rw [upd_ne xD, upd_ne xT]; exact hx, T.cl_Book, T.na_Book_undone, boF_undone _ _ _, ?_⟩
    have hU2 : upd (upd H T_ (.lst (xs.take i ++ as ++ xs.drop (i + bs.length)))) D (.lst (ds ++ [.ref d])) U = some (.lst us) := by rw [upd_ne (Ne.symm n4), upd_ne (Ne.symm n3)]; exact hU
    exact ⟨.inl ⟨rfl, _, SqL.of hU2⟩, U, _, rfl, rfl, hU2, q⟩
end Mine
namespace Mine
open PySem L2
def sp_Deed_init (C : Addr) : Sp := fun vs H Q _ => ∃ (x dx : Addr) (T_ : Addr) (i : Int) (B A : Addr), vs = [.ref x, .ref T_, .int i, .ref B, .ref A] ∧ H x = some (.ins C dx []) ∧
  Q .non (upd H x (.ins C dx (deF T_ i B A)))
theorem ok_Deed___init__ {P : Program} {w : World} {K : PySem.W.Frag} {mg : Str → Option Value} {base : Heap} {t : Adr} (T : Txt K w mg t) : FnOk P w K mg base CX0 (0 + 1) t.f_Deed___init__ t.d_Deed___init__ ["self", "things", "at", "before", "after"] (sp_Deed_init t.C_Deed) := by
  refine T.F_Deed___init__.ok sc_Deed___init__ (fun vs H Q E h => ?_) (fun cdv A outer s H vs Q E hr h => ?_)
  · obtain ⟨_, _, _, _, _, _, rfl, _⟩ := h
    rfl
  · obtain ⟨x, dx, T_, i, B, A_, rfl, hx, q⟩ := h
    refine bodyOk (pss_cons (ps_fld (pv 0) (pv 1) rfl) (pss_cons (ps_fld (pv 0) (pv 2) rfl) (pss_cons (ps_fld (pv 0) (pv 3) rfl) (pss_one (ps_fld (pv 0) (pv 4) rfl))))) ?_
    refine ⟨_, rfl, _, rfl, x, _, dx, _, rfl, hx, T.cl_Deed, T.na_Deed_things, by show 0 < 1000; decide, ?_⟩
    refine ⟨_, rfl, _, rfl, x, _, dx, _, rfl, upd_same, T.cl_Deed, T.na_Deed_at, by rw [deF_mk0]; show 1 < 1000; decide, ?_⟩
    refine ⟨_, rfl, _, rfl, x, _, dx, _, rfl, upd_same, T.cl_Deed, T.na_Deed_before, by rw [deF_mk0, deF_mk1]; show 2 < 1000; decide, ?_⟩
    refine ⟨_, rfl, _, rfl, x, _, dx, _, rfl, upd_same, T.cl_Deed, T.na_Deed_after, by rw [deF_mk0, deF_mk1, deF_mk2]; show 3 < 1000; decide, ?_⟩
    rw [deF_mk0, deF_mk1, deF_mk2, deF_mk3]
    simp only [upd_upd]
    exact q
end Mine
namespace Mine
open PySem L2
def sp_Book_put_in (c : Cs) : Sp := fun vs H Q _ => ∃ (x dx L D U v : Addr) (xs ds us : List V), vs = [.ref x, .ref v] ∧ H x = some (.ins c.B dx (boF L D U)) ∧ H L = some (.lst xs) ∧ H D = some (.lst ds) ∧ H U = some (.lst us) ∧ L ≠ D ∧ L ≠ U ∧ D ≠ U ∧ xs.length ≤ 12 ∧ ds.length ≤ 900 ∧
  ∀ (e : Dd) (H1 H' : Hp), e.T = L → e.i = xs.length → e.bs = [] → e.as = [.ref v] → Same H H1 → H e.B = none → H e.A = none → DdAt c.D H1 (.ref e.o) e → (∀ y o, H1 y = some o → y ≠ L → y ≠ D → y ≠ U → H' y = some o) → H' L = some (.lst (xs ++ [.ref v])) → H' D = some (.lst (ds ++ [.ref e.o])) → H' U = some (.lst []) → Q .non H'
theorem ok_Book_put_in {P : Program} {w : World} {K : PySem.W.Frag} {mg : Str → Option Value} {base : Heap} {t : Adr} (T : Txt K w mg t) : FnOk P w K mg base CX0 (0 + 3) t.f_Book_put_in t.d_Book_put_in ["self", "voice"] (sp_Book_put_in (cs t)) := by
  have G_Book_perform := ok_Book_perform (P := P) (w := w) (base := base) T
  have G_Deed___init__ := ok_Deed___init__ (P := P) (w := w) (base := base) T
  refine T.F_Book_put_in.ok sc_Book_put_in (fun vs H Q E h => ?_) (fun cdv A outer s H vs Q E hr h => ?_)
  · obtain ⟨_, _, _, _, _, _, _, _, _, rfl, _⟩ := h
    rfl
  · obtain ⟨x, dx, L, D, U, v, xs, ds, us, rfl, hx, hL, hD, hU, n1, n2, n3, hxs, hds, q⟩ := h
    refine bodyOk (pss_one (ps_expr (pe_meth (pv 0) T.cl_Book T.me_Book_perform G_Book_perform (hr.mono (by decide)) T.b_Book_perform .nil pass0 (pa_cons (pe_make T.mk_Deed G_Deed___init__ (hr.mono (by decide)) rfl T.mg_Deed T.b_Deed___init__ .nil pass0 (pa_cons (pe_fld (pv 0) rfl) (pa_cons (pe_callB (call_len_seq.or call_len_str) rfl T.nb_len bt_len (pa_cons (pe_fld (pv 0) rfl) pa_nil)) (pa_cons (pe_lst pa_nil) (pa_cons (pe_lst (pa_cons (pv 1) pa_nil)) pa_nil))))) pa_nil)))) ?_
    refine ⟨_, rfl, x, dx, _, rfl, hx, boF_no_perform _ _ _, ?_⟩
    refine ⟨_, rfl, x, _, dx, _, _, rfl, hx, T.cl_Book, T.na_Book_voices, boF_voices _ _ _, ?_⟩
    refine ⟨_, rfl, x, _, dx, _, _, rfl, hx, T.cl_Book, T.na_Book_voices, boF_voices _ _ _, ?_⟩
    refine .inl ⟨L, xs, rfl, .inl (SqL.of hL), ?_⟩
    refine ⟨big (by show 0 ≤ 1000; omega), fun B hB => ?_⟩
    refine ⟨_, rfl, big (by show 1 ≤ 1000; omega), fun A_ hA => ?_⟩
    have hA0 := updFree hA
    have LA : L ≠ A_ := ne_of_none (Same.upd (o := .lst []) hB _ _ hL) hA
    have sB := (Same.upd (o := .lst []) hB).trans (Same.upd (o := .lst [V.ref v]) hA)
    have hB2 := Same.upd (o := .lst [V.ref v]) hA _ _ (upd_same (H := H) (a := B) (o := .lst []))
    have hA2 := upd_same (H := upd H B (.lst [])) (a := A_) (o := .lst [V.ref v])
    generalize upd (upd H B (.lst [])) A_ (.lst [V.ref v]) = H2 at sB hB2 hA2
    intro d dd nd ndd ne
    refine ⟨d, dd, L, (xs.length : Int), B, A_, rfl, upd_same, rfl, ?_⟩
    rw [upd_upd]
    have s3 : Same H2 (upd (upd H2 dd (.own d)) d (.ins t.C_Deed dd (deF L (xs.length : Int) B A_))) := fun y o hy => by
      rw [upd_ne (ne_of_none hy nd), upd_ne (ne_of_none hy ndd)]
      exact hy
    have hd3 := upd_same (H := upd H2 dd (.own d)) (a := d) (o := .ins t.C_Deed dd (deF L (xs.length : Int) B A_))
    generalize upd (upd H2 dd (.own d)) d (.ins t.C_Deed dd (deF L (xs.length : Int) B A_)) = H3 at s3 hd3
    have s4 := sB.trans s3
    refine ⟨x, dx, L, D, U, d, dd, L, B, A_, xs.length, ds, us, xs, [], [.ref v], rfl, s4 _ _ hx, s4 _ _ hD, s4 _ _ hU, hd3, s4 _ _ hL, s3 _ _ hB2, s3 _ _ hA2, LA, n1, n2, n3, by simp, by simp; omega, hds, ?_⟩
    refine q ⟨d, dd, L, xs.length, B, A_, [], [.ref v]⟩ H3 _ rfl rfl rfl rfl s4 hB hA0 ⟨rfl, hd3, s3 _ _ hB2, s3 _ _ hA2⟩ (fun y o hy y1 y2 y3 => ?_) ?_ ?_ upd_same
    · rw [upd_ne y3, upd_ne y2, upd_ne y1]
      exact hy
    · rw [upd_ne n2, upd_ne n1, upd_same]
      simp
    · rw [upd_ne n3, upd_same]
end Mine
namespace Mine
open PySem L2
def sp_Voice_init (C : Addr) : Sp := fun vs H Q _ => ∃ (x dx : Addr) (n : Str) (tm : V), vs = [.ref x, .str n, tm] ∧ H x = some (.ins C dx []) ∧
  ∀ (L : Addr) (H' : Hp), (∀ y o, H y = some o → y ≠ x → H' y = some o) → H L = none → L ≠ x → H' x = some (.ins C dx (voF n tm L)) → H' L = some (.lst []) → Q .non H'
theorem ok_Voice___init__ {P : Program} {w : World} {K : PySem.W.Frag} {mg : Str → Option Value} {base : Heap} {t : Adr} (T : Txt K w mg t) : FnOk P w K mg base CX0 (0 + 1) t.f_Voice___init__ t.d_Voice___init__ ["self", "name", "terms"] (sp_Voice_init t.C_Voice) := by
  refine T.F_Voice___init__.ok sc_Voice___init__ (fun vs H Q E h => ?_) (fun cdv A outer s H vs Q E hr h => ?_)
  · obtain ⟨_, _, _, _, rfl, _⟩ := h
    rfl
  · obtain ⟨x, dx, n, tm, rfl, hx, q⟩ := h
    refine bodyOk (pss_cons (ps_fld (pv 0) (pv 1) rfl) (pss_cons (ps_fld (pv 0) (pv 2) rfl) (pss_one (ps_fld (pv 0) (pe_lst pa_nil) rfl)))) ?_
    refine ⟨_, rfl, _, rfl, x, _, dx, _, rfl, hx, T.cl_Voice, T.na_Voice_name, by show 0 < 1000; decide, ?_⟩
    refine ⟨_, rfl, _, rfl, x, _, dx, _, rfl, upd_same, T.cl_Voice, T.na_Voice_terms, by rw [voF_mk0]; show 1 < 1000; decide, ?_⟩
    refine ⟨big (by show 0 ≤ 1000; omega), fun L hL => ?_⟩
    rw [upd_upd] at hL
    have nx : x ≠ L := fun e => by rw [← e, upd_same] at hL; cases hL
    have hL0 : H L = none := by rw [upd_ne (Ne.symm nx)] at hL; exact hL
    refine ⟨_, rfl, x, _, dx, _, rfl, by rw [upd_ne nx, upd_upd]; exact upd_same, T.cl_Voice, T.na_Voice_signs, by rw [voF_mk0, voF_mk1]; show 2 < 1000; decide, ?_⟩
    rw [voF_mk0, voF_mk1, voF_mk2]
    simp only [upd_upd]
    refine q L _ (fun y o hy ny => ?_) hL0 (Ne.symm nx) upd_same ?_
    · rw [upd_ne ny, upd_ne (ne_of_none hy hL0), upd_ne ny]; exact hy
    · rw [upd_ne (Ne.symm nx)]; exact upd_same
end Mine
namespace Mine
open PySem L2
def sp_Book_add_voice (c : Cs) : Sp := fun vs H Q E => ∃ (x : Addr) (F : Addr → Prop) (vw : Vw) (ps fs : List Vw) (n : Str), vs = [.ref x, .str n] ∧ BkC c H x F vw ps fs ∧ n.length ≤ 1000 ∧ ps.length ≤ 900 ∧
  match newOut vw n with
  | some r => ∀ H', Same H H' → RX E c r H'
  | none => ∀ F' H', Gr F F' H → Fr F H H' → BkC c H' x F' (vw ++ [(n, .pl [])]) (ps ++ [vw]) [] → Q .non H'
theorem ok_Book_add_voice {P : Program} {w : World} {K : PySem.W.Frag} {mg : Str → Option Value} {base : Heap} {t : Adr} (T : Txt K w mg t) : FnOk P w K mg base CX0 (0 + 4) t.f_Book_add_voice t.d_Book_add_voice ["self", "name"] (sp_Book_add_voice (cs t)) := by
  have G_Book_refuse_new := ok_Book_refuse_new (P := P) (w := w) (base := base) T
  have G_Book_put_in := ok_Book_put_in (P := P) (w := w) (base := base) T
  have G_Voice___init__ := ok_Voice___init__ (P := P) (w := w) (base := base) T
  refine T.F_Book_add_voice.ok sc_Book_add_voice (fun vs H Q E h => ?_) (fun cdv A outer s H vs Q E hr h => ?_)
  · obtain ⟨_, _, _, _, _, _, rfl, _⟩ := h
    rfl
  · obtain ⟨x, F, vw, ps, fs, n, rfl, B, hlen, hps, q⟩ := h
    refine bodyOk (pss_cons (ps_expr (pe_meth (pv 0) T.cl_Book T.me_Book_refuse_new G_Book_refuse_new (hr.mono (by decide)) T.b_Book_refuse_new .nil pass0 (pa_cons (pv 1) pa_nil))) (pss_one (ps_expr (pe_meth (pv 0) T.cl_Book T.me_Book_put_in G_Book_put_in (hr.mono (by decide)) T.b_Book_put_in .nil pass0 (pa_cons (pe_make T.mk_Voice G_Voice___init__ (hr.mono (by decide)) rfl T.mg_Voice T.b_Voice___init__ .nil pass0 (pa_cons (pv 1) (pa_cons pe_non pa_nil))) pa_nil))))) ?_
    obtain ⟨L, D, U, all, M, Ps, Fs, es, us, b, i, pp, pf, f⟩ := B.ex
    obtain ⟨dx, hx⟩ := b.hx
    refine ⟨_, rfl, x, dx, _, rfl, hx, boF_no_refuse_new _ _ _, _, rfl, x, F, vw, ps, fs, n, rfl, B, hlen, ?_⟩
    cases ho : newOut vw n with
    | some r =>
      rw [ho] at q
      intro H' s'
      have q := q H' s'
      exact (Bool.noConfusion (show false = true from q.1))
    | none =>
      rw [ho] at q
      obtain ⟨_, hf, hl12⟩ := newOut_none ho
      intro H1 s1
      have b1 := b.kept f (.same s1)
      obtain ⟨ds, hD, pD⟩ := b1.hD
      obtain ⟨ux, hU, pU⟩ := b1.hU
      have ll := plen i
      have dl := plen pD
      have pl := plen pp
      have pe := b.past.len
      refine ⟨_, rfl, x, dx, _, rfl, s1 _ _ hx, boF_no_put_in _ _ _, _, rfl, ?_⟩
      intro v dv nv ndv ne
      refine ⟨v, dv, n, .non, rfl, upd_same, fun l H2 kp hl hlv hv2 hl2 => ⟨rfl, ?_⟩⟩
      have s2 : Same H1 H2 := fun y o hy => kp y o (by rw [upd_ne (ne_of_none hy nv), upd_ne (ne_of_none hy ndv)]; exact hy) (ne_of_none hy nv)
      have hl1 : H1 l = none := mkFree hl
      refine ⟨x, dx, L, D, U, v, M L, ds, ux, rfl, s2 _ _ (s1 _ _ hx), s2 _ _ b1.hL, s2 _ _ hD, s2 _ _ hU, b.LD, b.LU, b.DU, by omega, by omega, fun e H3 H' eT ei eb ea s3 nB nA hd fr hL' hD' hU' => ?_⟩
      obtain ⟨F', g, fr', B'⟩ := Bk.added b1 (Is.kept (F := F) (.same s1) i) (pmono (fun _ _ q => Is.kept (F := F) (.same s1) q) pp) f B.wv (a := ⟨v, dv, n, .non, l⟩) (th := .pl []) s2 nv hl1 hv2 hl2 (fun M' h0 => ⟨rfl, by rw [h0]; exact .nil⟩) ((B.wv vw (.inr (.inl rfl))).addPl (findV_none hf) hl12) eT ei eb ea s3 nB nA hd hD pD fr hL' hD' hU'
      exact q F' H' (g.old s1) (fun y o hy hn => fr' y o (s1 y o hy) hn) B'
end Mine
namespace Mine
open PySem L2
def l24 : List Kd := [.G, .G, .G, .G, .G, .s, .s, .s, .s, .s, .s, .s, .s, .s, .d, .d, .r, .r, .D, .R, .dot, .dot, .three, .two]
theorem cps24 : (Str.ofString "GGGGGsssssssssddrrDR..32").cps.toList = l24.map Kd.cp := by decide +kernel
theorem k_sounds (k : Kd) : inS k.str "GDsd" = k.sounds := by cases k <;> decide +kernel
def sp_l_sign_by : Sp := fun vs H Q _ => ∃ m : Int, vs = [.int m] ∧ ∀ (p : Addr) (s : Sg), GoodT s → H p = none → Q (.ref p) (upd H p (.tup [.str s.1.str, .int s.2]))
theorem ok_l_sign_by {P : Program} {w : World} {K : PySem.W.Frag} {mg : Str → Option Value} {base : Heap} {t : Adr} (T : Txt K w mg t) : FnOk P w K mg base CX0 (0 + 1) t.f_l_sign_by t.d_l_sign_by ["_law_number"] sp_l_sign_by := by
  refine T.F_l_sign_by.ok sc_l_sign_by (fun vs H Q E h => ?_) (fun cdv A outer s H vs Q E hr h => ?_)
  · obtain ⟨_, rfl, _⟩ := h
    rfl
  · obtain ⟨m, rfl, q⟩ := h
    refine bodyOk (pss_cons (ps_set (i := 1) sc_l_sign_by.nd rfl (Or.inl rfl) (pe_ix ix_seq pe_str (pe_op op_mod (pv 0) pe_int) (fun _ _ => rfl))) (pss_cons (ps_if (pt_cmpR (op_in_seq.or op_in_str) (pv 1) pe_str rfl) (pss_one (ps_ret (pe_tup (pa_cons (pv 1) (pa_cons (pe_op op_mod (pe_op op_fdiv (pv 0) pe_int) pe_int) pa_nil))))) pss_nil) (pss_one (ps_ret (pe_tup (pa_cons (pv 1) (pa_cons pe_int pa_nil))))))) ?_
    obtain ⟨k, hk⟩ : ∃ k, l24[(m % 24).toNat]? = some k := by
      have h1 : (m % 24).toNat < l24.length := by
        show _ < 24
        omega
      exact ⟨_, List.getElem?_eq_getElem h1⟩
    have hat : atI (Str.ofString "GGGGGsssssssssddrrDR..32").cps.toList (m % 24) = some k.cp := by
      have e0 : m % 24 = (((m % 24).toNat : Nat) : Int) := by omega
      rw [e0, cps24]
      exact atI_nat (by rw [List.getElem?_map, hk]; rfl)
    refine ⟨_, rfl, _, _, rfl, rfl, (by decide : (0 : Int) < 24), .inr (.inr ⟨_, _, _, rfl, rfl, (by decide +kernel), hat, ?_⟩)⟩
    rw [← kd_cp k]
    (repeat array_get_dec)
    refine ite2 (fun h => ?_) (fun h => ?_)
    · have h4 : k.sounds = true := by rw [← k_sounds]; exact h
      (repeat array_get_dec)
      refine ⟨(by show 2 ≤ sizeLine; decide), fun p hp => ?_⟩
      exact q p (k, m / 24 % 100) ⟨fun _ => by show 0 ≤ m / 24 % 100 ∧ m / 24 % 100 < 100; omega, fun z => by rw [h4] at z; cases z⟩ hp
    · have h4 : k.sounds = false := by
        rw [← k_sounds]
        exact Bool.eq_false_iff.mpr h
      (repeat array_get_dec)
      refine ⟨(by show 2 ≤ sizeLine; decide), fun p hp => ?_⟩
      exact q p (k, 0) ⟨(fun z => by rw [h4] at z; cases z), fun _ => rfl⟩ hp
end Mine
namespace Mine
open PySem L2
def sp_refuse_other_places (c : Cs) : Sp := fun vs H Q E => ∃ i n : Int, vs = [.int i, .int n] ∧ ((0 ≤ i ∧ i ≤ n → Q .non H) ∧ (¬ (0 ≤ i ∧ i ≤ n) → RX E c .NoPlace H))
theorem ok_refuse_other_places {P : Program} {w : World} {K : PySem.W.Frag} {mg : Str → Option Value} {base : Heap} {t : Adr} (T : Txt K w mg t) : FnOk P w K mg base CX0 (0 + 1) t.f_refuse_other_places t.d_refuse_other_places ["at", "last"] (sp_refuse_other_places (cs t)) := by
  refine T.F_refuse_other_places.ok sc_refuse_other_places (fun vs H Q E h => ?_) (fun cdv A outer s H vs Q E hr h => ?_)
  · obtain ⟨_, _, rfl, _⟩ := h
    rfl
  · obtain ⟨i, n, rfl, q1, q2⟩ := h
    refine bodyOk (pss_one (ps_if (pt_not (pt_chain op_le op_le pe_int (pv 0) (pv 1))) (pss_one ps_never) pss_nil)) ?_
    refine ⟨_, rfl, _, _, rfl, rfl, _, rfl, ?_⟩
    refine ite2 (fun h0 => ?_) (fun h0 => ?_)
    · refine ⟨_, rfl, _, _, rfl, rfl, _, rfl, ?_⟩
      refine ite2 (fun h => ?_) (fun h => ?_)
      · have h' : (!decide (i ≤ n)) = true := h
        have q := q2 fun z => by rw [decide_eq_true z.2] at h'; cases h'
        exact (Bool.noConfusion (show false = true from q.1))
      · have h' : ¬ (!decide (i ≤ n)) = true := h
        refine q1 ⟨of_decide_eq_true h0, ?_⟩
        by_cases z : i ≤ n
        · exact z
        · exact absurd (by rw [decide_eq_false z]; rfl) h'
    · have q := q2 fun z => h0 (decide_eq_true z.1)
      exact ⟨_, rfl, iteT (Bool.noConfusion (show false = true from q.1))⟩
end Mine
namespace Mine
open PySem L2
def sp_good : Sp := fun vs H Q _ => ∃ (p : Addr) (s : Sn), vs = [.ref p] ∧ H p = some (.tup [.str s.1, .int s.2]) ∧ Q (.bl (goodB s)) H
theorem ok_good {P : Program} {w : World} {K : PySem.W.Frag} {mg : Str → Option Value} {base : Heap} {t : Adr} (T : Txt K w mg t) : FnOk P w K mg base CX0 (0 + 1) t.f_good t.d_good ["sign"] sp_good := by
  refine T.F_good.ok sc_good (fun vs H Q E h => ?_) (fun cdv A outer s H vs Q E hr h => ?_)
  · obtain ⟨_, _, rfl, _⟩ := h
    rfl
  · obtain ⟨p, s, rfl, hp, q⟩ := h
    unfold goodB at q
    refine bodyOk (pss_cons (ps_asg (pv 0) (pg_tup rfl (pgs_cons (pg_name (i := 1) sc_good.nd rfl (Or.inl rfl)) (pgs_cons (pg_name (i := 2) sc_good.nd rfl (Or.inl rfl)) pgs_nil)))) (pss_cons (ps_if (pt_cmpR (op_in_seq.or op_in_str) (pv 1) (pe_glob (v := .ref t.a_SOUNDING_KINDS) rfl T.c_SOUNDING_KINDS rfl) rfl) (pss_one (ps_ret (pe_chain op_le op_le pe_int (pv 2) (pe_glob (v := .int 99) rfl T.c_HIGHEST_TONE ⟨_, rfl⟩)))) pss_nil) (pss_one (ps_ret (pe_mid (pe_and (pe_cmpR (op_in_seq.or op_in_str) (pv 1) (pe_glob (v := .ref t.a_SILENT_KINDS) rfl T.c_SILENT_KINDS rfl) rfl) (pe_one (pe_cmpR (op_eq.or (op_eqD (hu_of64 hr))) (pv 2) pe_int (nomark _))))))))) ?_
    refine ⟨_, rfl, _, _, rfl, SqT.of hp, rfl, _, _, rfl, _, _, rfl, rfl, _, rfl, .inl ⟨_, _, rfl, .inr (T.q_SOUNDING_KINDS _), rfl, rfl, _, rfl, ?_⟩⟩
    refine ite2 (fun h => ?_) (fun h => ?_)
    · rw [if_pos (show inV (.str s.1) soundV = true from h)] at q
      refine ⟨_, rfl, _, _, rfl, rfl, _, rfl, ?_⟩
      refine ite2 (fun h2 => ?_) (fun h2 => ?_)
      · rw [if_pos h2] at q
        exact ⟨_, _, rfl, rfl, q⟩
      · rw [if_neg h2] at q
        exact q
    · rw [if_neg (show ¬ inV (.str s.1) soundV = true from h)] at q
      refine ⟨fun v H' => v = .bl (if inV (V.str s.fst) silentV = true then decide (s.snd = 0) else false) ∧ H' = H, ?_, fun _ _ ⟨e1, e2⟩ => by rw [e1, e2]; exact q⟩
      refine ⟨_, rfl, .inl ⟨_, _, rfl, .inr (T.q_SILENT_KINDS _), rfl, rfl, _, rfl, ?_⟩⟩
      refine ite2 (fun h2 => ?_) (fun h2 => ?_)
      · rw [if_pos (show inV (.str s.1) silentV = true from h2)]
        refine ⟨_, rfl, .inl ⟨rfl, ?_⟩⟩
        rw [dec_int']
        exact ⟨rfl, rfl⟩
      · rw [if_neg (show ¬ inV (.str s.1) silentV = true from h2)]
        exact ⟨rfl, rfl⟩
end Mine
namespace Mine
open PySem L2
def sp_refuse_bad_sign (c : Cs) : Sp := fun vs H Q E => ∃ (p : Addr) (s : Sn), vs = [.ref p] ∧ H p = some (.tup [.str s.1, .int s.2]) ∧ ((goodB s = true → Q .non H) ∧ (goodB s = false → RX E c .BadSign H))
theorem ok_refuse_bad_sign {P : Program} {w : World} {K : PySem.W.Frag} {mg : Str → Option Value} {base : Heap} {t : Adr} (T : Txt K w mg t) : FnOk P w K mg base CX0 (0 + 2) t.f_refuse_bad_sign t.d_refuse_bad_sign ["sign"] (sp_refuse_bad_sign (cs t)) := by
  have G_good := ok_good (P := P) (w := w) (base := base) T
  refine T.F_refuse_bad_sign.ok sc_refuse_bad_sign (fun vs H Q E h => ?_) (fun cdv A outer s H vs Q E hr h => ?_)
  · obtain ⟨_, _, rfl, _⟩ := h
    rfl
  · obtain ⟨p, g, rfl, hp, q1, q2⟩ := h
    refine bodyOk (pss_one (ps_if (pt_not (pt_val (pe_call G_good (hr.mono (by decide)) rfl T.mg_good T.F_good.kp T.b_good .nil pass0 (pa_cons (pv 0) pa_nil)))) (pss_one ps_never) pss_nil)) ?_
    refine ⟨_, rfl, p, g, rfl, hp, _, rfl, ?_⟩
    cases hg : goodB g with
    | true => exact iteF (q1 hg)
    | false =>
      have q := q2 hg
      exact iteT (Bool.noConfusion (show false = true from q.1))
end Mine
namespace Mine
open PySem L2
def sp_small : Sp := fun vs H Q _ => ∃ (p : Addr) (s : Sg), vs = [.ref p] ∧ H p = some (.tup [.str s.1.str, .int s.2]) ∧ Q (.bl s.1.small) H
theorem k_small (k : Kd) : inV (.str k.str) [.str "s", .str "d", .str "r"] = k.small := by cases k <;> decide +kernel
theorem ok_small {P : Program} {w : World} {K : PySem.W.Frag} {mg : Str → Option Value} {base : Heap} {t : Adr} (T : Txt K w mg t) : FnOk P w K mg base CX0 (0 + 1) t.f_small t.d_small ["sign"] sp_small := by
  refine T.F_small.ok sc_small (fun vs H Q E h => ?_) (fun cdv A outer s H vs Q E hr h => ?_)
  · obtain ⟨_, _, rfl, _⟩ := h
    rfl
  · obtain ⟨p, s, rfl, hp, q⟩ := h
    rw [← k_small] at q
    refine bodyOk (pss_one (ps_ret (pe_cmpR (op_in_seq.or op_in_str) (pe_ix ix_seq (pv 0) pe_int (fun _ _ => rfl)) (pe_glob (v := .ref t.a_SMALL_KINDS) rfl T.c_SMALL_KINDS rfl) rfl))) ?_
    (repeat array_get_dec)
    exact .inl ⟨_, _, rfl, .inr (T.q_SMALL_KINDS _), rfl, rfl, q⟩
end Mine
namespace Mine
open PySem L2
def sp_low_end (K : PySem.W.Frag) : Sp := fun vs H Q _ => ∃ (l : Addr) (xs : List V) (ss : List Sg) (i : Nat), vs = [.ref l, .int (i : Int)] ∧ SqL K H l xs ∧ Sgs H xs ss ∧ ss.length ≤ 200 ∧ i ≤ ss.length ∧ ∀ r : Int, Q (.int r) H
theorem ok_low_end {P : Program} {w : World} {K : PySem.W.Frag} {mg : Str → Option Value} {base : Heap} {t : Adr} (T : Txt K w mg t) : FnOk P w K mg base CX0 (0 + 2) t.f_low_end t.d_low_end ["line", "at"] (sp_low_end K) := by
  have G_small := ok_small (P := P) (w := w) (base := base) T
  refine T.F_low_end.ok sc_low_end (fun vs H Q E h => ?_) (fun cdv A outer s H vs Q E hr h => ?_)
  · obtain ⟨_, _, _, _, rfl, _⟩ := h
    rfl
  · obtain ⟨l, xs, ss, i, rfl, hS, g, hl, hi, q⟩ := h
    refine bodyOk (pss_cons (ps_set (i := 2) sc_low_end.nd rfl (Or.inl rfl) pe_int) (pss_cons (ps_for PassesOwn.never rfl (pi_range3 rfl T.nb_range (pa_cons (pe_op op_sub (pv 1) pe_int) (pa_cons (pe_un un_neg pe_int) (pa_cons (pe_un un_neg pe_int) pa_nil)))) (pg_name (i := 3) sc_low_end.nd rfl (Or.inl rfl)) (pss_cons (ps_mid (ps_if (pt_not (pt_val (pe_call G_small (hr.mono (by decide)) rfl T.mg_small T.F_small.kp T.b_small .nil pass0 (pa_cons (pe_ix ix_seq (pv 0) (pv 3) (fun _ _ => rfl)) pa_nil)))) (pss_one (ps_aug (i := 2) sc_low_end.nd rfl (Or.inl rfl) pe_int ip_add)) pss_nil)) (pss_one (ps_if (pt_cmpR (op_eq.or (op_eqD (hu_of64 hr))) (pv 2) pe_int (nomark _)) (pss_one (ps_ret (pv 3))) pss_nil)))) (pss_one (ps_ret pe_int)))) ?_
    (repeat array_get_dec)
    have xl := plen g
    refine ⟨(i : Int) - 1, -1, rfl, ⟨by omega, by omega, by omega, by omega⟩, for_down (fun j σ H' => ∃ (met : Int) (v : Option V), σ = [some (.ref l), some (.int (i : Int)), some (.int met), v] ∧ H' = H) ⟨0, none, rfl, rfl⟩ ?_ ?_⟩
    · rintro j σ H1 hj ⟨met, v, rfl, eH⟩
      have eH := eH.symm
      subst eH
      obtain ⟨sg, hsg⟩ : ∃ sg, ss[i - 1 - j]? = some sg := ⟨_, List.getElem?_eq_getElem (by omega)⟩
      refine ⟨fun σ H' => ∃ (met : Int), σ = [some (.ref l), some (.int (i : Int)), some (.int met), some (.int ((i : Int) - 1 - (j : Int)))] ∧ H' = H, ?_, ?_⟩
      · (repeat array_get_dec)
        refine ixSg hS g (n := i - 1 - j) (by omega) hsg fun b hb => ?_
        refine ⟨b, sg, rfl, hb, ?_⟩
        refine ⟨_, rfl, ?_⟩
        refine ite2 (fun _ => ?_) (fun _ => ?_)
        · (repeat array_get_dec)
          rfl
        · exact ⟨_, rfl, rfl⟩
      · rintro _ H1 ⟨met, rfl, eH⟩
        have eH := eH.symm
        subst eH
        (repeat array_get_dec)
        refine ite2 (fun _ => ?_) (fun _ => ?_)
        · exact ⟨_, rfl, q _⟩
        · exact ⟨_, _, rfl, rfl⟩
    · rintro σ H1 ⟨met, v, rfl, eH⟩
      have eH := eH.symm
      subst eH
      exact q _
end Mine
namespace Mine
open PySem L2
def sp_high_end (K : PySem.W.Frag) : Sp := fun vs H Q _ => ∃ (l kp : Addr) (xs kv : List V) (ss : List Sg) (i : Nat), vs = [.ref l, .int (i : Int), .ref kp] ∧ SqL K H l xs ∧ Sgs H xs ss ∧ ss.length ≤ 200 ∧ SqT K H kp kv ∧ kv.all flatV = true ∧ i ≤ 1000 ∧ ∀ r : Int, Q (.int r) H
theorem ok_high_end {P : Program} {w : World} {K : PySem.W.Frag} {mg : Str → Option Value} {base : Heap} {t : Adr} (T : Txt K w mg t) : FnOk P w K mg base CX0 (0 + 1) t.f_high_end t.d_high_end ["line", "first", "kinds"] (sp_high_end K) := by
  refine T.F_high_end.ok sc_high_end (fun vs H Q E h => ?_) (fun cdv A outer s H vs Q E hr h => ?_)
  · obtain ⟨_, _, _, _, _, _, rfl, _⟩ := h
    rfl
  · obtain ⟨l, kp, xs, kv, ss, i, rfl, hS, g, hl, hT, hf, hi, q⟩ := h
    refine bodyOk (pss_cons (ps_for PassesOwn.never rfl (pi_range2 rfl T.nb_range (pa_cons (pv 1) (pa_cons (pe_callB (call_len_seq.or call_len_str) rfl T.nb_len bt_len (pa_cons (pv 0) pa_nil)) pa_nil))) (pg_name (i := 3) sc_high_end.nd rfl (Or.inl rfl)) (pss_one (ps_if (pt_cmpR (op_in_seq.or op_in_str) (pe_ix ix_seq (pe_ix ix_seq (pv 0) (pv 3) (fun _ _ => rfl)) pe_int (fun _ _ => rfl)) (pv 2) rfl) (pss_one (ps_ret (pv 3))) pss_nil))) (pss_one (ps_ret (pe_callB (call_len_seq.or call_len_str) rfl T.nb_len bt_len (pa_cons (pv 0) pa_nil))))) ?_
    have xl := plen g
    (repeat array_get_dec)
    refine .inl ⟨l, xs, rfl, .inl hS, ?_⟩
    refine ⟨(i : Int), (xs.length : Int), rfl, ⟨by omega, by omega, by omega, by omega⟩, for_range (fun j σ H' => ∃ (v : Option V), σ = [some (.ref l), some (.int (i : Int)), some (.ref kp), v] ∧ H' = H) ⟨none, rfl, rfl⟩ ?_ ?_⟩
    · rintro j σ H1 hj ⟨v, rfl, eH⟩
      have eH := eH.symm
      subst eH
      obtain ⟨sg, hsg⟩ : ∃ sg, ss[i + j]? = some sg := ⟨_, List.getElem?_eq_getElem (by omega)⟩
      (repeat array_get_dec)
      refine ixSg hS g (n := i + j) (by omega) hsg fun b hb => ?_
      (repeat array_get_dec)
      refine .inl ⟨kp, kv, rfl, .inr hT, rfl, hf, _, rfl, ?_⟩
      refine ite2 (fun _ => ?_) (fun _ => ?_)
      · exact ⟨_, rfl, q _⟩
      · exact ⟨_, rfl, rfl⟩
    · rintro σ H1 ⟨v, rfl, eH⟩
      have eH := eH.symm
      subst eH
      exact ⟨_, rfl, .inl ⟨l, _, rfl, .inl hS, q _⟩⟩
end Mine
namespace Mine
open PySem L2
def sp_sets_measure : Sp := fun vs H Q _ => ∃ (p : Addr) (s : Sg), vs = [.ref p] ∧ H p = some (.tup [.str s.1.str, .int s.2]) ∧ Q (.bl s.1.meas) H
theorem k_meas (k : Kd) : inV (.str k.str) [.str "3", .str "2"] = k.meas := by cases k <;> decide +kernel
theorem ok_sets_measure {P : Program} {w : World} {K : PySem.W.Frag} {mg : Str → Option Value} {base : Heap} {t : Adr} (T : Txt K w mg t) : FnOk P w K mg base CX0 (0 + 1) t.f_sets_measure t.d_sets_measure ["sign"] sp_sets_measure := by
  refine T.F_sets_measure.ok sc_sets_measure (fun vs H Q E h => ?_) (fun cdv A outer s H vs Q E hr h => ?_)
  · obtain ⟨_, _, rfl, _⟩ := h
    rfl
  · obtain ⟨p, s, rfl, hp, q⟩ := h
    rw [← k_meas] at q
    refine bodyOk (pss_one (ps_ret (pe_cmpR (op_in_seq.or op_in_str) (pe_ix ix_seq (pv 0) pe_int (fun _ _ => rfl)) (pe_glob (v := .ref t.a_MEASURE_KINDS) rfl T.c_MEASURE_KINDS rfl) rfl))) ?_
    (repeat array_get_dec)
    exact .inl ⟨_, _, rfl, .inr (T.q_MEASURE_KINDS _), rfl, rfl, q⟩
end Mine
namespace Mine
open PySem L2
def sp_window (K : PySem.W.Frag) : Sp := fun vs H Q _ => ∃ (l ch : Addr) (xs cx : List V) (ss cs : List Sg) (i b : Nat), vs = [.ref l, .int (i : Int), .int (b : Int), .ref ch] ∧ SqL K H l xs ∧ Sgs H xs ss ∧ ss.length ≤ 200 ∧ i ≤ ss.length ∧ b ≤ 1000 ∧ SqL K H ch cx ∧ Sgs H cx cs ∧ cs.length ≤ 100 ∧ ∀ (p : Addr) (H' : Hp), Same H H' → Q (.ref p) H'
theorem ok_window {P : Program} {w : World} {K : PySem.W.Frag} {mg : Str → Option Value} {base : Heap} {t : Adr} (T : Txt K w mg t) : FnOk P w K mg base CX0 (0 + 3) t.f_window t.d_window ["line", "at", "behind", "changed"] (sp_window K) := by
  have G_low_end := ok_low_end (P := P) (w := w) (base := base) T
  have G_high_end := ok_high_end (P := P) (w := w) (base := base) T
  have G_sets_measure := ok_sets_measure (P := P) (w := w) (base := base) T
  refine T.F_window.ok sc_window (fun vs H Q E h => ?_) (fun cdv A outer s H vs Q E hr h => ?_)
  · obtain ⟨_, _, _, _, _, _, _, _, rfl, _⟩ := h
    rfl
  · obtain ⟨l, ch, xs, cx, ss, cs, i, b, rfl, hS, g, hl, hi, hb, hC, gc, hcl, q⟩ := h
    refine bodyOk (pss_cons (ps_set (i := 4) sc_window.nd rfl (Or.inl rfl) (pe_mid (pe_ifExp (pt_val (pe_callB call_any rfl T.nb_any bt_any (pa_cons (pe_comp (cn := ["sign"]) rfl (CompFit.of rfl) (pi_list (pv 3)) (fun _ => (pg_name (i := 0) nd_window_2 rfl (Or.inl rfl))) (fun _ => pf_nil) (fun _ => (pe_call G_sets_measure (hr.mono (by decide)) rfl T.mg_sets_measure T.F_sets_measure.kp T.b_sets_measure .nil pass0 (pa_cons (pv 0) pa_nil)))) pa_nil))) (pe_glob (v := .ref t.a_MEASURE_KINDS) rfl T.c_MEASURE_KINDS rfl) (pe_glob (v := .ref t.a_PARTING_KINDS) rfl T.c_PARTING_KINDS rfl)))) (pss_one (ps_ret (pe_tup (pa_cons (pe_call G_low_end (hr.mono (by decide)) rfl T.mg_low_end T.F_low_end.kp T.b_low_end .nil pass0 (pa_cons (pv 0) (pa_cons (pv 1) pa_nil))) (pa_cons (pe_call G_high_end (hr.mono (by decide)) rfl T.mg_high_end T.F_high_end.kp T.b_high_end .nil pass0 (pa_cons (pv 0) (pa_cons (pv 2) (pa_cons (pv 4) pa_nil)))) pa_nil)))))) ?_
    have cl := plen gc
    refine ⟨fun v H' => ∃ kp kv, v = .ref kp ∧ (∀ H'' , SqT K H'' kp kv) ∧ kv.all flatV = true ∧ Same H H', ?_, ?_⟩
    · refine ⟨_, rfl, ch, rfl, ⟨_, hC⟩, fun D b2 hD => ?_⟩
      refine comp_list (K := K) (xs := cx) (fun ii ys σ H' => ∃ v, σ = [v, some (.ref l), some (.int (i : Int)), some (.int (b : Int)), some (.ref ch), none] ∧ H' = upd H D (.lst ys) ∧ ∃ bs : List Bool, ys = bs.map V.bl ∧ bs.length = ii) ⟨none, rfl, rfl, [], rfl, rfl⟩ ?_ ?_ ?_
      · rintro ii ys σ H' ⟨v, rfl, rfl, _⟩
        exact seq_upd hC hD
      · rintro ii ys x σ H' hx ⟨v, rfl, rfl, bs, rfl, hbs⟩ N hN
        obtain ⟨sg, e1, p, rfl, hp⟩ := pget gc hx
        have hii : ii < cs.length := (List.getElem?_eq_some_iff.mp e1).1
        refine compT_name ?_
        refine ⟨_, rfl, p, sg, rfl, (by rw [upd_ne (ne_of_none hp hD)]; exact hp), upd_same, ?_, ?_⟩
        · rw [List.length_map]
          exact small1000 (by omega)
        · exact hN _ _ _ ⟨_, rfl, upd_upd, bs ++ [sg.1.meas], by simp, by simp [hbs]⟩
      · rintro ys σ H' ⟨v, rfl, rfl, bs, rfl, hbs⟩
        refine ⟨rfl, D, bs, rfl, SqL.of upd_same, _, rfl, ?_⟩
        refine ite2 (fun _ => ?_) (fun _ => ?_)
        · exact ⟨_, _, rfl, fun H'' => T.q_MEASURE_KINDS H'', rfl, Same.upd hD⟩
        · exact ⟨_, _, rfl, fun H'' => T.q_PARTING_KINDS H'', rfl, Same.upd hD⟩
    · rintro _ H1 ⟨kp, kv, rfl, hk, hf, s1⟩
      refine ⟨_, rfl, _, rfl, l, xs, ss, i, rfl, s1.seq hS, g.same s1, hl, hi, fun r => ?_⟩
      refine ⟨_, rfl, _, rfl, _, rfl, l, kp, xs, kv, ss, b, rfl, s1.seq hS, g.same s1, hl, hk _, hf, hb, fun r2 => ?_⟩
      refine ⟨by show 2 ≤ sizeLine; decide, fun p hp => q p _ (s1.trans (Same.upd hp))⟩
end Mine
namespace Mine
open PySem L2
def sp_Book_voice_called (c : Cs) : Sp := fun vs H Q E => ∃ (x dx L D U : Addr) (xs : List V) (vx : List Vx) (n : Str), vs = [.ref x, .str n] ∧ H x = some (.ins c.B dx (boF L D U)) ∧ H L = some (.lst xs) ∧ Paired (VxAt c.V H) xs vx ∧
  match vx.find? (fun a => decide (a.n = n)) with
  | none => RX E c .NoVoice H
  | some a => Q (.ref a.o) H
theorem find_take {vx : List Vx} {n : Str} : ∀ {i : Nat}, (∀ j a, j < i → vx[j]? = some a → a.n ≠ n) → ∀ {b}, vx[i]? = some b → b.n = n → vx.find? (fun a => decide (a.n = n)) = some b := by
  induction vx with
  | nil => intro i _ b h; simp at h
  | cons v vs ih =>
    intro i hi b hb he
    cases i with
    | zero =>
      simp at hb
      subst hb
      exact List.find?_cons_of_pos (decide_eq_true he)
    | succ i =>
      have h0 := hi 0 v (by omega) rfl
      have h1 : (v :: vs).find? (fun a => decide (a.n = n)) = vs.find? (fun a => decide (a.n = n)) := List.find?_cons_of_neg (fun z => h0 (of_decide_eq_true z))
      rw [h1]
      exact ih (i := i) (fun j a hj ha => hi (j + 1) a (Nat.succ_lt_succ hj) (by simpa using ha)) (by simpa using hb) he
theorem ok_Book_voice_called {P : Program} {w : World} {K : PySem.W.Frag} {mg : Str → Option Value} {base : Heap} {t : Adr} (T : Txt K w mg t) : FnOk P w K mg base CX0 (0 + 1) t.f_Book_voice_called t.d_Book_voice_called ["self", "name"] (sp_Book_voice_called (cs t)) := by
  refine T.F_Book_voice_called.ok sc_Book_voice_called (fun vs H Q E h => ?_) (fun cdv A outer s H vs Q E hr h => ?_)
  · obtain ⟨_, _, _, _, _, _, _, _, rfl, _⟩ := h
    rfl
  · obtain ⟨x, dx, L, D, U, xs, vx, n, rfl, hx, hL, g, q⟩ := h
    refine bodyOk (pss_cons (ps_for PassesOwn.never rfl (pi_list (pe_fld (pv 0) rfl)) (pg_name (i := 2) sc_Book_voice_called.nd rfl (Or.inl rfl)) (pss_one (ps_if (pt_cmpR (op_eq.or (op_eqD (hu_of64 hr))) (pe_fld (pv 2) rfl) (pv 1) (nomark _)) (pss_one (ps_ret (pv 2))) pss_nil))) (pss_one ps_never)) ?_
    have xl := plen g
    refine ⟨_, rfl, x, _, dx, _, _, rfl, hx, T.cl_Book, T.na_Book_voices, boF_voices _ _ _, L, rfl, ⟨_, SqL.of hL⟩, for_list (K := K) (xs := xs) (fun i σ H' => ∃ v, σ = [some (.ref x), some (.str n), v] ∧ H' = H ∧ ∀ j a, j < i → vx[j]? = some a → a.n ≠ n) ⟨none, rfl, rfl, fun j a hj => by omega⟩ ?_ ?_ ?_⟩
    · rintro i σ H1 _ ⟨v, rfl, eH, _⟩
      rw [eH]
      exact SqL.of hL
    · rintro i y σ H1 hy ⟨v, rfl, eH, hi⟩
      have eH := eH.symm
      subst eH
      obtain ⟨b, e1, rfl, hb⟩ := pget g hy
      refine ⟨_, rfl, b.o, _, b.d, _, _, rfl, hb, T.cl_Voice, T.na_Voice_name, voF_name _ _ _, ?_⟩
      refine ⟨_, rfl, .inl ⟨rfl, _, rfl, ?_⟩⟩
      refine ite2 (fun h => ?_) (fun h => ?_)
      · have e : b.n = n := V.str.inj (of_decide_eq_true h)
        rw [find_take hi e1 e] at q
        exact ⟨_, rfl, q⟩
      · refine ⟨_, rfl, rfl, fun j a hj ha => ?_⟩
        rcases Nat.lt_or_ge j i with z | z
        · exact hi j a z ha
        · have hij : j = i := by omega
          rw [hij, e1] at ha
          cases ha
          exact fun z => h (decide_eq_true (congrArg V.str z))
    · rintro σ H1 ⟨v, rfl, eH, hi⟩
      have eH := eH.symm
      subst eH
      have hn : vx.find? (fun a => decide (a.n = n)) = none := List.find?_eq_none.mpr fun a ha z => by
        obtain ⟨j, hj⟩ := List.getElem?_of_mem ha
        have hjl : j < vx.length := (List.getElem?_eq_some_iff.mp hj).1
        exact hi j a (by omega) hj (of_decide_eq_true z)
      rw [hn] at q
      exact (Bool.noConfusion (show false = true from q.1))
end Mine
namespace Mine
open PySem L2
def sp_Book_plain_voice (c : Cs) : Sp := fun vs H Q E => ∃ (x dx L D U : Addr) (xs : List V) (vx : List Vx) (n : Str), vs = [.ref x, .str n] ∧ H x = some (.ins c.B dx (boF L D U)) ∧ H L = some (.lst xs) ∧ Paired (VxAt c.V H) xs vx ∧
  match vx.find? (fun a => decide (a.n = n)) with
  | none => RX E c .NoVoice H
  | some a => (a.tm = .non → Q (.ref a.o) H) ∧ (∀ p, a.tm = .ref p → RX E c .NotPlain H) ∧ (a.tm = .non ∨ ∃ p, a.tm = .ref p)
theorem ok_Book_plain_voice {P : Program} {w : World} {K : PySem.W.Frag} {mg : Str → Option Value} {base : Heap} {t : Adr} (T : Txt K w mg t) : FnOk P w K mg base CX0 (0 + 2) t.f_Book_plain_voice t.d_Book_plain_voice ["self", "name"] (sp_Book_plain_voice (cs t)) := by
  have G_Book_voice_called := ok_Book_voice_called (P := P) (w := w) (base := base) T
  refine T.F_Book_plain_voice.ok sc_Book_plain_voice (fun vs H Q E h => ?_) (fun cdv A outer s H vs Q E hr h => ?_)
  · obtain ⟨_, _, _, _, _, _, _, _, rfl, _⟩ := h
    rfl
  · obtain ⟨x, dx, L, D, U, xs, vx, n, rfl, hx, hL, g, q⟩ := h
    refine bodyOk (pss_cons (ps_set (i := 2) sc_Book_plain_voice.nd rfl (Or.inl rfl) (pe_meth (pv 0) T.cl_Book T.me_Book_voice_called G_Book_voice_called (hr.mono (by decide)) T.b_Book_voice_called .nil pass0 (pa_cons (pv 1) pa_nil))) (pss_cons (ps_if (pt_cmpR op_notN (pe_fld (pv 2) rfl) pe_non (nomark _)) (pss_one ps_never) pss_nil) (pss_one (ps_ret (pv 2))))) ?_
    refine ⟨_, rfl, x, dx, _, rfl, hx, boF_no_voice_called _ _ _, _, rfl, x, dx, L, D, U, xs, vx, n, rfl, hx, hL, g, ?_⟩
    cases hf : vx.find? (fun a => decide (a.n = n)) with
    | none =>
      rw [hf] at q
      exact (Bool.noConfusion (show false = true from q.1))
    | some a =>
      rw [hf] at q
      obtain ⟨q1, q2, q3⟩ := q
      obtain ⟨j, hj⟩ := List.getElem?_of_mem (List.mem_of_find?_eq_some hf)
      obtain ⟨v, hv, rfl, ha⟩ := pgetR g hj
      refine ⟨_, rfl, a.o, _, a.d, _, _, rfl, ha, T.cl_Voice, T.na_Voice_terms, voF_terms _ _ _, ?_⟩
      rcases q3 with e | ⟨p, e⟩
      · rw [e]
        refine ⟨rfl, _, rfl, ?_⟩
        exact ite2 (fun h => absurd h (by decide)) (fun _ => ⟨_, rfl, q1 e⟩)
      · have q := q2 p e
        rw [e]
        refine ⟨rfl, _, rfl, ?_⟩
        exact ite2 (fun _ => (Bool.noConfusion (show false = true from q.1))) (fun h => absurd (show (!decide (V.ref p = V.non)) = true by rw [decide_eq_false (fun z => nomatch z)]; rfl) h)
end Mine
namespace Mine
open PySem L2
def sp_Book_put (c : Cs) : Sp := fun vs H Q E => ∃ (x : Addr) (F : Addr → Prop) (vw : Vw) (ps fs : List Vw) (n : Str) (i : Int) (p : Addr) (sn : Sn), vs = [.ref x, .str n, .int i, .ref p] ∧ BkC c H x F vw ps fs ∧ H p = some (.tup [.str sn.1, .int sn.2]) ∧ ps.length ≤ 900 ∧
  match findV vw n with
  | none => RX E c .NoVoice H
  | some (.cn _ _ _ _) => RX E c .NotPlain H
  | some (.pl ss) => (¬ (0 ≤ i ∧ i ≤ (ss.length : Int)) → RX E c .NoPlace H) ∧ ((0 ≤ i ∧ i ≤ (ss.length : Int)) → goodB sn = false → RX E c .BadSign H) ∧ ((0 ≤ i ∧ i ≤ (ss.length : Int)) → goodB sn = true → 200 ≤ ss.length → RX E c .Full H) ∧
    ((0 ≤ i ∧ i ≤ (ss.length : Int)) → goodB sn = true → ss.length < 200 → ∀ (s : Sg) (w : Addr) F' H', s.1.str = sn.1 → s.2 = sn.2 → Gr F F' H → Fr F H H' → BkC c H' x F' (setV vw n (.pl (ss.take i.toNat ++ [s] ++ ss.drop i.toNat))) (ps ++ [vw]) [] → Q (.ref w) H')
theorem ok_Book_put {P : Program} {w : World} {K : PySem.W.Frag} {mg : Str → Option Value} {base : Heap} {t : Adr} (T : Txt K w mg t) : FnOk P w K mg base CX0 (0 + 4) t.f_Book_put t.d_Book_put ["self", "name", "at", "sign"] (sp_Book_put (cs t)) := by
  have G_refuse_other_places := ok_refuse_other_places (P := P) (w := w) (base := base) T
  have G_refuse_bad_sign := ok_refuse_bad_sign (P := P) (w := w) (base := base) T
  have G_Book_perform := ok_Book_perform (P := P) (w := w) (base := base) T
  have G_window := ok_window (P := P) (w := w) (base := base) T
  have G_Book_plain_voice := ok_Book_plain_voice (P := P) (w := w) (base := base) T
  have G_Deed___init__ := ok_Deed___init__ (P := P) (w := w) (base := base) T
  refine T.F_Book_put.ok sc_Book_put (fun vs H Q E h => ?_) (fun cdv A outer s H vs Q E hr h => ?_)
  · obtain ⟨_, _, _, _, _, _, _, _, _, rfl, _⟩ := h
    rfl
  · obtain ⟨x, F, vw, ps, fs, n, iz, p, sn, rfl, B, hp, hps, q⟩ := h
    refine bodyOk (pss_cons (ps_set (i := 4) sc_Book_put.nd rfl (Or.inl rfl) (pe_fld (pe_meth (pv 0) T.cl_Book T.me_Book_plain_voice G_Book_plain_voice (hr.mono (by decide)) T.b_Book_plain_voice .nil pass0 (pa_cons (pv 1) pa_nil)) rfl)) (pss_cons (ps_expr (pe_call G_refuse_other_places (hr.mono (by decide)) rfl T.mg_refuse_other_places T.F_refuse_other_places.kp T.b_refuse_other_places .nil pass0 (pa_cons (pv 2) (pa_cons (pe_callB (call_len_seq.or call_len_str) rfl T.nb_len bt_len (pa_cons (pv 4) pa_nil)) pa_nil)))) (pss_cons (ps_expr (pe_call G_refuse_bad_sign (hr.mono (by decide)) rfl T.mg_refuse_bad_sign T.F_refuse_bad_sign.kp T.b_refuse_bad_sign .nil pass0 (pa_cons (pv 3) pa_nil))) (pss_cons (ps_if (pt_cmpR op_ge (pe_callB (call_len_seq.or call_len_str) rfl T.nb_len bt_len (pa_cons (pv 4) pa_nil)) (pe_glob (v := .int 200) rfl T.c_MOST_SIGNS ⟨_, rfl⟩) (nomark _)) (pss_one ps_never) pss_nil) (pss_cons (ps_expr (pe_meth (pv 0) T.cl_Book T.me_Book_perform G_Book_perform (hr.mono (by decide)) T.b_Book_perform .nil pass0 (pa_cons (pe_make T.mk_Deed G_Deed___init__ (hr.mono (by decide)) rfl T.mg_Deed T.b_Deed___init__ .nil pass0 (pa_cons (pv 4) (pa_cons (pv 2) (pa_cons (pe_lst pa_nil) (pa_cons (pe_lst (pa_cons (pv 3) pa_nil)) pa_nil))))) pa_nil))) (pss_one (ps_ret (pe_call G_window (hr.mono (by decide)) rfl T.mg_window T.F_window.kp T.b_window .nil pass0 (pa_cons (pv 4) (pa_cons (pv 2) (pa_cons (pe_op (op_add.or (op_add_str.or op_cat)) (pv 2) pe_int) (pa_cons (pe_lst (pa_cons (pv 3) pa_nil)) pa_nil)))))))))))) ?_
    obtain ⟨L, D, U, all, M, Ps, Fs, es, us, b, iM, pp, pf, f⟩ := B.ex
    obtain ⟨dx, hx⟩ := b.hx
    obtain ⟨vx, g, gv⟩ := b.voices iM
    obtain ⟨ds, hD, pD⟩ := b.hD
    obtain ⟨ux, hU, pU⟩ := b.hU
    have dl := plen pD
    have pl := plen pp
    have pe := b.past.len
    refine ⟨_, rfl, x, dx, _, rfl, hx, boF_no_plain_voice _ _ _, _, rfl, x, dx, L, D, U, M L, vx, n, rfl, hx, b.hL, g, ?_⟩
    rcases pfind gv (fun _ _ r => r.2.1) n with ⟨f1, f2⟩ | ⟨a, th, j, f1, f2, r, an, fj, fw⟩
    · rw [f1]
      rw [f2] at q
      exact (Bool.noConfusion (show false = true from q.1))
    rw [f1]
    rw [f2] at q
    subst an
    cases th with
    | cn ld lt sl tn =>
      obtain ⟨pt, hpt, _⟩ := r.2.2
      refine ⟨fun z => ?_, fun _ _ => (Bool.noConfusion (show false = true from q.1)), .inr ⟨pt, hpt⟩⟩
      rw [hpt] at z
      cases z
    | pl ss =>
      obtain ⟨htm, hg⟩ := r.2.2
      obtain ⟨q1, q2, q3, q4⟩ := q
      have haa := r.1
      obtain ⟨ha, hl⟩ := b.ha a haa
      have yl := plen hg
      have hj : (M L)[j]? = some (.ref a.o) := by
        obtain ⟨v, hv, e1, _⟩ := pgetR g fj
        rw [← e1]; exact hv
      refine ⟨fun _ => ?_, (fun pz z => by rw [htm] at z; cases z), .inl htm⟩
      refine ⟨a.o, _, a.d, _, _, rfl, ha, T.cl_Voice, T.na_Voice_signs, voF_signs _ _ _, ?_⟩
      refine ⟨_, rfl, _, rfl, .inl ⟨a.l, M a.l, rfl, .inl (SqL.of hl), ?_⟩⟩
      refine ⟨iz, ((M a.l).length : Int), rfl, fun hi => ?_, fun hi => ?_⟩
      rotate_left
      · have q := q1 (by rw [← yl]; exact hi)
        exact (Bool.noConfusion (show false = true from q.1))
      rw [yl] at hi
      refine ⟨_, rfl, p, sn, rfl, hp, fun hgd => ?_, fun hgd => ?_⟩
      rotate_left
      · have q := q2 hi hgd
        exact (Bool.noConfusion (show false = true from q.1))
      refine ⟨_, rfl, .inl ⟨a.l, M a.l, rfl, .inl (SqL.of hl), ?_⟩⟩
      refine ⟨_, _, rfl, rfl, _, rfl, ?_⟩
      refine ite2 (fun h => ?_) (fun h => ?_)
      · have h' := of_decide_eq_true h
        have q := q3 hi hgd (by omega)
        exact (Bool.noConfusion (show false = true from q.1))
      have hlt : ss.length < 200 := by
        rcases Nat.lt_or_ge ss.length 200 with z | z
        · exact z
        · exact absurd (decide_eq_true (by omega)) h
      obtain ⟨sg, e1, e2, gt⟩ := good_of hgd
      rw [← e1, ← e2] at hp
      obtain ⟨i, rfl⟩ : ∃ i : Nat, iz = (i : Int) := ⟨iz.toNat, by omega⟩
      have hi : i ≤ ss.length := by omega
      have q4 := q4 (by omega) hgd hlt sg
      rw [Int.toNat_natCast] at q4
      refine ⟨_, rfl, x, dx, _, rfl, hx, boF_no_perform _ _ _, ?_⟩
      refine ⟨_, rfl, _, rfl, big (by show 0 ≤ 1000; omega), fun B' hB => ?_⟩
      refine ⟨_, rfl, big (by show 1 ≤ 1000; omega), fun A_ hA => ?_⟩
      have hA0 := updFree hA
      have sB := (Same.upd (o := .lst []) hB).trans (Same.upd (o := .lst [V.ref p]) hA)
      have hB2 := Same.upd (o := .lst [V.ref p]) hA _ _ (upd_same (H := H) (a := B') (o := .lst []))
      have hA2 := upd_same (H := upd H B' (.lst [])) (a := A_) (o := .lst [V.ref p])
      have lA : a.l ≠ A_ := ne_of_none hl hA0
      generalize upd (upd H B' (.lst [])) A_ (.lst [V.ref p]) = H2 at sB hB2 hA2
      intro d dd nd ndd ne
      refine ⟨d, dd, a.l, (i : Int), B', A_, rfl, upd_same, rfl, ?_⟩
      rw [upd_upd]
      have s3 : Same H2 (upd (upd H2 dd (.own d)) d (.ins t.C_Deed dd (deF a.l (i : Int) B' A_))) := fun y o hy => by
        rw [upd_ne (ne_of_none hy nd), upd_ne (ne_of_none hy ndd)]
        exact hy
      have hd3 := upd_same (H := upd H2 dd (.own d)) (a := d) (o := .ins t.C_Deed dd (deF a.l (i : Int) B' A_))
      generalize upd (upd H2 dd (.own d)) d (.ins t.C_Deed dd (deF a.l (i : Int) B' A_)) = H3 at s3 hd3
      have s4 := sB.trans s3
      obtain ⟨_, d1, d2⟩ := b.lists (.inr ⟨a, haa, rfl⟩)
      refine ⟨x, dx, L, D, U, d, dd, a.l, B', A_, i, ds, ux, M a.l, [], [.ref p], rfl, s4 _ _ hx, s4 _ _ hD, s4 _ _ hU, hd3, s4 _ _ hl, s3 _ _ hB2, s3 _ _ hA2, lA, d1, d2, b.DU, by simp; omega, by simp; omega, by omega, ?_⟩
      have hM : doD ⟨d, dd, a.l, i, B', A_, [], [.ref p]⟩ M a.l = (M a.l).take i ++ [.ref p] ++ (M a.l).drop (i + 0) := putAt_same
      have keep : ∀ y o, H3 y = some o → y ≠ a.l → y ≠ D → y ≠ U → (upd (upd (upd H3 a.l (.lst ((M a.l).take i ++ [.ref p] ++ (M a.l).drop (i + 0)))) D (.lst (ds ++ [.ref d]))) U (.lst [])) y = some o := fun y o hy y1 y2 y3 => by
        rw [upd_ne y3, upd_ne y2, upd_ne y1]
        exact hy
      have k1 : (upd (upd (upd H3 a.l (.lst ((M a.l).take i ++ [.ref p] ++ (M a.l).drop (i + 0)))) D (.lst (ds ++ [.ref d]))) U (.lst [])) a.l = some (.lst ((M a.l).take i ++ [.ref p] ++ (M a.l).drop (i + 0))) := by
        rw [upd_ne d2, upd_ne d1, upd_same]
      have k2 : (upd (upd (upd H3 a.l (.lst ((M a.l).take i ++ [.ref p] ++ (M a.l).drop (i + 0)))) D (.lst (ds ++ [.ref d]))) U (.lst [])) D = some (.lst (ds ++ [.ref d])) := by
        rw [upd_ne b.DU, upd_same]
      have k3 : (upd (upd (upd H3 a.l (.lst ((M a.l).take i ++ [.ref p] ++ (M a.l).drop (i + 0)))) D (.lst (ds ++ [.ref d]))) U (.lst [])) U = some (.lst []) := upd_same
      generalize (upd (upd (upd H3 a.l (.lst ((M a.l).take i ++ [.ref p] ++ (M a.l).drop (i + 0)))) D (.lst (ds ++ [.ref d]))) U (.lst [])) = H4 at keep k1 k2 k3
      have g3 := hg.same s4
      have sgN : Sgs H3 ((M a.l).take i ++ [.ref p] ++ (M a.l).drop (i + 0)) (ss.take i ++ [sg] ++ ss.drop i) := papp (papp (ptake i g3) (.cons ⟨p, rfl, s4 _ _ hp⟩ .nil)) (pdrop i g3)
      obtain ⟨F', gr, fr, B4⟩ := Bk.lined b iM pp f B.wv haa hj fw htm (e := ⟨d, dd, a.l, i, B', A_, [], [.ref p]⟩) rfl ⟨by simp; omega, by simp⟩ (by simp) (by simp) s4 hB hA0 ⟨rfl, hd3, s3 _ _ hB2, s3 _ _ hA2⟩ (by rw [hM]; exact sgN) (by simp; omega) (fun s hs => by
        have wg := ((B.wv vw (.inr (.inl rfl))).gd _ _ (List.mem_of_getElem? fw)).2
        rcases List.mem_append.mp hs with hs | hs
        · rcases List.mem_append.mp hs with hs | hs
          · exact wg s (List.mem_of_mem_take hs)
          · rw [List.mem_singleton.mp hs]; exact gt
        · exact wg s (List.mem_of_mem_drop hs)) hD pD keep (by rw [hM]; exact k1) k2 k3
      have nT : ∀ {y us}, H3 y = some (.tup us) → H4 y = some (.tup us) := fun {y us} hy => keep y _ hy (ne_of hy (s4 _ _ hl) (by intro z; cases z)) (ne_of hy (s4 _ _ hD) (by intro z; cases z)) (ne_of hy (s4 _ _ hU) (by intro z; cases z))
      have sg4 : Sgs H4 ((M a.l).take i ++ [.ref p] ++ (M a.l).drop (i + 0)) (ss.take i ++ [sg] ++ ss.drop i) := pmono (fun _ _ ⟨z, e1, e2⟩ => ⟨z, e1, nT e2⟩) sgN
      refine ⟨_, rfl, _, rfl, _, rfl, .inl ⟨_, _, rfl, rfl, _, rfl, big (by show 1 ≤ 1000; omega), fun lc hlc => ?_⟩⟩
      have sc := Same.upd (o := .lst [V.ref p]) hlc
      refine ⟨a.l, lc, _, [.ref p], ss.take i ++ [sg] ++ ss.drop i, [sg], i, i + 1, rfl, SqL.of (sc _ _ k1), sg4.same sc, by simp; omega, by simp; omega, by omega, SqL.of upd_same, .cons ⟨p, rfl, sc _ _ (nT (s4 _ _ hp))⟩ .nil, by simp, fun w H5 s5 => ?_⟩
      have s6 := sc.trans s5
      exact q4 w F' H5 e1 e2 gr (fun y o hy hn => s6 _ _ (fr y o hy hn)) (B4.same s6)
end Mine
namespace Mine
open PySem L2
def sp_Deed_undo (C : Addr) : Sp := fun vs H Q _ => ∃ (x dx T_ B A : Addr) (i : Nat) (xs bs as : List V), vs = [.ref x] ∧ H x = some (.ins C dx (deF T_ (i : Int) B A)) ∧ H T_ = some (.lst xs) ∧ H B = some (.lst bs) ∧ H A = some (.lst as) ∧ T_ ≠ B ∧ i + as.length ≤ xs.length ∧ xs.length + bs.length ≤ 1000 ∧
  Q .non (upd H T_ (.lst (xs.take i ++ bs ++ xs.drop (i + as.length))))
theorem ok_Deed_undo {P : Program} {w : World} {K : PySem.W.Frag} {mg : Str → Option Value} {base : Heap} {t : Adr} (T : Txt K w mg t) : FnOk P w K mg base CX0 (0 + 1) t.f_Deed_undo t.d_Deed_undo ["self"] (sp_Deed_undo t.C_Deed) := by
  refine T.F_Deed_undo.ok sc_Deed_undo (fun vs H Q E h => ?_) (fun cdv A outer s H vs Q E hr h => ?_)
  · obtain ⟨_, _, _, _, _, _, _, _, _, rfl, _⟩ := h
    rfl
  · obtain ⟨x, dx, T_, B, A_, i, xs, bs, as, rfl, hx, hT, hB, hA, hne, hi, hz, q⟩ := h
    refine bodyOk (pss_one (ps_asg (pe_fld (pv 0) rfl) (pg_slice (pe_fld (pv 0) rfl) (po_some (pe_fld (pv 0) rfl)) (po_some (pe_op (op_add.or (op_add_str.or op_cat)) (pe_fld (pv 0) rfl) (pe_callB (call_len_seq.or call_len_str) rfl T.nb_len bt_len (pa_cons (pe_fld (pv 0) rfl) pa_nil))))))) ?_
    refine ⟨_, rfl, x, _, dx, _, _, rfl, hx, T.cl_Deed, T.na_Deed_before, deF_before _ _ _ _, ?_⟩
    refine ⟨_, rfl, x, _, dx, _, _, rfl, hx, T.cl_Deed, T.na_Deed_things, deF_things _ _ _ _, ?_⟩
    refine ⟨_, rfl, x, _, dx, _, _, rfl, hx, T.cl_Deed, T.na_Deed_at, deF_at _ _ _ _, _, rfl, ?_⟩
    refine ⟨_, rfl, x, _, dx, _, _, rfl, hx, T.cl_Deed, T.na_Deed_at, deF_at _ _ _ _, ?_⟩
    refine ⟨_, rfl, x, _, dx, _, _, rfl, hx, T.cl_Deed, T.na_Deed_after, deF_after _ _ _ _, ?_⟩
    refine .inl ⟨A_, as, rfl, .inl (SqL.of hA), .inl ⟨_, _, rfl, rfl, _, rfl, ?_⟩⟩
    refine ⟨T_, B, xs, bs, (i : Int), ((i + as.length : Nat) : Int), rfl, rfl, rfl, by simp, hT, hB, hne, by omega, by omega, by omega, Nat.le_trans hz (by decide), ?_⟩
    rw [Int.toNat_natCast, Int.toNat_natCast]
    exact q
end Mine
namespace Mine
open PySem L2
def sp_Book_undo (c : Cs) : Sp := fun vs H Q E => ∃ (x : Addr) (F : Addr → Prop) (vw : Vw) (ps fs : List Vw), vs = [.ref x] ∧ BkC c H x F vw ps fs ∧ ps.length + fs.length ≤ 900 ∧
  (ps = [] → ∀ H', Same H H' → RX E c .NoMore H') ∧ (∀ ps0 v, ps = ps0 ++ [v] → ∀ H', Fr F H H' → BkC c H' x F v ps0 (fs ++ [vw]) → Q .non H')
theorem ok_Book_undo {P : Program} {w : World} {K : PySem.W.Frag} {mg : Str → Option Value} {base : Heap} {t : Adr} (T : Txt K w mg t) : FnOk P w K mg base CX0 (0 + 2) t.f_Book_undo t.d_Book_undo ["self"] (sp_Book_undo (cs t)) := by
  have G_Deed_undo := ok_Deed_undo (P := P) (w := w) (base := base) T
  refine T.F_Book_undo.ok sc_Book_undo (fun vs H Q E h => ?_) (fun cdv A outer s H vs Q E hr h => ?_)
  · obtain ⟨_, _, _, _, _, rfl, _⟩ := h
    rfl
  · obtain ⟨x, F, vw, ps, fs, rfl, B, hps, q1, q2⟩ := h
    refine bodyOk (pss_cons (ps_if (pt_cmpR (op_eqE (hu_of64 hr)) (pe_fld (pv 0) rfl) (pe_lst pa_nil) (nomark _)) (pss_one ps_never) pss_nil) (pss_cons (ps_set (i := 1) sc_Book_undo.nd rfl (Or.inl rfl) (pe_bm0 PySem.F.plainAttrs_list PySem.F.slot_list_pop PySem.F.type_list_pop mt_pop (pe_fld (pv 0) rfl))) (pss_cons (ps_expr (pe_meth0 (pv 1) T.cl_Deed T.me_Deed_undo G_Deed_undo (hr.mono (by decide)) T.b_Deed_undo .nil pass0)) (pss_one (ps_expr (pe_bm PySem.F.plainAttrs_list PySem.F.slot_list_append PySem.F.type_list_append mt_append (pe_fld (pv 0) rfl) (pa_cons (pv 1) pa_nil))))))) ?_
    obtain ⟨L, D, U, all, M, Ps, Fs, es, us, b, iM, pp, pf, f⟩ := B.ex
    obtain ⟨dx, hx⟩ := b.hx
    obtain ⟨ds, hD, pD⟩ := b.hD
    have dl := plen pD
    have pl := plen pp
    have pe := b.past.len
    refine ⟨_, rfl, x, _, dx, _, _, rfl, hx, T.cl_Book, T.na_Book_done, boF_done _ _ _, big (by show 0 ≤ 1000; omega), fun e0 he0 => ?_⟩
    have s0 := Same.upd (o := .lst []) he0
    refine ⟨D, e0, ds, rfl, rfl, SqL.of (s0 _ _ hD), SqL.of upd_same, _, rfl, ?_⟩
    generalize upd H e0 (.lst []) = H0 at s0
    refine ite2 (fun h => ?_) (fun h => ?_)
    · have hds : ds = [] := List.isEmpty_iff.mp h
      rw [hds] at dl
      have hp0 : ps = [] := List.length_eq_zero_iff.mp (by rw [← pl, pe, ← dl]; rfl)
      have q := q1 hp0 H0 s0
      exact (Bool.noConfusion (show false = true from q.1))
    have hne : ds ≠ [] := fun z => h (by rw [z]; rfl)
    obtain ⟨ds0, v, rfl⟩ : ∃ ds0 v, ds = ds0 ++ [v] := ⟨ds.dropLast, ds.getLast hne, (List.dropLast_concat_getLast hne).symm⟩
    obtain ⟨es0, e, he, pD0, hd⟩ := psplit pD
    have hvo := hd.1
    subst hvo
    have B0 := B.same s0
    have b0 := b.kept f (.same s0)
    have hd0 : DdAt t.C_Deed H0 (.ref e.o) e := ddAt_kept (F := fun _ => True) (.same s0) ⟨trivial, trivial⟩ hd
    have ok := b.dd e (.inl (by rw [he]; exact List.mem_append_right _ (List.mem_singleton_self _)))
    obtain ⟨hT, TD, TU⟩ := b0.lists ok.1
    have nTB : e.T ≠ e.B := by
      rcases ok.1 with z | ⟨a, ha, z⟩
      · rw [z]; exact Ne.symm ok.2.1.1
      · rw [z]; exact Ne.symm (ok.2.1.2.2.2 a ha)
    obtain ⟨Ps0, S, _, _, ft, hMS⟩ := (he ▸ b.past).last
    have fit : e.i + e.as.length ≤ (M e.T).length := by rw [hMS]; exact do_fits ft
    have hx0 := s0 _ _ hx
    have hD0 := s0 _ _ hD
    obtain ⟨ux, hU0, pU⟩ := b0.hU
    have mlen : (M e.T).length ≤ 200 := by
      rcases ok.1 with z | ⟨a, ha, z⟩
      · rw [z]; exact Nat.le_trans (b.wf M (.inr (.inl rfl))).len (by decide)
      · rw [z]; exact ((b.wf M (.inr (.inl rfl))).ln a ha).1
    refine ⟨_, rfl, x, _, dx, _, _, rfl, hx0, T.cl_Book, T.na_Book_done, boF_done _ _ _, ?_⟩
    refine ⟨.inl ⟨rfl, _, SqL.of hD0⟩, D, ds0 ++ [V.ref e.o], V.ref e.o, rfl, rfl, hD0, by simp, ?_⟩
    rw [List.dropLast_concat]
    have nD : ∀ {y C d fs}, H0 y = some (.ins C d fs) → y ≠ D := fun hy => ne_of hy hD0 (by intro z; cases z)
    have nT : ∀ {y C d fs}, H0 y = some (.ins C d fs) → y ≠ e.T := fun hy => ne_of hy hT (by intro z; cases z)
    have r1 : ∀ {y o}, H0 y = some o → y ≠ D → upd H0 D (.lst ds0) y = some o := fun hy hn => by rw [upd_ne hn]; exact hy
    refine ⟨_, rfl, e.o, e.d, _, rfl, r1 hd0.2.1 (nD hd0.2.1), deF_no_undo _ _ _ _, ?_⟩
    refine ⟨e.o, e.d, e.T, e.B, e.A, e.i, M e.T, e.bs, e.as, rfl, r1 hd0.2.1 (nD hd0.2.1), r1 hT TD, r1 hd0.2.2.1 ok.2.1.2.1, r1 hd0.2.2.2 ok.2.2.1.2.1, nTB, fit, by have := ok.2.2.2.1; omega, ?_⟩
    have r2 : ∀ {y o}, H0 y = some o → y ≠ D → y ≠ e.T → upd (upd H0 D (.lst ds0)) e.T (.lst ((M e.T).take e.i ++ e.bs ++ (M e.T).drop (e.i + e.as.length))) y = some o := fun hy hn hn' => by rw [upd_ne hn', upd_ne hn]; exact hy
    refine ⟨_, rfl, x, _, dx, _, _, rfl, r2 hx0 (nD hx0) (nT hx0), T.cl_Book, T.na_Book_undone, boF_undone _ _ _, ?_⟩
    have hU1 := r2 hU0 (Ne.symm b.DU) (Ne.symm TU)
    have ul := plen pU
    have fl := plen pf
    have fe := b.fut.len
    refine ⟨.inl ⟨rfl, _, SqL.of hU1⟩, _, rfl, U, _, _, rfl, rfl, hU1, small1000 (by omega), ?_⟩
    obtain ⟨ps0, v, e1, B2⟩ := Bk.undone b0 (Is.kept (F := F) (.same s0) iM) (pmono (fun _ _ q => Is.kept (F := F) (.same s0) q) pp) (pmono (fun _ _ q => Is.kept (F := F) (.same s0) q) pf) f B.wv he (pmonoM (fun _ e' _ q => ddAt_kept (F := fun _ => True) (.same s0) ⟨trivial, trivial⟩ q) pD0) hd0 pU
      (H2 := upd (upd (upd H0 D (.lst ds0)) e.T (.lst ((M e.T).take e.i ++ e.bs ++ (M e.T).drop (e.i + e.as.length)))) U (.lst (ux ++ [.ref e.o]))) (fun y o hy y1 y2 y3 => by rw [upd_ne y3]; exact r2 hy y2 y1) (by rw [upd_ne TU, upd_same]; exact congrArg (fun z => some (HO.lst z)) putAt_same.symm) (by rw [upd_ne b.DU, upd_ne (Ne.symm TD), upd_same]) upd_same
    refine q2 ps0 v e1 _ (fun y o hy hn => ?_) B2
    have fT : F e.T := by
      rcases ok.1 with z | ⟨a, ha, z⟩
      · rw [z]; exact f.L
      · rw [z]; exact f.l a ha
    rw [upd_ne (show y ≠ U from fun z => hn (z ▸ f.U))]
    exact r2 (s0 _ _ hy) (fun z => hn (z ▸ f.D)) (fun z => hn (z ▸ fT))
end Mine
namespace Mine
open PySem L2
def sp_Book_canon (c : Cs) : Sp := fun vs H Q E => ∃ (x : Addr) (F : Addr → Prop) (vw : Vw) (ps fs : List Vw) (n : Str), vs = [.ref x, .str n] ∧ BkC c H x F vw ps fs ∧
  match findV vw n with
  | none => RX E c .NoVoice H
  | some (.pl _) => Q .non H
  | some (.cn ld lt sl tn) => ∀ p, H p = some (.tup [.str ld, .int lt, .int sl, .bl tn]) → Q (.ref p) H
theorem ok_Book_canon {P : Program} {w : World} {K : PySem.W.Frag} {mg : Str → Option Value} {base : Heap} {t : Adr} (T : Txt K w mg t) : FnOk P w K mg base CX0 (0 + 2) t.f_Book_canon t.d_Book_canon ["self", "name"] (sp_Book_canon (cs t)) := by
  have G_Book_voice_called := ok_Book_voice_called (P := P) (w := w) (base := base) T
  refine T.F_Book_canon.ok sc_Book_canon (fun vs H Q E h => ?_) (fun cdv A outer s H vs Q E hr h => ?_)
  · obtain ⟨_, _, _, _, _, _, rfl, _⟩ := h
    rfl
  · obtain ⟨x, F, vw, ps, fs, n, rfl, B, q⟩ := h
    refine bodyOk (pss_one (ps_ret (pe_fld (pe_meth (pv 0) T.cl_Book T.me_Book_voice_called G_Book_voice_called (hr.mono (by decide)) T.b_Book_voice_called .nil pass0 (pa_cons (pv 1) pa_nil)) rfl))) ?_
    obtain ⟨L, D, U, all, M, Ps, Fs, es, us, b, iM, pp, pf, f⟩ := B.ex
    obtain ⟨dx, hx⟩ := b.hx
    obtain ⟨vx, g, gv⟩ := b.voices iM
    refine ⟨_, rfl, x, dx, _, rfl, hx, boF_no_voice_called _ _ _, _, rfl, x, dx, L, D, U, M L, vx, n, rfl, hx, b.hL, g, ?_⟩
    rcases pfind gv (fun _ _ r => r.2.1) n with ⟨f1, f2⟩ | ⟨a, th, j, f1, f2, r, an, fj, fw⟩
    · rw [f1]
      rw [f2] at q
      exact (Bool.noConfusion (show false = true from q.1))
    rw [f1]
    rw [f2] at q
    refine ⟨a.o, _, a.d, _, _, rfl, (b.ha a r.1).1, T.cl_Voice, T.na_Voice_terms, voF_terms _ _ _, ?_⟩
    cases th with
    | pl ss => rw [r.2.2.1]; exact q
    | cn ld lt sl tn =>
      obtain ⟨p, e1, e2⟩ := r.2.2
      rw [e1]
      exact q p e2
end Mine
namespace Mine
open PySem L2
theorem turn_get (k : Kd) : (([(Str.ofString "3", V.str "2"), (Str.ofString "2", V.str "3")] : List (Str × V)).lookup k.str).getD (.str k.str) = .str (turnK k).str := by cases k <;> decide +kernel
def sp_turned (K : PySem.W.Frag) : Sp := fun vs H Q _ => ∃ (l : Addr) (xs : List V) (ss : List Sg), vs = [.ref l] ∧ SqL K H l xs ∧ Sgs H xs ss ∧ ss.length ≤ 400 ∧
  ∀ (f : Addr) (ys : List V) (H' : Hp), Same H H' → H f = none → H' f = some (.lst ys) → Sgs H' ys (ss.map turnS) → Q (.ref f) H'
theorem ok_turned {P : Program} {w : World} {K : PySem.W.Frag} {mg : Str → Option Value} {base : Heap} {t : Adr} (T : Txt K w mg t) : FnOk P w K mg base CX0 (0 + 1) t.f_turned t.d_turned ["line"] (sp_turned K) := by
  refine T.F_turned.ok sc_turned (fun vs H Q E h => ?_) (fun cdv A outer s H vs Q E hr h => ?_)
  · obtain ⟨_, _, _, rfl, _⟩ := h
    rfl
  · obtain ⟨l, xs, ss, rfl, hS, hg, hn, q⟩ := h
    refine bodyOk (pss_one (ps_ret (pe_comp (cn := ["kind", "tone"]) rfl (CompFit.of rfl) (pi_list (pv 0)) (fun _ => (pg_tup rfl (pgs_cons (pg_name (i := 0) nd_turned_3 rfl (Or.inl rfl)) (pgs_cons (pg_name (i := 1) nd_turned_3 rfl (Or.inl rfl)) pgs_nil)))) (fun _ => pf_nil) (fun _ => (pe_tup (pa_cons (pe_kget2 (pe_glob (v := .ref t.a_TURNED_KINDS) rfl T.c_TURNED_KINDS rfl) (pv 0) (pv 0)) (pa_cons (pv 1) pa_nil))))))) ?_
    (repeat array_get_dec)
    refine ⟨⟨xs, hS⟩, fun D b hD => ?_⟩
    refine comp_list (K := K) (xs := xs) (fun i ys σ H' => ∃ (v w : Option V), σ = [v, w, some (.ref l)] ∧ Same H H' ∧ H' D = some (.lst ys) ∧ Sgs H' ys ((ss.take i).map turnS))
      ⟨none, none, rfl, Same.upd hD, upd_same, .nil⟩ ?_ ?_ ?_
    · rintro i ys σ H' ⟨v, w, rfl, s2, _⟩
      exact s2.seq hS
    · rintro i ys x σ H' hx ⟨v, w, rfl, s2, hDl, hsg⟩ N hN
      obtain ⟨s, hs, p, rfl, hp⟩ := pget hg hx
      have hi : i < ss.length := (List.getElem?_eq_some_iff.mp hs).1
      refine ⟨p, _, rfl, SqT.of (s2 _ _ hp), rfl, _, _, rfl, _, _, rfl, rfl, ?_⟩
      refine ⟨_, _, rfl, T.kd_TURNED_KINDS, ?_⟩
      (repeat array_get_dec)
      rw [turn_get]
      refine ⟨by show 2 ≤ sizeLine; decide, fun z hz => ?_⟩
      have sz := Same.upd (o := .tup [.str (turnK s.1).str, .int s.2]) hz
      have hD3 := sz _ _ hDl
      refine ⟨hD3, ?_, ?_⟩
      · rw [plen hsg, List.length_map, List.length_take]
        exact small1000 (by omega)
      · refine hN _ _ _ ⟨_, _, rfl, sameOwn (s2.trans sz) hD, upd_same, ?_⟩
        rw [List.take_succ, hs, List.map_append]
        exact psnoc (sgsUpd hD3 (hsg.same sz)) (sgUpd hD3 ⟨z, rfl, upd_same⟩)
    · rintro ys σ H' ⟨v, w, rfl, s2, hDl, hsg⟩
      rw [plen hg, List.take_length] at hsg
      exact q D ys H' s2 hD hDl hsg
end Mine
namespace Mine
open PySem L2
def sp_Book_line0 (c : Cs) : Sp := fun vs H Q E => ∃ (x : Addr) (F : Addr → Prop) (vw : Vw) (ps fs : List Vw) (n : Str) (ss : List Sg), vs = [.ref x, .str n] ∧ BkC c H x F vw ps fs ∧ findV vw n = some (.pl ss) ∧
  ∀ (l : Addr) (ys : List V) (H' : Hp), H l = none → Same H H' → H' l = some (.lst ys) → Sgs H' ys ss → Q (.ref l) H'
theorem ok_Book_line0 {P : Program} {w : World} {K : PySem.W.Frag} {mg : Str → Option Value} {base : Heap} {t : Adr} (T : Txt K w mg t) : FnOk P w K mg base CX0 (0 + 3) t.f_Book_line t.d_Book_line ["self", "name"] (sp_Book_line0 (cs t)) := by
  have G_Book_canon := ok_Book_canon (P := P) (w := w) (base := base) T
  have G_turned := ok_turned (P := P) (w := w) (base := base) T
  have G_Book_voice_called := ok_Book_voice_called (P := P) (w := w) (base := base) T
  refine T.F_Book_line.ok sc_Book_line (fun vs H Q E h => ?_) (fun cdv A outer s H vs Q E hr h => ?_)
  · obtain ⟨_, _, _, _, _, _, _, rfl, _⟩ := h
    rfl
  · obtain ⟨x, F, vw, ps, fs, n, ss, rfl, B, hf, q⟩ := h
    refine bodyOk (pss_cons (ps_set (i := 2) sc_Book_line.nd rfl (Or.inl rfl) (pe_meth (pv 0) T.cl_Book T.me_Book_canon G_Book_canon (hr.mono (by decide)) T.b_Book_canon .nil pass0 (pa_cons (pv 1) pa_nil))) (pss_cons (ps_if (pt_cmpR op_isN (pv 2) pe_non (nomark _)) (pss_one (ps_ret (pe_callTy call_list_of rfl T.nb_list bt_list (pa_cons (pe_fld (pe_meth (pv 0) T.cl_Book T.me_Book_voice_called G_Book_voice_called (hr.mono (by decide)) T.b_Book_voice_called .nil pass0 (pa_cons (pv 1) pa_nil)) rfl) pa_nil)))) pss_nil) (pss_cons (ps_asg (pv 2) (pg_tup rfl (pgs_cons (pg_name (i := 3) sc_Book_line.nd rfl (Or.inl rfl)) (pgs_cons (pg_name (i := 4) sc_Book_line.nd rfl (Or.inl rfl)) (pgs_cons (pg_name (i := 5) sc_Book_line.nd rfl (Or.inl rfl)) (pgs_cons (pg_name (i := 6) sc_Book_line.nd rfl (Or.inl rfl)) pgs_nil)))))) (pss_cons (ps_set (i := 7) sc_Book_line.nd rfl (Or.inl rfl) pe_never) (pss_one (ps_ret (pe_mid (pe_ifExp (pt_val (pv 6)) (pe_call G_turned (hr.mono (by decide)) rfl T.mg_turned T.F_turned.kp T.b_turned .nil pass0 (pa_cons (pv 7) pa_nil)) (pv 7))))))))) ?_
    obtain ⟨L, D, U, all, M, Ps, Fs, es, us, b, iM, pp, pf, f⟩ := B.ex
    obtain ⟨dx, hx⟩ := b.hx
    obtain ⟨vx, g, gv⟩ := b.voices iM
    refine ⟨_, rfl, x, dx, _, rfl, hx, boF_no_canon _ _ _, _, rfl, x, F, vw, ps, fs, n, rfl, B, ?_⟩
    rw [hf]
    refine ⟨_, rfl, rfl, _, rfl, ?_⟩
    refine ite2 (fun _ => ?_) (fun h => absurd (by decide) h)
    refine ⟨_, rfl, x, dx, _, rfl, hx, boF_no_voice_called _ _ _, _, rfl, x, dx, L, D, U, M L, vx, n, rfl, hx, b.hL, g, ?_⟩
    rcases pfind gv (fun _ _ r => r.2.1) n with ⟨f1, f2⟩ | ⟨a, th, j, f1, f2, r, an, fj, fw⟩
    · rw [f2] at hf
      cases hf
    rw [f1]
    rw [f2] at hf
    cases hf
    refine ⟨a.o, _, a.d, _, _, rfl, (b.ha a r.1).1, T.cl_Voice, T.na_Voice_signs, voF_signs _ _ _, ?_⟩
    refine ⟨_, _, rfl, .inl (SqL.of (b.ha a r.1).2), fun l hl => ?_⟩
    exact q l _ _ hl (Same.upd hl) upd_same (r.2.2.2.same (Same.upd hl))
def sp_Book_line (c : Cs) : Sp := fun vs H Q E => ∃ (x : Addr) (F : Addr → Prop) (vw : Vw) (ps fs : List Vw) (n : Str), vs = [.ref x, .str n] ∧ BkC c H x F vw ps fs ∧
  match findV vw n with
  | none => RX E c .NoVoice H
  | some _ => ∀ (l : Addr) (ys : List V) (H' : Hp), H l = none → Same H H' → H' l = some (.lst ys) → Sgs H' ys (lineV vw n) → Q (.ref l) H'
theorem ok_Book_line {P : Program} {w : World} {K : PySem.W.Frag} {mg : Str → Option Value} {base : Heap} {t : Adr} (T : Txt K w mg t) : FnOk P w K mg base CX0 (0 + 4) t.f_Book_line t.d_Book_line ["self", "name"] (sp_Book_line (cs t)) := by
  have G_Book_line0 := ok_Book_line0 (P := P) (w := w) (base := base) T
  have G_Book_canon := ok_Book_canon (P := P) (w := w) (base := base) T
  have G_turned := ok_turned (P := P) (w := w) (base := base) T
  have G_Book_voice_called := ok_Book_voice_called (P := P) (w := w) (base := base) T
  refine T.F_Book_line.ok sc_Book_line (fun vs H Q E h => ?_) (fun cdv A outer s H vs Q E hr h => ?_)
  · obtain ⟨_, _, _, _, _, _, rfl, _⟩ := h
    rfl
  · obtain ⟨x, F, vw, ps, fs, n, rfl, B, q⟩ := h
    refine bodyOk (pss_cons (ps_set (i := 2) sc_Book_line.nd rfl (Or.inl rfl) (pe_meth (pv 0) T.cl_Book T.me_Book_canon G_Book_canon (hr.mono (by decide)) T.b_Book_canon .nil pass0 (pa_cons (pv 1) pa_nil))) (pss_cons (ps_if (pt_cmpR op_isN (pv 2) pe_non (nomark _)) (pss_one (ps_ret (pe_callTy call_list_of rfl T.nb_list bt_list (pa_cons (pe_fld (pe_meth (pv 0) T.cl_Book T.me_Book_voice_called G_Book_voice_called (hr.mono (by decide)) T.b_Book_voice_called .nil pass0 (pa_cons (pv 1) pa_nil)) rfl) pa_nil)))) pss_nil) (pss_cons (ps_asg (pv 2) (pg_tup rfl (pgs_cons (pg_name (i := 3) sc_Book_line.nd rfl (Or.inl rfl)) (pgs_cons (pg_name (i := 4) sc_Book_line.nd rfl (Or.inl rfl)) (pgs_cons (pg_name (i := 5) sc_Book_line.nd rfl (Or.inl rfl)) (pgs_cons (pg_name (i := 6) sc_Book_line.nd rfl (Or.inl rfl)) pgs_nil)))))) (pss_cons (ps_set (i := 7) sc_Book_line.nd rfl (Or.inl rfl) (pe_meth (pv 0) T.cl_Book T.me_Book_line G_Book_line0 (hr.mono (by decide)) T.b_Book_line .nil pass0 (pa_cons (pv 3) pa_nil))) (pss_one (ps_ret (pe_mid (pe_ifExp (pt_val (pv 6)) (pe_call G_turned (hr.mono (by decide)) rfl T.mg_turned T.F_turned.kp T.b_turned .nil pass0 (pa_cons (pv 7) pa_nil)) (pv 7))))))))) ?_
    obtain ⟨L, D, U, all, M, Ps, Fs, es, us, b, iM, pp, pf, f⟩ := B.ex
    obtain ⟨dx, hx⟩ := b.hx
    obtain ⟨vx, g, gv⟩ := b.voices iM
    have wv := B.wv vw (.inr (.inl rfl))
    refine ⟨_, rfl, x, dx, _, rfl, hx, boF_no_canon _ _ _, _, rfl, x, F, vw, ps, fs, n, rfl, B, ?_⟩
    cases hf : findV vw n with
    | none =>
      rw [hf] at q
      exact (Bool.noConfusion (show false = true from q.1))
    | some th =>
      rw [hf] at q
      cases th with
      | pl ss =>
        refine ⟨_, rfl, rfl, _, rfl, ?_⟩
        refine ite2 (fun _ => ?_) (fun h => absurd (by decide) h)
        refine ⟨_, rfl, x, dx, _, rfl, hx, boF_no_voice_called _ _ _, _, rfl, x, dx, L, D, U, M L, vx, n, rfl, hx, b.hL, g, ?_⟩
        rcases pfind gv (fun _ _ r => r.2.1) n with ⟨f1, f2⟩ | ⟨a, th, j, f1, f2, r, an, fj, fw⟩
        · rw [f2] at hf
          cases hf
        rw [f1]
        rw [f2] at hf
        cases hf
        refine ⟨a.o, _, a.d, _, _, rfl, (b.ha a r.1).1, T.cl_Voice, T.na_Voice_signs, voF_signs _ _ _, ?_⟩
        refine ⟨_, _, rfl, .inl (SqL.of (b.ha a r.1).2), fun l hl => ?_⟩
        exact q l _ _ hl (Same.upd hl) upd_same (by rw [lineV_pl f2]; exact r.2.2.2.same (Same.upd hl))
      | cn ld lt sl tn =>
        intro p hp
        refine ⟨_, rfl, rfl, _, rfl, ?_⟩
        refine ite2 (fun h => by have := of_decide_eq_true h; cases this) (fun _ => ?_)
        obtain ⟨⟨ss, hld⟩, _⟩ := wv.ld n ld lt sl tn (findV_mem hf)
        have hfl := wv.find hld
        have gl := (wv.gd _ _ hld).1
        rw [lineV_cn hf hfl] at q
        refine ⟨_, rfl, p, _, rfl, SqT.of hp, rfl, _, _, rfl, _, _, rfl, _, _, rfl, _, _, rfl, rfl, ?_⟩
        refine ⟨_, rfl, x, dx, _, rfl, hx, boF_no_line _ _ _, _, rfl, x, F, vw, ps, fs, ld, ss, rfl, B, hfl, fun l ys H1 hl s1 h1 g1 => ?_⟩
        refine ⟨fun v H' => ∃ l' ys', v = .ref l' ∧ H l' = none ∧ Same H H' ∧ H' l' = some (.lst ys') ∧ Sgs H' ys' (if tn = true then ss.map turnS else ss), ?_, ?_⟩
        · refine ⟨_, rfl, _, rfl, ?_⟩
          cases tn with
          | true =>
            refine iteT ⟨_, rfl, l, ys, ss, rfl, SqL.of h1, g1, by omega, fun f' ys' H2 s2 hf' h2 g2 => ⟨f', ys', rfl, s1.free hf', s1.trans s2, h2, g2⟩⟩
          | false => exact iteF ⟨_, rfl, l, ys, rfl, hl, s1, h1, g1⟩
        · rintro v H' ⟨l', ys', rfl, a1, a2, a3, a4⟩
          exact q l' ys' H' a1 a2 a3 a4
end Mine
namespace Mine
open PySem L2
def sp_l_whole : Sp := fun vs H Q _ => ∃ n : Int, vs = [.int n] ∧ Q (.bl true) H
theorem ok_l_whole {P : Program} {w : World} {K : PySem.W.Frag} {mg : Str → Option Value} {base : Heap} {t : Adr} (T : Txt K w mg t) : FnOk P w K mg base CX0 (0 + 1) t.f_l_whole t.d_l_whole ["_law_found"] sp_l_whole := by
  refine T.F_l_whole.ok sc_l_whole (fun vs H Q E h => ?_) (fun cdv A outer s H vs Q E hr h => ?_)
  · obtain ⟨_, rfl, _⟩ := h
    rfl
  · obtain ⟨n, rfl, q⟩ := h
    refine bodyOk (pss_one (ps_ret (pe_mid (pe_and (pe_callB call_isT rfl T.nb_isinstance bt_isinstance (pa_cons (pv 0) (pa_cons (pe_bltn (v := .ty "int") rfl T.nb_int bt_int rfl) pa_nil))) (pe_one (pe_not (pe_callB call_isT rfl T.nb_isinstance bt_isinstance (pa_cons (pv 0) (pa_cons (pe_bltn (v := .ty "bool") rfl T.nb_bool bt_bool rfl) pa_nil))))))))) ?_
    refine midV (.bl true) ?_ q
    exact ⟨_, rfl, _, _, _, _, rfl, TyOf.int _, rfl, _, rfl, iteT ⟨_, rfl, _, _, _, _, rfl, TyOf.int _, rfl, _, rfl, endV rfl⟩⟩
end Mine
namespace Mine
open PySem L2
def sp_l_signs (K : PySem.W.Frag) : Sp := fun vs H Q _ => ∃ (l1 l2 : Addr) (xs ys : List V) (ss : List Sg), vs = [.ref l1, .ref l2] ∧ H l1 = some (.lst xs) ∧ SqL K H l2 ys ∧ Sgs H xs ss ∧ Sgs H ys ss ∧ ∀ H', Same H H' → Q (.bl true) H'
theorem ok_l_signs {P : Program} {w : World} {K : PySem.W.Frag} {mg : Str → Option Value} {base : Heap} {t : Adr} (T : Txt K w mg t) : FnOk P w K mg base CX0 (0 + 2) t.f_l_signs t.d_l_signs ["_law_found", "_law_due"] (sp_l_signs K) := by
  have G_l_whole := ok_l_whole (P := P) (w := w) (base := base) T
  refine T.F_l_signs.ok sc_l_signs (fun vs H Q E h => ?_) (fun cdv A outer s H vs Q E hr h => ?_)
  · obtain ⟨_, _, _, _, _, rfl, _⟩ := h
    rfl
  · obtain ⟨l1, l2, xs, ys, ss, rfl, h1, h2, g1, g2, q⟩ := h
    have el : xs.length = ys.length := (plen g1).trans (plen g2).symm
    refine bodyOk (pss_cons (ps_if (pt_mid (PW.pt (pw_or (pt_not (pt_val (pe_callB call_isT rfl T.nb_isinstance bt_isinstance (pa_cons (pv 0) (pa_cons (pe_bltn (v := .ty "list") rfl T.nb_list bt_list rfl) pa_nil))))) (pw_or1 (pt_cmpR (op_ne.or (op_neD (hu_of64 hr))) (pe_callB (call_len_seq.or call_len_str) rfl T.nb_len bt_len (pa_cons (pv 0) pa_nil)) (pe_callB (call_len_seq.or call_len_str) rfl T.nb_len bt_len (pa_cons (pv 1) pa_nil)) (nomark _)))))) (pss_one (ps_ret pe_bl)) pss_nil) (pss_cons (ps_for PassesOwn.never rfl (pi_zip rfl T.nb_zip (pv 0) (pv 1)) (pg_tup rfl (pgs_cons (pg_name (i := 2) sc_l_signs.nd rfl (Or.inl rfl)) (pgs_cons (pg_name (i := 3) sc_l_signs.nd rfl (Or.inl rfl)) pgs_nil))) (pss_cons (ps_if (pt_mid (PW.pt (pw_or (pt_not (pt_val (pe_callB call_isT rfl T.nb_isinstance bt_isinstance (pa_cons (pv 2) (pa_cons (pe_bltn (v := .ty "tuple") rfl T.nb_tuple bt_tuple rfl) pa_nil))))) (pw_or1 (pt_cmpR (op_ne.or (op_neD (hu_of64 hr))) (pe_callB (call_len_seq.or call_len_str) rfl T.nb_len bt_len (pa_cons (pv 2) pa_nil)) pe_int (nomark _)))))) (pss_one (ps_ret pe_bl)) pss_nil) (pss_one (ps_if (pt_mid (PW.pt (pw_or (pt_not (pt_val (pe_callB call_isT rfl T.nb_isinstance bt_isinstance (pa_cons (pe_ix ix_seq (pv 2) pe_int (fun _ _ => rfl)) (pa_cons (pe_bltn (v := .ty "str") rfl T.nb_str bt_str rfl) pa_nil))))) (pw_or (pt_not (pt_val (pe_call G_l_whole (hr.mono (by decide)) rfl T.mg_l_whole T.F_l_whole.kp T.b_l_whole .nil pass0 (pa_cons (pe_ix ix_seq (pv 2) pe_int (fun _ _ => rfl)) pa_nil)))) (pw_or1 (pt_cmpR (op_ne.or (op_neD (hu_of64 hr))) (pv 2) (pv 3) (nomark _))))))) (pss_one (ps_ret pe_bl)) pss_nil)))) (pss_one (ps_ret pe_bl)))) ?_
    refine midB false ?_ ?_
    · (repeat array_get_dec)
      refine ⟨_, _, _, _, rfl, TyOf.lst h1, rfl, _, rfl, iteF ?_⟩
      (repeat array_get_dec)
      refine .inl ⟨_, _, rfl, .inl (SqL.of h1), ?_⟩
      (repeat array_get_dec)
      refine .inl ⟨_, _, rfl, .inl h2, ?_⟩
      (repeat array_get_dec)
      exact endB (by rw [el]; simp)
    refine iteF ?_
    (repeat array_get_dec)
    refine ⟨⟨_, SqL.of h1⟩, ⟨_, h2⟩, for_zip (K := K) (xs := xs) (ys := ys) (fun i σ H' => ∃ v1 v2, σ = [some (.ref l1), some (.ref l2), v1, v2] ∧ Same H H') el ⟨none, none, rfl, Same.refl _⟩ ?_ ?_ ?_⟩
    · rintro i σ H' ⟨v1, v2, rfl, s2⟩
      exact ⟨s2.seq (SqL.of h1), s2.seq h2⟩
    · rintro i x y tt σ H' hx hy ⟨v1, v2, rfl, s2⟩ hn
      obtain ⟨sg, e1, p, rfl, hp⟩ := pget g1 hx
      obtain ⟨sg', e2, p2, rfl, hp2⟩ := pget g2 hy
      have es : sg' = sg := Option.some.inj (e2.symm.trans e1)
      subst es
      have s3 : Same H (upd H' tt (.tup [.ref p, .ref p2])) := s2.trans (Same.upd hn)
      have hp' := s3 _ _ hp
      have hp2' := s3 _ _ hp2
      refine ⟨tt, _, rfl, SqT.of upd_same, rfl, _, _, rfl, _, _, rfl, rfl, ?_⟩
      generalize upd H' tt (.tup [.ref p, .ref p2]) = H3 at s3 hp' hp2'
      refine midB false ?_ ?_
      · (repeat array_get_dec)
        refine ⟨_, _, _, _, rfl, TyOf.tup hp', rfl, _, rfl, iteF ?_⟩
        (repeat array_get_dec)
        refine .inl ⟨_, _, rfl, .inr (SqT.of hp'), ?_⟩
        (repeat array_get_dec)
        exact endB rfl
      refine iteF ?_
      refine midB false ?_ ?_
      · (repeat array_get_dec)
        refine ⟨_, _, _, _, rfl, TyOf.str _, rfl, _, rfl, iteF ?_⟩
        (repeat array_get_dec)
        refine ⟨sgDeq 59 hp' hp2', ?_⟩
        (repeat array_get_dec)
        exact endB rfl
      refine iteF ?_
      exact ⟨_, _, rfl, s3⟩
    · rintro σ H' ⟨v1, v2, rfl, s2⟩
      exact q _ s2
end Mine
namespace Mine
open PySem L2
def sp_l_nums (K : PySem.W.Frag) : Sp := fun vs H Q _ => ∃ (f d : Addr) (fs ds : List Int), vs = [.ref f, .ref d] ∧ H f = some (.lst (fs.map V.int)) ∧ SqL K H d (ds.map V.int) ∧ ds.length ≤ 1000 ∧ Q (.bl (decide (fs = ds))) H
theorem ok_l_nums {P : Program} {w : World} {K : PySem.W.Frag} {mg : Str → Option Value} {base : Heap} {t : Adr} (T : Txt K w mg t) : FnOk P w K mg base CX0 (0 + 2) t.f_l_nums t.d_l_nums ["_law_found", "_law_due"] (sp_l_nums K) := by
  have G_l_whole := ok_l_whole (P := P) (w := w) (base := base) T
  refine T.F_l_nums.ok sc_l_nums (fun vs H Q E h => ?_) (fun cdv A outer s H vs Q E hr h => ?_)
  · obtain ⟨_, _, _, _, rfl, _⟩ := h
    rfl
  · obtain ⟨f, d, fs, ds, rfl, hf, hd, hn, q⟩ := h
    refine bodyOk (pss_cons (ps_if (pt_mid (PW.pt (pw_or (pt_not (pt_val (pe_callB call_isT rfl T.nb_isinstance bt_isinstance (pa_cons (pv 0) (pa_cons (pe_bltn (v := .ty "list") rfl T.nb_list bt_list rfl) pa_nil))))) (pw_or1 (pt_cmpR (op_ne.or (op_neD (hu_of64 hr))) (pe_callB (call_len_seq.or call_len_str) rfl T.nb_len bt_len (pa_cons (pv 0) pa_nil)) (pe_callB (call_len_seq.or call_len_str) rfl T.nb_len bt_len (pa_cons (pv 1) pa_nil)) (nomark _)))))) (pss_one (ps_ret pe_bl)) pss_nil) (pss_cons (ps_for PassesOwn.never rfl (pi_range1 rfl T.nb_range (pa_cons (pe_callB (call_len_seq.or call_len_str) rfl T.nb_len bt_len (pa_cons (pv 1) pa_nil)) pa_nil)) (pg_name (i := 2) sc_l_nums.nd rfl (Or.inl rfl)) (pss_one (ps_if (pt_mid (PW.pt (pw_or (pt_not (pt_val (pe_call G_l_whole (hr.mono (by decide)) rfl T.mg_l_whole T.F_l_whole.kp T.b_l_whole .nil pass0 (pa_cons (pe_ix ix_seq (pv 0) (pv 2) (fun _ _ => rfl)) pa_nil)))) (pw_or1 (pt_cmpR (op_ne.or (op_neD (hu_of64 hr))) (pe_ix ix_seq (pv 0) (pv 2) (fun _ _ => rfl)) (pe_ix ix_seq (pv 1) (pv 2) (fun _ _ => rfl)) (nomark _)))))) (pss_one (ps_ret pe_bl)) pss_nil))) (pss_one (ps_ret pe_bl)))) ?_
    refine midB (decide (fs.length ≠ ds.length)) ?_ ?_
    · (repeat array_get_dec)
      refine ⟨_, _, _, _, rfl, TyOf.lst hf, rfl, _, rfl, ?_⟩
      refine iteF ?_
      (repeat array_get_dec)
      refine .inl ⟨_, _, rfl, .inl (SqL.of hf), ?_⟩
      (repeat array_get_dec)
      refine .inl ⟨_, _, rfl, .inl hd, ?_⟩
      (repeat array_get_dec)
      rw [List.length_map, List.length_map]
      refine endB ?_
      rw [dec_int']
      by_cases e : fs.length = ds.length
      · simp [e]
      · have : ¬ ((fs.length : Int) = (ds.length : Int)) := by omega
        simp [e, this]
    · refine ite2 (fun h => ?_) (fun h => ?_)
      · have e : fs ≠ ds := fun z => by
          have := of_decide_eq_true h
          rw [z] at this
          exact this rfl
        rw [decide_eq_false e] at q
        exact q
      · have el : fs.length = ds.length := by
          by_cases e : fs.length = ds.length
          · exact e
          · exact absurd (decide_eq_true e) h
        (repeat array_get_dec)
        refine .inl ⟨_, _, rfl, .inl hd, ?_⟩
        rw [List.length_map]
        have p62 : (2 : Int) ^ 62 = 4611686018427387904 := by decide
        refine ⟨(ds.length : Int), rfl, by rw [p62]; omega, by rw [p62]; omega, ?_⟩
        refine for_range (n := ((ds.length : Int)).toNat) (fun i σ H' => ∃ v, σ = [some (.ref f), some (.ref d), v] ∧ H' = H ∧ fs.take i = ds.take i) ⟨none, rfl, rfl, rfl⟩ ?_ ?_
        · rintro i σ H' hi ⟨v, rfl, rfl, ht⟩
          have hid : i < ds.length := by omega
          have hif : i < fs.length := by omega
          refine midB (decide (fs[i] ≠ ds[i])) ?_ ?_
          · (repeat array_get_dec)
            refine ixN' (SqL.of hf) (n := i) (by omega) (List.getElem?_eq_getElem hif) ?_
            (repeat array_get_dec)
            refine ixN' (SqL.of hf) (n := i) (by omega) (List.getElem?_eq_getElem hif) ?_
            (repeat array_get_dec)
            refine ixN' hd (n := i) (by omega) (List.getElem?_eq_getElem hid) ?_
            (repeat array_get_dec)
            refine endB ?_
            rw [dec_int']
            simp
          · refine ite2 (fun h => ?_) (fun h => ?_)
            · have e : fs ≠ ds := fun z => by
                subst z
                exact (of_decide_eq_true h) rfl
              rw [decide_eq_false e] at q
              exact q
            · have e : fs[i] = ds[i] := by
                by_cases z : fs[i] = ds[i]
                · exact z
                · exact absurd (decide_eq_true z) h
              refine ⟨_, rfl, rfl, ?_⟩
              rw [List.take_succ_eq_append_getElem hif, List.take_succ_eq_append_getElem hid, ht, e]
        · rintro σ H' ⟨v, rfl, rfl, ht⟩
          have e : fs = ds := by
            have h1 : ((ds.length : Int)).toNat = ds.length := by omega
            rw [h1, List.take_length, ← el, List.take_length] at ht
            exact ht
          rw [decide_eq_true e] at q
          exact q
end Mine
namespace Mine
open PySem L2
def sp_measures (K : PySem.W.Frag) : Sp := fun vs H Q _ => ∃ (l : Addr) (b : Int) (xs : List V) (ss : List Sg), vs = [.ref l, .int b] ∧ SqL K H l xs ∧ Sgs H xs ss ∧ ss.length ≤ 400 ∧
  ∀ (f : Addr) (H' : Hp), Same H H' → H f = none → H' f = some (.lst ((measL b (kds ss)).map V.int)) → Q (.ref f) H'
theorem k_int {k : Kd} (h : k.meas = true) (m : Int) : intText? k.str = some (nm m k) ∧ k.str.length ≤ 640 := by
  cases k <;> first | (cases h; done) | exact ⟨by first | exact (show intText? Kd.three.str = some 3 by decide +kernel) | exact (show intText? Kd.two.str = some 2 by decide +kernel), by decide +kernel⟩
theorem nm_not {k : Kd} (h : ¬ k.meas = true) (m : Int) : nm m k = m := by
  cases k <;> first | rfl | exact absurd rfl h
theorem ok_measures {P : Program} {w : World} {K : PySem.W.Frag} {mg : Str → Option Value} {base : Heap} {t : Adr} (T : Txt K w mg t) : FnOk P w K mg base CX0 (0 + 2) t.f_measures t.d_measures ["line", "begin"] (sp_measures K) := by
  have G_sets_measure := ok_sets_measure (P := P) (w := w) (base := base) T
  refine T.F_measures.ok sc_measures (fun vs H Q E h => ?_) (fun cdv A outer s H vs Q E hr h => ?_)
  · obtain ⟨_, _, _, _, rfl, _⟩ := h
    rfl
  · obtain ⟨l, b, xs, ss, rfl, hS, hg, hn, q⟩ := h
    refine bodyOk (pss_cons (ps_set (i := 2) sc_measures.nd rfl (Or.inl rfl) (pe_lst pa_nil)) (pss_cons (ps_set (i := 3) sc_measures.nd rfl (Or.inl rfl) (pv 1)) (pss_cons (ps_for PassesOwn.never rfl (pi_list (pv 0)) (pg_name (i := 4) sc_measures.nd rfl (Or.inl rfl)) (pss_cons (ps_mid (ps_if (pt_val (pe_call G_sets_measure (hr.mono (by decide)) rfl T.mg_sets_measure T.F_sets_measure.kp T.b_sets_measure .nil pass0 (pa_cons (pv 4) pa_nil))) (pss_one (ps_set (i := 3) sc_measures.nd rfl (Or.inl rfl) (pe_callTy (call_int1.or call_int_text) rfl T.nb_int bt_int (pa_cons (pe_ix ix_seq (pv 4) pe_int (fun _ _ => rfl)) pa_nil)))) pss_nil)) (pss_one (ps_expr (pe_bm PySem.F.plainAttrs_list PySem.F.slot_list_append PySem.F.type_list_append mt_append (pv 2) (pa_cons (pv 3) pa_nil)))))) (pss_one (ps_ret (pv 2)))))) ?_
    refine ⟨big (by show 0 ≤ 1000; omega), fun f hf => ?_⟩
    (repeat array_get_dec)
    refine ⟨⟨xs, seq_upd hS hf⟩, for_list (K := K) (xs := xs) (fun i σ H' => ∃ (m : Int) (v : Option V) (fs : List Int), σ = [some (.ref l), some (.int b), some (.ref f), some (.int m), v] ∧ H' = upd H f (.lst (fs.map V.int)) ∧ fs ++ measL m ((kds ss).drop i) = measL b (kds ss))
      ⟨b, none, [], rfl, rfl, rfl⟩ ?_ ?_ ?_⟩
    · rintro i σ H' _ ⟨m, v, fs, rfl, rfl, _⟩
      exact seq_upd hS hf
    · rintro i x σ H' hx ⟨m, v, fs, rfl, rfl, hm⟩
      obtain ⟨s, hs, p, rfl, hp⟩ := pget hg hx
      have hd := drop_at (map_at (f := Prod.fst) hs)
      rw [hd] at hm
      have hp' : upd H f (.lst (fs.map V.int)) p = some (.tup [.str s.1.str, .int s.2]) := by rw [upd_ne (ne_of_none hp hf)]; exact hp
      have hl := congrArg List.length hm
      simp only [List.length_append, measL, List.length_cons, measL_len, List.length_map] at hl
      refine midS [some (.ref l), some (.int b), some (.ref f), some (.int (nm m s.1)), some (.ref p)] (upd H f (.lst (fs.map V.int))) ?_ ?_
      · refine ⟨_, rfl, p, s, rfl, hp', _, rfl, ?_⟩
        refine ite2 (fun h => ?_) (fun h => ?_)
        · obtain ⟨e1, e2⟩ := k_int h m
          (repeat array_get_dec)
          exact .inr ⟨_, _, rfl, e1, e2, rfl, rfl⟩
        · rw [nm_not h]
          exact ⟨rfl, rfl⟩
      · (repeat array_get_dec)
        refine ⟨.inl ⟨rfl, _, SqL.of upd_same⟩, ?_⟩
        (repeat array_get_dec)
        refine ⟨_, _, _, rfl, rfl, upd_same, by rw [List.length_map]; exact small1000 (by omega), ?_⟩
        exact ⟨_, _, fs ++ [nm m s.1], rfl, by rw [upd_upd, List.map_append]; rfl, by rw [List.append_assoc]; exact hm⟩
    · rintro σ H' ⟨m, v, fs, rfl, rfl, hm⟩
      rw [List.drop_eq_nil_of_le (by rw [List.length_map, plen hg]; exact Nat.le_refl _)] at hm
      (repeat array_get_dec)
      have e : fs = measL b (kds ss) := by rw [← hm]; simp [measL]
      subst e
      exact q f _ (Same.upd hf) hf upd_same
end Mine
namespace Mine
open PySem L2
def sp_kind_at (K : PySem.W.Frag) : Sp := fun vs H Q _ => ∃ (l : Addr) (i : Int) (xs : List V) (ss : List Sg), vs = [.ref l, .int i] ∧ SqL K H l xs ∧ Sgs H xs ss ∧ Q (.str (okstr (kAt (kds ss) i))) H
theorem ok_kind_at {P : Program} {w : World} {K : PySem.W.Frag} {mg : Str → Option Value} {base : Heap} {t : Adr} (T : Txt K w mg t) : FnOk P w K mg base CX0 (0 + 1) t.f_kind_at t.d_kind_at ["line", "at"] (sp_kind_at K) := by
  refine T.F_kind_at.ok sc_kind_at (fun vs H Q E h => ?_) (fun cdv A outer s H vs Q E hr h => ?_)
  · obtain ⟨_, _, _, _, rfl, _⟩ := h
    rfl
  · obtain ⟨l, i, xs, ss, rfl, hS, hg, q⟩ := h
    have out : ¬ (0 ≤ i ∧ i < ss.length) → kAt (kds ss) i = none := fun z => by
      unfold kAt
      split
      · exact List.getElem?_eq_none (by rw [List.length_map]; omega)
      · rfl
    refine bodyOk (pss_cons (ps_if (pt_chain op_le op_lt pe_int (pv 1) (pe_callB (call_len_seq.or call_len_str) rfl T.nb_len bt_len (pa_cons (pv 0) pa_nil))) (pss_one (ps_ret (pe_ix ix_seq (pe_ix ix_seq (pv 0) (pv 1) (fun _ _ => rfl)) pe_int (fun _ _ => rfl)))) pss_nil) (pss_one (ps_ret pe_str))) ?_
    (repeat array_get_dec)
    refine ite2 (fun h0 => ?_) (fun h0 => ?_)
    · have h0' := of_decide_eq_true h0
      (repeat array_get_dec)
      refine .inl ⟨_, _, rfl, .inl hS, ?_⟩
      rw [plen hg]
      (repeat array_get_dec)
      refine ite2 (fun h1 => ?_) (fun h1 => ?_)
      · have h1' := of_decide_eq_true h1
        have hi : i.toNat < ss.length := by omega
        have e : kAt (kds ss) i = some (ss[i.toNat]).1 := by
          unfold kAt
          rw [if_pos h0', List.getElem?_map, List.getElem?_eq_getElem hi]
          rfl
        rw [e] at q
        (repeat array_get_dec)
        refine ixSg hS hg (n := i.toNat) (by omega) (List.getElem?_eq_getElem hi) fun b hb => ?_
        (repeat array_get_dec)
        exact q
      · rw [out fun z => h1 (decide_eq_true z.2)] at q
        exact q
    · rw [out fun z => h0 (decide_eq_true z.1)] at q
      exact ⟨_, rfl, iteF q⟩
end Mine
namespace Mine
open PySem L2
def sp_plain_worth : Sp := fun vs H Q _ => ∃ (k : Kd) (m : Int), vs = [.str k.str, .int m] ∧ Q (.int (pw k m)) H
theorem ok_plain_worth {P : Program} {w : World} {K : PySem.W.Frag} {mg : Str → Option Value} {base : Heap} {t : Adr} (T : Txt K w mg t) : FnOk P w K mg base CX0 (0 + 1) t.f_plain_worth t.d_plain_worth ["kind", "measure"] sp_plain_worth := by
  refine T.F_plain_worth.ok sc_plain_worth (fun vs H Q E h => ?_) (fun cdv A outer s H vs Q E hr h => ?_)
  · obtain ⟨_, _, rfl, _⟩ := h
    rfl
  · obtain ⟨k, m, rfl, q⟩ := h
    refine bodyOk (pss_cons (ps_if (pt_mid (PW.pt (pw_and (pt_cmpR (op_eq.or (op_eqD (hu_of64 hr))) (pv 1) pe_int (nomark _)) (pw_and1 (pt_cmpR op_in_kd (pv 0) (pe_glob (v := .ref t.a_TWOFOLD_WORTHS) rfl T.c_TWOFOLD_WORTHS rfl) rfl))))) (pss_one (ps_ret (pe_ix ix_kd (pe_glob (v := .ref t.a_TWOFOLD_WORTHS) rfl T.c_TWOFOLD_WORTHS rfl) (pv 0) (fun _ _ => rfl)))) pss_nil) (pss_one (ps_ret (pe_ix ix_kd (pe_glob (v := .ref t.a_PLAIN_WORTHS) rfl T.c_PLAIN_WORTHS rfl) (pv 0) (fun _ _ => rfl))))) ?_
    refine midB (decide (m = 2) && (decide (k = .G) || decide (k = .R))) ?_ ?_
    · (repeat array_get_dec)
      rw [dec_int']
      refine ite2 (fun h => ?_) (fun h => ?_)
      · (repeat array_get_dec)
        refine ⟨_, _, _, rfl, rfl, T.kd_TWOFOLD_WORTHS, _, rfl, endB ?_⟩
        rw [h]
        cases k <;> decide +kernel
      · exact endB (by rw [Bool.eq_false_iff.mpr h]; rfl)
    · refine ite2 (fun h => ?_) (fun h => ?_)
      · (repeat array_get_dec)
        obtain ⟨h1, h2⟩ := Bool.and_eq_true_iff.mp h
        have hm := of_decide_eq_true h1
        have e : [(Str.ofString "G", V.int 2), (Str.ofString "R", V.int 2)].lookup k.str = some (.int (pw k m)) := by
          rw [hm]
          cases k <;> first | decide +kernel | (exfalso; revert h2; decide)
        exact ⟨_, _, _, _, rfl, rfl, T.kd_TWOFOLD_WORTHS, e, q⟩
      · (repeat array_get_dec)
        have e : [(Str.ofString "G", V.int 3), (Str.ofString "D", V.int 2), (Str.ofString "R", V.int 3), (Str.ofString "s", V.int 1), (Str.ofString "d", V.int 1), (Str.ofString "r", V.int 1), (Str.ofString ".", V.int 0), (Str.ofString "3", V.int 0), (Str.ofString "2", V.int 0)].lookup k.str = some (.int (pw k m)) := by
          by_cases hm : m = 2
          · rw [hm] at h ⊢
            cases k <;> first | decide +kernel | (exfalso; revert h; decide)
          · cases k <;> first | decide +kernel | (simp only [pw, if_neg hm]; decide +kernel)
        exact ⟨_, _, _, _, rfl, rfl, T.kd_PLAIN_WORTHS, e, q⟩
end Mine
namespace Mine
open PySem L2
def sp_worths_without_runs (K : PySem.W.Frag) : Sp := fun vs H Q _ => ∃ (l : Addr) (b : Int) (xs : List V) (ss : List Sg), vs = [.ref l, .int b] ∧ SqL K H l xs ∧ Sgs H xs ss ∧ ss.length ≤ 400 ∧
  ∀ (f : Addr) (H' : Hp), Same H H' → H f = none → H' f = some (.lst ((baseL b (kds ss)).map V.int)) → Q (.ref f) H'
theorem ok_worths_without_runs {P : Program} {w : World} {K : PySem.W.Frag} {mg : Str → Option Value} {base : Heap} {t : Adr} (T : Txt K w mg t) : FnOk P w K mg base CX0 (0 + 3) t.f_worths_without_runs t.d_worths_without_runs ["line", "begin"] (sp_worths_without_runs K) := by
  have G_measures := ok_measures (P := P) (w := w) (base := base) T
  have G_kind_at := ok_kind_at (P := P) (w := w) (base := base) T
  have G_plain_worth := ok_plain_worth (P := P) (w := w) (base := base) T
  refine T.F_worths_without_runs.ok sc_worths_without_runs (fun vs H Q E h => ?_) (fun cdv A outer s H vs Q E hr h => ?_)
  · obtain ⟨_, _, _, _, rfl, _⟩ := h
    rfl
  · obtain ⟨l, b, xs, ss, rfl, hS, hg, hn, q⟩ := h
    refine bodyOk (pss_cons (ps_set (i := 2) sc_worths_without_runs.nd rfl (Or.inl rfl) (pe_lst pa_nil)) (pss_cons (ps_for PassesOwn.never rfl (pi_enum rfl T.nb_enumerate (pe_call G_measures (hr.mono (by decide)) rfl T.mg_measures T.F_measures.kp T.b_measures .nil pass0 (pa_cons (pv 0) (pa_cons (pv 1) pa_nil)))) (pg_tup rfl (pgs_cons (pg_name (i := 3) sc_worths_without_runs.nd rfl (Or.inl rfl)) (pgs_cons (pg_name (i := 4) sc_worths_without_runs.nd rfl (Or.inl rfl)) pgs_nil))) (pss_one (ps_if (pt_mid (PW.pt (pw_and (pt_cmpR (op_eq.or (op_eqD (hu_of64 hr))) (pv 4) pe_int (nomark _)) (pw_and (pt_cmpR (op_eq.or (op_eqD (hu_of64 hr))) (pe_call G_kind_at (hr.mono (by decide)) rfl T.mg_kind_at T.F_kind_at.kp T.b_kind_at .nil pass0 (pa_cons (pv 0) (pa_cons (pv 3) pa_nil))) pe_str (nomark _)) (pw_and1 (pt_cmpR (op_eq.or (op_eqD (hu_of64 hr))) (pe_call G_kind_at (hr.mono (by decide)) rfl T.mg_kind_at T.F_kind_at.kp T.b_kind_at .nil pass0 (pa_cons (pv 0) (pa_cons (pe_op (op_add.or (op_add_str.or op_cat)) (pv 3) pe_int) pa_nil))) pe_str (nomark _))))))) (pss_one (ps_expr (pe_bm PySem.F.plainAttrs_list PySem.F.slot_list_append PySem.F.type_list_append mt_append (pv 2) (pa_cons (pe_glob (v := .int 3) rfl T.c_DOTTED_WORTH ⟨_, rfl⟩) pa_nil)))) (pss_one (ps_expr (pe_bm PySem.F.plainAttrs_list PySem.F.slot_list_append PySem.F.type_list_append mt_append (pv 2) (pa_cons (pe_call G_plain_worth (hr.mono (by decide)) rfl T.mg_plain_worth T.F_plain_worth.kp T.b_plain_worth .nil pass0 (pa_cons (pe_call G_kind_at (hr.mono (by decide)) rfl T.mg_kind_at T.F_kind_at.kp T.b_kind_at .nil pass0 (pa_cons (pv 0) (pa_cons (pv 3) pa_nil))) (pa_cons (pv 4) pa_nil))) pa_nil))))))) (pss_one (ps_ret (pv 2))))) ?_
    refine ⟨big (by show 0 ≤ 1000; omega), fun f hf => ?_⟩
    (repeat array_get_dec)
    refine ⟨l, b, xs, ss, rfl, seq_upd hS hf, hg.same (Same.upd hf), hn, fun f2 H2 s2 n2 h2 => ⟨_, rfl, ⟨_, SqL.of h2⟩, ?_⟩⟩
    have ml : (measL b (kds ss)).length = ss.length := by rw [measL_len, List.length_map]
    have nff : f2 ≠ f := fun e => by rw [e, upd_same] at n2; cases n2
    refine for_enum (K := K) (xs := (measL b (kds ss)).map V.int) (fun i σ H' => ∃ (v w : Option V) (fs : List Int), σ = [some (.ref l), some (.int b), some (.ref f), v, w] ∧ Same H H' ∧ H' f = some (.lst (fs.map V.int)) ∧ H' f2 = some (.lst ((measL b (kds ss)).map V.int)) ∧ fs ++ baseOn ((kds ss).drop i) ((measL b (kds ss)).drop i) = baseL b (kds ss))
      ⟨none, none, [], rfl, (Same.upd hf).trans s2, s2 _ _ upd_same, h2, baseOn_meas ..⟩ ?_ ?_ ?_
    · rintro i σ H' ⟨v, w, fs, rfl, _, _, h3, _⟩
      exact SqL.of h3
    · rintro i x t σ H' hx ⟨v, w, fs, rfl, s3, h3, h4, hm⟩ ht
      obtain ⟨m, hm1, rfl⟩ := intsAt hx
      have hil : i < ss.length := by
        have := (List.getElem?_eq_some_iff.mp hm1).1
        omega
      have hk : (kds ss)[i]? = some (ss[i]).1 := map_at (List.getElem?_eq_getElem hil)
      rw [drop_at hk, drop_at hm1] at hm
      simp only [baseOn, head_drop] at hm
      have hl := congrArg List.length hm
      simp only [List.length_append, List.length_cons, baseL_len, List.length_map] at hl
      have sT : Same H' (upd H' t (.tup [.int i, .int m])) := Same.upd ht
      have hS' : SqL K (upd H' t (.tup [.int i, .int m])) l xs := (s3.trans sT).seq hS
      have hg' := hg.same (s3.trans sT)
      have h3' := sT _ _ h3
      have ka : kAt (kds ss) (i : Int) = some (ss[i]).1 := by rw [kAt_nat]; exact hk
      have kb : kAt (kds ss) ((i : Int) + 1) = (kds ss)[i + 1]? := by rw [← kAt_nat]; rfl
      refine ⟨t, _, rfl, SqT.of upd_same, rfl, _, _, rfl, _, _, rfl, rfl, ?_⟩
      have fin : ∀ z : Int, z = bw m (ss[i]).1 (kds ss)[i + 1]? → ∃ (v w : Option V) (fs' : List Int), [some (V.ref l), some (V.int b), some (V.ref f), some (V.int (i : Int)), some (V.int m)] = [some (.ref l), some (.int b), some (.ref f), v, w] ∧ Same H (upd (upd H' t (.tup [.int i, .int m])) f (.lst (fs.map V.int ++ [V.int z]))) ∧
          (upd (upd H' t (.tup [.int i, .int m])) f (.lst (fs.map V.int ++ [V.int z]))) f = some (.lst (fs'.map V.int)) ∧ (upd (upd H' t (.tup [.int i, .int m])) f (.lst (fs.map V.int ++ [V.int z]))) f2 = some (.lst ((measL b (kds ss)).map V.int)) ∧ fs' ++ baseOn ((kds ss).drop (i + 1)) ((measL b (kds ss)).drop (i + 1)) = baseL b (kds ss) := by
        intro z hz
        refine ⟨_, _, fs ++ [z], rfl, sameOwn (s3.trans sT) hf, by rw [upd_same, List.map_append]; rfl, by rw [upd_ne nff]; exact sT _ _ h4, ?_⟩
        rw [List.append_assoc, hz]
        exact hm
      refine midB (decide (m = 2) && (decide (okstr (kAt (kds ss) (i : Int)) = "G") && decide (okstr (kAt (kds ss) ((i : Int) + 1)) = "."))) ?_ ?_
      · (repeat array_get_dec)
        rw [dec_int']
        refine ite2 (fun h => ?_) (fun h => ?_)
        · (repeat array_get_dec)
          refine ⟨l, _, xs, ss, rfl, hS', hg', ?_⟩
          (repeat array_get_dec)
          rw [decV]
          refine ite2 (fun h2 => ?_) (fun h2 => ?_)
          · (repeat array_get_dec)
            refine ⟨l, _, xs, ss, rfl, hS', hg', ?_⟩
            (repeat array_get_dec)
            rw [decV]
            exact endB (by rw [h, h2]; rfl)
          · exact endB (by rw [h, Bool.eq_false_iff.mpr h2]; rfl)
        · exact endB (by rw [Bool.eq_false_iff.mpr h]; rfl)
      · refine ite2 (fun h => ?_) (fun h => ?_)
        · (repeat array_get_dec)
          refine ⟨.inl ⟨rfl, _, SqL.of h3'⟩, ?_⟩
          refine ⟨_, _, _, rfl, rfl, h3', by rw [List.length_map]; exact small1000 (by omega), fin 3 ?_⟩
          obtain ⟨h1, h2⟩ := Bool.and_eq_true_iff.mp h
          obtain ⟨h2, h5⟩ := Bool.and_eq_true_iff.mp h2
          have e1 : (ss[i]).1 = .G := by
            have := of_decide_eq_true h2
            rw [ka] at this
            exact str_inj.mp (this.trans (rfl : ("G" : Str) = Kd.G.str))
          have e2 : (kds ss)[i + 1]? = some .dot := by
            have := of_decide_eq_true h5
            rw [kb] at this
            exact ostr_inj.mp (this.trans (rfl : ("." : Str) = okstr (some .dot)))
          unfold bw
          rw [if_pos ⟨of_decide_eq_true h1, e1, e2⟩]
        · (repeat array_get_dec)
          refine ⟨.inl ⟨rfl, _, SqL.of h3'⟩, ?_⟩
          (repeat array_get_dec)
          refine ⟨l, _, xs, ss, rfl, hS', hg', ?_⟩
          (repeat array_get_dec)
          rw [ka]
          refine ⟨_, _, rfl, ?_⟩
          refine ⟨_, _, _, rfl, rfl, h3', by rw [List.length_map]; exact small1000 (by omega), fin _ ?_⟩
          unfold bw
          rw [if_neg]
          rintro ⟨h1, h2, h5⟩
          refine h ?_
          rw [ka, kb, h2, h5, h1]
          decide +kernel
    · rintro σ H' ⟨v, w, fs, rfl, s3, h3, _, hm⟩
      rw [List.length_map, ml, List.drop_eq_nil_of_le (by rw [List.length_map]; exact Nat.le_refl _)] at hm
      (repeat array_get_dec)
      have e : fs = baseL b (kds ss) := by rw [← hm]; simp [baseOn]
      subst e
      exact q f _ s3 hf h3
end Mine
namespace Mine
open PySem L2
def sp_runs (K : PySem.W.Frag) : Sp := fun vs H Q _ => ∃ (l : Addr) (b : Int) (xs : List V) (ss : List Sg), vs = [.ref l, .int b] ∧ SqL K H l xs ∧ Sgs H xs ss ∧ ss.length ≤ 400 ∧
  ∀ (f : Addr) (ys : List V) (H' : Hp), Same H H' → H f = none → H' f = some (.lst ys) → Prs H' ys (runsL b (kds ss)) → Q (.ref f) H'
theorem ok_runs {P : Program} {w : World} {K : PySem.W.Frag} {mg : Str → Option Value} {base : Heap} {t : Adr} (T : Txt K w mg t) : FnOk P w K mg base CX0 (0 + 3) t.f_runs t.d_runs ["line", "begin"] (sp_runs K) := by
  have G_measures := ok_measures (P := P) (w := w) (base := base) T
  have G_small := ok_small (P := P) (w := w) (base := base) T
  refine T.F_runs.ok sc_runs (fun vs H Q E h => ?_) (fun cdv A outer s H vs Q E hr h => ?_)
  · obtain ⟨_, _, _, _, rfl, _⟩ := h
    rfl
  · obtain ⟨l, b, xs, ss, rfl, hS, hg, hn, q⟩ := h
    refine bodyOk (pss_cons (ps_set (i := 2) sc_runs.nd rfl (Or.inl rfl) (pe_lst pa_nil)) (pss_cons (ps_set (i := 3) sc_runs.nd rfl (Or.inl rfl) pe_int) (pss_cons (ps_for PassesOwn.never rfl (pi_ez rfl T.nb_zip rfl T.nb_enumerate (pv 0) (pe_call G_measures (hr.mono (by decide)) rfl T.mg_measures T.F_measures.kp T.b_measures .nil pass0 (pa_cons (pv 0) (pa_cons (pv 1) pa_nil)))) (pg_tup rfl (pgs_cons (pg_name (i := 4) sc_runs.nd rfl (Or.inl rfl)) (pgs_cons (pg_tup rfl (pgs_cons (pg_name (i := 5) sc_runs.nd rfl (Or.inl rfl)) (pgs_cons (pg_name (i := 6) sc_runs.nd rfl (Or.inl rfl)) pgs_nil))) pgs_nil))) (pss_one (ps_if (pt_mid (PW.pt (pw_or (pt_cmpR (op_eq.or (op_eqD (hu_of64 hr))) (pv 6) pe_int (nomark _)) (pw_or1 (pt_not (pt_val (pe_call G_small (hr.mono (by decide)) rfl T.mg_small T.F_small.kp T.b_small .nil pass0 (pa_cons (pv 5) pa_nil)))))))) (pss_cons (ps_mid (ps_if (pt_cmpR op_lt (pv 3) (pv 4) (nomark _)) (pss_one (ps_expr (pe_bm PySem.F.plainAttrs_list PySem.F.slot_list_append PySem.F.type_list_append mt_append (pv 2) (pa_cons (pe_tup (pa_cons (pv 3) (pa_cons (pv 4) pa_nil))) pa_nil)))) pss_nil)) (pss_one (ps_set (i := 3) sc_runs.nd rfl (Or.inl rfl) (pe_op (op_add.or (op_add_str.or op_cat)) (pv 4) pe_int)))) pss_nil))) (pss_cons (ps_mid (ps_if (pt_cmpR op_lt (pv 3) (pe_callB (call_len_seq.or call_len_str) rfl T.nb_len bt_len (pa_cons (pv 0) pa_nil)) (nomark _)) (pss_one (ps_expr (pe_bm PySem.F.plainAttrs_list PySem.F.slot_list_append PySem.F.type_list_append mt_append (pv 2) (pa_cons (pe_tup (pa_cons (pv 3) (pa_cons (pe_callB (call_len_seq.or call_len_str) rfl T.nb_len bt_len (pa_cons (pv 0) pa_nil)) pa_nil))) pa_nil)))) pss_nil)) (pss_one (ps_ret (pv 2))))))) ?_
    refine ⟨big (by show 0 ≤ 1000; omega), fun f hf => ?_⟩
    (repeat array_get_dec)
    refine ⟨l, b, xs, ss, rfl, seq_upd hS hf, hg.same (Same.upd hf), hn, fun f2 H2 s2 n2 h2 => ⟨_, _, rfl, rfl, ⟨xs, ((Same.upd hf).trans s2).seq hS⟩, ⟨_, SqL.of h2⟩, ?_⟩⟩
    have ml : (measL b (kds ss)).length = ss.length := by rw [measL_len, List.length_map]
    have nff : f2 ≠ f := fun e => by rw [e, upd_same] at n2; cases n2
    have cnt : (runsL b (kds ss)).length ≤ 401 := by
      have := runsF_count (insL b (kds ss)) 0 0
      rw [insL_len, List.length_map] at this
      exact Nat.le_trans this (by omega)
    refine for_ez (K := K) (xs := xs) (ys := (measL b (kds ss)).map V.int) (fun i σ H' => ∃ (v w u : Option V) (first : Nat) (ys : List V) (qs : List (Nat × Nat)), σ = [some (.ref l), some (.int b), some (.ref f), some (.int (first : Int)), v, w, u] ∧ Same H H' ∧ H' f = some (.lst ys) ∧ Prs H' ys qs ∧ H' f2 = some (.lst ((measL b (kds ss)).map V.int)) ∧ first ≤ i ∧ qs ++ runsF i first (insOn ((kds ss).drop i) ((measL b (kds ss)).drop i)) = runsL b (kds ss))
      (by rw [List.length_map, ml]; exact plen hg) ⟨none, none, none, 0, [], [], rfl, (Same.upd hf).trans s2, s2 _ _ upd_same, .nil, h2, Nat.le_refl _, by rw [List.drop_zero, List.drop_zero, insOn_meas]; rfl⟩ ?_ ?_ ?_
    · rintro i σ H' ⟨v, w, u, first, ys, qs, rfl, s3, _, _, h4, _⟩
      exact ⟨s3.seq hS, SqL.of h4⟩
    · rintro i x y t u' σ H' hx hy ⟨v, w, u, first, ys, qs, rfl, s3, h3, hq, h4, hfi, hm⟩ ht hu htu
      obtain ⟨s, hs, p, rfl, hp⟩ := pget hg hx
      obtain ⟨m, hm1, rfl⟩ := intsAt hy
      rw [drop_at (map_at (f := Prod.fst) hs), drop_at hm1] at hm
      simp only [insOn] at hm
      have sT : Same H' (upd (upd H' t (.tup [.ref p, .int m])) u' (.tup [.int i, .ref t])) := (Same.upd ht).trans (Same.upd (by rw [upd_ne htu.symm]; exact hu))
      have ut : upd (upd H' t (.tup [.ref p, .int m])) u' (.tup [.int i, .ref t]) t = some (.tup [.ref p, .int m]) := by rw [upd_ne htu, upd_same]
      refine ⟨u', _, rfl, SqT.of upd_same, rfl, _, _, rfl, _, _, rfl, t, _, rfl, SqT.of ut, rfl, _, _, rfl, _, _, rfl, rfl, rfl, ?_⟩
      generalize upd (upd H' t (.tup [.ref p, .int m])) u' (.tup [.int i, .ref t]) = H3 at sT
      have hp3 := (s3.trans sT) _ _ hp
      have h33 := sT _ _ h3
      have hq3 := prsSame sT hq
      refine midB (!inR m s.1) ?_ ?_
      · (repeat array_get_dec)
        rw [dec_int']
        refine ite2 (fun h => ?_) (fun h => ?_)
        · refine endB ?_
          unfold inR
          have := of_decide_eq_true h
          simp [this]
        · (repeat array_get_dec)
          refine ⟨p, s, rfl, hp3, _, rfl, endB ?_⟩
          have hm2 : m ≠ 2 := fun e => h (decide_eq_true e)
          unfold inR
          simp [hm2]
      · cases hin : inR m s.1 with
        | false =>
          rw [hin] at hm
          refine iteT ?_
          refine ⟨fun σ1 H1 => σ1 = [some (.ref l), some (.int b), some (.ref f), some (.int (first : Int)), some (.int i), some (.ref p), some (.int m)] ∧ Same H H1 ∧ (∃ ys', H1 f = some (.lst ys') ∧ Prs H1 ys' (qs ++ if first < i then [(first, i)] else [])) ∧ H1 f2 = some (.lst ((measL b (kds ss)).map V.int)), ?_, ?_⟩
          · (repeat array_get_dec)
            refine ite2 (fun h => ?_) (fun h => ?_)
            · have hlt : first < i := by have := of_decide_eq_true h; omega
              have ql : qs.length ≤ 401 := by
                have := congrArg List.length hm
                simp only [List.length_append] at this
                omega
              (repeat array_get_dec)
              refine ⟨.inl ⟨rfl, _, SqL.of h33⟩, ?_⟩
              (repeat array_get_dec)
              refine ⟨by show 2 ≤ sizeLine; decide, fun z hz => ?_⟩
              have sz : Same H3 (upd H3 z (.tup [.int (first : Int), .int i])) := Same.upd hz
              have h3z := sz _ _ h33
              refine ⟨_, _, _, rfl, rfl, h3z, by rw [plen hq3]; exact small1000 (by omega), ?_⟩
              rw [if_pos hlt]
              exact ⟨rfl, sameOwn ((s3.trans sT).trans sz) hf, ⟨_, upd_same, psnoc (prsUpd h3z (prsSame sz hq3)) (prUpd h3z ⟨z, rfl, upd_same⟩)⟩, by rw [upd_ne nff]; exact sz _ _ (sT _ _ h4)⟩
            · have hlt : ¬ first < i := fun z => h (decide_eq_true (by omega))
              rw [if_neg hlt, List.append_nil]
              exact ⟨rfl, s3.trans sT, ⟨_, h33, hq3⟩, sT _ _ h4⟩
          · rintro σ1 H1 ⟨rfl, sa, ⟨ys', hb, hc⟩, hd⟩
            (repeat array_get_dec)
            refine ⟨_, _, _, i + 1, ys', _, rfl, sa, hb, hc, hd, Nat.le_refl _, ?_⟩
            rw [← hm, List.append_assoc]
            rfl
        | true =>
          rw [hin] at hm
          refine iteF ?_
          exact ⟨_, _, _, first, ys, qs, rfl, s3.trans sT, h33, hq3, sT _ _ h4, by omega, hm⟩
    · rintro σ H' ⟨v, w, u, first, ys, qs, rfl, s3, h3, hq, h4, hfi, hm⟩
      rw [plen hg] at hm hfi
      rw [List.drop_eq_nil_of_le (by rw [List.length_map]; exact Nat.le_refl _)] at hm
      have hm' : qs ++ (if first < ss.length then [(first, ss.length)] else []) = runsL b (kds ss) := hm
      have ql : qs.length ≤ 401 := by
        have := congrArg List.length hm
        simp only [List.length_append] at this
        omega
      refine ⟨fun σ1 H1 => σ1 = [some (.ref l), some (.int b), some (.ref f), some (.int (first : Int)), v, w, u] ∧ Same H H1 ∧ ∃ ys', H1 f = some (.lst ys') ∧ Prs H1 ys' (runsL b (kds ss)), ?_, ?_⟩
      · (repeat array_get_dec)
        refine .inl ⟨_, _, rfl, .inl (s3.seq hS), ?_⟩
        rw [plen hg]
        (repeat array_get_dec)
        refine ite2 (fun h => ?_) (fun h => ?_)
        · have hlt : first < ss.length := by have := of_decide_eq_true h; omega
          (repeat array_get_dec)
          refine ⟨.inl ⟨rfl, _, SqL.of h3⟩, ?_⟩
          (repeat array_get_dec)
          refine .inl ⟨_, _, rfl, .inl (s3.seq hS), ?_⟩
          rw [plen hg]
          refine ⟨by show 2 ≤ sizeLine; decide, fun z hz => ?_⟩
          have sz : Same H' (upd H' z (.tup [.int (first : Int), .int (ss.length : Int)])) := Same.upd hz
          have h3z := sz _ _ h3
          refine ⟨_, _, _, rfl, rfl, h3z, by rw [plen hq]; exact small1000 (by omega), ?_⟩
          rw [if_pos hlt] at hm'
          rw [← hm']
          exact ⟨rfl, sameOwn (s3.trans sz) hf, _, upd_same, psnoc (prsUpd h3z (prsSame sz hq)) (prUpd h3z ⟨z, rfl, upd_same⟩)⟩
        · have hlt : ¬ first < ss.length := fun z => h (decide_eq_true (by omega))
          rw [if_neg hlt, List.append_nil] at hm'
          rw [← hm']
          exact ⟨rfl, s3, _, h3, hq⟩
      · rintro σ1 H1 ⟨rfl, sa, ys', hb, hc⟩
        (repeat array_get_dec)
        exact q f ys' H1 sa hf hb hc
end Mine
namespace Mine
open PySem L2
def sp_has_left_note (K : PySem.W.Frag) : Sp := fun vs H Q _ => ∃ (l f : Addr) (a : Nat) (xs : List V) (ss : List Sg) (fs : List Int), vs = [.ref l, .ref f, .int (a : Int)] ∧ SqL K H l xs ∧ Sgs H xs ss ∧ H f = some (.lst (fs.map V.int)) ∧ fs.length = ss.length ∧ Q (.bl (leftN (kds ss) fs a)) H
theorem ok_has_left_note {P : Program} {w : World} {K : PySem.W.Frag} {mg : Str → Option Value} {base : Heap} {t : Adr} (T : Txt K w mg t) : FnOk P w K mg base CX0 (0 + 2) t.f_has_left_note t.d_has_left_note ["line", "found", "first"] (sp_has_left_note K) := by
  have G_kind_at := ok_kind_at (P := P) (w := w) (base := base) T
  refine T.F_has_left_note.ok sc_has_left_note (fun vs H Q E h => ?_) (fun cdv A outer s H vs Q E hr h => ?_)
  · obtain ⟨_, _, _, _, _, _, rfl, _⟩ := h
    rfl
  · obtain ⟨l, f, a, xs, ss, fs, rfl, hS, hg, hf, hl, q⟩ := h
    refine bodyOk (pss_one (ps_ret (pe_mid (pe_and (pe_cmpR (op_eq.or (op_eqD (hu_of64 hr))) (pe_call G_kind_at (hr.mono (by decide)) rfl T.mg_kind_at T.F_kind_at.kp T.b_kind_at .nil pass0 (pa_cons (pv 0) (pa_cons (pe_op op_sub (pv 2) pe_int) pa_nil))) pe_str (nomark _)) (pe_one (pe_cmpR (op_eq.or (op_eqD (hu_of64 hr))) (pe_ix ix_seq (pv 1) (pe_op op_sub (pv 2) pe_int) (fun _ _ => rfl)) (pe_glob (v := .int 3) rfl T.c_FULL_WORTH ⟨_, rfl⟩) (nomark _))))))) ?_
    refine midV (.bl (leftN (kds ss) fs a)) ?_ q
    (repeat array_get_dec)
    refine ⟨l, _, xs, ss, rfl, hS, hg, ?_⟩
    (repeat array_get_dec)
    rw [o_G]
    refine ite2 (fun h => ?_) (fun h => ?_)
    · have e := of_decide_eq_true h
      have e' : 1 ≤ a ∧ a - 1 < ss.length := by
        unfold kAt at e
        split at e
        · have := (List.getElem?_eq_some_iff.mp e).1
          rw [List.length_map] at this
          omega
        · cases e
      (repeat array_get_dec)
      refine ixN' (SqL.of hf) (n := a - 1) (by omega) (List.getElem?_eq_getElem (by omega)) ?_
      (repeat array_get_dec)
      rw [dec_int']
      refine endV ?_
      unfold leftN
      rw [h, List.getD_eq_getElem?_getD, List.getElem?_eq_getElem (by omega)]
      rfl
    · refine endV ?_
      unfold leftN
      rw [Bool.eq_false_iff.mpr h]
      rfl
end Mine
namespace Mine
open PySem L2
def sp_has_right_note (K : PySem.W.Frag) : Sp := fun vs H Q _ => ∃ (l : Addr) (z : Nat) (xs : List V) (ss : List Sg), vs = [.ref l, .int (z : Int)] ∧ SqL K H l xs ∧ Sgs H xs ss ∧ Q (.bl (rightN (kds ss) z)) H
theorem o_great (k : Option Kd) : inV (.str (okstr k)) [.str "G", .str "D", .str "R"] = greatO k := by
  cases k with
  | none => decide +kernel
  | some k => cases k <;> decide +kernel
theorem ok_has_right_note {P : Program} {w : World} {K : PySem.W.Frag} {mg : Str → Option Value} {base : Heap} {t : Adr} (T : Txt K w mg t) : FnOk P w K mg base CX0 (0 + 2) t.f_has_right_note t.d_has_right_note ["line", "behind"] (sp_has_right_note K) := by
  have G_kind_at := ok_kind_at (P := P) (w := w) (base := base) T
  refine T.F_has_right_note.ok sc_has_right_note (fun vs H Q E h => ?_) (fun cdv A outer s H vs Q E hr h => ?_)
  · obtain ⟨_, _, _, _, rfl, _⟩ := h
    rfl
  · obtain ⟨l, z, xs, ss, rfl, hS, hg, q⟩ := h
    refine bodyOk (pss_one (ps_ret (pe_mid (pe_and (pe_cmpR (op_eq.or (op_eqD (hu_of64 hr))) (pe_call G_kind_at (hr.mono (by decide)) rfl T.mg_kind_at T.F_kind_at.kp T.b_kind_at .nil pass0 (pa_cons (pv 0) (pa_cons (pv 1) pa_nil))) pe_str (nomark _)) (pe_one (pe_cmpR (op_notIn_seq.or op_notIn_str) (pe_call G_kind_at (hr.mono (by decide)) rfl T.mg_kind_at T.F_kind_at.kp T.b_kind_at .nil pass0 (pa_cons (pv 0) (pa_cons (pe_op (op_add.or (op_add_str.or op_cat)) (pv 1) pe_int) pa_nil))) (pe_glob (v := .ref t.a_GREAT_KINDS) rfl T.c_GREAT_KINDS rfl) rfl)))))) ?_
    refine midV (.bl (rightN (kds ss) z)) ?_ q
    (repeat array_get_dec)
    refine ⟨l, _, xs, ss, rfl, hS, hg, ?_⟩
    (repeat array_get_dec)
    rw [o_G]
    refine ite2 (fun h => ?_) (fun h => ?_)
    · (repeat array_get_dec)
      refine ⟨l, _, xs, ss, rfl, hS, hg, ?_⟩
      (repeat array_get_dec)
      refine .inl ⟨_, _, rfl, .inr (T.q_GREAT_KINDS _), rfl, rfl, endV ?_⟩
      unfold rightN
      rw [kAt_nat] at h
      have e : kAt (kds ss) ((z : Int) + 1) = (kds ss)[z + 1]? := by rw [← kAt_nat]; rfl
      rw [h, ← o_great, ← e]
      rfl
    · refine endV ?_
      unfold rightN
      rw [kAt_nat] at h
      rw [Bool.eq_false_iff.mpr h]
      rfl
end Mine
namespace Mine
open PySem L2
def SetSp (K : PySem.W.Frag) (g : List Kd → List Int → Nat → Nat → Bool × List Int) : Sp := fun vs H Q _ => ∃ (l f : Addr) (a z : Nat) (xs : List V) (ss : List Sg) (fs : List Int), vs = [.ref l, .ref f, .int (a : Int), .int (z : Int)] ∧ SqL K H l xs ∧ Sgs H xs ss ∧ H f = some (.lst (fs.map V.int)) ∧ fs.length = ss.length ∧ a < z ∧ z ≤ ss.length ∧
  Q (.bl (g (kds ss) fs a z).1) (upd H f (.lst ((g (kds ss) fs a z).2.map V.int)))
theorem ok_settle_one_over {P : Program} {w : World} {K : PySem.W.Frag} {mg : Str → Option Value} {base : Heap} {t : Adr} (T : Txt K w mg t) : FnOk P w K mg base CX0 (0 + 3) t.f_settle_one_over t.d_settle_one_over ["line", "found", "first", "behind"] (SetSp K settle1) := by
  have G_has_left_note := ok_has_left_note (P := P) (w := w) (base := base) T
  have G_has_right_note := ok_has_right_note (P := P) (w := w) (base := base) T
  refine T.F_settle_one_over.ok sc_settle_one_over (fun vs H Q E h => ?_) (fun cdv A outer s H vs Q E hr h => ?_)
  · obtain ⟨_, _, _, _, _, _, _, rfl, _⟩ := h
    rfl
  · obtain ⟨l, f, a, z, xs, ss, fs, rfl, hS, hg, hf, hl, haz, hz, q⟩ := h
    unfold settle1 at q
    refine bodyOk (pss_cons (ps_if (pt_val (pe_call G_has_left_note (hr.mono (by decide)) rfl T.mg_has_left_note T.F_has_left_note.kp T.b_has_left_note .nil pass0 (pa_cons (pv 0) (pa_cons (pv 1) (pa_cons (pv 2) pa_nil))))) (pss_cons (ps_asg (pe_glob (v := .int 2) rfl T.c_SHORTENED_WORTH ⟨_, rfl⟩) (pg_sub (pv 1) (pe_op op_sub (pv 2) pe_int) set_list)) (pss_one (ps_ret pe_bl))) pss_nil) (pss_cons (ps_if (pt_val (pe_call G_has_right_note (hr.mono (by decide)) rfl T.mg_has_right_note T.F_has_right_note.kp T.b_has_right_note .nil pass0 (pa_cons (pv 0) (pa_cons (pv 3) pa_nil)))) (pss_cons (ps_asg (pe_glob (v := .int 2) rfl T.c_SHORTENED_WORTH ⟨_, rfl⟩) (pg_sub (pv 1) (pv 3) set_list)) (pss_one (ps_ret pe_bl))) pss_nil) (pss_one (ps_ret pe_bl)))) ?_
    (repeat array_get_dec)
    refine ⟨l, f, a, xs, ss, fs, rfl, hS, hg, hf, hl, _, rfl, ?_⟩
    refine ite2 (fun h => ?_) (fun h => ?_)
    · rw [if_pos h] at q
      have hp := leftN_pos h
      rw [List.length_map] at hp
      (repeat array_get_dec)
      refine ⟨_, _, _, _, rfl, rfl, hf, ixN_nat (j := a - 1) (by omega) (by rw [List.length_map]; omega), ?_⟩
      rw [set_map]
      exact q
    · rw [if_neg h] at q
      (repeat array_get_dec)
      refine ⟨l, z, xs, ss, rfl, hS, hg, _, rfl, ?_⟩
      refine ite2 (fun h2 => ?_) (fun h2 => ?_)
      · rw [if_pos h2] at q
        have hp := rightN_pos h2
        rw [List.length_map] at hp
        (repeat array_get_dec)
        refine ⟨_, _, _, _, rfl, rfl, hf, ixN_nat (j := z) rfl (by rw [List.length_map]; omega), ?_⟩
        rw [set_map]
        exact q
      · rw [if_neg h2, upd_self hf] at q
        exact q
end Mine
namespace Mine
open PySem L2
theorem ok_settle_two_over {P : Program} {w : World} {K : PySem.W.Frag} {mg : Str → Option Value} {base : Heap} {t : Adr} (T : Txt K w mg t) : FnOk P w K mg base CX0 (0 + 3) t.f_settle_two_over t.d_settle_two_over ["line", "found", "first", "behind"] (SetSp K settle2) := by
  have G_has_left_note := ok_has_left_note (P := P) (w := w) (base := base) T
  have G_has_right_note := ok_has_right_note (P := P) (w := w) (base := base) T
  have G_kind_at := ok_kind_at (P := P) (w := w) (base := base) T
  refine T.F_settle_two_over.ok sc_settle_two_over (fun vs H Q E h => ?_) (fun cdv A outer s H vs Q E hr h => ?_)
  · obtain ⟨_, _, _, _, _, _, _, rfl, _⟩ := h
    rfl
  · obtain ⟨l, f, a, z, xs, ss, fs, rfl, hS, hg, hf, hl, haz, hz, q⟩ := h
    unfold settle2 at q
    refine bodyOk (pss_cons (ps_if (pt_mid (PW.pt (pw_and (pt_cmpR (op_in_seq.or op_in_str) (pe_call G_kind_at (hr.mono (by decide)) rfl T.mg_kind_at T.F_kind_at.kp T.b_kind_at .nil pass0 (pa_cons (pv 0) (pa_cons (pv 3) pa_nil))) (pe_glob (v := .ref t.a_GREAT_KINDS) rfl T.c_GREAT_KINDS rfl) rfl) (pw_and1 (pt_cmpR (op_eq.or (op_eqD (hu_of64 hr))) (pe_call G_kind_at (hr.mono (by decide)) rfl T.mg_kind_at T.F_kind_at.kp T.b_kind_at .nil pass0 (pa_cons (pv 0) (pa_cons (pe_op op_sub (pv 3) pe_int) pa_nil))) pe_str (nomark _)))))) (pss_cons (ps_asg (pe_glob (v := .int 2) rfl T.c_DOUBLED_WORTH ⟨_, rfl⟩) (pg_sub (pv 1) (pe_op op_sub (pv 3) pe_int) set_list)) (pss_one (ps_ret pe_bl))) pss_nil) (pss_cons (ps_if (pt_mid (PW.pt (pw_and (pt_val (pe_call G_has_left_note (hr.mono (by decide)) rfl T.mg_has_left_note T.F_has_left_note.kp T.b_has_left_note .nil pass0 (pa_cons (pv 0) (pa_cons (pv 1) (pa_cons (pv 2) pa_nil))))) (pw_and1 (pt_val (pe_call G_has_right_note (hr.mono (by decide)) rfl T.mg_has_right_note T.F_has_right_note.kp T.b_has_right_note .nil pass0 (pa_cons (pv 0) (pa_cons (pv 3) pa_nil)))))))) (pss_cons (ps_asg (pe_glob (v := .int 2) rfl T.c_SHORTENED_WORTH ⟨_, rfl⟩) (pg_sub (pv 1) (pe_op op_sub (pv 2) pe_int) set_list)) (pss_cons (ps_asg (pe_glob (v := .int 2) rfl T.c_SHORTENED_WORTH ⟨_, rfl⟩) (pg_sub (pv 1) (pv 3) set_list)) (pss_one (ps_ret pe_bl)))) pss_nil) (pss_one (ps_ret pe_bl)))) ?_
    refine midB (greatO (kds ss)[z]? && decide ((kds ss)[z - 1]? = some .s)) ?_ ?_
    · (repeat array_get_dec)
      refine ⟨l, _, xs, ss, rfl, hS, hg, ?_⟩
      (repeat array_get_dec)
      refine .inl ⟨_, _, rfl, .inr (T.q_GREAT_KINDS _), rfl, rfl, _, rfl, ?_⟩
      show if inV (.str (okstr (kAt (kds ss) (z : Int)))) [.str "G", .str "D", .str "R"] = true then _ else _
      rw [o_great, kAt_nat]
      refine ite2 (fun h => ?_) (fun h => ?_)
      · (repeat array_get_dec)
        refine ⟨l, _, xs, ss, rfl, hS, hg, ?_⟩
        (repeat array_get_dec)
        rw [o_s]
        have e : kAt (kds ss) ((z : Int) - 1) = (kds ss)[z - 1]? := by rw [← kAt_nat]; congr 1; omega
        rw [e]
        exact endB (by rw [h]; rfl)
      · exact endB (by rw [Bool.eq_false_iff.mpr h]; rfl)
    · refine ite2 (fun h => ?_) (fun h => ?_)
      · rw [if_pos h] at q
        (repeat array_get_dec)
        refine ⟨_, _, _, _, rfl, rfl, hf, ixN_nat (j := z - 1) (by omega) (by rw [List.length_map]; omega), ?_⟩
        rw [set_map]
        exact q
      · rw [if_neg h] at q
        refine midB (leftN (kds ss) fs a && rightN (kds ss) z) ?_ ?_
        · (repeat array_get_dec)
          refine ⟨l, f, a, xs, ss, fs, rfl, hS, hg, hf, hl, _, rfl, ?_⟩
          refine ite2 (fun h => ?_) (fun h => ?_)
          · (repeat array_get_dec)
            refine ⟨l, z, xs, ss, rfl, hS, hg, _, rfl, endB ?_⟩
            rw [h]; rfl
          · exact endB (by rw [Bool.eq_false_iff.mpr h]; rfl)
        · refine ite2 (fun h2 => ?_) (fun h2 => ?_)
          · rw [if_pos h2] at q
            have hp := leftN_pos (Bool.and_eq_true_iff.mp h2).1
            have hr := rightN_pos (Bool.and_eq_true_iff.mp h2).2
            rw [List.length_map] at hp hr
            (repeat array_get_dec)
            refine ⟨_, _, _, _, rfl, rfl, hf, ixN_nat (j := a - 1) (by omega) (by rw [List.length_map]; omega), ?_⟩
            rw [set_map]
            (repeat array_get_dec)
            refine ⟨_, _, _, _, rfl, rfl, upd_same, ixN_nat (j := z) rfl (by rw [List.length_map, List.length_set]; omega), ?_⟩
            rw [set_map, upd_upd]
            exact q
          · rw [if_neg h2, upd_self hf] at q
            exact q
end Mine
namespace Mine
open PySem L2
theorem ok_settle_run {P : Program} {w : World} {K : PySem.W.Frag} {mg : Str → Option Value} {base : Heap} {t : Adr} (T : Txt K w mg t) : FnOk P w K mg base CX0 (0 + 4) t.f_settle_run t.d_settle_run ["line", "found", "first", "behind"] (SetSp K settle) := by
  have G_settle_one_over := ok_settle_one_over (P := P) (w := w) (base := base) T
  have G_settle_two_over := ok_settle_two_over (P := P) (w := w) (base := base) T
  refine T.F_settle_run.ok sc_settle_run (fun vs H Q E h => ?_) (fun cdv A outer s H vs Q E hr h => ?_)
  · obtain ⟨_, _, _, _, _, _, _, rfl, _⟩ := h
    rfl
  · obtain ⟨l, f, a, z, xs, ss, fs, rfl, hS, hg, hf, hl, haz, hz, q⟩ := h
    unfold settle at q
    refine bodyOk (pss_cons (ps_set (i := 4) sc_settle_run.nd rfl (Or.inl rfl) (pe_op op_mod (pe_op op_sub (pv 3) (pv 2)) pe_int)) (pss_cons (ps_if (pt_cmpR (op_eq.or (op_eqD (hu_of64 hr))) (pv 4) pe_int (nomark _)) (pss_one (ps_ret (pe_call G_settle_one_over (hr.mono (by decide)) rfl T.mg_settle_one_over T.F_settle_one_over.kp T.b_settle_one_over .nil pass0 (pa_cons (pv 0) (pa_cons (pv 1) (pa_cons (pv 2) (pa_cons (pv 3) pa_nil))))))) pss_nil) (pss_cons (ps_if (pt_cmpR (op_eq.or (op_eqD (hu_of64 hr))) (pv 4) pe_int (nomark _)) (pss_one (ps_ret (pe_call G_settle_two_over (hr.mono (by decide)) rfl T.mg_settle_two_over T.F_settle_two_over.kp T.b_settle_two_over .nil pass0 (pa_cons (pv 0) (pa_cons (pv 1) (pa_cons (pv 2) (pa_cons (pv 3) pa_nil))))))) pss_nil) (pss_one (ps_ret pe_bl))))) ?_
    (repeat array_get_dec)
    rw [dec_int']
    have e : ((z : Int) - (a : Int)) % 3 = (((z - a) % 3 : Nat) : Int) := by omega
    refine ite2 (fun h => ?_) (fun h => ?_)
    · have h1 : (z - a) % 3 = 1 := by have : ((z : Int) - (a : Int)) % 3 = 1 := of_decide_eq_true h; omega
      rw [if_pos h1] at q
      (repeat array_get_dec)
      exact ⟨l, f, a, z, xs, ss, fs, rfl, hS, hg, hf, hl, haz, hz, q⟩
    · have h1 : ¬ (z - a) % 3 = 1 := fun c => h (decide_eq_true (by show ((z : Int) - (a : Int)) % 3 = 1; omega))
      rw [if_neg h1] at q
      (repeat array_get_dec)
      rw [dec_int']
      refine ite2 (fun h => ?_) (fun h => ?_)
      · have h2 : (z - a) % 3 = 2 := by have : ((z : Int) - (a : Int)) % 3 = 2 := of_decide_eq_true h; omega
        rw [if_pos h2] at q
        (repeat array_get_dec)
        exact ⟨l, f, a, z, xs, ss, fs, rfl, hS, hg, hf, hl, haz, hz, q⟩
      · have h2 : ¬ (z - a) % 3 = 2 := fun c => h (decide_eq_true (by show ((z : Int) - (a : Int)) % 3 = 2; omega))
        rw [if_neg h2, upd_self hf] at q
        exact q
end Mine
namespace Mine
open PySem L2
def sp_reading (K : PySem.W.Frag) : Sp := fun vs H Q _ => ∃ (l : Addr) (b : Int) (xs : List V) (ss : List Sg), vs = [.ref l, .int b] ∧ SqL K H l xs ∧ Sgs H xs ss ∧ ss.length ≤ 400 ∧
  ∀ (p f lo : Addr) (ys : List V) (H' : Hp), Same H H' → H f = none → H lo = none → f ≠ lo → H' p = some (.tup [.ref f, .ref lo]) → H' f = some (.lst ((readL b (kds ss)).1.map V.int)) → H' lo = some (.lst ys) → Prs H' ys (readL b (kds ss)).2 → Q (.ref p) H'
theorem ok_reading {P : Program} {w : World} {K : PySem.W.Frag} {mg : Str → Option Value} {base : Heap} {t : Adr} (T : Txt K w mg t) : FnOk P w K mg base CX0 (0 + 5) t.f_reading t.d_reading ["line", "begin"] (sp_reading K) := by
  have G_worths_without_runs := ok_worths_without_runs (P := P) (w := w) (base := base) T
  have G_runs := ok_runs (P := P) (w := w) (base := base) T
  have G_settle_run := ok_settle_run (P := P) (w := w) (base := base) T
  refine T.F_reading.ok sc_reading (fun vs H Q E h => ?_) (fun cdv A outer s H vs Q E hr h => ?_)
  · obtain ⟨_, _, _, _, rfl, _⟩ := h
    rfl
  · obtain ⟨l, b, xs, ss, rfl, hS, hg, hn, q⟩ := h
    refine bodyOk (pss_cons (ps_set (i := 2) sc_reading.nd rfl (Or.inl rfl) (pe_call G_worths_without_runs (hr.mono (by decide)) rfl T.mg_worths_without_runs T.F_worths_without_runs.kp T.b_worths_without_runs .nil pass0 (pa_cons (pv 0) (pa_cons (pv 1) pa_nil)))) (pss_cons (ps_set (i := 3) sc_reading.nd rfl (Or.inl rfl) (pe_lst pa_nil)) (pss_cons (ps_for PassesOwn.never rfl (pi_list (pe_call G_runs (hr.mono (by decide)) rfl T.mg_runs T.F_runs.kp T.b_runs .nil pass0 (pa_cons (pv 0) (pa_cons (pv 1) pa_nil)))) (pg_tup rfl (pgs_cons (pg_name (i := 4) sc_reading.nd rfl (Or.inl rfl)) (pgs_cons (pg_name (i := 5) sc_reading.nd rfl (Or.inl rfl)) pgs_nil))) (pss_one (ps_if (pt_not (pt_val (pe_call G_settle_run (hr.mono (by decide)) rfl T.mg_settle_run T.F_settle_run.kp T.b_settle_run .nil pass0 (pa_cons (pv 0) (pa_cons (pv 2) (pa_cons (pv 4) (pa_cons (pv 5) pa_nil))))))) (pss_one (ps_expr (pe_bm PySem.F.plainAttrs_list PySem.F.slot_list_append PySem.F.type_list_append mt_append (pv 3) (pa_cons (pe_tup (pa_cons (pv 4) (pa_cons (pv 5) pa_nil))) pa_nil)))) pss_nil))) (pss_one (ps_ret (pe_tup (pa_cons (pv 2) (pa_cons (pv 3) pa_nil)))))))) ?_
    (repeat array_get_dec)
    refine ⟨l, b, xs, ss, rfl, hS, hg, hn, fun f H1 s1 n1 h1 => ?_⟩
    refine ⟨big (by show 0 ≤ 1000; omega), fun lo hlo => ?_⟩
    have s1' := s1.trans (Same.upd (o := .lst []) hlo)
    (repeat array_get_dec)
    refine ⟨l, b, xs, ss, rfl, s1'.seq hS, hg.same s1', hn, fun r zs H2 s2 n2 h2 hz => ⟨_, rfl, ⟨_, SqL.of h2⟩, ?_⟩⟩
    have hlo0 : H lo = none := s1.free hlo
    have nfl : f ≠ lo := ne_of_none h1 hlo
    have nrf : r ≠ f := fun e => by
      have := s1'.free n2
      have h1' := Same.upd (o := .lst []) hlo _ _ h1
      rw [← e, n2] at h1'; cases h1'
    have nrl : r ≠ lo := fun e => by rw [e, upd_same] at n2; cases n2
    have bl : (baseL b (kds ss)).length = ss.length := by rw [baseL_len, List.length_map]
    have cnt : (runsL b (kds ss)).length ≤ 401 := by
      have := runsF_count (insL b (kds ss)) 0 0
      rw [insL_len, List.length_map] at this
      exact Nat.le_trans this (by omega)
    refine for_list (K := K) (xs := zs) (fun i σ H' => ∃ (v w : Option V) (c : RdS) (ys : List V), σ = [some (.ref l), some (.int b), some (.ref f), some (.ref lo), v, w] ∧ Same H H' ∧ H' f = some (.lst (c.1.map V.int)) ∧ H' lo = some (.lst ys) ∧ Prs H' ys c.2 ∧ H' r = some (.lst zs) ∧ Prs H' zs (runsL b (kds ss)) ∧ c.1.length = ss.length ∧ c.2.length ≤ i ∧ ((runsL b (kds ss)).drop i).foldl (rdStep (kds ss)) c = readL b (kds ss))
      ⟨none, none, (baseL b (kds ss), []), [], rfl, s1'.trans s2, s2 _ _ (Same.upd (o := .lst []) hlo _ _ h1), s2 _ _ upd_same, .nil, h2, hz, bl, Nat.le_refl _, rfl⟩ ?_ ?_ ?_
    · rintro i σ H' _ ⟨v, w, c, ys, rfl, _, _, _, _, hr, _⟩
      exact SqL.of hr
    · rintro i x σ H' hx ⟨v, w, c, ys, rfl, s3, hf3, hlo3, hys, hr3, hzs, hcl, hci, hfold⟩
      obtain ⟨pr, hpr, p, rfl, hp⟩ := pget hzs hx
      have hin := runsL_in b (kds ss) pr (List.mem_of_getElem? hpr)
      rw [List.length_map] at hin
      rw [drop_at hpr, List.foldl_cons] at hfold
      have hil : i < 401 := by
        have := (List.getElem?_eq_some_iff.mp hpr).1
        omega
      refine ⟨p, _, rfl, SqT.of hp, rfl, _, _, rfl, _, _, rfl, rfl, ?_⟩
      (repeat array_get_dec)
      refine ⟨l, f, pr.1, pr.2, xs, ss, c.1, rfl, s3.seq hS, hg.same s3, hf3, hcl, hin.1, hin.2, ?_⟩
      have s4 : Same H (upd H' f (.lst ((settle (kds ss) c.1 pr.1 pr.2).2.map V.int))) := sameOwn s3 n1
      have hlo4 : upd H' f (.lst ((settle (kds ss) c.1 pr.1 pr.2).2.map V.int)) lo = some (.lst ys) := by rw [upd_ne nfl.symm]; exact hlo3
      have hr4 : upd H' f (.lst ((settle (kds ss) c.1 pr.1 pr.2).2.map V.int)) r = some (.lst zs) := by rw [upd_ne nrf]; exact hr3
      have len4 : (settle (kds ss) c.1 pr.1 pr.2).2.length = ss.length := by rw [settle_len]; exact hcl
      (repeat array_get_dec)
      refine ite2 (fun h => ?_) (fun h => ?_)
      · have hst : (settle (kds ss) c.1 pr.1 pr.2).1 = false := by
          cases e : (settle (kds ss) c.1 pr.1 pr.2).1
          · rfl
          · rw [e] at h; cases h
        (repeat array_get_dec)
        refine ⟨.inl ⟨rfl, _, SqL.of hlo4⟩, ?_⟩
        (repeat array_get_dec)
        refine ⟨by show 2 ≤ sizeLine; decide, fun z hz => ?_⟩
        have sz := Same.upd (o := .tup [.int (pr.1 : Int), .int (pr.2 : Int)]) hz
        have hlo5 := sz _ _ hlo4
        refine ⟨_, _, _, rfl, rfl, hlo5, by rw [plen hys]; exact small1000 (by omega), ?_⟩
        refine ⟨_, _, ((settle (kds ss) c.1 pr.1 pr.2).2, c.2 ++ [pr]), _, rfl, sameOwn (s4.trans sz) hlo0, by rw [upd_ne nfl]; exact sz _ _ upd_same, upd_same, psnoc (prsUpd hlo5 (prsSame sz (prsUpd hf3 hys))) (prUpd hlo5 ⟨z, rfl, upd_same⟩),
          by rw [upd_ne nrl]; exact sz _ _ hr4, prsUpd hlo5 (prsSame sz (prsUpd hf3 hzs)), len4, by simp; omega, ?_⟩
        rw [← hfold]
        unfold rdStep
        rw [hst]
        rfl
      · have hst : (settle (kds ss) c.1 pr.1 pr.2).1 = true := by
          cases e : (settle (kds ss) c.1 pr.1 pr.2).1
          · rw [e] at h; exact absurd rfl h
          · rfl
        refine ⟨_, _, ((settle (kds ss) c.1 pr.1 pr.2).2, c.2), ys, rfl, s4, upd_same, hlo4, prsUpd hf3 hys, hr4, prsUpd hf3 hzs, len4, by show c.2.length ≤ i + 1; omega, ?_⟩
        rw [← hfold]
        unfold rdStep
        rw [hst]
        rfl
    · rintro σ H' ⟨v, w, c, ys, rfl, s3, hf3, hlo3, hys, hr3, hzs, hcl, hci, hfold⟩
      rw [plen hz, List.drop_length] at hfold
      have e : c = readL b (kds ss) := hfold
      subst e
      (repeat array_get_dec)
      refine ⟨by show 2 ≤ sizeLine; decide, fun z hz => ?_⟩
      have sz := Same.upd (o := .tup [.ref f, .ref lo]) hz
      exact q z f lo ys _ (s3.trans sz) n1 hlo0 nfl upd_same (sz _ _ hf3) (sz _ _ hlo3) (prsSame sz hys)
end Mine
namespace Mine
open PySem L2
def sp_worths (K : PySem.W.Frag) : Sp := fun vs H Q _ => ∃ (l : Addr) (b : Int) (xs : List V) (ss : List Sg), vs = [.ref l, .int b] ∧ SqL K H l xs ∧ Sgs H xs ss ∧ ss.length ≤ 400 ∧
  ∀ (f : Addr) (H' : Hp), Same H H' → H f = none → H' f = some (.lst ((readL b (kds ss)).1.map V.int)) → Q (.ref f) H'
theorem ok_worths {P : Program} {w : World} {K : PySem.W.Frag} {mg : Str → Option Value} {base : Heap} {t : Adr} (T : Txt K w mg t) : FnOk P w K mg base CX0 (0 + 6) t.f_worths t.d_worths ["line", "begin"] (sp_worths K) := by
  have G_reading := ok_reading (P := P) (w := w) (base := base) T
  refine T.F_worths.ok sc_worths (fun vs H Q E h => ?_) (fun cdv A outer s H vs Q E hr h => ?_)
  · obtain ⟨_, _, _, _, rfl, _⟩ := h
    rfl
  · obtain ⟨l, b, xs, ss, rfl, hS, hg, hn, q⟩ := h
    refine bodyOk (pss_one (ps_ret (pe_ix ix_seq (pe_call G_reading (hr.mono (by decide)) rfl T.mg_reading T.F_reading.kp T.b_reading .nil pass0 (pa_cons (pv 0) (pa_cons (pv 1) pa_nil))) pe_int (fun _ _ => rfl)))) ?_
    (repeat array_get_dec)
    refine ⟨l, b, xs, ss, rfl, hS, hg, hn, fun p f lo ys H' s1 n1 n2 _ hp hf _ _ => ?_⟩
    (repeat array_get_dec)
    exact q f H' s1 n1 hf
end Mine
namespace Mine
open PySem L2
def sp_Book_kept (c : Cs) : Sp := fun vs H Q E => ∃ (x : Addr) (F : Addr → Prop) (vw : Vw) (ps fs : List Vw) (n : Str), vs = [.ref x, .str n] ∧ BkC c H x F vw ps fs ∧
  match findV vw n with
  | none => RX E c .NoVoice H
  | some _ => ∀ (l : Addr) (H' : Hp), H l = none → Same H H' → H' l = some (.lst ((keptV vw n).map V.int)) → Q (.ref l) H'
theorem ok_Book_kept {P : Program} {w : World} {K : PySem.W.Frag} {mg : Str → Option Value} {base : Heap} {t : Adr} (T : Txt K w mg t) : FnOk P w K mg base CX0 (0 + 7) t.f_Book_kept t.d_Book_kept ["self", "name"] (sp_Book_kept (cs t)) := by
  have G_Book_canon := ok_Book_canon (P := P) (w := w) (base := base) T
  have G_worths := ok_worths (P := P) (w := w) (base := base) T
  have G_Book_line := ok_Book_line (P := P) (w := w) (base := base) T
  refine T.F_Book_kept.ok sc_Book_kept (fun vs H Q E h => ?_) (fun cdv A outer s H vs Q E hr h => ?_)
  · obtain ⟨_, _, _, _, _, _, rfl, _⟩ := h
    rfl
  · obtain ⟨x, F, vw, ps, fs, n, rfl, B, q⟩ := h
    refine bodyOk (pss_cons (ps_set (i := 2) sc_Book_kept.nd rfl (Or.inl rfl) (pe_meth (pv 0) T.cl_Book T.me_Book_canon G_Book_canon (hr.mono (by decide)) T.b_Book_canon .nil pass0 (pa_cons (pv 1) pa_nil))) (pss_cons (ps_if (pt_cmpR op_isN (pv 2) pe_non (nomark _)) (pss_one (ps_ret (pe_call G_worths (hr.mono (by decide)) rfl T.mg_worths T.F_worths.kp T.b_worths .nil pass0 (pa_cons (pe_meth (pv 0) T.cl_Book T.me_Book_line G_Book_line (hr.mono (by decide)) T.b_Book_line .nil pass0 (pa_cons (pv 1) pa_nil)) (pa_cons pe_int pa_nil))))) pss_nil) (pss_cons (ps_asg (pv 2) (pg_tup rfl (pgs_cons (pg_name (i := 3) sc_Book_kept.nd rfl (Or.inl rfl)) (pgs_cons (pg_name (i := 4) sc_Book_kept.nd rfl (Or.inl rfl)) (pgs_cons (pg_name (i := 5) sc_Book_kept.nd rfl (Or.inr rfl)) (pgs_cons (pg_name (i := 6) sc_Book_kept.nd rfl (Or.inl rfl)) pgs_nil)))))) (pss_cons (ps_set (i := 7) sc_Book_kept.nd rfl (Or.inl rfl) (pe_mid (pe_ifExp (pt_val (pv 6)) pe_int pe_int))) (pss_one (ps_ret (pe_comp (cn := ["worth"]) rfl (CompFit.of rfl) (pi_list (pe_call G_worths (hr.mono (by decide)) rfl T.mg_worths T.F_worths.kp T.b_worths .nil pass0 (pa_cons (pe_meth (pv 0) T.cl_Book T.me_Book_line G_Book_line (hr.mono (by decide)) T.b_Book_line .nil pass0 (pa_cons (pv 1) pa_nil)) (pa_cons (pv 7) pa_nil)))) (fun _ => (pg_name (i := 0) nd_Book_kept_4 rfl (Or.inl rfl))) (fun _ => pf_nil) (fun _ => (pe_op (op_mul.or op_rep) (pv 6) (pv 0)))))))))) ?_
    obtain ⟨L, D, U, all, M, Ps, Fs, es, us, b, iM, pp, pf, f⟩ := B.ex
    obtain ⟨dx, hx⟩ := b.hx
    have wv := B.wv vw (.inr (.inl rfl))
    refine ⟨_, rfl, x, dx, _, rfl, hx, boF_no_canon _ _ _, _, rfl, x, F, vw, ps, fs, n, rfl, B, ?_⟩
    cases hf : findV vw n with
    | none =>
      rw [hf] at q
      exact (Bool.noConfusion (show false = true from q.1))
    | some th =>
      rw [hf] at q
      cases th with
      | pl ss =>
        have gl := (wv.gd _ _ (findV_mem hf)).1
        refine ⟨_, rfl, rfl, _, rfl, ?_⟩
        refine ite2 (fun _ => ?_) (fun h => absurd (by decide) h)
        refine ⟨_, rfl, x, dx, _, rfl, hx, boF_no_line _ _ _, _, rfl, x, F, vw, ps, fs, n, rfl, B, ?_⟩
        rw [hf]
        intro l ys H1 hl s1 h1 g1
        rw [lineV_pl hf] at g1
        refine ⟨l, 3, ys, ss, rfl, SqL.of h1, g1, by omega, fun f' H2 s2 n2 h2 => ?_⟩
        exact q f' H2 (s1.free n2) (s1.trans s2) (by rw [keptV_pl hf]; exact h2)
      | cn ld lt sl tn =>
        intro p hp
        obtain ⟨⟨ss, hld⟩, lt0, lt1, sl0, sl1⟩ := wv.ld n ld lt sl tn (findV_mem hf)
        have hfl := wv.find hld
        have gl := (wv.gd _ _ hld).1
        rw [keptV_cn hf hfl] at q
        refine ⟨_, rfl, rfl, _, rfl, ?_⟩
        refine ite2 (fun h => by have := of_decide_eq_true h; cases this) (fun _ => ?_)
        refine ⟨_, rfl, p, _, rfl, SqT.of hp, rfl, _, _, rfl, _, _, rfl, _, _, rfl, _, _, rfl, rfl, ?_⟩
        refine ⟨fun v H' => v = .int (if tn = true then 2 else 3) ∧ H' = H, ?_, ?_⟩
        · refine ⟨_, rfl, _, rfl, ?_⟩
          cases tn with
          | true => exact iteT ⟨rfl, rfl⟩
          | false => exact iteF ⟨rfl, rfl⟩
        intro v0 H0 ⟨e1, e2⟩
        rw [e1, e2]
        refine ⟨_, rfl, x, dx, _, rfl, hx, boF_no_line _ _ _, _, rfl, x, F, vw, ps, fs, n, rfl, B, ?_⟩
        rw [hf]
        intro l ys H1 hl s1 h1 g1
        rw [lineV_cn hf hfl] at g1
        have gl2 : (if tn = true then ss.map turnS else ss).length ≤ 400 := by
          split
          · rw [List.length_map]; omega
          · omega
        refine ⟨_, rfl, l, (if tn = true then 2 else 3), ys, _, rfl, SqL.of h1, g1, gl2, fun f' H2 s2 n2 h2 => ?_⟩
        generalize hW : (readL (if tn = true then 2 else 3) (kds (if tn = true then ss.map turnS else ss))).1 = W at q h2
        have hWl : W.length ≤ 400 := by rw [← hW, readL_len, List.length_map]; exact gl2
        refine ⟨f', rfl, ⟨_, SqL.of h2⟩, fun D' b' hD' => ?_⟩
        generalize hbz : (if tn = true then (2 : Int) else 3) = bz
        refine comp_list (K := K) (xs := W.map V.int) (fun i ys σ H' => ∃ v, σ = [v, some (.ref x), some (.str n), some (.ref p), some (.str ld), some (.int lt), some (.int sl), some (.bl tn), some (.int bz)] ∧ H' = upd H2 D' (.lst ys) ∧ ys = ((W.take i).map fun w => sl * w).map V.int) ⟨none, rfl, rfl, by simp⟩ ?_ ?_ ?_
        · rintro i ys σ H' ⟨v, rfl, rfl, _⟩
          exact seq_upd (SqL.of h2) hD'
        · rintro i ys y σ H' hy ⟨v, rfl, rfl, rfl⟩ N hN
          obtain ⟨z, hz, rfl⟩ := intsAt hy
          have hi : i < W.length := (List.getElem?_eq_some_iff.mp hz).1
          refine compT_name ?_
          refine ⟨_, rfl, _, rfl, .inl ⟨_, _, rfl, rfl, .inl ⟨by omega, by omega⟩, upd_same, ?_, ?_⟩⟩
          · rw [List.length_map, List.length_map, List.length_take]
            exact small1000 (by omega)
          · refine hN _ _ _ ⟨_, rfl, upd_upd, ?_⟩
            rw [List.take_succ, hz, List.map_append, List.map_append]
            rfl
        · rintro ys σ H' ⟨v, rfl, rfl, rfl⟩
          rw [List.length_map, List.take_length]
          exact q D' _ (s1.free (s2.free hD')) ((s1.trans s2).trans (Same.upd hD')) upd_same
end Mine
namespace Mine
open PySem L2
theorem _root_.L2.DGet.same {H H' : Hp} {a : Addr} {y : V} {r : Option V} (s : Same H H') (h : DGet H a y r) : DGet H' a y r := by
  have rd : ∀ {u}, Rd H a u → Rd H' a u := fun z => z.imp (fun e => s _ _ e) fun ⟨o, e⟩ => ⟨o, s _ _ e⟩
  rcases h with ⟨kvs, k, e, e2, e3⟩ | ⟨kvs, k, b, e, e2, e3, e4⟩
  · exact .inl ⟨kvs, k, rd e, e2, e3⟩
  · exact .inr ⟨kvs, k, b, rd e, e2, s _ _ e3, e4⟩
theorem ixT4 {K : PySem.W.Frag} {H : Hp} {p : Addr} {a b c d : V} {i : Nat} {v : V} {Q : VK} (h : H p = some (.tup [a, b, c, d])) (e : [a, b, c, d][i]? = some v) (q : Q v H) : rIxL K (.ref p) (.int (i : Int)) H Q ∨ rIxT K (.ref p) (.int (i : Int)) H Q ∨ rIxS (.ref p) (.int (i : Int)) H Q := .inr (.inl ⟨p, _, i, v, rfl, rfl, SqT.of h, atI_nat e, q⟩)
def sp_l_line_of (K : PySem.W.Frag) : Sp := fun vs H Q _ => ∃ (d : Addr) (vw : Vw) (n : Str) (th : Th), vs = [.ref d, .str n] ∧ DvAt H d vw ∧ WFV vw ∧ findV vw n = some th ∧
  ∀ (l : Addr) (ys : List V) (H' : Hp), Same H H' → H' l = some (.lst ys) → Sgs H' ys (lineV vw n) → Q (.ref l) H'
theorem ok_l_line_of {P : Program} {w : World} {K : PySem.W.Frag} {mg : Str → Option Value} {base : Heap} {t : Adr} (T : Txt K w mg t) : FnOk P w K mg base CX0 (0 + 1) t.f_l_line_of t.d_l_line_of ["_law_voices", "_law_name"] (sp_l_line_of K) := by
  refine T.F_l_line_of.ok sc_l_line_of (fun vs H Q E h => ?_) (fun cdv A outer s H vs Q E hr h => ?_)
  · obtain ⟨_, _, _, _, rfl, _⟩ := h
    rfl
  · obtain ⟨d, vw, n, th, rfl, hd, wv, hf, q⟩ := h
    refine bodyOk (pss_cons (ps_set (i := 2) sc_l_line_of.nd rfl (Or.inl rfl) (pe_dget (hu_of hr) (pv 0) (pv 1) (fun _ _ => rfl))) (pss_cons (ps_if (pt_val (pe_callB call_isT rfl T.nb_isinstance bt_isinstance (pa_cons (pv 2) (pa_cons (pe_bltn (v := .ty "list") rfl T.nb_list bt_list rfl) pa_nil)))) (pss_one (ps_ret (pv 2))) pss_nil) (pss_cons (ps_if (pt_not (pt_val (pe_ix ix_seq (pv 2) pe_int (fun _ _ => rfl)))) (pss_one (ps_ret (pe_dget (hu_of hr) (pv 0) (pe_ix ix_seq (pv 2) pe_int (fun _ _ => rfl)) (fun _ _ => rfl)))) pss_nil) (pss_cons (ps_set (i := 3) sc_l_line_of.nd rfl (Or.inl rfl) (pe_lst pa_nil)) (pss_cons (ps_for PassesOwn.never rfl (pi_list (pe_dget (hu_of hr) (pv 0) (pe_ix ix_seq (pv 2) pe_int (fun _ _ => rfl)) (fun _ _ => rfl))) (pg_name (i := 4) sc_l_line_of.nd rfl (Or.inl rfl)) (pss_cons (ps_set (i := 5) sc_l_line_of.nd rfl (Or.inl rfl) (pe_mid (pe_ifExp (pt_cmpR (op_eq.or (op_eqD (hu_of64 hr))) (pe_ix ix_seq (pv 4) pe_int (fun _ _ => rfl)) pe_str (nomark _)) pe_str (pe_mid (pe_ifExp (pt_cmpR (op_eq.or (op_eqD (hu_of64 hr))) (pe_ix ix_seq (pv 4) pe_int (fun _ _ => rfl)) pe_str (nomark _)) pe_str (pe_ix ix_seq (pv 4) pe_int (fun _ _ => rfl))))))) (pss_one (ps_expr (pe_bm PySem.F.plainAttrs_list PySem.F.slot_list_append PySem.F.type_list_append mt_append (pv 3) (pa_cons (pe_tup (pa_cons (pv 5) (pa_cons (pe_ix ix_seq (pv 4) pe_int (fun _ _ => rfl)) pa_nil))) pa_nil)))))) (pss_one (ps_ret (pv 3)))))))) ?_
    obtain ⟨v, hg, hv⟩ := hd.get hf
    refine ⟨_, rfl, _, rfl, d, v, rfl, hg, ?_⟩
    cases th with
    | pl ss =>
      obtain ⟨l, ys, rfl, h1, h2⟩ := hv
      (repeat array_get_dec)
      refine ⟨_, _, _, _, rfl, TyOf.lst h1, rfl, _, rfl, iteT ?_⟩
      exact ⟨_, rfl, q l ys H (Same.refl _) h1 (by rw [lineV_pl hf]; exact h2)⟩
    | cn ld lt sl tn =>
      obtain ⟨p, rfl, hp⟩ := hv
      obtain ⟨⟨ss, hld⟩, _⟩ := wv.ld n ld lt sl tn (findV_mem hf)
      have hfl := wv.find hld
      have gl := (wv.gd _ _ hld).1
      rw [lineV_cn hf hfl] at q
      obtain ⟨v2, hg2, l, ys, rfl, h1, h2⟩ := hd.get hfl
      (repeat array_get_dec)
      refine ⟨_, _, _, _, rfl, TyOf.tup hp, rfl, _, rfl, iteF ?_⟩
      refine ⟨_, rfl, ixT4 (i := 3) hp rfl ?_⟩
      refine ⟨_, rfl, ?_⟩
      cases tn with
      | false =>
        refine iteT ?_
        refine ⟨_, rfl, _, rfl, ixT4 (i := 0) hp rfl ?_⟩
        exact ⟨d, _, rfl, hg2, q l ys H (Same.refl _) h1 h2⟩
      | true =>
        refine iteF ?_
        refine ⟨big (by show 0 ≤ 1000; omega), fun told htold => ?_⟩
        have s1 := Same.upd (o := .lst []) htold
        have ht1 := upd_same (H := H) (a := told) (o := .lst [])
        generalize upd H told (.lst []) = H1 at s1 ht1
        have y3 := plen h2
        refine ⟨_, rfl, _, rfl, ixT4 (i := 0) (s1 _ _ hp) rfl ?_⟩
        have nlt : l ≠ told := ne_of_none h1 htold
        have hg3 : DGet H1 d (.str ld) (some (.ref l)) := hg2.same s1
        refine ⟨d, _, rfl, hg3, l, rfl, ⟨_, SqL.of (s1 _ _ h1)⟩, for_list (K := K) (xs := ys) (fun i σ H' => ∃ (u k : Option V) (zs : List V), σ = [some (.ref d), some (.str n), some (.ref p), some (.ref told), u, k] ∧ Same H H' ∧ H' told = some (.lst zs) ∧ Sgs H' zs ((ss.take i).map turnS)) ⟨none, none, [], rfl, s1, ht1, .nil⟩ ?_ ?_ ?_⟩
        · rintro i σ H' _ ⟨u, k, zs, rfl, s2, _⟩
          exact SqL.of (s2 _ _ h1)
        · rintro i y σ H' hy ⟨u, k, zs, rfl, s2, ht2, gz⟩
          obtain ⟨sg, hsg, ps, rfl, hps⟩ := pget h2 hy
          have hi : i < ss.length := (List.getElem?_eq_some_iff.mp hsg).1
          have hps' := s2 _ _ hps
          have zl := plen gz
          rw [List.length_map, List.length_take] at zl
          refine ⟨fun v Hx => v = .str (turnK sg.1).str ∧ Hx = H', ?_, ?_⟩
          · refine ⟨_, rfl, ix0 hps' ?_⟩
            refine .inl ⟨rfl, _, rfl, ?_⟩
            rw [k_two]
            refine ite2 (fun h => ?_) (fun h => ?_)
            · rw [of_decide_eq_true h]
              exact ⟨rfl, rfl⟩
            · have h' : sg.1 ≠ .two := fun z => h (decide_eq_true z)
              refine ⟨fun v Hx => v = .str (turnK sg.1).str ∧ Hx = H', ?_, fun _ _ z => z⟩
              refine ⟨_, rfl, ix0 hps' ?_⟩
              refine .inl ⟨rfl, _, rfl, ?_⟩
              rw [k_three]
              refine ite2 (fun h3 => ?_) (fun h3 => ?_)
              · rw [of_decide_eq_true h3]
                exact ⟨rfl, rfl⟩
              · have h3' : sg.1 ≠ .three := fun z => h3 (decide_eq_true z)
                refine ⟨_, rfl, ix0 hps' ⟨?_, rfl⟩⟩
                cases hk : sg.1 <;> first | rfl | exact absurd hk h' | exact absurd hk h3'
          intro v Hx ⟨e1, e2⟩
          rw [e1, e2]
          refine ⟨_, rfl, .inl ⟨rfl, _, SqL.of ht2⟩, _, rfl, _, rfl, ix1 hps' ?_⟩
          refine ⟨by show 2 ≤ sizeLine; decide, fun tp htp => ?_⟩
          have s3 := Same.upd (o := .tup [V.str (turnK sg.1).str, V.int sg.2]) htp
          refine ⟨told, _, _, rfl, rfl, s3 _ _ ht2, small1000 (by omega), ?_⟩
          refine ⟨_, _, zs ++ [.ref tp], rfl, sameOwn (s2.trans s3) htold, upd_same, ?_⟩
          rw [List.take_succ, hsg, List.map_append]
          exact psnoc (sgsUpd (s3 _ _ ht2) (gz.same s3)) (sgUpd (s3 _ _ ht2) ⟨tp, rfl, upd_same⟩)
        · rintro σ H' ⟨u, k, zs, rfl, s2, ht2, gz⟩
          rw [y3, List.take_length] at gz
          exact ⟨_, rfl, q told zs H' s2 ht2 gz⟩
end Mine
namespace Mine
open PySem L2
theorem l_int' {k : Kd} (h : k.meas = true) (m : Int) : intText? k.str = some (nm m k) ∧ k.str.length ≤ 640 := by
  cases k <;> first | (cases h; done) | exact ⟨by first | exact (show intText? Kd.three.str = some 3 by decide +kernel) | exact (show intText? Kd.two.str = some 2 by decide +kernel), by decide +kernel⟩
theorem l_nm' {k : Kd} (h : ¬ k.meas = true) (m : Int) : nm m k = m := by
  cases k <;> first | rfl | exact absurd rfl h
theorem meas_or' (k : Kd) : k.meas = (decide (k = .three) || decide (k = .two)) := by cases k <;> rfl
theorem in_part (k : Kd) : inS k.str ".32" = k.parting := by cases k <;> decide +kernel
theorem in_small (k : Kd) : inS k.str "sdr" = k.small := by cases k <;> decide +kernel
theorem bw_part {k : Kd} (h : k.parting = true) (m : Int) (n : Option Kd) : bw m k n = 0 := by cases k <;> first | (cases h; done) | (unfold bw; rw [if_neg (by rintro ⟨_, z, _⟩; cases z)]; rfl)
theorem bw_small {k : Kd} (h : k.small = true) (m : Int) (n : Option Kd) : bw m k n = 1 := by cases k <;> first | (cases h; done) | (unfold bw; rw [if_neg (by rintro ⟨_, z, _⟩; cases z)]; rfl)
theorem bw_D (m : Int) (n : Option Kd) : bw m .D n = 2 := by unfold bw; rw [if_neg (by rintro ⟨_, z, _⟩; cases z)]; rfl
theorem bw_else {k : Kd} {m : Int} {n : Option Kd} (hm : Ms m) (h1 : k.parting = false) (h2 : k.small = false) (h3 : k ≠ .D) (h4 : ¬ (m = 2 ∧ k = .G ∧ n = some .dot)) : bw m k n = m := by
  unfold bw
  rw [if_neg h4]
  rcases hm with rfl | rfl <;> cases k <;> first | (cases h1; done) | (cases h2; done) | rfl | exact absurd rfl h3
def sp_l_base (K : PySem.W.Frag) : Sp := fun vs H Q _ => ∃ (l : Addr) (b : Int) (xs : List V) (ss : List Sg), vs = [.ref l, .int b] ∧ Ms b ∧ SqL K H l xs ∧ Sgs H xs ss ∧ ss.length ≤ 400 ∧
  ∀ (f : Addr) (H' : Hp), Same H H' → H f = none → H' f = some (.lst ((baseL b (kds ss)).map V.int)) → Q (.ref f) H'
theorem ok_l_base {P : Program} {w : World} {K : PySem.W.Frag} {mg : Str → Option Value} {base : Heap} {t : Adr} (T : Txt K w mg t) : FnOk P w K mg base CX0 (0 + 1) t.f_l_base t.d_l_base ["_law_line_here", "_law_begin"] (sp_l_base K) := by
  refine T.F_l_base.ok sc_l_base (fun vs H Q E h => ?_) (fun cdv A outer s H vs Q E hr h => ?_)
  · obtain ⟨_, _, _, _, rfl, _⟩ := h
    rfl
  · obtain ⟨l, b, xs, ss, rfl, hMs, hS, hg, hn, q⟩ := h
    have p62 : (2 : Int) ^ 62 = 4611686018427387904 := by decide
    refine bodyOk (pss_cons (ps_set (i := 2) sc_l_base.nd rfl (Or.inl rfl) (pe_lst pa_nil)) (pss_cons (ps_set (i := 3) sc_l_base.nd rfl (Or.inl rfl) (pv 1)) (pss_cons (ps_for PassesOwn.never rfl (pi_range1 rfl T.nb_range (pa_cons (pe_callB (call_len_seq.or call_len_str) rfl T.nb_len bt_len (pa_cons (pv 0) pa_nil)) pa_nil)) (pg_name (i := 4) sc_l_base.nd rfl (Or.inl rfl)) (pss_cons (ps_set (i := 5) sc_l_base.nd rfl (Or.inl rfl) (pe_ix ix_seq (pe_ix ix_seq (pv 0) (pv 4) (fun _ _ => rfl)) pe_int (fun _ _ => rfl))) (pss_cons (ps_mid (ps_if (pt_mid (PW.pt (pw_or (pt_cmpR (op_eq.or (op_eqD (hu_of64 hr))) (pv 5) pe_str (nomark _)) (pw_or1 (pt_cmpR (op_eq.or (op_eqD (hu_of64 hr))) (pv 5) pe_str (nomark _)))))) (pss_one (ps_set (i := 3) sc_l_base.nd rfl (Or.inl rfl) (pe_callTy (call_int1.or call_int_text) rfl T.nb_int bt_int (pa_cons (pv 5) pa_nil)))) pss_nil)) (pss_one (ps_if (pt_cmpR (op_in_seq.or op_in_str) (pv 5) pe_str rfl) (pss_one (ps_expr (pe_bm PySem.F.plainAttrs_list PySem.F.slot_list_append PySem.F.type_list_append mt_append (pv 2) (pa_cons pe_int pa_nil)))) (pss_one (ps_if (pt_cmpR (op_in_seq.or op_in_str) (pv 5) pe_str rfl) (pss_one (ps_expr (pe_bm PySem.F.plainAttrs_list PySem.F.slot_list_append PySem.F.type_list_append mt_append (pv 2) (pa_cons pe_int pa_nil)))) (pss_one (ps_if (pt_cmpR (op_eq.or (op_eqD (hu_of64 hr))) (pv 5) pe_str (nomark _)) (pss_one (ps_expr (pe_bm PySem.F.plainAttrs_list PySem.F.slot_list_append PySem.F.type_list_append mt_append (pv 2) (pa_cons pe_int pa_nil)))) (pss_one (ps_if (pt_mid (PW.pt (pw_and (pt_cmpR (op_eq.or (op_eqD (hu_of64 hr))) (pv 3) pe_int (nomark _)) (pw_and (pt_cmpR (op_eq.or (op_eqD (hu_of64 hr))) (pv 5) pe_str (nomark _)) (pw_and (pt_cmpR op_lt (pe_op (op_add.or (op_add_str.or op_cat)) (pv 4) pe_int) (pe_callB (call_len_seq.or call_len_str) rfl T.nb_len bt_len (pa_cons (pv 0) pa_nil)) (nomark _)) (pw_and1 (pt_cmpR (op_eq.or (op_eqD (hu_of64 hr))) (pe_ix ix_seq (pe_ix ix_seq (pv 0) (pe_op (op_add.or (op_add_str.or op_cat)) (pv 4) pe_int) (fun _ _ => rfl)) pe_int (fun _ _ => rfl)) pe_str (nomark _)))))))) (pss_one (ps_expr (pe_bm PySem.F.plainAttrs_list PySem.F.slot_list_append PySem.F.type_list_append mt_append (pv 2) (pa_cons pe_int pa_nil)))) (pss_one (ps_expr (pe_bm PySem.F.plainAttrs_list PySem.F.slot_list_append PySem.F.type_list_append mt_append (pv 2) (pa_cons (pv 3) pa_nil))))))))))))))) (pss_one (ps_ret (pv 2)))))) ?_
    refine ⟨big (by show 0 ≤ 1000; omega), fun f hf => ?_⟩
    (repeat array_get_dec)
    refine .inl ⟨_, _, rfl, .inl (seq_upd hS hf), ?_⟩
    rw [plen hg]
    refine ⟨(ss.length : Int), rfl, by rw [p62]; omega, by rw [p62]; omega, ?_⟩
    refine for_range (n := ((ss.length : Int)).toNat) (fun i σ H' => ∃ (m : Int) (v w : Option V) (fs : List Int), σ = [some (.ref l), some (.int b), some (.ref f), some (.int m), v, w] ∧ Ms m ∧ H' = upd H f (.lst (fs.map V.int)) ∧ fs ++ baseL m ((kds ss).drop i) = baseL b (kds ss))
      ⟨b, none, none, [], rfl, hMs, rfl, rfl⟩ ?_ ?_
    · rintro i σ H' hi ⟨m, v, w, fs, rfl, hm3, rfl, hm⟩
      have hil : i < ss.length := by omega
      have hd := drop_at (map_at (f := Prod.fst) (List.getElem?_eq_getElem hil))
      rw [hd] at hm
      have hS' : SqL K (upd H f (.lst (fs.map V.int))) l xs := seq_upd hS hf
      have hg' : Sgs (upd H f (.lst (fs.map V.int))) xs ss := hg.same (Same.upd hf)
      have hl := congrArg List.length hm
      simp only [List.length_append, baseL, List.length_cons, baseL_len, List.length_map] at hl
      simp only [baseL, head_drop] at hm
      (repeat array_get_dec)
      refine ixSg hS' hg' (n := i) (by omega) (List.getElem?_eq_getElem hil) fun p hp => ?_
      generalize hk : (ss[i]).1 = k at hm hp
      (repeat array_get_dec)
      refine midS [some (.ref l), some (.int b), some (.ref f), some (.int (nm m k)), some (.int (0 + (i : Int))), some (.str k.str)] (upd H f (.lst (fs.map V.int))) ?_ ?_
      · refine midB k.meas ?_ ?_
        · (repeat array_get_dec)
          rw [k_three]
          refine ite2 (fun h => ?_) (fun h => ?_)
          · exact endB (by rw [meas_or', h]; rfl)
          · (repeat array_get_dec)
            rw [k_two]
            exact endB (by rw [meas_or', Bool.eq_false_iff.mpr h]; rfl)
        refine ite2 (fun h => ?_) (fun h => ?_)
        · obtain ⟨e1, e2⟩ := l_int' h m
          (repeat array_get_dec)
          exact .inr ⟨_, _, rfl, e1, e2, rfl, rfl⟩
        · rw [l_nm' h]
          exact ⟨rfl, rfl⟩
      have hm4 := hm3.nm k
      have fin : ∀ (z : Int), z = bw (nm m k) k (kds ss)[i + 1]? → ∃ (m' : Int) (v w : Option V) (fs' : List Int), [some (V.ref l), some (V.int b), some (V.ref f), some (V.int (nm m k)), some (V.int (0 + (i : Int))), some (V.str k.str)] = [some (.ref l), some (.int b), some (.ref f), some (.int m'), v, w] ∧ Ms m' ∧ upd (upd H f (.lst (fs.map V.int))) f (.lst (fs.map V.int ++ [V.int z])) = upd H f (.lst (fs'.map V.int)) ∧ fs' ++ baseL m' ((kds ss).drop (i + 1)) = baseL b (kds ss) := by
        intro z hz
        exact ⟨nm m k, _, _, fs ++ [z], rfl, hm4, by rw [upd_upd, List.map_append]; rfl, by rw [List.append_assoc, hz]; exact hm⟩
      (repeat array_get_dec)
      refine ite2 (fun h => ?_) (fun h => ?_)
      · have h' : k.parting = true := by rw [← in_part]; exact h
        (repeat array_get_dec)
        refine ⟨.inl ⟨rfl, _, SqL.of upd_same⟩, ?_⟩
        refine ⟨_, _, _, rfl, rfl, upd_same, by rw [List.length_map]; exact small1000 (by omega), fin 0 (bw_part h' ..).symm⟩
      · have h1 : k.parting = false := by rw [← in_part]; exact Bool.eq_false_iff.mpr h
        (repeat array_get_dec)
        refine ite2 (fun h => ?_) (fun h => ?_)
        · have h' : k.small = true := by rw [← in_small]; exact h
          (repeat array_get_dec)
          refine ⟨.inl ⟨rfl, _, SqL.of upd_same⟩, ?_⟩
          refine ⟨_, _, _, rfl, rfl, upd_same, by rw [List.length_map]; exact small1000 (by omega), fin 1 (bw_small h' ..).symm⟩
        · have h2 : k.small = false := by rw [← in_small]; exact Bool.eq_false_iff.mpr h
          (repeat array_get_dec)
          rw [k_D]
          refine ite2 (fun h => ?_) (fun h => ?_)
          · have h' : k = .D := of_decide_eq_true h
            (repeat array_get_dec)
            refine ⟨.inl ⟨rfl, _, SqL.of upd_same⟩, ?_⟩
            refine ⟨_, _, _, rfl, rfl, upd_same, by rw [List.length_map]; exact small1000 (by omega), fin 2 (by rw [h']; exact (bw_D ..).symm)⟩
          · have h3 : k ≠ .D := fun z => h (decide_eq_true z)
            refine midB (decide (nm m k = 2 ∧ k = .G ∧ (kds ss)[i + 1]? = some .dot)) ?_ ?_
            · (repeat array_get_dec)
              rw [dec_int']
              refine ite2 (fun h => ?_) (fun h => ?_)
              · have e1 := of_decide_eq_true h
                (repeat array_get_dec)
                rw [k_G]
                refine ite2 (fun h => ?_) (fun h => ?_)
                · have e2 := of_decide_eq_true h
                  (repeat array_get_dec)
                  refine .inl ⟨_, _, rfl, .inl hS', ?_⟩
                  rw [plen hg]
                  (repeat array_get_dec)
                  refine ite2 (fun h => ?_) (fun h => ?_)
                  · have hlt : i + 1 < ss.length := by have := of_decide_eq_true h; omega
                    (repeat array_get_dec)
                    refine ixSg hS' hg' (n := i + 1) (by omega) (List.getElem?_eq_getElem hlt) fun p2 hp2 => ?_
                    (repeat array_get_dec)
                    rw [k_dot]
                    refine endB ?_
                    have e3 : (kds ss)[i + 1]? = some (ss[i + 1]).1 := map_at (List.getElem?_eq_getElem hlt)
                    rw [e3]
                    subst e2
                    simp [e1]
                  · refine endB ?_
                    have e3 : (kds ss)[i + 1]? = none := List.getElem?_eq_none (by rw [List.length_map]; have : ¬ (0 + (i : Int) + 1 < ss.length) := fun z => h (decide_eq_true z); omega)
                    rw [e3]
                    simp
                · refine endB ?_
                  have e2 : k ≠ .G := fun z => h (decide_eq_true z)
                  simp [e2]
              · refine endB ?_
                have e1 : nm m k ≠ 2 := fun z => h (decide_eq_true z)
                simp [e1]
            · refine ite2 (fun h => ?_) (fun h => ?_)
              · have h' := of_decide_eq_true h
                (repeat array_get_dec)
                refine ⟨.inl ⟨rfl, _, SqL.of upd_same⟩, ?_⟩
                refine ⟨_, _, _, rfl, rfl, upd_same, by rw [List.length_map]; exact small1000 (by omega), fin 3 (by unfold bw; rw [if_pos h'])⟩
              · have h' : ¬ (nm m k = 2 ∧ k = .G ∧ (kds ss)[i + 1]? = some .dot) := fun z => h (decide_eq_true z)
                (repeat array_get_dec)
                refine ⟨.inl ⟨rfl, _, SqL.of upd_same⟩, ?_⟩
                (repeat array_get_dec)
                refine ⟨_, _, _, rfl, rfl, upd_same, by rw [List.length_map]; exact small1000 (by omega), fin _ (bw_else hm4 h1 h2 h3 h').symm⟩
    · rintro σ H' ⟨m, v, w, fs, rfl, _, rfl, hm⟩
      have e0 : ((ss.length : Int)).toNat = ss.length := by omega
      rw [e0, List.drop_eq_nil_of_le (by rw [List.length_map]; exact Nat.le_refl _)] at hm
      (repeat array_get_dec)
      have e : fs = baseL b (kds ss) := by rw [← hm]; simp [baseL]
      subst e
      exact q f _ (Same.upd hf) hf upd_same
end Mine
namespace Mine
open PySem L2
def sp_l_three (K : PySem.W.Frag) : Sp := fun vs H Q _ => ∃ (l : Addr) (b : Int) (xs : List V) (ss : List Sg), vs = [.ref l, .int b] ∧ SqL K H l xs ∧ Sgs H xs ss ∧ ss.length ≤ 400 ∧
  ∀ (f : Addr) (H' : Hp), Same H H' → H f = none → H' f = some (.lst ((threeL b (kds ss)).map V.bl)) → Q (.ref f) H'
theorem l_int {k : Kd} (h : k.meas = true) (m : Int) : intText? k.str = some (nm m k) ∧ k.str.length ≤ 640 := by
  cases k <;> first | (cases h; done) | exact ⟨by first | exact (show intText? Kd.three.str = some 3 by decide +kernel) | exact (show intText? Kd.two.str = some 2 by decide +kernel), by decide +kernel⟩
theorem l_nm {k : Kd} (h : ¬ k.meas = true) (m : Int) : nm m k = m := by
  cases k <;> first | rfl | exact absurd rfl h
theorem meas_or (k : Kd) : k.meas = (decide (k = .three) || decide (k = .two)) := by cases k <;> rfl
theorem ok_l_three {P : Program} {w : World} {K : PySem.W.Frag} {mg : Str → Option Value} {base : Heap} {t : Adr} (T : Txt K w mg t) : FnOk P w K mg base CX0 (0 + 1) t.f_l_three t.d_l_three ["_law_line_here", "_law_begin"] (sp_l_three K) := by
  refine T.F_l_three.ok sc_l_three (fun vs H Q E h => ?_) (fun cdv A outer s H vs Q E hr h => ?_)
  · obtain ⟨_, _, _, _, rfl, _⟩ := h
    rfl
  · obtain ⟨l, b, xs, ss, rfl, hS, hg, hn, q⟩ := h
    refine bodyOk (pss_cons (ps_set (i := 2) sc_l_three.nd rfl (Or.inl rfl) (pe_lst pa_nil)) (pss_cons (ps_set (i := 3) sc_l_three.nd rfl (Or.inl rfl) (pv 1)) (pss_cons (ps_for PassesOwn.never rfl (pi_list (pv 0)) (pg_name (i := 4) sc_l_three.nd rfl (Or.inl rfl)) (pss_cons (ps_mid (ps_if (pt_mid (PW.pt (pw_or (pt_cmpR (op_eq.or (op_eqD (hu_of64 hr))) (pe_ix ix_seq (pv 4) pe_int (fun _ _ => rfl)) pe_str (nomark _)) (pw_or1 (pt_cmpR (op_eq.or (op_eqD (hu_of64 hr))) (pe_ix ix_seq (pv 4) pe_int (fun _ _ => rfl)) pe_str (nomark _)))))) (pss_one (ps_set (i := 3) sc_l_three.nd rfl (Or.inl rfl) (pe_callTy (call_int1.or call_int_text) rfl T.nb_int bt_int (pa_cons (pe_ix ix_seq (pv 4) pe_int (fun _ _ => rfl)) pa_nil)))) pss_nil)) (pss_one (ps_expr (pe_bm PySem.F.plainAttrs_list PySem.F.slot_list_append PySem.F.type_list_append mt_append (pv 2) (pa_cons (pe_cmpR (op_eq.or (op_eqD (hu_of64 hr))) (pv 3) pe_int (nomark _)) pa_nil)))))) (pss_one (ps_ret (pv 2)))))) ?_
    refine ⟨big (by show 0 ≤ 1000; omega), fun f hf => ?_⟩
    (repeat array_get_dec)
    refine ⟨⟨xs, seq_upd hS hf⟩, for_list (K := K) (xs := xs) (fun i σ H' => ∃ (m : Int) (v : Option V) (fs : List Bool), σ = [some (.ref l), some (.int b), some (.ref f), some (.int m), v] ∧ H' = upd H f (.lst (fs.map V.bl)) ∧ fs ++ threeL m ((kds ss).drop i) = threeL b (kds ss))
      ⟨b, none, [], rfl, rfl, rfl⟩ ?_ ?_ ?_⟩
    · rintro i σ H' _ ⟨m, v, fs, rfl, rfl, _⟩
      exact seq_upd hS hf
    · rintro i x σ H' hx ⟨m, v, fs, rfl, rfl, hm⟩
      obtain ⟨s, hs, p, rfl, hp⟩ := pget hg hx
      have hd := drop_at (map_at (f := Prod.fst) hs)
      rw [hd] at hm
      have hp' : upd H f (.lst (fs.map V.bl)) p = some (.tup [.str s.1.str, .int s.2]) := by rw [upd_ne (ne_of_none hp hf)]; exact hp
      have hl := congrArg List.length hm
      simp only [List.length_append, threeL, List.length_cons, threeL_len, List.length_map] at hl
      refine midS [some (.ref l), some (.int b), some (.ref f), some (.int (nm m s.1)), some (.ref p)] (upd H f (.lst (fs.map V.bl))) ?_ ?_
      · refine midB s.1.meas ?_ ?_
        · (repeat array_get_dec)
          rw [k_three]
          refine ite2 (fun h => ?_) (fun h => ?_)
          · exact endB (by rw [meas_or, h]; rfl)
          · (repeat array_get_dec)
            rw [k_two]
            exact endB (by rw [meas_or, Bool.eq_false_iff.mpr h]; rfl)
        refine ite2 (fun h => ?_) (fun h => ?_)
        · obtain ⟨e1, e2⟩ := l_int h m
          (repeat array_get_dec)
          exact .inr ⟨_, _, rfl, e1, e2, rfl, rfl⟩
        · rw [l_nm h]
          exact ⟨rfl, rfl⟩
      · (repeat array_get_dec)
        refine ⟨.inl ⟨rfl, _, SqL.of upd_same⟩, ?_⟩
        (repeat array_get_dec)
        rw [dec_int']
        refine ⟨_, _, _, rfl, rfl, upd_same, by rw [List.length_map]; exact small1000 (by omega), ?_⟩
        exact ⟨_, _, fs ++ [decide (nm m s.1 = 3)], rfl, by rw [upd_upd, List.map_append]; rfl, by rw [List.append_assoc]; exact hm⟩
    · rintro σ H' ⟨m, v, fs, rfl, rfl, hm⟩
      rw [List.drop_eq_nil_of_le (by rw [List.length_map, plen hg]; exact Nat.le_refl _)] at hm
      (repeat array_get_dec)
      have e : fs = threeL b (kds ss) := by rw [← hm]; simp [threeL]
      subst e
      exact q f _ (Same.upd hf) hf upd_same
end Mine
namespace Mine
open PySem L2
def lwSp (K : PySem.W.Frag) (g : List Kd → List Int → Nat → Nat → Bool × List Int) : Sp := fun vs H Q _ => ∃ (l f : Addr) (a z : Nat) (xs : List V) (ss : List Sg) (fs : List Int), vs = [.ref l, .ref f, .int (a : Int), .int (z : Int)] ∧ SqL K H l xs ∧ Sgs H xs ss ∧ l ≠ f ∧ H f = some (.lst (fs.map V.int)) ∧ fs.length = ss.length ∧ a < z ∧ z ≤ ss.length ∧
  Q (.bl (g (kds ss) fs a z).1) (upd H f (.lst ((g (kds ss) fs a z).2.map V.int)))
theorem in_great (k : Kd) : inS k.str "GDR" = k.great := by cases k <;> decide +kernel
theorem great_dot (o : Option Kd) : (o.getD .dot).great = greatO o := by cases o <;> rfl
theorem dotG (o : Option Kd) : decide (o.getD .dot = .G) = decide (o = some .G) := by
  cases o with
  | none => decide
  | some k => simp
theorem settle_by {ks : List Kd} {f : List Int} {a z : Nat} {r : Nat} (hr : (z - a) % 3 = r) (hr3 : r < 3) :
    settle ks f a z = if decide (r = 2) && (greatO ks[z]? && decide (ks[z - 1]? = some .s)) then (true, f.set (z - 1) 2) else
      (decide (r = 0) || ((decide (r = 1) && (leftN ks f a || rightN ks z)) || (decide (r = 2) && (leftN ks f a && rightN ks z))),
        let g := if (decide (r = 1) && leftN ks f a) || (decide (r = 2) && (leftN ks f a && rightN ks z)) then f.set (a - 1) 2 else f
        if (decide (r = 1) && (rightN ks z && !leftN ks f a)) || (decide (r = 2) && (leftN ks f a && rightN ks z)) then g.set z 2 else g) := by
  unfold settle settle1 settle2
  rw [hr]
  have : r = 0 ∨ r = 1 ∨ r = 2 := by omega
  rcases this with rfl | rfl | rfl <;> cases leftN ks f a <;> cases rightN ks z <;> cases greatO ks[z]? <;> cases decide (ks[z - 1]? = some .s) <;> rfl
theorem ok_l_run {P : Program} {w : World} {K : PySem.W.Frag} {mg : Str → Option Value} {base : Heap} {t : Adr} (T : Txt K w mg t) : FnOk P w K mg base CX0 (0 + 1) t.f_l_run t.d_l_run ["_law_line_here", "_law_told", "_law_low", "_law_high"] (lwSp K settle) := by
  refine T.F_l_run.ok sc_l_run (fun vs H Q E h => ?_) (fun cdv A outer s H vs Q E hr h => ?_)
  · obtain ⟨_, _, _, _, _, _, _, rfl, _⟩ := h
    rfl
  · obtain ⟨l, f, a, z, xs, ss, fs, rfl, hS, hg, hlf, hf, hl, haz, hz, q⟩ := h
    obtain ⟨r, hrr⟩ : ∃ r : Nat, (z - a) % 3 = r := ⟨_, rfl⟩
    have hr3 : r < 3 := by omega
    rw [settle_by hrr hr3] at q
    have hri : ((z : Int) - (a : Int)) % 3 = (r : Int) := by omega
    have dI : ∀ n : Nat, decide (V.int (((z : Int) - (a : Int)) % 3) = V.int (n : Int)) = decide (r = n) := fun n => by
      rw [hri, dec_int']
      by_cases e : r = n
      · simp [e]
      · have : ¬ ((r : Int) = (n : Int)) := by omega
        simp [e, this]
    have d0 : decide (V.int (((z : Int) - (a : Int)) % 3) = V.int 0) = decide (r = 0) := dI 0
    have d1 : decide (V.int (((z : Int) - (a : Int)) % 3) = V.int 1) = decide (r = 1) := dI 1
    have d2 : decide (V.int (((z : Int) - (a : Int)) % 3) = V.int 2) = decide (r = 2) := dI 2
    refine bodyOk (pss_cons (ps_set (i := 4) sc_l_run.nd rfl (Or.inl rfl) (pe_op op_mod (pe_op op_sub (pv 3) (pv 2)) pe_int)) (pss_cons (ps_set (i := 5) sc_l_run.nd rfl (Or.inl rfl) (pe_mid (pe_ifExp (pt_cmpR op_lt (pv 3) (pe_callB (call_len_seq.or call_len_str) rfl T.nb_len bt_len (pa_cons (pv 0) pa_nil)) (nomark _)) (pe_ix ix_seq (pe_ix ix_seq (pv 0) (pv 3) (fun _ _ => rfl)) pe_int (fun _ _ => rfl)) pe_str))) (pss_cons (ps_set (i := 6) sc_l_run.nd rfl (Or.inl rfl) (pe_mid (pe_ifExp (pt_cmpR op_lt (pe_op (op_add.or (op_add_str.or op_cat)) (pv 3) pe_int) (pe_callB (call_len_seq.or call_len_str) rfl T.nb_len bt_len (pa_cons (pv 0) pa_nil)) (nomark _)) (pe_ix ix_seq (pe_ix ix_seq (pv 0) (pe_op (op_add.or (op_add_str.or op_cat)) (pv 3) pe_int) (fun _ _ => rfl)) pe_int (fun _ _ => rfl)) pe_str))) (pss_cons (ps_set (i := 7) sc_l_run.nd rfl (Or.inl rfl) (pe_mid (pe_and (pe_cmpR op_gt (pv 2) pe_int (nomark _)) (pe_and (pe_cmpR (op_eq.or (op_eqD (hu_of64 hr))) (pe_ix ix_seq (pe_ix ix_seq (pv 0) (pe_op op_sub (pv 2) pe_int) (fun _ _ => rfl)) pe_int (fun _ _ => rfl)) pe_str (nomark _)) (pe_one (pe_cmpR (op_eq.or (op_eqD (hu_of64 hr))) (pe_ix ix_seq (pv 1) (pe_op op_sub (pv 2) pe_int) (fun _ _ => rfl)) pe_int (nomark _))))))) (pss_cons (ps_set (i := 8) sc_l_run.nd rfl (Or.inl rfl) (pe_mid (pe_and (pe_cmpR (op_eq.or (op_eqD (hu_of64 hr))) (pv 5) pe_str (nomark _)) (pe_one (pe_cmpR (op_notIn_seq.or op_notIn_str) (pv 6) pe_str rfl))))) (pss_cons (ps_if (pt_mid (PW.pt (pw_and (pt_cmpR (op_eq.or (op_eqD (hu_of64 hr))) (pv 4) pe_int (nomark _)) (pw_and (pt_cmpR (op_in_seq.or op_in_str) (pv 5) pe_str rfl) (pw_and1 (pt_cmpR (op_eq.or (op_eqD (hu_of64 hr))) (pe_ix ix_seq (pe_ix ix_seq (pv 0) (pe_op op_sub (pv 3) pe_int) (fun _ _ => rfl)) pe_int (fun _ _ => rfl)) pe_str (nomark _))))))) (pss_cons (ps_asg pe_int (pg_sub (pv 1) (pe_op op_sub (pv 3) pe_int) set_list)) (pss_one (ps_ret pe_bl))) pss_nil) (pss_cons (ps_mid (ps_if (pt_mid (PW.pt (pw_or (pt_mid (PW.pt (pw_and (pt_cmpR (op_eq.or (op_eqD (hu_of64 hr))) (pv 4) pe_int (nomark _)) (pw_and1 (pt_val (pv 7)))))) (pw_or1 (pt_mid (PW.pt (pw_and (pt_cmpR (op_eq.or (op_eqD (hu_of64 hr))) (pv 4) pe_int (nomark _)) (pw_and (pt_val (pv 7)) (pw_and1 (pt_val (pv 8))))))))))) (pss_one (ps_asg pe_int (pg_sub (pv 1) (pe_op op_sub (pv 2) pe_int) set_list))) pss_nil)) (pss_cons (ps_mid (ps_if (pt_mid (PW.pt (pw_or (pt_mid (PW.pt (pw_and (pt_cmpR (op_eq.or (op_eqD (hu_of64 hr))) (pv 4) pe_int (nomark _)) (pw_and (pt_val (pv 8)) (pw_and1 (pt_not (pt_val (pv 7)))))))) (pw_or1 (pt_mid (PW.pt (pw_and (pt_cmpR (op_eq.or (op_eqD (hu_of64 hr))) (pv 4) pe_int (nomark _)) (pw_and (pt_val (pv 7)) (pw_and1 (pt_val (pv 8))))))))))) (pss_one (ps_asg pe_int (pg_sub (pv 1) (pv 3) set_list))) pss_nil)) (pss_one (ps_ret (pe_mid (pe_or (pe_cmpR (op_eq.or (op_eqD (hu_of64 hr))) (pv 4) pe_int (nomark _)) (pe_or (pe_mid (pe_and (pe_cmpR (op_eq.or (op_eqD (hu_of64 hr))) (pv 4) pe_int (nomark _)) (pe_one (pe_mid (pe_or (pv 7) (pe_one (pv 8))))))) (pe_one (pe_mid (pe_and (pe_cmpR (op_eq.or (op_eqD (hu_of64 hr))) (pv 4) pe_int (nomark _)) (pe_and (pv 7) (pe_one (pv 8))))))))))))))))))) ?_
    (repeat array_get_dec)
    refine midV (.str ((kds ss)[z]?.getD .dot).str) ?_ ?_
    · (repeat array_get_dec)
      refine .inl ⟨_, _, rfl, .inl hS, ?_⟩
      rw [plen hg]
      (repeat array_get_dec)
      refine ite2 (fun h => ?_) (fun h => ?_)
      · have hlt : z < ss.length := by have := of_decide_eq_true h; omega
        (repeat array_get_dec)
        refine ixSg hS hg (n := z) rfl (List.getElem?_eq_getElem hlt) fun p hp => ?_
        (repeat array_get_dec)
        refine endV ?_
        rw [List.getElem?_map, List.getElem?_eq_getElem hlt]
        rfl
      · refine endV ?_
        have hge : ¬ z < ss.length := fun c => h (decide_eq_true (by omega))
        rw [List.getElem?_eq_none (by rw [List.length_map]; omega)]
        rfl
    refine midV (.str ((kds ss)[z + 1]?.getD .dot).str) ?_ ?_
    · (repeat array_get_dec)
      refine .inl ⟨_, _, rfl, .inl hS, ?_⟩
      rw [plen hg]
      (repeat array_get_dec)
      refine ite2 (fun h => ?_) (fun h => ?_)
      · have hlt : z + 1 < ss.length := by have := of_decide_eq_true h; omega
        (repeat array_get_dec)
        refine ixSg hS hg (n := z + 1) (by omega) (List.getElem?_eq_getElem hlt) fun p hp => ?_
        (repeat array_get_dec)
        refine endV ?_
        rw [List.getElem?_map, List.getElem?_eq_getElem hlt]
        rfl
      · refine endV ?_
        have hge : ¬ z + 1 < ss.length := fun c => h (decide_eq_true (by omega))
        rw [List.getElem?_eq_none (by rw [List.length_map]; omega)]
        rfl
    refine midV (.bl (leftN (kds ss) fs a)) ?_ ?_
    · (repeat array_get_dec)
      refine ite2 (fun h => ?_) (fun h => ?_)
      · have hp : 0 < a := by have := of_decide_eq_true h; omega
        have hlt : a - 1 < ss.length := by omega
        have ek : kAt (kds ss) ((a : Int) - 1) = some (ss[a - 1]).1 := by
          have : (a : Int) - 1 = ((a - 1 : Nat) : Int) := by omega
          rw [this, kAt_nat, List.getElem?_map, List.getElem?_eq_getElem hlt]
          rfl
        (repeat array_get_dec)
        refine ixSg hS hg (n := a - 1) (by omega) (List.getElem?_eq_getElem hlt) fun p hp => ?_
        (repeat array_get_dec)
        rw [k_G]
        refine ite2 (fun h2 => ?_) (fun h2 => ?_)
        · (repeat array_get_dec)
          refine ixN' (SqL.of hf) (n := a - 1) (by omega) (List.getElem?_eq_getElem (by omega)) ?_
          (repeat array_get_dec)
          rw [dec_int']
          refine endV ?_
          unfold leftN
          rw [ek, of_decide_eq_true h2, List.getD_eq_getElem?_getD, List.getElem?_eq_getElem (by omega)]
          simp
        · refine endV ?_
          unfold leftN
          rw [ek]
          have : (ss[a - 1]).1 ≠ .G := fun c => h2 (decide_eq_true c)
          simp [this]
      · refine endV ?_
        have hp : a = 0 := by
          have : ¬ 0 < a := fun c => h (decide_eq_true (by omega))
          omega
        subst hp
        unfold leftN kAt
        simp
    refine midV (.bl (rightN (kds ss) z)) ?_ ?_
    · (repeat array_get_dec)
      rw [k_G, dotG]
      refine ite2 (fun h => ?_) (fun h => ?_)
      · (repeat array_get_dec)
        refine endV ?_
        unfold rightN
        rw [h]
        show V.bl (!inS _ _) = _
        rw [in_great, great_dot]
        rfl
      · refine endV ?_
        unfold rightN
        rw [Bool.eq_false_iff.mpr h]
        rfl
    generalize hL : leftN (kds ss) fs a = L at q
    generalize hR : rightN (kds ss) z = R at q
    refine midB (decide (r = 2) && (greatO (kds ss)[z]? && decide ((kds ss)[z - 1]? = some .s))) ?_ ?_
    · (repeat array_get_dec)
      rw [d2]
      refine ite2 (fun h => ?_) (fun h => ?_)
      · rw [h]
        (repeat array_get_dec)
        refine ite2 (fun h2 => ?_) (fun h2 => ?_)
        · have h2' : greatO (kds ss)[z]? = true := by
            have : inS ((kds ss)[z]?.getD .dot).str "GDR" = true := h2
            rwa [in_great, great_dot] at this
          rw [h2']
          (repeat array_get_dec)
          have hlt : z - 1 < ss.length := by omega
          refine ixSg hS hg (n := z - 1) (by omega) (List.getElem?_eq_getElem hlt) fun p hp => ?_
          (repeat array_get_dec)
          rw [k_s]
          refine endB ?_
          rw [List.getElem?_map, List.getElem?_eq_getElem hlt]
          simp
        · have h2' : greatO (kds ss)[z]? = false := by
            have : inS ((kds ss)[z]?.getD .dot).str "GDR" = false := Bool.eq_false_iff.mpr h2
            rwa [in_great, great_dot] at this
          rw [h2']
          exact endB rfl
      · exact endB (by rw [Bool.eq_false_iff.mpr h]; rfl)
    refine ite2 (fun h => ?_) (fun h => ?_)
    · rw [if_pos h] at q
      (repeat array_get_dec)
      refine ⟨_, _, _, _, rfl, rfl, hf, ixN_nat (j := z - 1) (by omega) (by rw [List.length_map]; omega), ?_⟩
      rw [set_map]
      exact q
    · rw [if_neg h] at q
      dsimp only at q
      have hLp : L = true → 1 ≤ a ∧ a - 1 < ss.length := fun e => by
        have := leftN_pos (hL.trans e)
        rwa [List.length_map] at this
      have hRp : R = true → z < ss.length := fun e => by
        have := rightN_pos (hR.trans e)
        rwa [List.length_map] at this
      generalize hg1 : (if (decide (r = 1) && L || decide (r = 2) && (L && R)) = true then fs.set (a - 1) 2 else fs) = g1 at q
      have g1l : g1.length = ss.length := by rw [← hg1]; split <;> simp [hl]
      refine midS [some (.ref l), some (.ref f), some (.int (a : Int)), some (.int (z : Int)), some (.int (((z : Int) - (a : Int)) % 3)), some (.str ((kds ss)[z]?.getD .dot).str), some (.str ((kds ss)[z + 1]?.getD .dot).str), some (.bl L), some (.bl R)] (upd H f (.lst (g1.map V.int))) ?_ ?_
      · refine midB (decide (r = 1) && L || decide (r = 2) && (L && R)) ?_ ?_
        · refine midB (decide (r = 1) && L) ?_ ?_
          · (repeat array_get_dec)
            rw [d1]
            refine ite2 (fun h => ?_) (fun h => ?_)
            · (repeat array_get_dec)
              exact endB (by rw [h]; rfl)
            · exact endB (by rw [Bool.eq_false_iff.mpr h]; rfl)
          · refine ite2 (fun h => endB (by rw [h]; rfl)) (fun h => ?_)
            rw [Bool.eq_false_iff.mpr h, Bool.false_or]
            refine midB (decide (r = 2) && (L && R)) ?_ (endB rfl)
            (repeat array_get_dec)
            rw [d2]
            refine ite2 (fun h => ?_) (fun h => ?_)
            · (repeat array_get_dec)
              refine ite2 (fun h2 => ?_) (fun h2 => ?_)
              · (repeat array_get_dec)
                exact endB (by rw [h, h2]; rfl)
              · exact endB (by rw [h, Bool.eq_false_iff.mpr h2]; rfl)
            · exact endB (by rw [Bool.eq_false_iff.mpr h]; rfl)
        · refine ite2 (fun h => ?_) (fun h => ?_)
          · rw [if_pos h] at hg1
            have hp := hLp (by cases L <;> simp_all)
            (repeat array_get_dec)
            refine ⟨_, _, _, _, rfl, rfl, hf, ixN_nat (j := a - 1) (by omega) (by rw [List.length_map]; omega), ?_⟩
            rw [set_map, hg1]
            exact ⟨rfl, rfl⟩
          · rw [if_neg h] at hg1
            subst hg1
            rw [upd_self hf]
            exact ⟨rfl, rfl⟩
      generalize hg2 : (if (decide (r = 1) && (R && !L) || decide (r = 2) && (L && R)) = true then g1.set z 2 else g1) = g2 at q
      refine midS [some (.ref l), some (.ref f), some (.int (a : Int)), some (.int (z : Int)), some (.int (((z : Int) - (a : Int)) % 3)), some (.str ((kds ss)[z]?.getD .dot).str), some (.str ((kds ss)[z + 1]?.getD .dot).str), some (.bl L), some (.bl R)] (upd H f (.lst (g2.map V.int))) ?_ ?_
      · refine midB (decide (r = 1) && (R && !L) || decide (r = 2) && (L && R)) ?_ ?_
        · refine midB (decide (r = 1) && (R && !L)) ?_ ?_
          · (repeat array_get_dec)
            rw [d1]
            refine ite2 (fun h => ?_) (fun h => ?_)
            · (repeat array_get_dec)
              refine ite2 (fun h2 => ?_) (fun h2 => ?_)
              · (repeat array_get_dec)
                exact endB (by rw [h, h2]; rfl)
              · exact endB (by rw [h, Bool.eq_false_iff.mpr h2]; rfl)
            · exact endB (by rw [Bool.eq_false_iff.mpr h]; rfl)
          · refine ite2 (fun h => endB (by rw [h]; rfl)) (fun h => ?_)
            rw [Bool.eq_false_iff.mpr h, Bool.false_or]
            refine midB (decide (r = 2) && (L && R)) ?_ (endB rfl)
            (repeat array_get_dec)
            rw [d2]
            refine ite2 (fun h => ?_) (fun h => ?_)
            · (repeat array_get_dec)
              refine ite2 (fun h2 => ?_) (fun h2 => ?_)
              · (repeat array_get_dec)
                exact endB (by rw [h, h2]; rfl)
              · exact endB (by rw [h, Bool.eq_false_iff.mpr h2]; rfl)
            · exact endB (by rw [Bool.eq_false_iff.mpr h]; rfl)
        · refine ite2 (fun h => ?_) (fun h => ?_)
          · rw [if_pos h] at hg2
            have hp := hRp (by cases R <;> simp_all)
            (repeat array_get_dec)
            refine ⟨_, _, _, _, rfl, rfl, upd_same, ixN_nat (j := z) rfl (by rw [List.length_map]; omega), ?_⟩
            rw [set_map, hg2, upd_upd]
            exact ⟨rfl, rfl⟩
          · rw [if_neg h] at hg2
            subst hg2
            exact ⟨rfl, rfl⟩
      refine midV (.bl (decide (r = 0) || (decide (r = 1) && (L || R) || decide (r = 2) && (L && R)))) ?_ q
      (repeat array_get_dec)
      rw [d0]
      refine ite2 (fun h => endV (by rw [h]; rfl)) (fun h => ?_)
      rw [Bool.eq_false_iff.mpr h, Bool.false_or]
      refine midV (.bl (decide (r = 1) && (L || R))) ?_ ?_
      · (repeat array_get_dec)
        rw [d1]
        refine ite2 (fun h => ?_) (fun h => endV (by rw [Bool.eq_false_iff.mpr h]; rfl))
        refine midV (.bl (L || R)) ?_ (endV (by rw [h]; rfl))
        (repeat array_get_dec)
        refine ite2 (fun h => endV (by rw [h]; rfl)) (fun h => ?_)
        (repeat array_get_dec)
        exact endV (by rw [Bool.eq_false_iff.mpr h]; rfl)
      · refine ⟨_, rfl, ?_⟩
        refine ite2 (fun h => endV (by rw [h]; rfl)) (fun h => ?_)
        rw [Bool.eq_false_iff.mpr h, Bool.false_or]
        refine midV (.bl (decide (r = 2) && (L && R))) ?_ (endV rfl)
        (repeat array_get_dec)
        rw [d2]
        refine ite2 (fun h => ?_) (fun h => endV (by rw [Bool.eq_false_iff.mpr h]; rfl))
        (repeat array_get_dec)
        refine ite2 (fun h2 => ?_) (fun h2 => ?_)
        · (repeat array_get_dec)
          exact endV (by rw [h, h2]; rfl)
        · exact endV (by rw [h, Bool.eq_false_iff.mpr h2]; rfl)
end Mine
namespace Mine
open PySem L2
def sp_l_read (K : PySem.W.Frag) : Sp := fun vs H Q _ => ∃ (l : Addr) (b : Int) (xs : List V) (ss : List Sg), vs = [.ref l, .int b] ∧ Ms b ∧ H l = some (.lst xs) ∧ Sgs H xs ss ∧ ss.length ≤ 400 ∧
  ∀ (p f lo : Addr) (ys : List V) (H' : Hp), Same H H' → H f = none → H lo = none → f ≠ lo → H' p = some (.tup [.ref f, .ref lo]) → H' f = some (.lst ((readL b (kds ss)).1.map V.int)) → H' lo = some (.lst ys) → Prs H' ys (readL b (kds ss)).2 → Q (.ref p) H'
theorem ok_l_read {P : Program} {w : World} {K : PySem.W.Frag} {mg : Str → Option Value} {base : Heap} {t : Adr} (T : Txt K w mg t) : FnOk P w K mg base CX0 (0 + 2) t.f_l_read t.d_l_read ["_law_line_here", "_law_begin"] (sp_l_read K) := by
  have G_l_base := ok_l_base (P := P) (w := w) (base := base) T
  have G_l_three := ok_l_three (P := P) (w := w) (base := base) T
  have G_l_run := ok_l_run (P := P) (w := w) (base := base) T
  refine T.F_l_read.ok sc_l_read (fun vs H Q E h => ?_) (fun cdv A outer s H vs Q E hr h => ?_)
  · obtain ⟨_, _, _, _, rfl, _⟩ := h
    rfl
  · obtain ⟨l, b, xs, ss, rfl, hMs, hS, hg, hn, q⟩ := h
    refine bodyOk (pss_cons (ps_set (i := 2) sc_l_read.nd rfl (Or.inl rfl) (pe_call G_l_base (hr.mono (by decide)) rfl T.mg_l_base T.F_l_base.kp T.b_l_base .nil pass0 (pa_cons (pv 0) (pa_cons (pv 1) pa_nil)))) (pss_cons (ps_set (i := 3) sc_l_read.nd rfl (Or.inl rfl) (pe_call G_l_three (hr.mono (by decide)) rfl T.mg_l_three T.F_l_three.kp T.b_l_three .nil pass0 (pa_cons (pv 0) (pa_cons (pv 1) pa_nil)))) (pss_cons (ps_set (i := 4) sc_l_read.nd rfl (Or.inl rfl) (pe_lst pa_nil)) (pss_cons (ps_set (i := 5) sc_l_read.nd rfl (Or.inl rfl) pe_int) (pss_cons (ps_while PassesOwn.never (pt_cmpR op_lt (pv 5) (pe_callB (call_len_seq.or call_len_str) rfl T.nb_len bt_len (pa_cons (pv 0) pa_nil)) (nomark _)) (pss_cons (ps_set (i := 6) sc_l_read.nd rfl (Or.inl rfl) (pv 5)) (pss_cons (ps_while PassesOwn.never (pt_mid (PW.pt (pw_and (pt_cmpR op_lt (pv 6) (pe_callB (call_len_seq.or call_len_str) rfl T.nb_len bt_len (pa_cons (pv 0) pa_nil)) (nomark _)) (pw_and (pt_cmpR (op_in_seq.or op_in_str) (pe_ix ix_seq (pe_ix ix_seq (pv 0) (pv 6) (fun _ _ => rfl)) pe_int (fun _ _ => rfl)) pe_str rfl) (pw_and1 (pt_val (pe_ix ix_seq (pv 3) (pv 6) (fun _ _ => rfl)))))))) (pss_one (ps_set (i := 6) sc_l_read.nd rfl (Or.inl rfl) (pe_op (op_add.or (op_add_str.or op_cat)) (pv 6) pe_int)))) (pss_cons (ps_mid (ps_if (pt_mid (PW.pt (pw_and (pt_cmpR op_gt (pv 6) (pv 5) (nomark _)) (pw_and1 (pt_not (pt_val (pe_call G_l_run (hr.mono (by decide)) rfl T.mg_l_run T.F_l_run.kp T.b_l_run .nil pass0 (pa_cons (pv 0) (pa_cons (pv 2) (pa_cons (pv 5) (pa_cons (pv 6) pa_nil))))))))))) (pss_one (ps_expr (pe_bm PySem.F.plainAttrs_list PySem.F.slot_list_append PySem.F.type_list_append mt_append (pv 4) (pa_cons (pe_tup (pa_cons (pv 5) (pa_cons (pv 6) pa_nil))) pa_nil)))) pss_nil)) (pss_one (ps_set (i := 5) sc_l_read.nd rfl (Or.inl rfl) (pe_callB (call_max2 rfl) rfl T.nb_max bt_max (pa_cons (pv 6) (pa_cons (pe_op (op_add.or (op_add_str.or op_cat)) (pv 5) pe_int) pa_nil))))))))) (pss_one (ps_ret (pe_tup (pa_cons (pv 2) (pa_cons (pv 4) pa_nil)))))))))) ?_
    (repeat array_get_dec)
    refine ⟨l, b, xs, ss, rfl, hMs, SqL.of hS, hg, hn, fun f H1 s1 n1 h1 => ?_⟩
    (repeat array_get_dec)
    refine ⟨l, b, xs, ss, rfl, SqL.of (s1 _ _ hS), hg.same s1, hn, fun th H2 s2 n2 h2 => ?_⟩
    refine ⟨big (by show 0 ≤ 1000; omega), fun lo hlo => ?_⟩
    have s3 := s2.trans (Same.upd (o := .lst []) hlo)
    have hlo0 : H lo = none := s1.free (s2.free hlo)
    have nfl : f ≠ lo := ne_of_none (s2 _ _ h1) hlo
    have ntl : th ≠ lo := ne_of_none h2 hlo
    have ntf : th ≠ f := fun e => by rw [e, h1] at n2; cases n2
    have nlf : l ≠ f := ne_of_none hS n1
    have bl : (baseL b (kds ss)).length = ss.length := by rw [baseL_len, List.length_map]
    have cnt : (runsL b (kds ss)).length ≤ 401 := by
      have := runsF_count (insL b (kds ss)) 0 0
      rw [insL_len, List.length_map] at this
      exact Nat.le_trans this (by omega)
    (repeat array_get_dec)
    refine ⟨fun mm σ H' => ∃ (low : Nat) (v : Option V) (c : RdS) (ys : List V), mm = ss.length - low ∧ low ≤ ss.length ∧ σ = [some (.ref l), some (.int b), some (.ref f), some (.ref th), some (.ref lo), some (.int (low : Int)), v] ∧ Same H H' ∧ H' f = some (.lst (c.1.map V.int)) ∧ H' lo = some (.lst ys) ∧ Prs H' ys c.2 ∧ H' th = some (.lst ((threeL b (kds ss)).map V.bl)) ∧ c.1.length = ss.length ∧ c.2.length + (runsF low low ((insL b (kds ss)).drop low)).length ≤ 401 ∧ (runsF low low ((insL b (kds ss)).drop low)).foldl (rdStep (kds ss)) c = readL b (kds ss),
      ⟨_, 0, none, (baseL b (kds ss), []), [], rfl, Nat.zero_le _, rfl, s1.trans s3, s3 _ _ h1, upd_same, .nil, by rw [upd_ne ntl]; exact h2, bl, by show 0 + (runsL b (kds ss)).length ≤ 401; omega, rfl⟩, ?_⟩
    rintro mm σ H' ⟨low, v, c, ys, rfl, hlow, rfl, s4, hf4, hlo4, hys, hth, hcl, hcnt, hfold⟩
    have hl4 := s4 _ _ hS
    have hg4 := hg.same s4
    (repeat array_get_dec)
    refine .inl ⟨_, _, rfl, .inl (SqL.of hl4), ?_⟩
    rw [plen hg]
    (repeat array_get_dec)
    refine ite2 (fun h => ?_) (fun h => ?_)
    · have hlt : low < ss.length := by have := of_decide_eq_true h; omega
      refine ⟨fun σ' H'' => ∃ m', m' < ss.length - low ∧ ∃ (low : Nat) (v : Option V) (c : RdS) (ys : List V), m' = ss.length - low ∧ low ≤ ss.length ∧ σ' = [some (.ref l), some (.int b), some (.ref f), some (.ref th), some (.ref lo), some (.int (low : Int)), v] ∧ Same H H'' ∧ H'' f = some (.lst (c.1.map V.int)) ∧ H'' lo = some (.lst ys) ∧ Prs H'' ys c.2 ∧ H'' th = some (.lst ((threeL b (kds ss)).map V.bl)) ∧ c.1.length = ss.length ∧ c.2.length + (runsF low low ((insL b (kds ss)).drop low)).length ≤ 401 ∧ (runsF low low ((insL b (kds ss)).drop low)).foldl (rdStep (kds ss)) c = readL b (kds ss), fun _ _ h => h, ?_⟩
      generalize hn' : lead ((insL b (kds ss)).drop low) = n
      have hnle : n ≤ ss.length - low := by
        have := lead_le ((insL b (kds ss)).drop low)
        rw [List.length_drop, insL_len, List.length_map, hn'] at this
        exact this
      (repeat array_get_dec)
      refine ⟨fun mm σ H'' => ∃ j : Nat, mm = n - j ∧ j ≤ n ∧ σ = [some (.ref l), some (.int b), some (.ref f), some (.ref th), some (.ref lo), some (.int (low : Int)), some (.int ((low + j : Nat) : Int))] ∧ H'' = H', ⟨n, 0, rfl, Nat.zero_le _, rfl, rfl⟩, ?_⟩
      rintro mm σ H'' ⟨j, rfl, hj, rfl, rfl⟩
      have hla := lead_at ((insL b (kds ss)).drop low) j (by rw [hn']; exact hj)
      rw [hn', ins_at] at hla
      refine midB (decide (j < n)) ?_ ?_
      · (repeat array_get_dec)
        refine .inl ⟨_, _, rfl, .inl (SqL.of hl4), ?_⟩
        rw [plen hg]
        (repeat array_get_dec)
        refine ite2 (fun h => ?_) (fun h => ?_)
        · have hjl : low + j < ss.length := by have := of_decide_eq_true h; omega
          have hk : (kds ss)[low + j]? = some (ss[low + j]).1 := map_at (List.getElem?_eq_getElem hjl)
          obtain ⟨tb, ht1, ht2⟩ := threeIn hMs (kds ss) (low + j) _ hk
          rw [ht2] at hla
          (repeat array_get_dec)
          refine ixSg (SqL.of hl4) hg4 (n := low + j) rfl (List.getElem?_eq_getElem hjl) fun p hp => ?_
          (repeat array_get_dec)
          refine ite2 (fun h => ?_) (fun h => ?_)
          · have h' : (ss[low + j]).1.small = true := by rw [← in_small]; exact h
            rw [h', Bool.true_and] at hla
            (repeat array_get_dec)
            refine ixL (SqL.of hth) (n := low + j) rfl (map_at ht1) ?_
            (repeat array_get_dec)
            refine endB ?_
            cases tb with
            | true => exact (decide_eq_true (hla.mpr rfl)).symm
            | false => exact (decide_eq_false (fun z => by have := hla.mp z; cases this)).symm
          · have h' : (ss[low + j]).1.small = false := by rw [← in_small]; exact Bool.eq_false_iff.mpr h
            rw [h', Bool.false_and] at hla
            exact endB (decide_eq_false (fun z => by have := hla.mp z; cases this)).symm
        · have hjl : ¬ low + j < ss.length := fun z => h (decide_eq_true (by omega))
          exact endB (decide_eq_false (by omega)).symm
      refine ite2 (fun h => ?_) (fun h => ?_)
      · have hjn := of_decide_eq_true h
        refine ⟨fun σ' Hx => ∃ m', m' < n - j ∧ ∃ j : Nat, m' = n - j ∧ j ≤ n ∧ σ' = [some (.ref l), some (.int b), some (.ref f), some (.ref th), some (.ref lo), some (.int (low : Int)), some (.int ((low + j : Nat) : Int))] ∧ Hx = H'', fun _ _ h => h, ?_⟩
        (repeat array_get_dec)
        exact ⟨n - (j + 1), by omega, j + 1, rfl, by omega, rfl, rfl⟩
      · have hjn : j = n := by
          have : ¬ j < n := fun z => h (decide_eq_true z)
          omega
        subst hjn
        have hrf := runsF_lead ((insL b (kds ss)).drop low) low low (by rw [hn']; omega) (Nat.le_refl _)
        rw [hn', List.drop_drop] at hrf
        refine ⟨fun σ1 H1 => σ1 = [some (.ref l), some (.int b), some (.ref f), some (.ref th), some (.ref lo), some (.int (low : Int)), some (.int ((low + j : Nat) : Int))] ∧ ∃ (c : RdS) (ys : List V), Same H H1 ∧ H1 f = some (.lst (c.1.map V.int)) ∧ H1 lo = some (.lst ys) ∧ Prs H1 ys c.2 ∧ H1 th = some (.lst ((threeL b (kds ss)).map V.bl)) ∧ c.1.length = ss.length ∧ c.2.length + (runsF (low + j) (low + j) ((insL b (kds ss)).drop (low + j))).length ≤ 401 ∧ (runsF (low + j) (low + j) ((insL b (kds ss)).drop (low + j))).foldl (rdStep (kds ss)) c = readL b (kds ss), ?_, ?_⟩
        · by_cases hj0 : j = 0
          · subst hj0
            refine midB false ?_ ?_
            · (repeat array_get_dec)
              rw [decide_eq_false (show ¬ ((low : Int) < ((low + 0 : Nat) : Int)) by omega)]
              exact endB rfl
            · exact iteF ⟨rfl, c, ys, s4, hf4, hlo4, hys, hth, hcl, hcnt, hfold⟩
          · have hlt2 : low < low + j := by omega
            rw [if_pos hlt2, List.singleton_append] at hrf
            rw [hrf, List.foldl_cons] at hfold
            rw [hrf, List.length_cons] at hcnt
            have s5 : Same H (upd H'' f (.lst ((settle (kds ss) c.1 low (low + j)).2.map V.int))) := sameOwn s4 n1
            have hlo5 : upd H'' f (.lst ((settle (kds ss) c.1 low (low + j)).2.map V.int)) lo = some (.lst ys) := by rw [upd_ne nfl.symm]; exact hlo4
            have hth5 : upd H'' f (.lst ((settle (kds ss) c.1 low (low + j)).2.map V.int)) th = some (.lst ((threeL b (kds ss)).map V.bl)) := by rw [upd_ne ntf]; exact hth
            have len5 : (settle (kds ss) c.1 low (low + j)).2.length = ss.length := by rw [settle_len]; exact hcl
            refine ⟨fun bb H3 => bb = !(settle (kds ss) c.1 low (low + j)).1 ∧ H3 = upd H'' f (.lst ((settle (kds ss) c.1 low (low + j)).2.map V.int)), ?_, ?_⟩
            · (repeat array_get_dec)
              rw [decide_eq_true (show ((low : Int) < ((low + j : Nat) : Int)) by omega)]
              refine iteT ?_
              (repeat array_get_dec)
              refine ⟨l, f, low, low + j, xs, ss, c.1, rfl, SqL.of hl4, hg4, nlf, hf4, hcl, hlt2, by omega, ?_⟩
              (repeat array_get_dec)
              exact ⟨rfl, rfl⟩
            · rintro bb H3 ⟨rfl, rfl⟩
              refine ite2 (fun h => ?_) (fun h => ?_)
              · have hst : (settle (kds ss) c.1 low (low + j)).1 = false := by
                  cases e : (settle (kds ss) c.1 low (low + j)).1
                  · rfl
                  · rw [e] at h; cases h
                (repeat array_get_dec)
                refine ⟨.inl ⟨rfl, _, SqL.of hlo5⟩, ?_⟩
                (repeat array_get_dec)
                refine ⟨by show 2 ≤ sizeLine; decide, fun z hz => ?_⟩
                have sz := Same.upd (o := .tup [.int (low : Int), .int ((low + j : Nat) : Int)]) hz
                have hlo6 := sz _ _ hlo5
                refine ⟨_, _, _, rfl, rfl, hlo6, by rw [plen hys]; exact small1000 (by omega), ?_⟩
                refine ⟨rfl, ((settle (kds ss) c.1 low (low + j)).2, c.2 ++ [(low, low + j)]), _, sameOwn (s5.trans sz) hlo0, by rw [upd_ne nfl]; exact sz _ _ upd_same, upd_same, psnoc (prsUpd hlo6 (prsSame sz (prsUpd hf4 hys))) (prUpd hlo6 ⟨z, rfl, upd_same⟩),
                  by rw [upd_ne ntl]; exact sz _ _ hth5, len5, by simp only [List.length_append, List.length_singleton]; omega, ?_⟩
                rw [← hfold]
                unfold rdStep
                rw [hst]
                rfl
              · have hst : (settle (kds ss) c.1 low (low + j)).1 = true := by
                  cases e : (settle (kds ss) c.1 low (low + j)).1
                  · rw [e] at h; exact absurd rfl h
                  · rfl
                refine ⟨rfl, ((settle (kds ss) c.1 low (low + j)).2, c.2), ys, s5, upd_same, hlo5, prsUpd hf4 hys, hth5, len5, by show c.2.length + _ ≤ 401; omega, ?_⟩
                rw [← hfold]
                unfold rdStep
                rw [hst]
                rfl
        · rintro σ1 H1 ⟨rfl, c', ys', s6, hf6, hlo6, hys6, hth6, hcl6, hcnt6, hfold6⟩
          (repeat array_get_dec)
          refine ⟨_, _, rfl, ?_⟩
          by_cases hj0 : j = 0
          · subst hj0
            have hbl : (insL b (kds ss))[low]? = some false := by
              have h1 : low < (insL b (kds ss)).length := by rw [insL_len, List.length_map]; exact hlt
              have h2 : ¬ (insL b (kds ss))[low + 0]? = some true := fun z => Nat.lt_irrefl _ (hla.mpr z)
              rw [Nat.add_zero, List.getElem?_eq_getElem h1] at h2
              rw [List.getElem?_eq_getElem h1]
              cases e : (insL b (kds ss))[low]
              · rfl
              · rw [e] at h2; exact absurd rfl h2
            rw [Nat.add_zero, drop_at hbl] at hfold6 hcnt6
            have er : runsF low low (false :: (insL b (kds ss)).drop (low + 1)) = runsF (low + 1) (low + 1) ((insL b (kds ss)).drop (low + 1)) := by
              show (if low < low then [(low, low)] else []) ++ runsF (low + 1) (low + 1) ((insL b (kds ss)).drop (low + 1)) = _
              rw [if_neg (Nat.lt_irrefl _), List.nil_append]
            rw [er] at hfold6 hcnt6
            have em : (if (low : Int) + 1 > ((low + 0 : Nat) : Int) then (low : Int) + 1 else ((low + 0 : Nat) : Int)) = ((low + 1 : Nat) : Int) := by rw [if_pos (by omega)]; rfl
            rw [em]
            exact ⟨ss.length - (low + 1), by omega, low + 1, _, c', ys', rfl, by omega, rfl, s6, hf6, hlo6, hys6, hth6, hcl6, hcnt6, hfold6⟩
          · have em : (if (low : Int) + 1 > ((low + j : Nat) : Int) then (low : Int) + 1 else ((low + j : Nat) : Int)) = ((low + j : Nat) : Int) := by
              split <;> omega
            rw [em]
            exact ⟨ss.length - (low + j), by omega, low + j, _, c', ys', rfl, by omega, rfl, s6, hf6, hlo6, hys6, hth6, hcl6, hcnt6, hfold6⟩
    · have hlt : low = ss.length := by
        have : ¬ low < ss.length := fun z => h (decide_eq_true (by omega))
        omega
      subst hlt
      rw [List.drop_eq_nil_of_le (by rw [insL_len, List.length_map]; exact Nat.le_refl _)] at hfold
      have e : c = readL b (kds ss) := by
        have : runsF ss.length ss.length [] = [] := by unfold runsF; rw [if_neg (Nat.lt_irrefl _)]
        rw [this] at hfold
        exact hfold
      subst e
      (repeat array_get_dec)
      refine ⟨by show 2 ≤ sizeLine; decide, fun z hz => ?_⟩
      have sz := Same.upd (o := .tup [.ref f, .ref lo]) hz
      exact q z f lo ys _ (s4.trans sz) n1 hlo0 nfl upd_same (sz _ _ hf4) (sz _ _ hlo4) (prsSame sz hys)
end Mine
namespace Mine
open PySem L2
def sp_l_kept_of (K : PySem.W.Frag) : Sp := fun vs H Q _ => ∃ (d : Addr) (vw : Vw) (n : Str) (th : Th), vs = [.ref d, .str n] ∧ DvAt H d vw ∧ WFV vw ∧ findV vw n = some th ∧
  ∀ (l : Addr) (H' : Hp), Same H H' → H' l = some (.lst ((keptV vw n).map V.int)) → Q (.ref l) H'
theorem ok_l_kept_of {P : Program} {w : World} {K : PySem.W.Frag} {mg : Str → Option Value} {base : Heap} {t : Adr} (T : Txt K w mg t) : FnOk P w K mg base CX0 (0 + 3) t.f_l_kept_of t.d_l_kept_of ["_law_voices", "_law_name"] (sp_l_kept_of K) := by
  have G_l_line_of := ok_l_line_of (P := P) (w := w) (base := base) T
  have G_l_read := ok_l_read (P := P) (w := w) (base := base) T
  refine T.F_l_kept_of.ok sc_l_kept_of (fun vs H Q E h => ?_) (fun cdv A outer s H vs Q E hr h => ?_)
  · obtain ⟨_, _, _, _, rfl, _⟩ := h
    rfl
  · obtain ⟨d, vw, n, th, rfl, hd, wv, hf, q⟩ := h
    refine bodyOk (pss_cons (ps_set (i := 2) sc_l_kept_of.nd rfl (Or.inr rfl) (pe_dget (hu_of hr) (pv 0) (pv 1) (fun _ _ => rfl))) (pss_cons (ps_set (i := 3) sc_l_kept_of.nd rfl (Or.inl rfl) (pe_call G_l_line_of (hr.mono (by decide)) rfl T.mg_l_line_of T.F_l_line_of.kp T.b_l_line_of .nil pass0 (pa_cons (pv 0) (pa_cons (pv 1) pa_nil)))) (pss_cons (ps_if (pt_val (pe_callB call_isT rfl T.nb_isinstance bt_isinstance (pa_cons (pv 2) (pa_cons (pe_bltn (v := .ty "list") rfl T.nb_list bt_list rfl) pa_nil)))) (pss_one (ps_ret (pe_ix ix_seq (pe_call G_l_read (hr.mono (by decide)) rfl T.mg_l_read T.F_l_read.kp T.b_l_read .nil pass0 (pa_cons (pv 3) (pa_cons pe_int pa_nil))) pe_int (fun _ _ => rfl)))) pss_nil) (pss_one (ps_ret (pe_comp (cn := ["_law_worth"]) rfl (CompFit.of rfl) (pi_list (pe_ix ix_seq (pe_call G_l_read (hr.mono (by decide)) rfl T.mg_l_read T.F_l_read.kp T.b_l_read .nil pass0 (pa_cons (pv 3) (pa_cons (pe_mid (pe_ifExp (pt_val (pe_ix ix_seq (pv 2) pe_int (fun _ _ => rfl))) pe_int pe_int)) pa_nil))) pe_int (fun _ _ => rfl))) (fun _ => (pg_name (i := 0) nd_l_kept_of_5 rfl (Or.inl rfl))) (fun _ => pf_nil) (fun _ => (pe_op (op_mul.or op_rep) (pe_ix ix_seq (pv 3) pe_int (fun _ _ => rfl)) (pv 0))))))))) ?_
    obtain ⟨v, hg, hv⟩ := hd.get hf
    refine ⟨_, rfl, _, rfl, d, v, rfl, hg, ?_⟩
    refine ⟨_, rfl, _, rfl, d, vw, n, th, rfl, hd, wv, hf, fun l ys H1 s1 h1 g1 => ?_⟩
    cases th with
    | pl ss =>
      obtain ⟨l0, ys0, rfl, h0, _⟩ := hv
      have gl := (wv.gd _ _ (findV_mem hf)).1
      rw [lineV_pl hf] at g1
      (repeat array_get_dec)
      refine ⟨_, _, _, _, rfl, TyOf.lst (s1 _ _ h0), rfl, _, rfl, iteT ?_⟩
      refine ⟨_, rfl, l, 3, ys, ss, rfl, .inl rfl, h1, g1, by omega, fun p f lo zs H2 s2 _ _ _ hp hf2 _ _ => ix0 hp ?_⟩
      exact q f H2 (s1.trans s2) (by rw [keptV_pl hf]; exact hf2)
    | cn ld lt sl tn =>
      obtain ⟨p, rfl, hp⟩ := hv
      obtain ⟨⟨ss, hld⟩, lt0, lt1, sl0, sl1⟩ := wv.ld n ld lt sl tn (findV_mem hf)
      have hfl := wv.find hld
      have gl := (wv.gd _ _ hld).1
      rw [lineV_cn hf hfl] at g1
      rw [keptV_cn hf hfl] at q
      have gl2 : (if tn = true then ss.map turnS else ss).length ≤ 400 := by
        split
        · rw [List.length_map]; omega
        · omega
      (repeat array_get_dec)
      refine ⟨_, _, _, _, rfl, TyOf.tup (s1 _ _ hp), rfl, _, rfl, iteF ?_⟩
      refine ⟨_, rfl, ?_⟩
      refine ⟨fun v H' => v = .int (if tn = true then 2 else 3) ∧ H' = H1, ?_, ?_⟩
      · refine ⟨_, rfl, ixT4 (i := 3) (s1 _ _ hp) rfl ⟨_, rfl, ?_⟩⟩
        cases tn with
        | true => exact iteT ⟨rfl, rfl⟩
        | false => exact iteF ⟨rfl, rfl⟩
      intro v0 H0 ⟨e1, e2⟩
      rw [e1, e2]
      have hMs : Ms (if tn = true then 2 else 3) := by cases tn; exact .inl rfl; exact .inr rfl
      refine ⟨l, _, ys, _, rfl, hMs, h1, g1, gl2, fun p2 f lo zs H2 s2 _ _ _ hp2 hf2 _ _ => ix0 hp2 ?_⟩
      generalize hW : (readL (if tn = true then 2 else 3) (kds (if tn = true then ss.map turnS else ss))).1 = W at q hf2
      have hWl : W.length ≤ 400 := by rw [← hW, readL_len, List.length_map]; exact gl2
      refine ⟨f, rfl, ⟨_, SqL.of hf2⟩, fun D' b' hD' => ?_⟩
      have hpD := s2 _ _ (s1 _ _ hp)
      refine comp_list (K := K) (xs := W.map V.int) (fun i ys' σ H' => ∃ v, σ = [v, some (.ref d), some (.str n), some (.ref p), some (.ref l)] ∧ H' = upd H2 D' (.lst ys') ∧ ys' = ((W.take i).map fun w => sl * w).map V.int) ⟨none, rfl, rfl, by simp⟩ ?_ ?_ ?_
      · rintro i ys σ H' ⟨v, rfl, rfl, _⟩
        exact seq_upd (SqL.of hf2) hD'
      · rintro i ys' y σ H' hy ⟨v, rfl, rfl, rfl⟩ N hN
        obtain ⟨z, hz, rfl⟩ := intsAt hy
        have hi : i < W.length := (List.getElem?_eq_some_iff.mp hz).1
        refine compT_name ?_
        refine ⟨_, rfl, ixT4 (i := 2) (by rw [upd_ne (ne_of_none hpD hD')]; exact hpD) rfl ?_⟩
        refine ⟨_, rfl, .inl ⟨_, _, rfl, rfl, .inl ⟨by omega, by omega⟩, upd_same, ?_, ?_⟩⟩
        · rw [List.length_map, List.length_map, List.length_take]
          exact small1000 (by omega)
        · refine hN _ _ _ ⟨_, rfl, upd_upd, ?_⟩
          rw [List.take_succ, hz, List.map_append, List.map_append]
          rfl
      · rintro ys' σ H' ⟨v, rfl, rfl, rfl⟩
        rw [List.length_map, List.take_length]
        exact q D' _ ((s1.trans s2).trans (Same.upd hD')) upd_same
end Mine
namespace Mine
open PySem L2
theorem strsDeq {K : PySem.W.Frag} {H : Hp} {a b : Addr} {ys : List V} (ha : SqL K H a ys) (hb : SqL K H b ys) (hf : ∀ v ∈ ys, ∃ x, v = .str x) : Deq K H 60 (.ref a) (.ref b) := by
  refine .lst ha hb rfl fun i x y e1 e2 => ?_
  have e : x = y := Option.some.inj (e1.symm.trans e2)
  subst e
  obtain ⟨z, rfl⟩ := hf x (List.mem_of_getElem? e1)
  exact .flat rfl
theorem tmDeq {K : PySem.W.Frag} {H : Hp} {p p2 : Addr} {ld : Str} {lt sl : Int} {tn : Bool} (n : Nat) (h1 : H p = some (.tup [.str ld, .int lt, .int sl, .bl tn])) (h2 : H p2 = some (.tup [.str ld, .int lt, .int sl, .bl tn])) : Deq K H (n + 1) (.ref p) (.ref p2) := by
  refine .tup (SqT.of h1) (SqT.of h2) rfl fun i x y e1 e2 => ?_
  have e : x = y := Option.some.inj (e1.symm.trans e2)
  subst e
  match i, e1 with
  | 0, e1 => cases e1; exact .flat rfl
  | 1, e1 => cases e1; exact .flat rfl
  | 2, e1 => cases e1; exact .flat rfl
  | 3, e1 => cases e1; exact .flat rfl
  | n + 4, e1 => simp at e1
theorem kept_len {vw : Vw} (w : WFV vw) (n : Str) : (keptV vw n).length ≤ 400 := by
  cases hf : findV vw n with
  | none => unfold keptV; rw [hf]; exact Nat.zero_le _
  | some th =>
    cases th with
    | pl ss =>
      rw [keptV_pl hf, readL_len, List.length_map]
      have := (w.gd _ _ (findV_mem hf)).1
      omega
    | cn ld lt sl tn =>
      obtain ⟨⟨ss, hld⟩, _⟩ := w.ld n ld lt sl tn (findV_mem hf)
      rw [keptV_cn hf (w.find hld), List.length_map, readL_len, List.length_map]
      have := (w.gd _ _ hld).1
      split
      · rw [List.length_map]; omega
      · omega
theorem line_len {vw : Vw} (w : WFV vw) (n : Str) : (lineV vw n).length ≤ 200 := by
  cases hf : findV vw n with
  | none => unfold lineV; rw [hf]; exact Nat.zero_le _
  | some th =>
    cases th with
    | pl ss =>
      rw [lineV_pl hf]
      exact (w.gd _ _ (findV_mem hf)).1
    | cn ld lt sl tn =>
      obtain ⟨⟨ss, hld⟩, _⟩ := w.ld n ld lt sl tn (findV_mem hf)
      rw [lineV_cn hf (w.find hld)]
      have := (w.gd _ _ hld).1
      split
      · rw [List.length_map]; exact this
      · exact this
def sp_l_stands (K : PySem.W.Frag) (c : Cs) : Sp := fun vs H Q _ => ∃ (x d : Addr) (F : Addr → Prop) (vw : Vw) (ps fs : List Vw), vs = [.ref x, .ref d] ∧ BkC c H x F vw ps fs ∧ DvAt H d vw ∧ ∀ H', Same H H' → Q (.bl true) H'
theorem ok_l_stands {P : Program} {w : World} {K : PySem.W.Frag} {mg : Str → Option Value} {base : Heap} {t : Adr} (T : Txt K w mg t) : FnOk P w K mg base CX0 (0 + 8) t.f_l_stands t.d_l_stands ["_law_book", "_law_voices"] (sp_l_stands K (cs t)) := by
  have G_Book_names := ok_Book_names (P := P) (w := w) (base := base) T
  have G_Book_canon := ok_Book_canon (P := P) (w := w) (base := base) T
  have G_l_signs := ok_l_signs (P := P) (w := w) (base := base) T
  have G_l_nums := ok_l_nums (P := P) (w := w) (base := base) T
  have G_Book_kept := ok_Book_kept (P := P) (w := w) (base := base) T
  have G_Book_line := ok_Book_line (P := P) (w := w) (base := base) T
  have G_l_line_of := ok_l_line_of (P := P) (w := w) (base := base) T
  have G_l_kept_of := ok_l_kept_of (P := P) (w := w) (base := base) T
  have G_l_whole := ok_l_whole (P := P) (w := w) (base := base) T
  refine T.F_l_stands.ok sc_l_stands (fun vs H Q E h => ?_) (fun cdv A outer s H vs Q E hr h => ?_)
  · obtain ⟨_, _, _, _, _, _, rfl, _⟩ := h
    rfl
  · obtain ⟨x, d, F, vw, ps, fs, rfl, B, hd, q⟩ := h
    refine bodyOk (pss_cons (ps_set (i := 2) sc_l_stands.nd rfl (Or.inl rfl) (pe_meth0 (pv 0) T.cl_Book T.me_Book_names G_Book_names (hr.mono (by decide)) T.b_Book_names .nil pass0)) (pss_cons (ps_if (pt_mid (PW.pt (pw_or (pt_not (pt_val (pe_callB call_isT rfl T.nb_isinstance bt_isinstance (pa_cons (pv 2) (pa_cons (pe_bltn (v := .ty "list") rfl T.nb_list bt_list rfl) pa_nil))))) (pw_or1 (pt_cmpR (op_ne.or (op_neD (hu_of64 hr))) (pv 2) (pe_callTy call_listD rfl T.nb_list bt_list (pa_cons (pv 1) pa_nil)) (nomark _)))))) (pss_one (ps_ret pe_bl)) pss_nil) (pss_cons (ps_expr (pe_bm0 PySem.F.plainAttrs_list PySem.F.slot_list_reverse PySem.F.type_list_reverse mt_reverse (pv 2))) (pss_cons (ps_expr (pe_bm PySem.F.plainAttrs_list PySem.F.slot_list_append PySem.F.type_list_append mt_append (pv 2) (pa_cons pe_str pa_nil))) (pss_cons (ps_if (pt_cmpR (op_ne.or (op_neD (hu_of64 hr))) (pe_meth0 (pv 0) T.cl_Book T.me_Book_names G_Book_names (hr.mono (by decide)) T.b_Book_names .nil pass0) (pe_callTy call_listD rfl T.nb_list bt_list (pa_cons (pv 1) pa_nil)) (nomark _)) (pss_one (ps_ret pe_bl)) pss_nil) (pss_cons (ps_for PassesOwn.never rfl (pi_list (pe_callTy call_listD rfl T.nb_list bt_list (pa_cons (pv 1) pa_nil))) (pg_name (i := 3) sc_l_stands.nd rfl (Or.inl rfl)) (pss_cons (ps_expr (pe_bm PySem.F.plainAttrs_list PySem.F.slot_list_append PySem.F.type_list_append mt_append (pe_meth (pv 0) T.cl_Book T.me_Book_kept G_Book_kept (hr.mono (by decide)) T.b_Book_kept .nil pass0 (pa_cons (pv 3) pa_nil)) (pa_cons pe_int pa_nil))) (pss_cons (ps_expr (pe_bm PySem.F.plainAttrs_list PySem.F.slot_list_append PySem.F.type_list_append mt_append (pe_meth (pv 0) T.cl_Book T.me_Book_line G_Book_line (hr.mono (by decide)) T.b_Book_line .nil pass0 (pa_cons (pv 3) pa_nil)) (pa_cons (pe_tup (pa_cons pe_str (pa_cons pe_int pa_nil))) pa_nil))) (pss_cons (ps_if (pt_not (pt_val (pe_call G_l_signs (hr.mono (by decide)) rfl T.mg_l_signs T.F_l_signs.kp T.b_l_signs .nil pass0 (pa_cons (pe_meth (pv 0) T.cl_Book T.me_Book_line G_Book_line (hr.mono (by decide)) T.b_Book_line .nil pass0 (pa_cons (pv 3) pa_nil)) (pa_cons (pe_call G_l_line_of (hr.mono (by decide)) rfl T.mg_l_line_of T.F_l_line_of.kp T.b_l_line_of .nil pass0 (pa_cons (pv 1) (pa_cons (pv 3) pa_nil))) pa_nil))))) (pss_one (ps_ret pe_bl)) pss_nil) (pss_cons (ps_if (pt_not (pt_val (pe_call G_l_nums (hr.mono (by decide)) rfl T.mg_l_nums T.F_l_nums.kp T.b_l_nums .nil pass0 (pa_cons (pe_meth (pv 0) T.cl_Book T.me_Book_kept G_Book_kept (hr.mono (by decide)) T.b_Book_kept .nil pass0 (pa_cons (pv 3) pa_nil)) (pa_cons (pe_call G_l_kept_of (hr.mono (by decide)) rfl T.mg_l_kept_of T.F_l_kept_of.kp T.b_l_kept_of .nil pass0 (pa_cons (pv 1) (pa_cons (pv 3) pa_nil))) pa_nil))))) (pss_one (ps_ret pe_bl)) pss_nil) (pss_cons (ps_set (i := 4) sc_l_stands.nd rfl (Or.inl rfl) (pe_meth (pv 0) T.cl_Book T.me_Book_canon G_Book_canon (hr.mono (by decide)) T.b_Book_canon .nil pass0 (pa_cons (pv 3) pa_nil))) (pss_one (ps_if (pt_val (pe_callB call_isT rfl T.nb_isinstance bt_isinstance (pa_cons (pe_dget (hu_of hr) (pv 1) (pv 3) (fun _ _ => rfl)) (pa_cons (pe_bltn (v := .ty "list") rfl T.nb_list bt_list rfl) pa_nil)))) (pss_one (ps_if (pt_cmpR op_notN (pv 4) pe_non (nomark _)) (pss_one (ps_ret pe_bl)) pss_nil)) (pss_one (ps_if (pt_mid (PW.pt (pw_or (pt_not (pt_val (pe_callB call_isT rfl T.nb_isinstance bt_isinstance (pa_cons (pv 4) (pa_cons (pe_bltn (v := .ty "tuple") rfl T.nb_tuple bt_tuple rfl) pa_nil))))) (pw_or (pt_cmpR (op_ne.or (op_neD (hu_of64 hr))) (pe_callB (call_len_seq.or call_len_str) rfl T.nb_len bt_len (pa_cons (pv 4) pa_nil)) pe_int (nomark _)) (pw_or1 (pt_cmpR (op_ne.or (op_neD (hu_of64 hr))) (pv 4) (pe_dget (hu_of hr) (pv 1) (pv 3) (fun _ _ => rfl)) (nomark _))))))) (pss_one (ps_ret pe_bl)) (pss_one (ps_if (pt_mid (PW.pt (pw_or (pt_not (pt_val (pe_call G_l_whole (hr.mono (by decide)) rfl T.mg_l_whole T.F_l_whole.kp T.b_l_whole .nil pass0 (pa_cons (pe_ix ix_seq (pv 4) pe_int (fun _ _ => rfl)) pa_nil)))) (pw_or (pt_not (pt_val (pe_call G_l_whole (hr.mono (by decide)) rfl T.mg_l_whole T.F_l_whole.kp T.b_l_whole .nil pass0 (pa_cons (pe_ix ix_seq (pv 4) pe_int (fun _ _ => rfl)) pa_nil)))) (pw_or1 (pt_not (pt_val (pe_callB call_isT rfl T.nb_isinstance bt_isinstance (pa_cons (pe_ix ix_seq (pv 4) pe_int (fun _ _ => rfl)) (pa_cons (pe_bltn (v := .ty "bool") rfl T.nb_bool bt_bool rfl) pa_nil)))))))))) (pss_one (ps_ret pe_bl)) pss_nil)))))))))))) (pss_one (ps_ret pe_bl)))))))) ?_
    have wv := B.wv vw (.inr (.inl rfl))
    have hx : ∃ dx L D U, H x = some (.ins t.C_Book dx (boF L D U)) := by
      obtain ⟨L, D, U, all, M, Ps, Fs, es, us, b, _⟩ := B.ex
      obtain ⟨dx, e⟩ := b.hx
      exact ⟨dx, L, D, U, e⟩
    obtain ⟨dx, L, D, U, hx⟩ := hx
    have wl := wv.len
    have hstr : ∀ v ∈ vw.map (fun q => V.str q.1), ∃ z, v = .str z := fun v hv => by
      obtain ⟨q, _, e⟩ := List.mem_map.mp hv
      exact ⟨_, e.symm⟩
    refine ⟨_, rfl, x, dx, _, rfl, hx, boF_no_names _ _ _, x, F, vw, ps, fs, rfl, B, fun l1 H1 nl1 s1 h1 => ?_⟩
    obtain ⟨kvs, hk, ek⟩ := hd.keys
    refine ⟨fun b H' => b = false ∧ Same H1 H', ?_, ?_⟩
    · (repeat array_get_dec)
      refine ⟨_, _, _, _, rfl, TyOf.lst h1, rfl, _, rfl, iteF ?_⟩
      refine ⟨_, rfl, _, rfl, rfl, d, kvs, rfl, .inl (s1 _ _ hk), fun l2 hl2 => ?_⟩
      have s2 := Same.upd (o := .lst (kvs.map fun kv => kV kv.1)) hl2
      have h2 := upd_same (H := H1) (a := l2) (o := .lst (kvs.map fun kv => kV kv.1))
      rw [ek] at s2 h2 ⊢
      refine .inr ⟨l1, l2, rfl, rfl, strsDeq (SqL.of (s2 _ _ h1)) (SqL.of h2) hstr, ?_⟩
      exact ⟨_, rfl, rfl, s2⟩
    rintro b H2 ⟨rfl, s2⟩
    refine iteF ?_
    have h12 := s2 _ _ h1
    refine ⟨_, rfl, .inl ⟨rfl, _, SqL.of h12⟩, l1, _, rfl, rfl, h12, ?_⟩
    have s3 : Same H (upd H2 l1 (.lst (vw.map fun a => V.str a.1).reverse)) := sameOwn (s1.trans s2) nl1
    have h3 := upd_same (H := H2) (a := l1) (o := .lst (vw.map fun a => V.str a.1).reverse)
    generalize upd H2 l1 (.lst (vw.map fun a => V.str a.1).reverse) = H3 at s3 h3
    refine ⟨_, rfl, .inl ⟨rfl, _, SqL.of h3⟩, l1, _, _, rfl, rfl, h3, small1000 (by rw [List.length_reverse, List.length_map]; omega), ?_⟩
    have s4 : Same H (upd H3 l1 (.lst ((vw.map fun a => V.str a.1).reverse ++ [V.str "x"]))) := sameOwn s3 nl1
    generalize upd H3 l1 (.lst ((vw.map fun a => V.str a.1).reverse ++ [V.str "x"])) = H4 at s4
    refine ⟨_, rfl, x, dx, _, rfl, s4 _ _ hx, boF_no_names _ _ _, x, F, vw, ps, fs, rfl, B.same s4, fun l5 H5 nl5 s5 h5 => ?_⟩
    refine ⟨_, rfl, rfl, d, kvs, rfl, .inl (s5 _ _ (s4 _ _ hk)), fun l6 hl6 => ?_⟩
    have s6 := Same.upd (o := .lst (kvs.map fun kv => kV kv.1)) hl6
    have h6 := upd_same (H := H5) (a := l6) (o := .lst (kvs.map fun kv => kV kv.1))
    rw [ek] at s6 h6 ⊢
    refine .inr ⟨l5, l6, rfl, rfl, strsDeq (SqL.of (s6 _ _ h5)) (SqL.of h6) hstr, ?_⟩
    refine ⟨_, rfl, iteF ?_⟩
    have S6 := (s4.trans s5).trans s6
    generalize upd H5 l6 (.lst (vw.map fun q => V.str q.1)) = H6 at S6
    refine ⟨_, rfl, rfl, d, kvs, rfl, .inl (S6 _ _ hk), fun l7 hl7 => ?_⟩
    have s7 := Same.upd (o := .lst (kvs.map fun kv => kV kv.1)) hl7
    have h7 := upd_same (H := H6) (a := l7) (o := .lst (kvs.map fun kv => kV kv.1))
    rw [ek] at s7 h7 ⊢
    have S7 := S6.trans s7
    generalize upd H6 l7 (.lst (vw.map fun q => V.str q.1)) = H7 at S7 h7
    refine ⟨l7, rfl, ⟨_, SqL.of h7⟩, for_list (K := K) (xs := vw.map fun q => V.str q.1) (fun i σ H' => ∃ (u v : Option V), σ = [some (.ref x), some (.ref d), some (.ref l1), u, v] ∧ Same H7 H') ⟨none, none, rfl, Same.refl _⟩ ?_ ?_ ?_⟩
    · rintro i σ H' _ ⟨u, v, rfl, s8⟩
      exact SqL.of (s8 _ _ h7)
    · rintro i y σ H8 hy ⟨u, v, rfl, s8⟩
      obtain ⟨qn, hq, rfl⟩ : ∃ qn, vw[i]? = some qn ∧ y = .str qn.1 := by
        rw [List.getElem?_map] at hy
        cases e : vw[i]? with
        | none => rw [e] at hy; cases hy
        | some z => rw [e] at hy; exact ⟨z, rfl, (Option.some.inj hy).symm⟩
      obtain ⟨n, th⟩ := qn
      have hf := wv.find (List.mem_of_getElem? hq)
      have kl := kept_len wv n
      have ll := line_len wv n
      have S8 := S7.trans s8
      have B8 := B.same S8
      have hd8 := hd.same S8
      refine ⟨_, rfl, x, dx, _, rfl, S8 _ _ hx, boF_no_kept _ _ _, _, rfl, x, F, vw, ps, fs, n, rfl, B8, ?_⟩
      rw [hf]
      intro k1 H9 nk1 s9 hk1
      refine ⟨.inl ⟨rfl, _, SqL.of hk1⟩, k1, _, _, rfl, rfl, hk1, small1000 (by rw [List.length_map]; omega), ?_⟩
      have s10 : Same H8 (upd H9 k1 (.lst ((keptV vw n).map V.int ++ [V.int 7]))) := sameOwn s9 nk1
      generalize upd H9 k1 (.lst ((keptV vw n).map V.int ++ [V.int 7])) = H10 at s10
      have B10 := B8.same s10
      refine ⟨_, rfl, x, dx, _, rfl, s10 _ _ (S8 _ _ hx), boF_no_line _ _ _, _, rfl, x, F, vw, ps, fs, n, rfl, B10, ?_⟩
      rw [hf]
      intro l11 ys11 H11 nl11 s11 h11 g11
      have y11 := plen g11
      refine ⟨.inl ⟨rfl, _, SqL.of h11⟩, (by show 2 ≤ sizeLine; decide), fun tp htp => ?_⟩
      have st := Same.upd (o := .tup [V.str "R", V.int 0]) htp
      refine ⟨l11, _, _, rfl, rfl, st _ _ h11, small1000 (by omega), ?_⟩
      have s12 : Same H10 (upd (upd H11 tp (.tup [V.str "R", V.int 0])) l11 (.lst (ys11 ++ [.ref tp]))) := sameOwn (s11.trans st) nl11
      generalize upd (upd H11 tp (.tup [V.str "R", V.int 0])) l11 (.lst (ys11 ++ [.ref tp])) = H12 at s12
      have S12 := s10.trans s12
      have B12 := B8.same S12
      have hd12 := hd8.same S12
      refine ⟨_, rfl, x, dx, _, rfl, S12 _ _ (S8 _ _ hx), boF_no_line _ _ _, _, rfl, x, F, vw, ps, fs, n, rfl, B12, ?_⟩
      rw [hf]
      intro l13 ys13 H13 nl13 s13 h13 g13
      refine ⟨_, rfl, _, rfl, d, vw, n, th, rfl, hd12.same s13, wv, hf, fun l14 ys14 H14 s14 h14 g14 => ?_⟩
      refine ⟨l13, l14, ys13, ys14, lineV vw n, rfl, s14 _ _ h13, SqL.of h14, g13.same s14, g14, fun H15 s15 => ?_⟩
      refine ⟨_, rfl, iteF ?_⟩
      have S15 := ((S12.trans s13).trans s14).trans s15
      have B15 := B8.same S15
      refine ⟨_, rfl, x, dx, _, rfl, S15 _ _ (S8 _ _ hx), boF_no_kept _ _ _, _, rfl, x, F, vw, ps, fs, n, rfl, B15, ?_⟩
      rw [hf]
      intro k16 H16 nk16 s16 h16
      refine ⟨_, rfl, _, rfl, d, vw, n, th, rfl, (hd8.same S15).same s16, wv, hf, fun l17 H17 s17 h17 => ?_⟩
      refine ⟨k16, l17, keptV vw n, keptV vw n, rfl, s17 _ _ h16, SqL.of h17, by omega, ?_⟩
      rw [decide_eq_true rfl]
      refine ⟨_, rfl, iteF ?_⟩
      have S17 := (S15.trans s16).trans s17
      have B17 := B8.same S17
      have hd17 := hd8.same S17
      have fin : ∀ {u v : Option V}, ∃ (u' v' : Option V), [some (V.ref x), some (V.ref d), some (V.ref l1), u, v] = [some (V.ref x), some (V.ref d), some (V.ref l1), u', v'] ∧ Same H7 H17 := ⟨_, _, rfl, s8.trans S17⟩
      obtain ⟨v18, hg18, hv18⟩ := hd17.get hf
      refine ⟨_, rfl, x, dx, _, rfl, S17 _ _ (S8 _ _ hx), boF_no_canon _ _ _, _, rfl, x, F, vw, ps, fs, n, rfl, B17, ?_⟩
      rw [hf]
      cases th with
      | pl ss =>
        obtain ⟨l0, ys0, rfl, h0, _⟩ := hv18
        refine ⟨_, rfl, _, rfl, d, _, rfl, hg18, ?_⟩
        refine ⟨_, _, _, _, rfl, TyOf.lst h0, rfl, _, rfl, iteT ?_⟩
        refine ⟨_, rfl, rfl, _, rfl, ?_⟩
        exact ite2 (fun h => absurd h (by decide)) (fun _ => fin)
      | cn ld lt sl tn =>
        intro p hp
        obtain ⟨p2, rfl, hp2⟩ := hv18
        refine ⟨_, rfl, _, rfl, d, _, rfl, hg18, ?_⟩
        refine ⟨_, _, _, _, rfl, TyOf.tup hp2, rfl, _, rfl, iteF ?_⟩
        refine ⟨fun b H' => b = false ∧ H' = H17, ?_, ?_⟩
        · (repeat array_get_dec)
          refine ⟨_, _, _, _, rfl, TyOf.tup hp, rfl, _, rfl, iteF ?_⟩
          refine ⟨_, rfl, .inl ⟨p, _, rfl, .inr (SqT.of hp), ?_⟩⟩
          refine .inl ⟨rfl, _, rfl, iteF ?_⟩
          refine ⟨_, rfl, _, rfl, _, rfl, d, _, rfl, hg18, .inr ⟨p, p2, rfl, rfl, tmDeq 59 hp hp2, ?_⟩⟩
          exact ⟨_, rfl, rfl, rfl⟩
        intro b H18 ⟨e1, e2⟩
        rw [e1, e2]
        refine iteF ?_
        refine ⟨fun b H' => b = false ∧ H' = H17, ?_, ?_⟩
        · refine ⟨_, rfl, ixT4 (i := 1) hp rfl ⟨lt, rfl, _, rfl, iteF ?_⟩⟩
          refine ⟨_, rfl, ixT4 (i := 2) hp rfl ⟨sl, rfl, _, rfl, iteF ?_⟩⟩
          refine ⟨_, rfl, ixT4 (i := 3) hp rfl ?_⟩
          exact ⟨_, _, _, _, rfl, TyOf.bl _, rfl, _, rfl, rfl, rfl⟩
        intro b H18 ⟨e1, e2⟩
        rw [e1, e2]
        refine iteF ?_
        exact fin
    · rintro σ H' ⟨u, v, rfl, s8⟩
      exact q _ (S7.trans s8)
end Mine
namespace Mine
open PySem L2
def cellN (ns : List Int) (k : Nat) : Int := ns.getD k 0
def sp_l_cell_at (K : PySem.W.Frag) : Sp := fun vs H Q _ => ∃ (a : Addr) (ns : List Int) (k : Nat), vs = [.ref a, .int (k : Int)] ∧ SqL K H a (ns.map V.int) ∧ ns.length ≤ 63 ∧ Q (.int (cellN ns k)) H
theorem ok_l_cell_at {P : Program} {w : World} {K : PySem.W.Frag} {mg : Str → Option Value} {base : Heap} {t : Adr} (T : Txt K w mg t) : FnOk P w K mg base CX0 (0 + 1) t.f_l_cell_at t.d_l_cell_at ["_law_script", "_law_k"] (sp_l_cell_at K) := by
  refine T.F_l_cell_at.ok sc_l_cell_at (fun vs H Q E h => ?_) (fun cdv A outer s H vs Q E hr h => ?_)
  · obtain ⟨a, ns, k, rfl, _⟩ := h
    rfl
  · obtain ⟨a, ns, k, rfl, hS, hl, q⟩ := h
    refine bodyOk (pss_cons (ps_if (pt_cmpR op_lt (pv 1) (pe_callB (call_min2 rfl) rfl T.nb_min bt_min (pa_cons pe_int (pa_cons (pe_callB (call_len_seq.or call_len_str) rfl T.nb_len bt_len (pa_cons (pv 0) pa_nil)) pa_nil))) (nomark _)) (pss_one (ps_ret (pe_ix ix_seq (pv 0) (pv 1) (fun _ _ => rfl)))) pss_nil) (pss_one (ps_ret pe_int))) ?_
    refine ⟨_, rfl, _, rfl, .inl ⟨_, _, rfl, .inl hS, _, _, rfl, _, _, rfl, rfl, _, rfl, ?_⟩⟩
    rw [List.length_map]
    refine ite2 (fun h => ?_) (fun h => ?_)
    · have hk : k < ns.length := by
        have := of_decide_eq_true h
        split at this <;> omega
      have e : (ns.map V.int)[k]? = some (V.int (cellN ns k)) := by
        rw [List.getElem?_map, List.getElem?_eq_getElem hk]
        unfold cellN
        rw [List.getD_eq_getElem?_getD, List.getElem?_eq_getElem hk]
        rfl
      exact ⟨_, rfl, _, rfl, .inl ⟨_, _, _, _, rfl, rfl, hS, atI_nat e, q⟩⟩
    · have hk : ns.length ≤ k := by
        have h' : ¬ ((k : Int) < if (ns.length : Int) < 63 then (ns.length : Int) else 63) := fun z => h (decide_eq_true z)
        split at h' <;> omega
      have e : cellN ns k = 0 := by
        unfold cellN
        rw [List.getD_eq_getElem?_getD, List.getElem?_eq_none hk]
        rfl
      rw [e] at q
      exact q
end Mine
namespace Mine
open PySem L2
def sp_l_mixed : Sp := fun vs H Q _ => ∃ seed k : Int, vs = [.int seed, .int k] ∧ ∀ r : Int, 0 ≤ r → r < 65521 → Q (.int r) H
theorem ok_l_mixed {P : Program} {w : World} {K : PySem.W.Frag} {mg : Str → Option Value} {base : Heap} {t : Adr} (T : Txt K w mg t) : FnOk P w K mg base CX0 (0 + 1) t.f_l_mixed t.d_l_mixed ["_law_seed", "_law_k"] sp_l_mixed := by
  refine T.F_l_mixed.ok sc_l_mixed (fun vs H Q E h => ?_) (fun cdv A outer s H vs Q E hr h => ?_)
  · obtain ⟨_, _, rfl, _⟩ := h
    rfl
  · obtain ⟨seed, k, rfl, q⟩ := h
    refine bodyOk (pss_cons (ps_set (i := 2) sc_l_mixed.nd rfl (Or.inl rfl) (pe_op op_mod (pe_op (op_add.or (op_add_str.or op_cat)) (pe_op (op_add.or (op_add_str.or op_cat)) (pe_op (op_mul.or op_rep) (pe_op op_mod (pv 0) pe_int) pe_int) (pe_op (op_mul.or op_rep) (pv 1) pe_int)) pe_int) pe_int)) (pss_cons (ps_set (i := 3) sc_l_mixed.nd rfl (Or.inl rfl) (pe_op op_mod (pe_op (op_add.or (op_add_str.or op_cat)) (pe_op (op_add.or (op_add_str.or op_cat)) (pe_op (op_mul.or op_rep) (pv 2) (pv 2)) (pe_op (op_mul.or op_rep) (pv 1) pe_int)) (pe_op op_mod (pe_op op_fdiv (pv 0) pe_int) pe_int)) pe_int)) (pss_one (ps_ret (pe_op op_mod (pe_op (op_add.or (op_add_str.or op_cat)) (pe_op op_fdiv (pe_op (op_mul.or op_rep) (pv 3) (pv 3)) pe_int) (pv 3)) pe_int))))) ?_
    have p2 : (2 : Int) ^ 64 = 18446744073709551616 := by decide
    refine ⟨_, rfl, _, _, rfl, rfl, (by decide : (0 : Int) < 1000003), .inl ⟨_, _, rfl, rfl, .inr ⟨by decide, by decide⟩, _, rfl, .inl ⟨_, _, rfl, rfl, .inr ⟨by decide, by decide⟩, .inl ⟨_, _, rfl, rfl, .inl ⟨_, _, rfl, rfl, _, _, rfl, rfl, (by decide : (0 : Int) < 1000033), ?_⟩⟩⟩⟩⟩
    generalize hone : (seed % 1000003 * 48271 + k * 30011 + 17) % 1000033 = one
    have b1 : 0 ≤ one ∧ one < 1000033 := by omega
    refine ⟨_, rfl, _, rfl, .inl ⟨_, _, rfl, rfl, .inl ⟨by rw [p2]; omega, by rw [p2]; omega⟩, _, rfl, .inl ⟨_, _, rfl, rfl, .inr ⟨by decide, by decide⟩, .inl ⟨_, _, rfl, rfl, _, rfl, _, _, rfl, rfl, ⟨by decide, by decide⟩, _, _, rfl, rfl, (by decide : (0 : Int) < 997), .inl ⟨_, _, rfl, rfl, _, _, rfl, rfl, (by decide : (0 : Int) < 999983), ?_⟩⟩⟩⟩⟩
    generalize htwo : (one * one + k * 613 + seed / 1000003 % 997) % 999983 = two
    have b2 : 0 ≤ two ∧ two < 999983 := by omega
    refine ⟨_, rfl, _, rfl, .inl ⟨_, _, rfl, rfl, .inl ⟨by rw [p2]; omega, by rw [p2]; omega⟩, _, _, rfl, rfl, ⟨by decide, by decide⟩, _, rfl, .inl ⟨_, _, rfl, rfl, _, _, rfl, rfl, (by decide : (0 : Int) < 65521), ?_⟩⟩⟩
    exact q _ (by omega) (by omega)
end Mine
namespace Mine
open PySem L2
def sp_l_numbers (K : PySem.W.Frag) : Sp := fun vs H Q _ => ∃ (a : Addr) (ns : List Int) (k m : Nat), vs = [.ref a, .int (k : Int), .int (m : Int)] ∧ SqL K H a (ns.map V.int) ∧ ns.length ≤ 63 ∧ m ≤ 48 ∧
  ∀ (l : Addr) (ms : List Int) (H' : Hp), Same H H' → H' l = some (.lst (ms.map V.int)) → ms.length ≤ 60 → (∀ x ∈ ms, 0 ≤ x) → Q (.ref l) H'
theorem ok_l_numbers {P : Program} {w : World} {K : PySem.W.Frag} {mg : Str → Option Value} {base : Heap} {t : Adr} (T : Txt K w mg t) : FnOk P w K mg base CX0 (0 + 2) t.f_l_numbers t.d_l_numbers ["_law_script", "_law_at", "_law_many"] (sp_l_numbers K) := by
  have G_l_cell_at := ok_l_cell_at (P := P) (w := w) (base := base) T
  have G_l_mixed := ok_l_mixed (P := P) (w := w) (base := base) T
  refine T.F_l_numbers.ok sc_l_numbers (fun vs H Q E h => ?_) (fun cdv A outer s H vs Q E hr h => ?_)
  · obtain ⟨_, _, _, _, rfl, _⟩ := h
    rfl
  · obtain ⟨a, ns, k, m, rfl, hS, hl, hm, q⟩ := h
    refine bodyOk (pss_cons (ps_set (i := 3) sc_l_numbers.nd rfl (Or.inr rfl) (pe_call G_l_cell_at (hr.mono (by decide)) rfl T.mg_l_cell_at T.F_l_cell_at.kp T.b_l_cell_at .nil pass0 (pa_cons (pv 0) (pa_cons (pv 1) pa_nil)))) (pss_cons (ps_if (pt_cmpR op_lt (pv 3) (pe_op op_pow pe_int pe_int) (nomark _)) (pss_one (ps_ret (pe_comp (cn := ["_law_k"]) rfl (CompFit.of rfl) (pi_range1 rfl T.nb_range (pa_cons (pv 2) pa_nil)) (fun _ => (pg_name (i := 0) nd_l_numbers_6 rfl (Or.inl rfl))) (fun _ => pf_nil) (fun _ => (pe_call G_l_mixed (hr.mono (by decide)) rfl T.mg_l_mixed T.F_l_mixed.kp T.b_l_mixed .nil pass0 (pa_cons (pe_op (op_add.or (op_add_str.or op_cat)) (pv 4) (pe_op (op_mul.or op_rep) pe_int (pe_call G_l_cell_at (hr.mono (by decide)) rfl T.mg_l_cell_at T.F_l_cell_at.kp T.b_l_cell_at .nil pass0 (pa_cons (pv 1) (pa_cons (pe_op (op_add.or (op_add_str.or op_cat)) (pe_op (op_add.or (op_add_str.or op_cat)) (pv 2) pe_int) (pv 0)) pa_nil))))) (pa_cons (pv 0) pa_nil))))))) pss_nil) (pss_cons (ps_set (i := 4) sc_l_numbers.nd rfl (Or.inl rfl) (pe_op op_sub (pv 3) (pe_op op_pow pe_int pe_int))) (pss_cons (ps_set (i := 5) sc_l_numbers.nd rfl (Or.inl rfl) (pe_lst pa_nil)) (pss_cons (ps_while PassesOwn.never (pt_mid (PW.pt (pw_and (pt_cmpR op_gt (pv 4) pe_int (nomark _)) (pw_and1 (pt_cmpR op_lt (pe_callB (call_len_seq.or call_len_str) rfl T.nb_len bt_len (pa_cons (pv 5) pa_nil)) pe_int (nomark _)))))) (pss_cons (ps_expr (pe_bm PySem.F.plainAttrs_list PySem.F.slot_list_append PySem.F.type_list_append mt_append (pv 5) (pa_cons (pe_op op_mod (pv 4) pe_int) pa_nil))) (pss_one (ps_set (i := 4) sc_l_numbers.nd rfl (Or.inl rfl) (pe_op op_fdiv (pv 4) pe_int))))) (pss_one (ps_ret (pv 5)))))))) ?_
    refine ⟨_, rfl, _, rfl, a, ns, k, rfl, hS, hl, ?_⟩
    refine ⟨_, rfl, _, _, rfl, rfl, ⟨by decide, by decide, by decide⟩, _, _, rfl, rfl, _, rfl, ?_⟩
    refine ite2 (fun _ => ?_) (fun _ => ?_)
    · refine ⟨_, rfl, (m : Int), rfl, (by omega), (by omega), fun D b hD => ?_⟩
      refine comp_range (lo := 0) (n := ((m : Int)).toNat) (fun i ys σ H' => ∃ (v : Option V) (ms : List Int), σ = [v, some (.ref a), some (.int (k : Int)), some (.int (m : Int)), some (.int (cellN ns k)), none, none] ∧ H' = upd H D (.lst ys) ∧ ys = ms.map V.int ∧ ms.length = i ∧ ∀ x ∈ ms, 0 ≤ x) ⟨none, [], rfl, rfl, rfl, rfl, fun _ h => nomatch h⟩ ?_ ?_
      · rintro i ys σ H' hi ⟨v, ms, rfl, rfl, rfl, hlen, hpos⟩ N hN
        refine compT_name ?_
        refine ⟨_, rfl, _, rfl, _, rfl, .inl ⟨_, _, rfl, rfl, _, rfl, .inl ⟨_, _, rfl, rfl, a, ns, k + 1 + i, ?_, seq_upd hS hD, hl, .inl ⟨_, _, rfl, rfl, .inl ⟨by decide, by decide⟩, ?_⟩⟩⟩⟩
        · show [V.ref a, V.int ((k : Int) + 1 + (0 + (i : Int)))] = [V.ref a, V.int ((k + 1 + i : Nat) : Int)]
          have e : (k : Int) + 1 + (0 + (i : Int)) = ((k + 1 + i : Nat) : Int) := by omega
          rw [e]
        · refine .inl ⟨_, _, rfl, rfl, _, rfl, _, _, rfl, fun r h0 h1 => ⟨upd_same, ?_, ?_⟩⟩
          · rw [List.length_map]
            exact small1000 (by omega)
          · refine hN _ _ _ ⟨some _, ms ++ [r], rfl, upd_upd, by simp, by simp [hlen], fun x hx => ?_⟩
            rcases List.mem_append.mp hx with z | z
            · exact hpos x z
            · have : x = r := by simpa using z
              omega
      · rintro ys σ H' ⟨v, ms, rfl, rfl, rfl, hlen, hpos⟩
        exact q D ms _ (Same.upd hD) upd_same (by omega) hpos
    · refine ⟨_, rfl, _, _, rfl, rfl, ⟨by decide, by decide, by decide⟩, _, _, rfl, rfl, (by decide), fun l hl0 => ?_⟩
      refine ⟨fun mm σ H' => ∃ (left : Int) (ms : List Int), σ = [some (.ref a), some (.int (k : Int)), some (.int (m : Int)), some (.int (cellN ns k)), some (.int left), some (.ref l)] ∧ H' = upd H l (.lst (ms.map V.int)) ∧ mm = 60 - ms.length ∧ ms.length ≤ 60 ∧ ∀ x ∈ ms, 0 ≤ x,
        ⟨60, _, [], rfl, rfl, rfl, Nat.zero_le _, fun _ h => nomatch h⟩, ?_⟩
      rintro mm σ H' ⟨left, ms, rfl, rfl, rfl, hlen, hpos⟩
      refine midB (decide (0 < left) && decide ((ms.length : Int) < 60)) ?_ ?_
      · refine ⟨_, rfl, _, _, rfl, rfl, _, rfl, ?_⟩
        refine ite2 (fun h => ?_) (fun h => ?_)
        · refine ⟨_, rfl, .inl ⟨l, _, rfl, .inl (SqL.of upd_same), _, _, rfl, rfl, _, rfl, ?_⟩⟩
          rw [List.length_map]
          exact ⟨by rw [h, Bool.true_and], rfl⟩
        · exact ⟨by rw [Bool.eq_false_iff.mpr h]; rfl, rfl⟩
      refine ite2 (fun h60 => ?_) (fun _ => ?_)
      · have h60' : ms.length < 60 := by
          have := of_decide_eq_true (Bool.and_eq_true_iff.mp h60).2
          omega
        refine ⟨fun σ' H' => ∃ m', m' < 60 - ms.length ∧ ∃ (left : Int) (ms : List Int), σ' = [some (.ref a), some (.int (k : Int)), some (.int (m : Int)), some (.int (cellN ns k)), some (.int left), some (.ref l)] ∧ H' = upd H l (.lst (ms.map V.int)) ∧ m' = 60 - ms.length ∧ ms.length ≤ 60 ∧ ∀ x ∈ ms, 0 ≤ x, fun _ _ h => h, ?_⟩
        refine ⟨_, rfl, .inl ⟨rfl, _, SqL.of upd_same⟩, _, rfl, _, _, rfl, rfl, (by decide : (0 : Int) < 2400), l, _, _, rfl, rfl, upd_same, (by rw [List.length_map]; exact small1000 (by omega)), _, rfl, _, _, rfl, rfl, ⟨by decide, by decide⟩, 60 - (ms.length + 1), by omega, _, ms ++ [left % 2400], rfl, ?_, by simp, by simp; omega, fun x hx => ?_⟩
        · rw [upd_upd, List.map_append]
          rfl
        · rcases List.mem_append.mp hx with z | z
          · exact hpos x z
          · have : x = left % 2400 := by simpa using z
            omega
      · exact ⟨_, rfl, q l ms _ (Same.upd hl0) upd_same (by omega) hpos⟩
end Mine
namespace Mine
open PySem L2
def sp_l_line (K : PySem.W.Frag) : Sp := fun vs H Q _ => ∃ (a : Addr) (ns : List Int) (k m : Nat), vs = [.ref a, .int (k : Int), .int (m : Int)] ∧ SqL K H a (ns.map V.int) ∧ ns.length ≤ 63 ∧ m ≤ 48 ∧
  ∀ (l : Addr) (xs : List V) (ss : List Sg) (H' : Hp), Same H H' → H l = none → H' l = some (.lst xs) → Sgs H' xs ss → (∀ s ∈ ss, GoodT s) → ss.length ≤ 60 → Q (.ref l) H'
theorem ok_l_line {P : Program} {w : World} {K : PySem.W.Frag} {mg : Str → Option Value} {base : Heap} {t : Adr} (T : Txt K w mg t) : FnOk P w K mg base CX0 (0 + 3) t.f_l_line t.d_l_line ["_law_script", "_law_at", "_law_many"] (sp_l_line K) := by
  have G_l_sign_by := ok_l_sign_by (P := P) (w := w) (base := base) T
  have G_l_numbers := ok_l_numbers (P := P) (w := w) (base := base) T
  refine T.F_l_line.ok sc_l_line (fun vs H Q E h => ?_) (fun cdv A outer s H vs Q E hr h => ?_)
  · obtain ⟨_, _, _, _, rfl, _⟩ := h
    rfl
  · obtain ⟨a, ns, k, m, rfl, hS, hl, hm, q⟩ := h
    refine bodyOk (pss_one (ps_ret (pe_comp (cn := ["_law_number"]) rfl (CompFit.of rfl) (pi_list (pe_call G_l_numbers (hr.mono (by decide)) rfl T.mg_l_numbers T.F_l_numbers.kp T.b_l_numbers .nil pass0 (pa_cons (pv 0) (pa_cons (pv 1) (pa_cons (pv 2) pa_nil))))) (fun _ => (pg_name (i := 0) nd_l_line_7 rfl (Or.inl rfl))) (fun _ => pf_nil) (fun _ => (pe_call G_l_sign_by (hr.mono (by decide)) rfl T.mg_l_sign_by T.F_l_sign_by.kp T.b_l_sign_by .nil pass0 (pa_cons (pv 0) pa_nil)))))) ?_
    refine ⟨_, rfl, _, rfl, _, rfl, a, ns, k, m, rfl, hS, hl, hm, fun l ms H1 s1 hl1 hlen hpos => ⟨l, rfl, ⟨_, SqL.of hl1⟩, fun D b hD => ?_⟩⟩
    refine comp_list (K := K) (xs := ms.map V.int) (fun i ys σ H' => ∃ (v : Option V) (ss : List Sg), σ = [v, some (.ref a), some (.int (k : Int)), some (.int (m : Int))] ∧ Same H1 H' ∧ H' D = some (.lst ys) ∧ Sgs H' ys ss ∧ ss.length = i ∧ i ≤ ms.length ∧ ∀ s ∈ ss, GoodT s)
      ⟨none, [], rfl, Same.upd hD, upd_same, .nil, rfl, Nat.zero_le _, fun _ h => nomatch h⟩ ?_ ?_ ?_
    · rintro i ys σ H' ⟨v, ss, rfl, s2, _⟩
      exact s2.seq (SqL.of hl1)
    · rintro i ys x σ H' hx ⟨v, ss, rfl, s2, hDl, hsg, hsl, hi, hg⟩ N hN
      have hil : i < ms.length := by
        have := (List.getElem?_eq_some_iff.mp hx).1
        rw [List.length_map] at this
        exact this
      obtain ⟨z, hz, rfl⟩ := intsAt hx
      refine compT_name ?_
      refine ⟨_, rfl, z, rfl, fun p s gs hp => ⟨Same.upd hp _ _ hDl, ?_, ?_⟩⟩
      · rw [plen hsg, hsl]
        exact small1000 (by omega)
      · have hD4 := Same.upd (o := .tup [.str s.1.str, .int s.2]) hp _ _ hDl
        refine hN _ _ _ ⟨_, ss ++ [s], rfl, sameOwn (s2.trans (Same.upd hp)) hD, upd_same, psnoc (sgsUpd hD4 (hsg.same (Same.upd hp))) (sgUpd hD4 ⟨p, rfl, upd_same⟩), by simp [hsl], hil, fun y hy => ?_⟩
        rcases List.mem_append.mp hy with z | z
        · exact hg y z
        · have : y = s := by simpa using z
          rw [this]
          exact gs
    · rintro ys σ H' ⟨v, ss, rfl, s2, hDl, hsg, hsl, hi, hg⟩
      refine q D ys ss H' (s1.trans s2) (s1.free hD) hDl hsg hg ?_
      rw [hsl, List.length_map]
      omega
end Mine
namespace Mine
open PySem L2
def TermOk (lt sl : Int) : Prop := 0 ≤ lt ∧ lt ≤ 999 ∧ 1 ≤ sl ∧ sl ≤ 9
instance (lt sl : Int) : Decidable (TermOk lt sl) := by unfold TermOk; exact inferInstance
def sp_Book_add_canon (c : Cs) : Sp := fun vs H Q E => ∃ (x : Addr) (F : Addr → Prop) (vw : Vw) (ps fs : List Vw) (n ld : Str) (lt sl : Int) (tn : Bool), vs = [.ref x, .str n, .str ld, .int lt, .int sl, .bl tn] ∧ BkC c H x F vw ps fs ∧ n.length ≤ 1000 ∧ ps.length ≤ 900 ∧
  match newOut vw n with
  | some r => ∀ H', Same H H' → RX E c r H'
  | none => match findV vw ld with
    | none => ∀ H', Same H H' → RX E c .NoVoice H'
    | some (.cn _ _ _ _) => ∀ H', Same H H' → RX E c .NotPlain H'
    | some (.pl _) => (¬ TermOk lt sl → ∀ H', Same H H' → RX E c .BadTerm H') ∧ (TermOk lt sl → ∀ F' H', Gr F F' H → Fr F H H' → BkC c H' x F' (vw ++ [(n, .cn ld lt sl tn)]) (ps ++ [vw]) [] → Q .non H')
theorem ok_Book_add_canon {P : Program} {w : World} {K : PySem.W.Frag} {mg : Str → Option Value} {base : Heap} {t : Adr} (T : Txt K w mg t) : FnOk P w K mg base CX0 (0 + 4) t.f_Book_add_canon t.d_Book_add_canon ["self", "name", "leader", "later", "slow", "is_turned"] (sp_Book_add_canon (cs t)) := by
  have G_Book_refuse_new := ok_Book_refuse_new (P := P) (w := w) (base := base) T
  have G_Book_plain_voice := ok_Book_plain_voice (P := P) (w := w) (base := base) T
  have G_Book_put_in := ok_Book_put_in (P := P) (w := w) (base := base) T
  have G_Voice___init__ := ok_Voice___init__ (P := P) (w := w) (base := base) T
  refine T.F_Book_add_canon.ok sc_Book_add_canon (fun vs H Q E h => ?_) (fun cdv A outer s H vs Q E hr h => ?_)
  · obtain ⟨_, _, _, _, _, _, _, _, _, _, rfl, _⟩ := h
    rfl
  · obtain ⟨x, F, vw, ps, fs, n, ld, lt, sl, tn, rfl, B, hlen, hps, q⟩ := h
    refine bodyOk (pss_cons (ps_expr (pe_meth (pv 0) T.cl_Book T.me_Book_refuse_new G_Book_refuse_new (hr.mono (by decide)) T.b_Book_refuse_new .nil pass0 (pa_cons (pv 1) pa_nil))) (pss_cons (ps_expr (pe_meth (pv 0) T.cl_Book T.me_Book_plain_voice G_Book_plain_voice (hr.mono (by decide)) T.b_Book_plain_voice .nil pass0 (pa_cons (pv 2) pa_nil))) (pss_cons (ps_if (pt_not (pt_mid (PW.pt (pw_and (pt_chain op_le op_le pe_int (pv 3) (pe_glob (v := .int 999) rfl T.c_LATEST ⟨_, rfl⟩)) (pw_and1 (pt_chain op_le op_le pe_int (pv 4) (pe_glob (v := .int 9) rfl T.c_SLOWEST ⟨_, rfl⟩))))))) (pss_one ps_never) pss_nil) (pss_one (ps_expr (pe_meth (pv 0) T.cl_Book T.me_Book_put_in G_Book_put_in (hr.mono (by decide)) T.b_Book_put_in .nil pass0 (pa_cons (pe_make T.mk_Voice G_Voice___init__ (hr.mono (by decide)) rfl T.mg_Voice T.b_Voice___init__ .nil pass0 (pa_cons (pv 1) (pa_cons (pe_tup (pa_cons (pv 2) (pa_cons (pv 3) (pa_cons (pv 4) (pa_cons (pv 5) pa_nil))))) pa_nil))) pa_nil))))))) ?_
    obtain ⟨L, D, U, all, M, Ps, Fs, es, us, b, i, pp, pf, f⟩ := B.ex
    obtain ⟨dx, hx⟩ := b.hx
    have wv := B.wv vw (.inr (.inl rfl))
    refine ⟨_, rfl, x, dx, _, rfl, hx, boF_no_refuse_new _ _ _, _, rfl, x, F, vw, ps, fs, n, rfl, B, hlen, ?_⟩
    cases ho : newOut vw n with
    | some r =>
      rw [ho] at q
      intro H' s'
      have q := q H' s'
      exact (Bool.noConfusion (show false = true from q.1))
    | none =>
      rw [ho] at q
      obtain ⟨_, hf, hl12⟩ := newOut_none ho
      intro H1 s1
      have b1 := b.kept f (.same s1)
      have i1 : Is H1 L all M vw := Is.kept (F := F) (.same s1) i
      obtain ⟨vx, g, gv⟩ := b1.voices i1
      have hx1 := s1 _ _ hx
      refine ⟨_, rfl, x, dx, _, rfl, hx1, boF_no_plain_voice _ _ _, _, rfl, x, dx, L, D, U, M L, vx, ld, rfl, hx1, b1.hL, g, ?_⟩
      rcases pfind gv (fun _ _ r => r.2.1) ld with ⟨f1, f2⟩ | ⟨a, th, j, f1, f2, r, an, fj, fw⟩
      · rw [f1]
        rw [f2] at q
        have q := q H1 s1
        exact (Bool.noConfusion (show false = true from q.1))
      rw [f1]
      rw [f2] at q
      cases th with
      | cn ld2 lt2 sl2 tn2 =>
        obtain ⟨pt, hpt, _⟩ := r.2.2
        have q := q H1 s1
        refine ⟨(fun z => by rw [hpt] at z; cases z), (fun _ _ => (Bool.noConfusion (show false = true from q.1))), .inr ⟨pt, hpt⟩⟩
      | pl ss =>
        obtain ⟨htm, hg⟩ := r.2.2
        obtain ⟨q1, q2⟩ := q
        refine ⟨fun _ => ?_, (fun pz z => by rw [htm] at z; cases z), .inl htm⟩
        refine ⟨fun bb H' => bb = decide (TermOk lt sl) ∧ H' = H1, ?_, ?_⟩
        · refine ⟨_, rfl, _, _, rfl, rfl, _, rfl, ?_⟩
          refine ite2 (fun h1 => ?_) (fun h1 => ?_)
          rotate_left
          · have e : decide (TermOk lt sl) = false := decide_eq_false fun z => h1 (decide_eq_true z.1)
            rw [e]
            exact ⟨_, rfl, iteF ⟨rfl, rfl⟩⟩
          refine ⟨_, _, rfl, rfl, _, rfl, ?_⟩
          refine ite2 (fun h2 => ?_) (fun h2 => ?_)
          rotate_left
          · have e : decide (TermOk lt sl) = false := decide_eq_false fun z => h2 (decide_eq_true z.2.1)
            rw [e]
            exact ⟨rfl, rfl⟩
          refine ⟨_, rfl, _, _, rfl, rfl, _, rfl, ?_⟩
          refine ite2 (fun h3 => ?_) (fun h3 => ?_)
          rotate_left
          · have e : decide (TermOk lt sl) = false := decide_eq_false fun z => h3 (decide_eq_true z.2.2.1)
            rw [e]
            exact ⟨_, rfl, rfl, rfl⟩
          refine ⟨_, _, rfl, rfl, _, rfl, ?_, rfl⟩
          refine decide_eq_decide.mpr ⟨fun z => ⟨of_decide_eq_true h1, of_decide_eq_true h2, of_decide_eq_true h3, z⟩, fun z => z.2.2.2⟩
        intro bb H1' ⟨e1, e2⟩
        rw [e1, e2]
        by_cases hok : TermOk lt sl
        rotate_left
        · rw [decide_eq_false hok]
          have q := q1 hok H1 s1
          exact iteT (Bool.noConfusion (show false = true from q.1))
        rw [decide_eq_true hok]
        refine iteF ?_
        obtain ⟨ds, hD, pD⟩ := b1.hD
        obtain ⟨ux, hU, pU⟩ := b1.hU
        have ll := plen i
        have dl := plen pD
        have pl := plen pp
        have pe := b.past.len
        refine ⟨_, rfl, x, dx, _, rfl, hx1, boF_no_put_in _ _ _, _, rfl, _, rfl, _, rfl, _, rfl, _, rfl, (by show 4 ≤ sizeLine; decide), fun tp htp => ?_⟩
        have st := Same.upd (o := .tup [V.str ld, V.int lt, V.int sl, V.bl tn]) htp
        have htp2 := upd_same (H := H1) (a := tp) (o := .tup [V.str ld, V.int lt, V.int sl, V.bl tn])
        generalize upd H1 tp (.tup [V.str ld, V.int lt, V.int sl, V.bl tn]) = H1t at st htp2
        intro v dv nv ndv ne
        refine ⟨v, dv, n, .ref tp, rfl, upd_same, fun l H2 kp hl hlv hv2 hl2 => ⟨rfl, ?_⟩⟩
        have s2t : Same H1t H2 := fun y o hy => kp y o (by rw [upd_ne (ne_of_none hy nv), upd_ne (ne_of_none hy ndv)]; exact hy) (ne_of_none hy nv)
        have s2 := st.trans s2t
        have hl1 : H1 l = none := st.free (mkFree hl)
        refine ⟨x, dx, L, D, U, v, M L, ds, ux, rfl, s2 _ _ hx1, s2 _ _ b1.hL, s2 _ _ hD, s2 _ _ hU, b.LD, b.LU, b.DU, by omega, by omega, fun e H3 H' eT ei eb ea s3 nB nA hd fr hL' hD' hU' => ?_⟩
        obtain ⟨F', gr, fr', B'⟩ := Bk.added b1 i1 (pmono (fun _ _ q => Is.kept (F := F) (.same s1) q) pp) f B.wv (a := ⟨v, dv, n, .ref tp, l⟩) (th := .cn ld lt sl tn) s2 (st.free nv) hl1 hv2 hl2 (fun M' h0 => ⟨tp, rfl, s2t _ _ htp2⟩) (wv.addCn (findV_none hf) hl12 (findV_mem f2) hok.1 hok.2.1 hok.2.2.1 hok.2.2.2) eT ei eb ea s3 nB nA hd hD pD fr hL' hD' hU'
        exact q2 hok F' H' (gr.old s1) (fun y o hy hn => fr' y o (s1 y o hy) hn) B'
end Mine
namespace Mine
open PySem L2
structure Bw (c : Cs) (H0 H : Hp) (x : Addr) (own : List Addr) (vw : Vw) (ps fs : List Vw) : Prop where
  ex : ∃ F, BkC c H x F vw ps fs ∧ (∀ y, F y → ∃ xs, H y = some (.lst xs)) ∧ (∀ y, F y → H0 y = none) ∧ ∀ a ∈ own, ¬ F a ∧ ∃ o, H a = some o
  sm : Same H0 H
section
variable {c : Cs} {H0 H H' H1 : Hp} {x : Addr} {own : List Addr} {vw vw' : Vw} {ps ps' fs fs' : List Vw} {F F' : Addr → Prop}
theorem Bw.mk' (b : BkC c H' x F' vw' ps' fs') (sm : Same H0 H) (hF : ∀ y, F y → ∃ xs, H y = some (.lst xs)) (h0 : ∀ y, F y → H0 y = none) (ho : ∀ a ∈ own, ¬ F a ∧ ∃ o, H a = some o) (g : Gr F F' H) (fr : Fr F H H') : Bw c H0 H' x own vw' ps' fs' ∧ Keep own H H' := by
  obtain ⟨F0, h1, h2, b0⟩ := b.tight
  refine ⟨⟨⟨F0, b0, h2, fun y z => ?_, fun a ha => ?_⟩, fun y o e => fr y o (sm y o e) fun z => ?_⟩, fun y o e k => fr y o e fun z => ?_⟩
  · rcases g y (h1 y z) with q | q
    · exact h0 y q
    · exact sm.free q
  · obtain ⟨n, o, e⟩ := ho a ha
    refine ⟨fun z => ?_, o, fr a o e n⟩
    rcases g a (h1 a z) with q | q
    · exact n q
    · rw [e] at q; cases q
  · rw [h0 y z] at e; cases e
  · rcases k with k | k
    · obtain ⟨xs, q⟩ := hF y z
      rw [e] at q
      cases q
      exact k _ rfl
    · exact (ho y k).1 z
theorem Bw.same (h : Bw c H0 H x own vw ps fs) (s : Same H H') : Bw c H0 H' x own vw ps fs := by
  obtain ⟨F, b, hF, h0, ho⟩ := h.ex
  exact ⟨⟨F, b.same s, fun y z => let ⟨xs, e⟩ := hF y z; ⟨xs, s _ _ e⟩, h0, fun a ha => ⟨(ho a ha).1, let ⟨o, e⟩ := (ho a ha).2; ⟨o, s _ _ e⟩⟩⟩, h.sm.trans s⟩
theorem Bw.wv (h : Bw c H0 H x own vw ps fs) : WFV vw := by
  obtain ⟨F, b, _⟩ := h.ex
  exact b.wv vw (.inr (.inl rfl))
theorem Bw.hx (h : Bw c H0 H x own vw ps fs) : ∃ dx L D U, H x = some (.ins c.B dx (boF L D U)) := by
  obtain ⟨F, b, _⟩ := h.ex
  obtain ⟨L, D, U, all, M, Ps, Fs, es, us, b, _⟩ := b.ex
  obtain ⟨dx, e⟩ := b.hx
  exact ⟨dx, L, D, U, e⟩
theorem Bw.new {dx L D U : Addr} (hx : H' x = some (.ins c.B dx (boF L D U))) (hL : H' L = some (.lst [])) (hD : H' D = some (.lst [])) (hU : H' U = some (.lst [])) (LD : L ≠ D) (LU : L ≠ U) (DU : D ≠ U) (s : Same H H') (nL : H L = none) (nD : H D = none) (nU : H U = none) : Bw c H H' x [] [] [] [] := by
  refine ⟨⟨_, Bk.new hx hL hD hU LD LU DU, fun y hy => ?_, fun y hy => ?_, fun a ha => nomatch ha⟩, s⟩
  · rcases hy with rfl | rfl | rfl
    · exact ⟨_, hL⟩
    · exact ⟨_, hD⟩
    · exact ⟨_, hU⟩
  · rcases hy with rfl | rfl | rfl
    · exact nL
    · exact nD
    · exact nU
end
def v38 (ss : List Sg) (lt sl : Int) (tn : Bool) : Vw := [("ann", .pl ss), ("bo", .cn "ann" lt sl tn)]
theorem nb_ne : ¬ ((Str.ofString "bo") = (Str.ofString "ann")) := by decide +kernel
theorem f38a (ss : List Sg) (lt sl : Int) (tn : Bool) : findV (v38 ss lt sl tn) "ann" = some (.pl ss) := by
  unfold findV v38
  rw [List.find?_cons_of_pos (p := fun q : Str × Th => decide (q.1 = "ann")) (decide_eq_true rfl)]
  rfl
theorem f38b (ss : List Sg) (lt sl : Int) (tn : Bool) : findV (v38 ss lt sl tn) "bo" = some (.cn "ann" lt sl tn) := by
  unfold findV v38
  rw [List.find?_cons_of_neg (p := fun q : Str × Th => decide (q.1 = "bo")) (fun z => nb_ne (of_decide_eq_true z).symm), List.find?_cons_of_pos (p := fun q : Str × Th => decide (q.1 = "bo")) (decide_eq_true rfl)]
  rfl
theorem s38 (ss ss' : List Sg) (lt sl : Int) (tn : Bool) : setV (v38 ss lt sl tn) "ann" (.pl ss') = v38 ss' lt sl tn := by
  unfold setV v38
  rw [List.map_cons, List.map_cons, List.map_nil, if_pos rfl, if_neg nb_ne]
theorem new38a : newOut [] "ann" = none := by
  unfold newOut
  rw [if_neg (by decide +kernel), if_neg (by show ¬ (Option.isSome (findV [] "ann") = true); unfold findV; simp), if_neg (by simp)]
theorem new38b : newOut [("ann", .pl [])] "bo" = none := by
  have hf : findV [("ann", .pl [])] "bo" = none := by
    unfold findV
    rw [List.find?_cons_of_neg (p := fun q : Str × Th => decide (q.1 = "bo")) (fun z => nb_ne (of_decide_eq_true z).symm)]
    rfl
  unfold newOut
  rw [if_neg (by decide +kernel), hf, if_neg (by simp), if_neg (by simp)]
theorem f38c : findV [("ann", Th.pl [])] "ann" = some (.pl []) := by
  unfold findV
  rw [List.find?_cons_of_pos (p := fun q : Str × Th => decide (q.1 = "ann")) (decide_eq_true rfl)]
  rfl
theorem dv38 {H : Hp} {d l tp : Addr} {ys : List V} {ss : List Sg} {lt sl : Int} {tn : Bool} (hd : H d = some (.dK [((Sum.inr (Str.ofString "ann") : Key), .ref l), ((Sum.inr (Str.ofString "bo") : Key), .ref tp)])) (hl : H l = some (.lst ys)) (g : Sgs H ys ss) (ht : H tp = some (.tup [.str "ann", .int lt, .int sl, .bl tn])) : DvAt H d (v38 ss lt sl tn) :=
  ⟨_, hd, .cons ⟨rfl, l, ys, rfl, hl, g⟩ (.cons ⟨rfl, tp, rfl, ht⟩ .nil)⟩
theorem ok_law {P : Program} {w : World} {K : PySem.W.Frag} {mg : Str → Option Value} {base : Heap} {t : Adr} (T : Txt K w mg t) : FnOk P w K mg base CX0 (0 + 9) t.f_law t.d_law ["_law_script"] (sp_law K) := by
  have G_Book___init__ := ok_Book___init__ (P := P) (w := w) (base := base) T
  have G_Book_add_voice := ok_Book_add_voice (P := P) (w := w) (base := base) T
  have G_l_sign_by := ok_l_sign_by (P := P) (w := w) (base := base) T
  have G_Book_put := ok_Book_put (P := P) (w := w) (base := base) T
  have G_Deed_undo := ok_Deed_undo (P := P) (w := w) (base := base) T
  have G_Book_undo := ok_Book_undo (P := P) (w := w) (base := base) T
  have G_Book_line := ok_Book_line (P := P) (w := w) (base := base) T
  have G_l_stands := ok_l_stands (P := P) (w := w) (base := base) T
  have G_l_line := ok_l_line (P := P) (w := w) (base := base) T
  have G_Book_add_canon := ok_Book_add_canon (P := P) (w := w) (base := base) T
  have G_l_cell_at := ok_l_cell_at (P := P) (w := w) (base := base) T
  have G_Book_kept := ok_Book_kept (P := P) (w := w) (base := base) T
  refine T.F_law.ok sc_law (fun vs H Q E h => ?_) (fun cdv A outer s H vs Q E hr h => ?_)
  · obtain ⟨a, ns, rfl, _⟩ := h
    rfl
  · obtain ⟨a, ns, rfl, hS, hl, q⟩ := h
    refine bodyOk (pss_cons (ps_set (i := 1) sc_law.nd rfl (Or.inl rfl) (pe_slice (sl_list.or (sl_tup.or sl_str)) (pe_call G_l_line (hr.mono (by decide)) rfl T.mg_l_line T.F_l_line.kp T.b_l_line .nil pass0 (pa_cons (pv 0) (pa_cons pe_int (pa_cons (pe_op op_mod (pe_call G_l_cell_at (hr.mono (by decide)) rfl T.mg_l_cell_at T.F_l_cell_at.kp T.b_l_cell_at .nil pass0 (pa_cons (pv 0) (pa_cons pe_int pa_nil))) pe_int) pa_nil)))) po_none (po_some pe_int))) (pss_cons (ps_set (i := 2) sc_law.nd rfl (Or.inl rfl) (pe_tup (pa_cons pe_str (pa_cons (pe_op op_mod (pe_call G_l_cell_at (hr.mono (by decide)) rfl T.mg_l_cell_at T.F_l_cell_at.kp T.b_l_cell_at .nil pass0 (pa_cons (pv 0) (pa_cons pe_int pa_nil))) pe_int) (pa_cons (pe_op (op_add.or (op_add_str.or op_cat)) pe_int (pe_op op_mod (pe_call G_l_cell_at (hr.mono (by decide)) rfl T.mg_l_cell_at T.F_l_cell_at.kp T.b_l_cell_at .nil pass0 (pa_cons (pv 0) (pa_cons pe_int pa_nil))) pe_int)) (pa_cons (pe_cmpR (op_eq.or (op_eqD (hu_of64 hr))) (pe_op op_mod (pe_call G_l_cell_at (hr.mono (by decide)) rfl T.mg_l_cell_at T.F_l_cell_at.kp T.b_l_cell_at .nil pass0 (pa_cons (pv 0) (pa_cons pe_int pa_nil))) pe_int) pe_int (nomark _)) pa_nil)))))) (pss_cons (ps_set (i := 3) sc_law.nd rfl (Or.inl rfl) (pe_make0 T.mk_Book G_Book___init__ (hr.mono (by decide)) rfl T.mg_Book T.b_Book___init__ .nil pass0)) (pss_cons (ps_expr (pe_meth (pv 3) T.cl_Book T.me_Book_add_voice G_Book_add_voice (hr.mono (by decide)) T.b_Book_add_voice .nil pass0 (pa_cons pe_str pa_nil))) (pss_cons (ps_mid (ps_if (pt_cmpR (op_eq.or (op_eqD (hu_of64 hr))) (pe_op op_mod (pe_op op_fdiv (pe_call G_l_cell_at (hr.mono (by decide)) rfl T.mg_l_cell_at T.F_l_cell_at.kp T.b_l_cell_at .nil pass0 (pa_cons (pv 0) (pa_cons pe_int pa_nil))) pe_int) pe_int) pe_int (nomark _)) (pss_cons (ps_set (i := 2) sc_law.nd rfl (Or.inl rfl) (pe_tup (pa_cons pe_str (pa_cons pe_int (pa_cons pe_int (pa_cons pe_bl pa_nil)))))) (pss_one (ps_expr (pe_meth (pv 3) T.cl_Book T.me_Book_add_canon G_Book_add_canon (hr.mono (by decide)) (dvs := [.int 0, .int 1, .bl false]) T.bd_Book_add_canon (.cons ⟨_, rfl⟩ (.cons ⟨_, rfl⟩ (.cons rfl (.nil)))) pass0 (pa_cons pe_str (pa_cons pe_str pa_nil)))))) (pss_one (ps_expr (pe_meth (pv 3) T.cl_Book T.me_Book_add_canon G_Book_add_canon (hr.mono (by decide)) T.b_Book_add_canon .nil pass0 (pa_cons pe_str (pa_cons pe_str (pa_cons (pe_ix ix_seq (pv 2) pe_int (fun _ _ => rfl)) (pa_cons (pe_ix ix_seq (pv 2) pe_int (fun _ _ => rfl)) (pa_cons (pe_ix ix_seq (pv 2) pe_int (fun _ _ => rfl)) pa_nil)))))))))) (pss_cons (ps_for PassesOwn.never rfl (pi_enum rfl T.nb_enumerate (pv 1)) (pg_tup rfl (pgs_cons (pg_name (i := 4) sc_law.nd rfl (Or.inl rfl)) (pgs_cons (pg_name (i := 5) sc_law.nd rfl (Or.inl rfl)) pgs_nil))) (pss_one (ps_expr (pe_meth (pv 3) T.cl_Book T.me_Book_put G_Book_put (hr.mono (by decide)) T.b_Book_put .nil pass0 (pa_cons pe_str (pa_cons (pv 4) (pa_cons (pv 5) pa_nil))))))) (pss_cons (ps_if (pt_not (pt_val (pe_call G_l_stands (hr.mono (by decide)) rfl T.mg_l_stands T.F_l_stands.kp T.b_l_stands .nil pass0 (pa_cons (pv 3) (pa_cons (pe_disp (pds_cons pe_str (pv 1) (pds_cons pe_str (pv 2) pds_nil)) rfl rfl (List.cons_ne_nil _ _) (by decide)) pa_nil))))) (pss_one (ps_ret pe_bl)) pss_nil) (pss_cons (ps_set (i := 4) sc_law.nd rfl (Or.inl rfl) (pe_op op_mod (pe_call G_l_cell_at (hr.mono (by decide)) rfl T.mg_l_cell_at T.F_l_cell_at.kp T.b_l_cell_at .nil pass0 (pa_cons (pv 0) (pa_cons pe_int pa_nil))) (pe_op (op_add.or (op_add_str.or op_cat)) (pe_callB (call_len_seq.or call_len_str) rfl T.nb_len bt_len (pa_cons (pv 1) pa_nil)) pe_int))) (pss_cons (ps_set (i := 5) sc_law.nd rfl (Or.inl rfl) (pe_call G_l_sign_by (hr.mono (by decide)) rfl T.mg_l_sign_by T.F_l_sign_by.kp T.b_l_sign_by .nil pass0 (pa_cons (pe_call G_l_cell_at (hr.mono (by decide)) rfl T.mg_l_cell_at T.F_l_cell_at.kp T.b_l_cell_at .nil pass0 (pa_cons (pv 0) (pa_cons pe_int pa_nil))) pa_nil))) (pss_cons (ps_expr (pe_meth (pv 3) T.cl_Book T.me_Book_put G_Book_put (hr.mono (by decide)) T.b_Book_put .nil pass0 (pa_cons pe_str (pa_cons (pv 4) (pa_cons (pv 5) pa_nil))))) (pss_cons (ps_if (pt_not (pt_val (pe_call G_l_stands (hr.mono (by decide)) rfl T.mg_l_stands T.F_l_stands.kp T.b_l_stands .nil pass0 (pa_cons (pv 3) (pa_cons (pe_disp (pds_cons pe_str (pe_op (op_add.or (op_add_str.or op_cat)) (pe_op (op_add.or (op_add_str.or op_cat)) (pe_slice (sl_list.or (sl_tup.or sl_str)) (pv 1) po_none (po_some (pv 4))) (pe_lst (pa_cons (pv 5) pa_nil))) (pe_slice (sl_list.or (sl_tup.or sl_str)) (pv 1) (po_some (pv 4)) po_none)) (pds_cons pe_str (pv 2) pds_nil)) rfl rfl (List.cons_ne_nil _ _) (by decide)) pa_nil))))) (pss_one (ps_ret pe_bl)) pss_nil) (pss_cons (ps_expr (pe_meth0 (pv 3) T.cl_Book T.me_Book_undo G_Book_undo (hr.mono (by decide)) T.b_Book_undo .nil pass0)) (pss_cons (ps_if (pt_not (pt_val (pe_call G_l_stands (hr.mono (by decide)) rfl T.mg_l_stands T.F_l_stands.kp T.b_l_stands .nil pass0 (pa_cons (pv 3) (pa_cons (pe_disp (pds_cons pe_str (pv 1) (pds_cons pe_str (pv 2) pds_nil)) rfl rfl (List.cons_ne_nil _ _) (by decide)) pa_nil))))) (pss_one (ps_ret pe_bl)) pss_nil) (pss_cons (ps_set (i := 6) sc_law.nd rfl (Or.inl rfl) (pe_meth (pv 3) T.cl_Book T.me_Book_line G_Book_line (hr.mono (by decide)) T.b_Book_line .nil pass0 (pa_cons pe_str pa_nil))) (pss_cons (ps_expr (pe_bm PySem.F.plainAttrs_list PySem.F.slot_list_append PySem.F.type_list_append mt_append (pv 6) (pa_cons (pe_tup (pa_cons pe_str (pa_cons pe_int pa_nil))) pa_nil))) (pss_cons (ps_expr (pe_bm PySem.F.plainAttrs_list PySem.F.slot_list_append PySem.F.type_list_append mt_append (pe_meth (pv 3) T.cl_Book T.me_Book_kept G_Book_kept (hr.mono (by decide)) T.b_Book_kept .nil pass0 (pa_cons pe_str pa_nil)) (pa_cons pe_int pa_nil))) (pss_one (ps_ret (pe_call G_l_stands (hr.mono (by decide)) rfl T.mg_l_stands T.F_l_stands.kp T.b_l_stands .nil pass0 (pa_cons (pv 3) (pa_cons (pe_disp (pds_cons pe_str (pv 1) (pds_cons pe_str (pv 2) pds_nil)) rfl rfl (List.cons_ne_nil _ _) (by decide)) pa_nil))))))))))))))))))))) ?_
    (repeat array_get_dec)
    refine ⟨a, ns, 1, rfl, hS, hl, ?_⟩
    obtain ⟨m, hm, hm31⟩ := modN (cellN ns 1) (k := 25) (by decide)
    have hm' : (fun i j : Int => V.int (i % j)) (cellN ns 1) 25 = V.int (m : Int) := congrArg V.int hm
    (repeat array_get_dec)
    rw [hm']
    refine ⟨a, ns, 7, m, rfl, hS, hl, by omega, fun l0 xs0 ss0 H1 s1 n1 h1 g1 gt1 len1 => ?_⟩
    (repeat array_get_dec)
    refine .inl ⟨l0, xs0, rfl, SqL.of h1, fun l hl0 => ?_⟩
    rw [show cutV xs0 none (some 24) = xs0.take 24 from cutTo xs0 24]
    have s2 := s1.trans (Same.upd (o := .lst (xs0.take 24)) hl0)
    have h2 : upd H1 l (.lst (xs0.take 24)) l = some (.lst (xs0.take 24)) := upd_same
    have g2 : Sgs (upd H1 l (.lst (xs0.take 24))) (xs0.take 24) (ss0.take 24) := Sgs.same (Same.upd (o := .lst (xs0.take 24)) hl0) (ptake 24 g1)
    have gt2 : ∀ s ∈ ss0.take 24, GoodT s := fun s hs => gt1 s (List.mem_of_mem_take hs)
    have len2 : (ss0.take 24).length ≤ 24 := by rw [List.length_take]; omega
    generalize upd H1 l (.lst (xs0.take 24)) = H2 at s2 h2 g2
    generalize xs0.take 24 = xs at h2 g2
    generalize ss0.take 24 = ss at g2 gt2 len2
    have xl := plen g2
    (repeat array_get_dec)
    refine ⟨a, ns, 2, rfl, s2.seq hS, hl, ?_⟩
    (repeat array_get_dec)
    refine ⟨a, ns, 3, rfl, s2.seq hS, hl, ?_⟩
    (repeat array_get_dec)
    refine ⟨a, ns, 0, rfl, s2.seq hS, hl, ?_⟩
    (repeat array_get_dec)
    refine ⟨by show 4 ≤ sizeLine; decide, fun tp htp => ?_⟩
    obtain ⟨lt, hlt⟩ : ∃ z, z = cellN ns 2 % 1000 := ⟨_, rfl⟩
    obtain ⟨sl, hsl⟩ : ∃ z, z = 1 + cellN ns 3 % 9 := ⟨_, rfl⟩
    obtain ⟨tn, htn⟩ : ∃ z, z = decide (V.int (cellN ns 0 % 2) = V.int 1) := ⟨_, rfl⟩
    have e3 : upd H2 tp (.tup [V.str "ann", V.int (cellN ns 2 % 1000), V.int (1 + cellN ns 3 % 9), V.bl (decide (V.int (cellN ns 0 % 2) = V.int 1))]) = upd H2 tp (.tup [V.str "ann", V.int lt, V.int sl, V.bl tn]) := by rw [hlt, hsl, htn]
    have tk : TermOk lt sl := by
      unfold TermOk
      omega
    have s3 := Same.upd (o := .tup [V.str "ann", V.int lt, V.int sl, V.bl tn]) htp
    have ht3 := upd_same (H := H2) (a := tp) (o := .tup [V.str "ann", V.int lt, V.int sl, V.bl tn])
    have hH3 : ∃ H3, H3 = upd H2 tp (.tup [V.str "ann", V.int (cellN ns 2 % 1000), V.int (1 + cellN ns 3 % 9), V.bl (decide (V.int (cellN ns 0 % 2) = V.int 1))]) := ⟨_, rfl⟩
    obtain ⟨H3, hH3⟩ := hH3
    refine hH3 ▸ ?_
    rw [← e3, ← hH3] at s3 ht3
    clear e3 hH3 hlt hsl htn
    have S3 := s2.trans s3
    intro x dx nx ndx _
    refine ⟨x, dx, rfl, upd_same, fun L D U H4 kp4 nL nD nU LD LU DU hx4 hL4 hD4 hU4 => ⟨rfl, ?_⟩⟩
    have s4 := mkSame nx ndx kp4
    have B4 : Bw (cs t) H3 H4 x [] [] [] [] := Bw.new hx4 hL4 hD4 hU4 LD LU DU s4 (mkFree nL) (mkFree nD) (mkFree nU)
    clear kp4 nL nD nU LD LU DU hL4 hD4 hU4 s4
    obtain ⟨F4, b4, f4, z4, o4⟩ := B4.ex
    refine ⟨_, rfl, x, dx, _, rfl, hx4, boF_no_add_voice _ _ _, x, F4, [], [], [], "ann", rfl, b4, by decide +kernel, by simp, ?_⟩
    rw [new38a]
    intro F5 H5 gr5 fr5 b5
    obtain ⟨B5, k5⟩ := Bw.mk' b5 B4.sm f4 z4 o4 gr5 fr5
    have h3 := s3 _ _ h2
    have g3 := g2.same s3
    clear hx4 b4 f4 z4 o4 gr5 fr5 b5 k5 B4 F5
    refine ⟨fun σ H' => ∃ (tp' : Addr) (lt' sl' : Int) (tn' : Bool) (ps : List Vw), σ = [some (.ref a), some (.ref l), some (.ref tp'), some (.ref x), none, none, none] ∧ Bw (cs t) H3 H' x [] (v38 [] lt' sl' tn') ps [] ∧ H' tp' = some (.tup [.str "ann", .int lt', .int sl', .bl tn']) ∧ ps.length ≤ 2, ?_, ?_⟩
    · (repeat array_get_dec)
      refine ⟨a, ns, 0, rfl, (S3.trans B5.sm).seq hS, hl, ?_⟩
      (repeat array_get_dec)
      refine ite2 (fun hc => ?_) (fun hc => ?_)
      · refine ⟨by show 4 ≤ sizeLine; decide, fun tq htq => ?_⟩
        have s6 := Same.upd (o := .tup [V.str "ann", V.int 0, V.int 1, V.bl false]) htq
        have h6 := upd_same (H := H5) (a := tq) (o := .tup [V.str "ann", V.int 0, V.int 1, V.bl false])
        generalize upd H5 tq (.tup [V.str "ann", V.int 0, V.int 1, V.bl false]) = H6 at s6 h6
        have B6 := B5.same s6
        obtain ⟨dx6, L6, D6, U6, hx6⟩ := B6.hx
        obtain ⟨F6, b6, f6, z6, o6⟩ := B6.ex
        refine ⟨_, rfl, x, dx6, _, rfl, hx6, boF_no_add_canon _ _ _, x, F6, _, _, [], "bo", "ann", 0, 1, false, rfl, b6, by decide +kernel, by simp, ?_⟩
        show match newOut [("ann", .pl [])] "bo" with | some r => _ | none => _
        rw [new38b, show findV ([] ++ [(Str.ofString "ann", Th.pl [])]) (Str.ofString "ann") = some (.pl []) from f38c]
        refine ⟨fun z => absurd (by decide) z, fun _ F7 H7 gr7 fr7 b7 => ?_⟩
        obtain ⟨B7, k7⟩ := Bw.mk' b7 B6.sm f6 z6 o6 gr7 fr7
        exact ⟨tq, 0, 1, false, _, rfl, B7, k7.tup h6, by simp⟩
      · obtain ⟨dx6, L6, D6, U6, hx6⟩ := B5.hx
        obtain ⟨F6, b6, f6, z6, o6⟩ := B5.ex
        have ht5 := B5.sm _ _ ht3
        refine ⟨_, rfl, x, dx6, _, rfl, hx6, boF_no_add_canon _ _ _, _, rfl, ixT4 (i := 1) ht5 rfl ?_⟩
        refine ⟨_, rfl, ixT4 (i := 2) ht5 rfl ?_⟩
        refine ⟨_, rfl, ixT4 (i := 3) ht5 rfl ?_⟩
        refine ⟨x, F6, _, _, [], "bo", "ann", lt, sl, tn, rfl, b6, by decide +kernel, by simp, ?_⟩
        show match newOut [("ann", .pl [])] "bo" with | some r => _ | none => _
        rw [new38b, show findV ([] ++ [(Str.ofString "ann", Th.pl [])]) (Str.ofString "ann") = some (.pl []) from f38c]
        refine ⟨fun z => absurd tk z, fun _ F7 H7 gr7 fr7 b7 => ?_⟩
        obtain ⟨B7, k7⟩ := Bw.mk' b7 B5.sm f6 z6 o6 gr7 fr7
        exact ⟨tp, lt, sl, tn, _, rfl, B7, k7.tup ht5, by simp⟩
    clear tk ht3 lt sl tn B5 htp tp
    rintro σ H6 ⟨tp, lt, sl, tn, ps6, rfl, B6, ht6, pl6⟩
    (repeat array_get_dec)
    refine ⟨⟨_, SqL.of (B6.sm _ _ h3)⟩, for_enum (K := K) (xs := xs) (fun i σ H' => ∃ (u v : Option V) (ps : List Vw), σ = [some (.ref a), some (.ref l), some (.ref tp), some (.ref x), u, v, none] ∧ Bw (cs t) H3 H' x [] (v38 (ss.take i) lt sl tn) ps [] ∧ H' tp = some (.tup [.str "ann", .int lt, .int sl, .bl tn]) ∧ ps.length ≤ 2 + i) ⟨none, none, ps6, rfl, B6, ht6, pl6⟩ ?_ ?_ ?_⟩
    · rintro i σ H7 ⟨u, v, ps, rfl, B7, _⟩
      exact SqL.of (B7.sm _ _ h3)
    · rintro i y τ σ H7 hy ⟨u, v, ps, rfl, B7, ht7, pl7⟩ hτ
      obtain ⟨sg, hsg, p, rfl, hp⟩ := pget g3 hy
      have hi : i < ss.length := (List.getElem?_eq_some_iff.mp hsg).1
      have s8 := Same.upd (o := .tup [.int (i : Int), .ref p]) hτ
      have hτ8 := upd_same (H := H7) (a := τ) (o := .tup [.int (i : Int), .ref p])
      generalize upd H7 τ (.tup [.int (i : Int), .ref p]) = H8 at s8 hτ8
      have B8 := B7.same s8
      obtain ⟨dx8, L8, D8, U8, hx8⟩ := B8.hx
      obtain ⟨F8, b8, f8, z8, o8⟩ := B8.ex
      have til : (ss.take i).length = i := by rw [List.length_take]; omega
      refine ⟨τ, _, rfl, SqT.of hτ8, rfl, _, _, rfl, _, _, rfl, rfl, ?_⟩
      refine ⟨_, rfl, x, dx8, _, rfl, hx8, boF_no_put _ _ _, _, rfl, _, rfl, ?_⟩
      refine ⟨x, F8, _, ps, [], "ann", (i : Int), p, (sg.1.str, sg.2), rfl, b8, B8.sm _ _ hp, by omega, ?_⟩
      rw [f38a]
      have gd := good_sg (gt2 sg (List.mem_of_getElem? hsg))
      refine ⟨(fun z => absurd ⟨by omega, by rw [til]; omega⟩ z), (fun _ z => by rw [gd] at z; cases z), (fun _ _ z => by rw [til] at z; omega), fun _ _ _ s9 w F9 H9 e1 e2 gr9 fr9 b9 => ?_⟩
      have es : s9 = sg := Prod.ext (str_inj.mp e1) e2
      subst es
      rw [Int.toNat_natCast, put_end hsg, s38] at b9
      obtain ⟨B9, k9⟩ := Bw.mk' b9 B8.sm f8 z8 o8 gr9 fr9
      exact ⟨_, _, _, rfl, B9, k9.tup (s8 _ _ ht7), by rw [List.length_append]; show ps.length + 1 ≤ _; omega⟩
    rintro σ H7 ⟨u, v, ps7, rfl, B7, ht7, pl7⟩
    rw [xl, List.take_length] at B7
    have m2 : ∀ (p1 p2 : Addr), mergeK [] [((Sum.inr (Str.ofString "ann") : Key), V.ref p1), ((Sum.inr (Str.ofString "bo") : Key), V.ref p2)] = [((Sum.inr (Str.ofString "ann") : Key), V.ref p1), ((Sum.inr (Str.ofString "bo") : Key), V.ref p2)] := fun p1 p2 => merge2 (fun z => nb_ne z.symm) _ _
    refine ⟨_, rfl, fun dd hdd => ⟨_, rfl, _, rfl, upd_same, [((Sum.inr (Str.ofString "ann") : Key), V.ref l), ((Sum.inr (Str.ofString "bo") : Key), V.ref tp)], rfl, by show 2 ≤ 15; decide, ?_⟩⟩
    rw [m2, upd_upd]
    have s8 := Same.upd (o := .dK [((Sum.inr (Str.ofString "ann") : Key), V.ref l), ((Sum.inr (Str.ofString "bo") : Key), V.ref tp)]) hdd
    have hd8 := upd_same (H := H7) (a := dd) (o := .dK [((Sum.inr (Str.ofString "ann") : Key), V.ref l), ((Sum.inr (Str.ofString "bo") : Key), V.ref tp)])
    generalize upd H7 dd (.dK [((Sum.inr (Str.ofString "ann") : Key), V.ref l), ((Sum.inr (Str.ofString "bo") : Key), V.ref tp)]) = H8 at s8 hd8
    have B8 := B7.same s8
    obtain ⟨F8, b8, f8, z8, o8⟩ := B8.ex
    refine ⟨x, dd, F8, _, _, _, rfl, b8, dv38 hd8 (B8.sm _ _ h3) (g3.same B8.sm) (s8 _ _ ht7), fun H9 s9 => ⟨_, rfl, iteF ?_⟩⟩
    have B9 := B8.same s9
    have ht9 := s9 _ _ (s8 _ _ ht7)
    clear b8 f8 z8 o8 hd8 hdd dd F8 B8 s8
    (repeat array_get_dec)
    refine ⟨a, ns, 4, rfl, (S3.trans B9.sm).seq hS, hl, ?_⟩
    refine ⟨_, rfl, .inl ⟨l, xs, rfl, .inl (SqL.of (B9.sm _ _ h3)), .inl ⟨_, _, rfl, rfl, _, _, rfl, rfl, (by omega), ?_⟩⟩⟩
    obtain ⟨k, hkI, hk⟩ := modN (cellN ns 4) (k := (xs.length : Int) + 1) (by omega)
    rw [show (fun i j : Int => V.int (i % j)) (cellN ns 4) ((xs.length : Int) + 1) = V.int (k : Int) from congrArg V.int hkI]
    (repeat array_get_dec)
    refine ⟨a, ns, 5, rfl, (S3.trans B9.sm).seq hS, hl, ?_⟩
    refine ⟨_, rfl, fun ps sg gts hps => ?_⟩
    have s10 := Same.upd (o := .tup [.str sg.1.str, .int sg.2]) hps
    have hp10 := upd_same (H := H9) (a := ps) (o := .tup [.str sg.1.str, .int sg.2])
    generalize upd H9 ps (.tup [.str sg.1.str, .int sg.2]) = H10 at s10 hp10
    have B10 := B9.same s10
    have ht10 := s10 _ _ ht9
    obtain ⟨dx10, L10, D10, U10, hx10⟩ := B10.hx
    obtain ⟨F10, b10, f10, z10, o10⟩ := B10.ex
    refine ⟨_, rfl, x, dx10, _, rfl, hx10, boF_no_put _ _ _, _, rfl, _, rfl, ?_⟩
    refine ⟨x, F10, _, ps7, [], "ann", (k : Int), ps, (sg.1.str, sg.2), rfl, b10, hp10, by omega, ?_⟩
    rw [f38a]
    have gd := good_sg gts
    refine ⟨(fun z => absurd ⟨by omega, by omega⟩ z), (fun _ z => by rw [gd] at z; cases z), (fun _ _ z => by omega), fun _ _ _ s11 w F11 H11 e1 e2 gr11 fr11 b11 => ?_⟩
    have es : s11 = sg := Prod.ext (str_inj.mp e1) e2
    subst es
    rw [Int.toNat_natCast, s38] at b11
    obtain ⟨B11, k11⟩ := Bw.mk' b11 B10.sm f10 z10 o10 gr11 fr11
    have ht11 := k11.tup ht10
    have hp11 := k11.tup hp10
    have l11 := B11.sm _ _ h3
    have g11 := g3.same B11.sm
    clear b10 f10 z10 o10 gr11 fr11 b11 F11 F10
    refine ⟨_, rfl, fun dd hdd => ?_⟩
    have sd := Same.upd (o := .dK []) hdd
    have hd0 := upd_same (H := H11) (a := dd) (o := .dK [])
    generalize upd H11 dd (.dK []) = H12 at sd hd0
    refine ⟨_, rfl, _, rfl, k, rfl, .inl ⟨l, xs, rfl, SqL.of (sd _ _ l11), fun c1 hc1 => ?_⟩⟩
    rw [cutTo]
    have S1 := Same.upd (o := .lst (xs.take k)) hc1
    have k1 := upd_same (H := H12) (a := c1) (o := .lst (xs.take k))
    generalize upd H12 c1 (.lst (xs.take k)) = H13 at S1 k1
    refine ⟨_, rfl, big (by show 1 ≤ 1000; omega), fun c2 hc2 => ?_⟩
    have S2 := Same.upd (o := .lst [V.ref ps]) hc2
    have k2 := upd_same (H := H13) (a := c2) (o := .lst [V.ref ps])
    generalize upd H13 c2 (.lst [V.ref ps]) = H14 at S2 k2
    refine .inr (.inr ⟨c1, c2, _, _, rfl, rfl, S2 _ _ k1, k2, ?_, fun c3 hc3 => ?_⟩)
    · exact big (by rw [List.length_take]; show _ + 1 ≤ 1000; omega)
    have S3' := Same.upd (o := .lst (xs.take k ++ [V.ref ps])) hc3
    have k3 := upd_same (H := H14) (a := c3) (o := .lst (xs.take k ++ [V.ref ps]))
    generalize upd H14 c3 (.lst (xs.take k ++ [V.ref ps])) = H15 at S3' k3
    have SS := ((sd.trans S1).trans S2).trans S3'
    refine ⟨_, rfl, _, rfl, k, rfl, .inl ⟨l, xs, rfl, SqL.of (SS _ _ l11), fun c4 hc4 => ?_⟩⟩
    rw [cutFrom xs k (by omega)]
    have S4 := Same.upd (o := .lst (xs.drop k)) hc4
    have k4 := upd_same (H := H15) (a := c4) (o := .lst (xs.drop k))
    generalize upd H15 c4 (.lst (xs.drop k)) = H16 at S4 k4
    refine .inr (.inr ⟨c3, c4, _, _, rfl, rfl, S4 _ _ k3, k4, ?_, fun c5 hc5 => ?_⟩)
    · exact big (by simp only [List.length_append, List.length_take, List.length_drop, List.length_singleton]; omega)
    have S5 := Same.upd (o := .lst (xs.take k ++ [V.ref ps] ++ xs.drop k)) hc5
    have k5 := upd_same (H := H16) (a := c5) (o := .lst (xs.take k ++ [V.ref ps] ++ xs.drop k))
    generalize upd H16 c5 (.lst (xs.take k ++ [V.ref ps] ++ xs.drop k)) = H17 at S5 k5
    have SA := (SS.trans S4).trans S5
    have hd17 := S5 _ _ (S4 _ _ (S3' _ _ (S2 _ _ (S1 _ _ hd0))))
    refine ⟨_, rfl, hd17, [((Sum.inr (Str.ofString "ann") : Key), V.ref c5), ((Sum.inr (Str.ofString "bo") : Key), V.ref tp)], rfl, by show 2 ≤ 15; decide, ?_⟩
    rw [m2]
    have ndd : c5 ≠ dd := ne_of k5 hd17 (by intro z; cases z)
    have S18 : Same H11 (upd H17 dd (.dK [((Sum.inr (Str.ofString "ann") : Key), V.ref c5), ((Sum.inr (Str.ofString "bo") : Key), V.ref tp)])) := sameOwn SA hdd
    have hd18 := upd_same (H := H17) (a := dd) (o := .dK [((Sum.inr (Str.ofString "ann") : Key), V.ref c5), ((Sum.inr (Str.ofString "bo") : Key), V.ref tp)])
    have k18 : upd H17 dd (.dK [((Sum.inr (Str.ofString "ann") : Key), V.ref c5), ((Sum.inr (Str.ofString "bo") : Key), V.ref tp)]) c5 = some (.lst (xs.take k ++ [V.ref ps] ++ xs.drop k)) := by rw [upd_ne ndd]; exact k5
    generalize upd H17 dd (.dK [((Sum.inr (Str.ofString "ann") : Key), V.ref c5), ((Sum.inr (Str.ofString "bo") : Key), V.ref tp)]) = H18 at S18 hd18 k18
    have B18 := B11.same S18
    obtain ⟨F18, b18, f18, z18, o18⟩ := B18.ex
    refine ⟨x, dd, F18, _, _, _, rfl, b18, dv38 hd18 k18 (Sgs.same S18 (papp (papp (ptake k g11) (.cons ⟨ps, rfl, hp11⟩ .nil)) (pdrop k g11))) (S18 _ _ ht11), fun H19 s19 => ⟨_, rfl, iteF ?_⟩⟩
    have B19 := B18.same s19
    have ht19 := s19 _ _ (S18 _ _ ht11)
    clear b18 f18 z18 o18
    obtain ⟨dx19, L19, D19, U19, hx19⟩ := B19.hx
    obtain ⟨F19, b19, f19, z19, o19⟩ := B19.ex
    refine ⟨_, rfl, x, dx19, _, rfl, hx19, boF_no_undo _ _ _, ?_⟩
    refine ⟨x, F19, _, _, [], rfl, b19, by rw [List.length_append]; show ps7.length + 1 + 0 ≤ 900; omega, (fun z => by simp at z), fun ps0 v0 e0 H20 fr20 b20 => ?_⟩
    obtain ⟨e01, e02⟩ := snoc_inj e0
    subst e01 e02
    obtain ⟨B20, k20⟩ := Bw.mk' b20 B19.sm f19 z19 o19 (Gr.refl _ _) fr20
    have ht20 := k20.tup ht19
    clear b19 f19 z19 o19 fr20 b20
    refine ⟨_, rfl, fun dd hdd => ⟨_, rfl, _, rfl, upd_same, [((Sum.inr (Str.ofString "ann") : Key), V.ref l), ((Sum.inr (Str.ofString "bo") : Key), V.ref tp)], rfl, by show 2 ≤ 15; decide, ?_⟩⟩
    rw [m2, upd_upd]
    have s21 := Same.upd (o := .dK [((Sum.inr (Str.ofString "ann") : Key), V.ref l), ((Sum.inr (Str.ofString "bo") : Key), V.ref tp)]) hdd
    have hd21 := upd_same (H := H20) (a := dd) (o := .dK [((Sum.inr (Str.ofString "ann") : Key), V.ref l), ((Sum.inr (Str.ofString "bo") : Key), V.ref tp)])
    generalize upd H20 dd (.dK [((Sum.inr (Str.ofString "ann") : Key), V.ref l), ((Sum.inr (Str.ofString "bo") : Key), V.ref tp)]) = H21 at s21 hd21
    have B21 := B20.same s21
    obtain ⟨F21, b21, _⟩ := B21.ex
    refine ⟨x, dd, F21, _, _, _, rfl, b21, dv38 hd21 (B21.sm _ _ h3) (g3.same B21.sm) (s21 _ _ ht20), fun H22 s22 => ⟨_, rfl, iteF ?_⟩⟩
    have B22 := B21.same s22
    have ht22 := s22 _ _ (s21 _ _ ht20)
    obtain ⟨dx22, L22, D22, U22, hx22⟩ := B22.hx
    obtain ⟨F22, b22, _⟩ := B22.ex
    have wv := B22.wv
    refine ⟨_, rfl, x, dx22, _, rfl, hx22, boF_no_line _ _ _, x, F22, _, _, _, "bo", rfl, b22, ?_⟩
    rw [f38b]
    intro fo ys23 H23 nfo s23 h23 g23
    have y23 := plen g23
    have ll := line_len wv "bo"
    refine ⟨_, rfl, .inl ⟨rfl, _, SqL.of h23⟩, (by show 2 ≤ sizeLine; decide), fun t5 ht5 => ?_⟩
    have st5 := Same.upd (o := .tup [V.str "s", V.int 5]) ht5
    refine ⟨fo, _, _, rfl, rfl, st5 _ _ h23, small1000 (by omega), ?_⟩
    have s24 : Same H22 (upd (upd H23 t5 (.tup [V.str "s", V.int 5])) fo (.lst (ys23 ++ [.ref t5]))) := sameOwn (s23.trans st5) nfo
    generalize upd (upd H23 t5 (.tup [V.str "s", V.int 5])) fo (.lst (ys23 ++ [.ref t5])) = H24 at s24
    have b24 := b22.same s24
    refine ⟨_, rfl, x, dx22, _, rfl, s24 _ _ hx22, boF_no_kept _ _ _, x, F22, _, _, _, "bo", rfl, b24, ?_⟩
    rw [f38b]
    intro k25 H25 nk25 s25 h25
    have kl := kept_len wv "bo"
    refine ⟨.inl ⟨rfl, _, SqL.of h25⟩, k25, _, _, rfl, rfl, h25, small1000 (by rw [List.length_map]; omega), ?_⟩
    have s26 : Same H24 (upd H25 k25 (.lst ((keptV (v38 ss lt sl tn) "bo").map V.int ++ [V.int 5]))) := sameOwn s25 nk25
    generalize upd H25 k25 (.lst ((keptV (v38 ss lt sl tn) "bo").map V.int ++ [V.int 5])) = H26 at s26
    have B26 := B22.same (s24.trans s26)
    have ht26 := (s24.trans s26) _ _ ht22
    refine ⟨_, rfl, fun dd hdd => ⟨_, rfl, _, rfl, upd_same, [((Sum.inr (Str.ofString "ann") : Key), V.ref l), ((Sum.inr (Str.ofString "bo") : Key), V.ref tp)], rfl, by show 2 ≤ 15; decide, ?_⟩⟩
    rw [m2, upd_upd]
    have s27 := Same.upd (o := .dK [((Sum.inr (Str.ofString "ann") : Key), V.ref l), ((Sum.inr (Str.ofString "bo") : Key), V.ref tp)]) hdd
    have hd27 := upd_same (H := H26) (a := dd) (o := .dK [((Sum.inr (Str.ofString "ann") : Key), V.ref l), ((Sum.inr (Str.ofString "bo") : Key), V.ref tp)])
    generalize upd H26 dd (.dK [((Sum.inr (Str.ofString "ann") : Key), V.ref l), ((Sum.inr (Str.ofString "bo") : Key), V.ref tp)]) = H27 at s27 hd27
    have B27 := B26.same s27
    obtain ⟨F27, b27, _⟩ := B27.ex
    exact ⟨x, dd, F27, _, _, _, rfl, b27, dv38 hd27 (B27.sm _ _ h3) (g3.same B27.sm) (s27 _ _ ht26), fun H28 s28 => q _⟩
end Mine
namespace Mine
open PySem L2
theorem all_mk {l : PySem.W.OpenLaw} {w : World} {K : PySem.W.Frag} {h : Heap} {mg : Str → Option Value} {fa C_Voice C_Deed C_Book f_Book___init__ f_is_name f_Book_names f_Book_refuse_new f_Deed_do f_Book_perform f_Deed___init__ f_Book_put_in f_Voice___init__ f_Book_add_voice f_l_sign_by f_refuse_other_places f_good f_refuse_bad_sign f_small f_low_end f_high_end f_sets_measure f_window f_Book_voice_called f_Book_plain_voice f_Book_put f_Deed_undo f_Book_undo f_Book_canon f_turned f_Book_line f_l_whole f_l_signs f_l_nums f_measures df_measures f_kind_at f_plain_worth f_worths_without_runs f_runs df_runs f_has_left_note f_has_right_note f_settle_one_over f_settle_two_over f_settle_run f_reading f_worths df_worths f_Book_kept f_l_line_of f_l_base f_l_three f_l_run f_l_read f_l_kept_of f_l_stands f_l_cell_at f_l_mixed f_l_numbers f_l_line f_Book_add_canon df_Book_add_canon f_law a_GREAT_KINDS a_SMALL_KINDS a_PARTING_KINDS a_MEASURE_KINDS a_SOUNDING_KINDS a_SILENT_KINDS a_TURNED_KINDS a_PLAIN_WORTHS a_TWOFOLD_WORTHS : Addr} (X : K.In h) (G : h.Ns mainGlobals mg) (hfa : mg "law" = some (.ref fa))
    {od_Book___init__ an_Book___init__ od_is_name an_is_name od_Book_names an_Book_names od_Book_refuse_new an_Book_refuse_new od_Deed_do an_Deed_do od_Book_perform an_Book_perform od_Deed___init__ an_Deed___init__ od_Book_put_in an_Book_put_in od_Voice___init__ an_Voice___init__ od_Book_add_voice an_Book_add_voice od_l_sign_by an_l_sign_by od_refuse_other_places an_refuse_other_places od_good an_good od_refuse_bad_sign an_refuse_bad_sign od_small an_small od_low_end an_low_end od_high_end an_high_end od_sets_measure an_sets_measure od_window an_window od_Book_voice_called an_Book_voice_called od_Book_plain_voice an_Book_plain_voice od_Book_put an_Book_put od_Deed_undo an_Deed_undo od_Book_undo an_Book_undo od_Book_canon an_Book_canon od_turned an_turned od_Book_line an_Book_line od_l_whole an_l_whole od_l_signs an_l_signs od_l_nums an_l_nums od_measures an_measures ddo_measures od_kind_at an_kind_at od_plain_worth an_plain_worth od_worths_without_runs an_worths_without_runs od_runs an_runs ddo_runs od_has_left_note an_has_left_note od_has_right_note an_has_right_note od_settle_one_over an_settle_one_over od_settle_two_over an_settle_two_over od_settle_run an_settle_run od_reading an_reading od_worths an_worths ddo_worths od_Book_kept an_Book_kept od_l_line_of an_l_line_of od_l_base an_l_base od_l_three an_l_three od_l_run an_l_run od_l_read an_l_read od_l_kept_of an_l_kept_of od_l_stands an_l_stands od_l_cell_at an_l_cell_at od_l_mixed an_l_mixed od_l_numbers an_l_numbers od_l_line an_l_line od_Book_add_canon an_Book_add_canon ddo_Book_add_canon od_law an_law od_GREAT_KINDS od_SMALL_KINDS od_PARTING_KINDS od_MEASURE_KINDS od_SOUNDING_KINDS od_SILENT_KINDS : Option Addr} {sl_Book___init__ sl_is_name sl_Book_names sl_Book_refuse_new sl_Deed_do sl_Book_perform sl_Deed___init__ sl_Book_put_in sl_Voice___init__ sl_Book_add_voice sl_l_sign_by sl_refuse_other_places sl_good sl_refuse_bad_sign sl_small sl_low_end sl_high_end sl_sets_measure sl_window sl_Book_voice_called sl_Book_plain_voice sl_Book_put sl_Deed_undo sl_Book_undo sl_Book_canon sl_turned sl_Book_line sl_l_whole sl_l_signs sl_l_nums sl_measures dds_measures sl_kind_at sl_plain_worth sl_worths_without_runs sl_runs dds_runs sl_has_left_note sl_has_right_note sl_settle_one_over sl_settle_two_over sl_settle_run sl_reading sl_worths dds_worths sl_Book_kept sl_l_line_of sl_l_base sl_l_three sl_l_run sl_l_read sl_l_kept_of sl_l_stands sl_l_cell_at sl_l_mixed sl_l_numbers sl_l_line sl_Book_add_canon dds_Book_add_canon sl_law sl_GREAT_KINDS sl_SMALL_KINDS sl_PARTING_KINDS sl_MEASURE_KINDS sl_SOUNDING_KINDS sl_SILENT_KINDS : Array (Option Value)} {oc_Book___init__ kV_Book___init__ dc_Book___init__ pm_Book___init__ cd_Book___init__ ct_Book___init__ oc_is_name kV_is_name dc_is_name pm_is_name cd_is_name ct_is_name oc_Book_names kV_Book_names dc_Book_names pm_Book_names cd_Book_names ct_Book_names oc_Book_refuse_new kV_Book_refuse_new dc_Book_refuse_new pm_Book_refuse_new cd_Book_refuse_new ct_Book_refuse_new oc_Deed_do kV_Deed_do dc_Deed_do pm_Deed_do cd_Deed_do ct_Deed_do oc_Book_perform kV_Book_perform dc_Book_perform pm_Book_perform cd_Book_perform ct_Book_perform oc_Deed___init__ kV_Deed___init__ dc_Deed___init__ pm_Deed___init__ cd_Deed___init__ ct_Deed___init__ oc_Book_put_in kV_Book_put_in dc_Book_put_in pm_Book_put_in cd_Book_put_in ct_Book_put_in oc_Voice___init__ kV_Voice___init__ dc_Voice___init__ pm_Voice___init__ cd_Voice___init__ ct_Voice___init__ oc_Book_add_voice kV_Book_add_voice dc_Book_add_voice pm_Book_add_voice cd_Book_add_voice ct_Book_add_voice oc_l_sign_by kV_l_sign_by dc_l_sign_by pm_l_sign_by cd_l_sign_by ct_l_sign_by oc_refuse_other_places kV_refuse_other_places dc_refuse_other_places pm_refuse_other_places cd_refuse_other_places ct_refuse_other_places oc_good kV_good dc_good pm_good cd_good ct_good oc_refuse_bad_sign kV_refuse_bad_sign dc_refuse_bad_sign pm_refuse_bad_sign cd_refuse_bad_sign ct_refuse_bad_sign oc_small kV_small dc_small pm_small cd_small ct_small oc_low_end kV_low_end dc_low_end pm_low_end cd_low_end ct_low_end oc_high_end kV_high_end dc_high_end pm_high_end cd_high_end ct_high_end oc_sets_measure kV_sets_measure dc_sets_measure pm_sets_measure cd_sets_measure ct_sets_measure oc_window kV_window dc_window pm_window cd_window ct_window oc_Book_voice_called kV_Book_voice_called dc_Book_voice_called pm_Book_voice_called cd_Book_voice_called ct_Book_voice_called oc_Book_plain_voice kV_Book_plain_voice dc_Book_plain_voice pm_Book_plain_voice cd_Book_plain_voice ct_Book_plain_voice oc_Book_put kV_Book_put dc_Book_put pm_Book_put cd_Book_put ct_Book_put oc_Deed_undo kV_Deed_undo dc_Deed_undo pm_Deed_undo cd_Deed_undo ct_Deed_undo oc_Book_undo kV_Book_undo dc_Book_undo pm_Book_undo cd_Book_undo ct_Book_undo oc_Book_canon kV_Book_canon dc_Book_canon pm_Book_canon cd_Book_canon ct_Book_canon oc_turned kV_turned dc_turned pm_turned cd_turned ct_turned oc_Book_line kV_Book_line dc_Book_line pm_Book_line cd_Book_line ct_Book_line oc_l_whole kV_l_whole dc_l_whole pm_l_whole cd_l_whole ct_l_whole oc_l_signs kV_l_signs dc_l_signs pm_l_signs cd_l_signs ct_l_signs oc_l_nums kV_l_nums dc_l_nums pm_l_nums cd_l_nums ct_l_nums oc_measures kV_measures dc_measures pm_measures cd_measures ct_measures ddc_measures oc_kind_at kV_kind_at dc_kind_at pm_kind_at cd_kind_at ct_kind_at oc_plain_worth kV_plain_worth dc_plain_worth pm_plain_worth cd_plain_worth ct_plain_worth oc_worths_without_runs kV_worths_without_runs dc_worths_without_runs pm_worths_without_runs cd_worths_without_runs ct_worths_without_runs oc_runs kV_runs dc_runs pm_runs cd_runs ct_runs ddc_runs oc_has_left_note kV_has_left_note dc_has_left_note pm_has_left_note cd_has_left_note ct_has_left_note oc_has_right_note kV_has_right_note dc_has_right_note pm_has_right_note cd_has_right_note ct_has_right_note oc_settle_one_over kV_settle_one_over dc_settle_one_over pm_settle_one_over cd_settle_one_over ct_settle_one_over oc_settle_two_over kV_settle_two_over dc_settle_two_over pm_settle_two_over cd_settle_two_over ct_settle_two_over oc_settle_run kV_settle_run dc_settle_run pm_settle_run cd_settle_run ct_settle_run oc_reading kV_reading dc_reading pm_reading cd_reading ct_reading oc_worths kV_worths dc_worths pm_worths cd_worths ct_worths ddc_worths oc_Book_kept kV_Book_kept dc_Book_kept pm_Book_kept cd_Book_kept ct_Book_kept oc_l_line_of kV_l_line_of dc_l_line_of pm_l_line_of cd_l_line_of ct_l_line_of oc_l_base kV_l_base dc_l_base pm_l_base cd_l_base ct_l_base oc_l_three kV_l_three dc_l_three pm_l_three cd_l_three ct_l_three oc_l_run kV_l_run dc_l_run pm_l_run cd_l_run ct_l_run oc_l_read kV_l_read dc_l_read pm_l_read cd_l_read ct_l_read oc_l_kept_of kV_l_kept_of dc_l_kept_of pm_l_kept_of cd_l_kept_of ct_l_kept_of oc_l_stands kV_l_stands dc_l_stands pm_l_stands cd_l_stands ct_l_stands oc_l_cell_at kV_l_cell_at dc_l_cell_at pm_l_cell_at cd_l_cell_at ct_l_cell_at oc_l_mixed kV_l_mixed dc_l_mixed pm_l_mixed cd_l_mixed ct_l_mixed oc_l_numbers kV_l_numbers dc_l_numbers pm_l_numbers cd_l_numbers ct_l_numbers oc_l_line kV_l_line dc_l_line pm_l_line cd_l_line ct_l_line oc_Book_add_canon kV_Book_add_canon dc_Book_add_canon pm_Book_add_canon cd_Book_add_canon ct_Book_add_canon ddc_Book_add_canon oc_law kV_law dc_law pm_law cd_law ct_law : Value}
    {dt0_measures dt0_runs dt0_worths dt0_Book_add_canon dt1_Book_add_canon t0_GREAT_KINDS t1_GREAT_KINDS t2_GREAT_KINDS t0_SMALL_KINDS t1_SMALL_KINDS t2_SMALL_KINDS t0_PARTING_KINDS t1_PARTING_KINDS t2_PARTING_KINDS t0_MEASURE_KINDS t1_MEASURE_KINDS t0_SOUNDING_KINDS t1_SOUNDING_KINDS t2_SOUNDING_KINDS t3_SOUNDING_KINDS t0_SILENT_KINDS t1_SILENT_KINDS t2_SILENT_KINDS t3_SILENT_KINDS t4_SILENT_KINDS t_HIGHEST_TONE tv0_TURNED_KINDS tv1_TURNED_KINDS tk0_TURNED_KINDS tk1_TURNED_KINDS tv0_PLAIN_WORTHS tv1_PLAIN_WORTHS tv2_PLAIN_WORTHS tv3_PLAIN_WORTHS tv4_PLAIN_WORTHS tv5_PLAIN_WORTHS tv6_PLAIN_WORTHS tv7_PLAIN_WORTHS tv8_PLAIN_WORTHS tk0_PLAIN_WORTHS tk1_PLAIN_WORTHS tk2_PLAIN_WORTHS tk3_PLAIN_WORTHS tk4_PLAIN_WORTHS tk5_PLAIN_WORTHS tk6_PLAIN_WORTHS tk7_PLAIN_WORTHS tk8_PLAIN_WORTHS tv0_TWOFOLD_WORTHS tv1_TWOFOLD_WORTHS tk0_TWOFOLD_WORTHS tk1_TWOFOLD_WORTHS t_FULL_WORTH t_SHORTENED_WORTH t_DOUBLED_WORTH t_DOTTED_WORTH t_LETTERS t_LONGEST_NAME t_MOST_VOICES t_MOST_SIGNS t_LATEST t_SLOWEST : Tok}
    {ddn_measures ddn_runs ddn_worths ddn_Book_add_canon n_GREAT_KINDS n_SMALL_KINDS n_PARTING_KINDS n_MEASURE_KINDS n_SOUNDING_KINDS n_SILENT_KINDS n_TURNED_KINDS n_PLAIN_WORTHS n_TWOFOLD_WORTHS : Nat}
    (aC_Voice : PySem.W.nsIn K mainGlobals "Voice" = some (some (.ref C_Voice)))
    (aC_Deed : PySem.W.nsIn K mainGlobals "Deed" = some (some (.ref C_Deed)))
    (aC_Book : PySem.W.nsIn K mainGlobals "Book" = some (some (.ref C_Book)))
    (a_Book___init__ : PySem.W.findIn K (.ref C_Book) "__init__" = some (some (.ref f_Book___init__)))
    (l_Book___init__ : K.lookup f_Book___init__ = some ⟨oc_Book___init__, od_Book___init__, .func (PySem.W.fnOf "__init__" "Book.__init__" (defArgs s_Book___init__) (defBody s_Book___init__) (defScope s_Book___init__) .none kV_Book___init__ dc_Book___init__ pm_Book___init__ an_Book___init__ cd_Book___init__ ct_Book___init__), sl_Book___init__⟩)
    (c_Book___init__ : PySem.W.codeIn K cd_Book___init__ "Book.__init__" = true)
    (k_Book___init__ : PySem.W.keepIn K (.ref f_Book___init__) = true)
    (fn_Book___init__ : PySem.W.isFn K (.ref f_Book___init__) = true)
    (a_is_name : PySem.W.nsIn K mainGlobals "is_name" = some (some (.ref f_is_name)))
    (l_is_name : K.lookup f_is_name = some ⟨oc_is_name, od_is_name, .func (PySem.W.fnOf "is_name" "is_name" (defArgs s_is_name) (defBody s_is_name) (defScope s_is_name) .none kV_is_name dc_is_name pm_is_name an_is_name cd_is_name ct_is_name), sl_is_name⟩)
    (c_is_name : PySem.W.codeIn K cd_is_name "is_name" = true)
    (k_is_name : PySem.W.keepIn K (.ref f_is_name) = true)
    (a_Book_names : PySem.W.findIn K (.ref C_Book) "names" = some (some (.ref f_Book_names)))
    (l_Book_names : K.lookup f_Book_names = some ⟨oc_Book_names, od_Book_names, .func (PySem.W.fnOf "names" "Book.names" (defArgs s_Book_names) (defBody s_Book_names) (defScope s_Book_names) .none kV_Book_names dc_Book_names pm_Book_names an_Book_names cd_Book_names ct_Book_names), sl_Book_names⟩)
    (c_Book_names : PySem.W.codeIn K cd_Book_names "Book.names" = true)
    (k_Book_names : PySem.W.keepIn K (.ref f_Book_names) = true)
    (fn_Book_names : PySem.W.isFn K (.ref f_Book_names) = true)
    (a_Book_refuse_new : PySem.W.findIn K (.ref C_Book) "refuse_new" = some (some (.ref f_Book_refuse_new)))
    (l_Book_refuse_new : K.lookup f_Book_refuse_new = some ⟨oc_Book_refuse_new, od_Book_refuse_new, .func (PySem.W.fnOf "refuse_new" "Book.refuse_new" (defArgs s_Book_refuse_new) (defBody s_Book_refuse_new) (defScope s_Book_refuse_new) .none kV_Book_refuse_new dc_Book_refuse_new pm_Book_refuse_new an_Book_refuse_new cd_Book_refuse_new ct_Book_refuse_new), sl_Book_refuse_new⟩)
    (c_Book_refuse_new : PySem.W.codeIn K cd_Book_refuse_new "Book.refuse_new" = true)
    (k_Book_refuse_new : PySem.W.keepIn K (.ref f_Book_refuse_new) = true)
    (fn_Book_refuse_new : PySem.W.isFn K (.ref f_Book_refuse_new) = true)
    (a_Deed_do : PySem.W.findIn K (.ref C_Deed) "do" = some (some (.ref f_Deed_do)))
    (l_Deed_do : K.lookup f_Deed_do = some ⟨oc_Deed_do, od_Deed_do, .func (PySem.W.fnOf "do" "Deed.do" (defArgs s_Deed_do) (defBody s_Deed_do) (defScope s_Deed_do) .none kV_Deed_do dc_Deed_do pm_Deed_do an_Deed_do cd_Deed_do ct_Deed_do), sl_Deed_do⟩)
    (c_Deed_do : PySem.W.codeIn K cd_Deed_do "Deed.do" = true)
    (k_Deed_do : PySem.W.keepIn K (.ref f_Deed_do) = true)
    (fn_Deed_do : PySem.W.isFn K (.ref f_Deed_do) = true)
    (a_Book_perform : PySem.W.findIn K (.ref C_Book) "perform" = some (some (.ref f_Book_perform)))
    (l_Book_perform : K.lookup f_Book_perform = some ⟨oc_Book_perform, od_Book_perform, .func (PySem.W.fnOf "perform" "Book.perform" (defArgs s_Book_perform) (defBody s_Book_perform) (defScope s_Book_perform) .none kV_Book_perform dc_Book_perform pm_Book_perform an_Book_perform cd_Book_perform ct_Book_perform), sl_Book_perform⟩)
    (c_Book_perform : PySem.W.codeIn K cd_Book_perform "Book.perform" = true)
    (k_Book_perform : PySem.W.keepIn K (.ref f_Book_perform) = true)
    (fn_Book_perform : PySem.W.isFn K (.ref f_Book_perform) = true)
    (a_Deed___init__ : PySem.W.findIn K (.ref C_Deed) "__init__" = some (some (.ref f_Deed___init__)))
    (l_Deed___init__ : K.lookup f_Deed___init__ = some ⟨oc_Deed___init__, od_Deed___init__, .func (PySem.W.fnOf "__init__" "Deed.__init__" (defArgs s_Deed___init__) (defBody s_Deed___init__) (defScope s_Deed___init__) .none kV_Deed___init__ dc_Deed___init__ pm_Deed___init__ an_Deed___init__ cd_Deed___init__ ct_Deed___init__), sl_Deed___init__⟩)
    (c_Deed___init__ : PySem.W.codeIn K cd_Deed___init__ "Deed.__init__" = true)
    (k_Deed___init__ : PySem.W.keepIn K (.ref f_Deed___init__) = true)
    (fn_Deed___init__ : PySem.W.isFn K (.ref f_Deed___init__) = true)
    (a_Book_put_in : PySem.W.findIn K (.ref C_Book) "put_in" = some (some (.ref f_Book_put_in)))
    (l_Book_put_in : K.lookup f_Book_put_in = some ⟨oc_Book_put_in, od_Book_put_in, .func (PySem.W.fnOf "put_in" "Book.put_in" (defArgs s_Book_put_in) (defBody s_Book_put_in) (defScope s_Book_put_in) .none kV_Book_put_in dc_Book_put_in pm_Book_put_in an_Book_put_in cd_Book_put_in ct_Book_put_in), sl_Book_put_in⟩)
    (c_Book_put_in : PySem.W.codeIn K cd_Book_put_in "Book.put_in" = true)
    (k_Book_put_in : PySem.W.keepIn K (.ref f_Book_put_in) = true)
    (fn_Book_put_in : PySem.W.isFn K (.ref f_Book_put_in) = true)
    (a_Voice___init__ : PySem.W.findIn K (.ref C_Voice) "__init__" = some (some (.ref f_Voice___init__)))
    (l_Voice___init__ : K.lookup f_Voice___init__ = some ⟨oc_Voice___init__, od_Voice___init__, .func (PySem.W.fnOf "__init__" "Voice.__init__" (defArgs s_Voice___init__) (defBody s_Voice___init__) (defScope s_Voice___init__) .none kV_Voice___init__ dc_Voice___init__ pm_Voice___init__ an_Voice___init__ cd_Voice___init__ ct_Voice___init__), sl_Voice___init__⟩)
    (c_Voice___init__ : PySem.W.codeIn K cd_Voice___init__ "Voice.__init__" = true)
    (k_Voice___init__ : PySem.W.keepIn K (.ref f_Voice___init__) = true)
    (fn_Voice___init__ : PySem.W.isFn K (.ref f_Voice___init__) = true)
    (a_Book_add_voice : PySem.W.findIn K (.ref C_Book) "add_voice" = some (some (.ref f_Book_add_voice)))
    (l_Book_add_voice : K.lookup f_Book_add_voice = some ⟨oc_Book_add_voice, od_Book_add_voice, .func (PySem.W.fnOf "add_voice" "Book.add_voice" (defArgs s_Book_add_voice) (defBody s_Book_add_voice) (defScope s_Book_add_voice) .none kV_Book_add_voice dc_Book_add_voice pm_Book_add_voice an_Book_add_voice cd_Book_add_voice ct_Book_add_voice), sl_Book_add_voice⟩)
    (c_Book_add_voice : PySem.W.codeIn K cd_Book_add_voice "Book.add_voice" = true)
    (k_Book_add_voice : PySem.W.keepIn K (.ref f_Book_add_voice) = true)
    (fn_Book_add_voice : PySem.W.isFn K (.ref f_Book_add_voice) = true)
    (a_l_sign_by : PySem.W.nsIn K mainGlobals "_law_sign_by" = some (some (.ref f_l_sign_by)))
    (l_l_sign_by : K.lookup f_l_sign_by = some ⟨oc_l_sign_by, od_l_sign_by, .func (PySem.W.fnOf "_law_sign_by" "_law_sign_by" (defArgs s_l_sign_by) (defBody s_l_sign_by) (defScope s_l_sign_by) .none kV_l_sign_by dc_l_sign_by pm_l_sign_by an_l_sign_by cd_l_sign_by ct_l_sign_by), sl_l_sign_by⟩)
    (c_l_sign_by : PySem.W.codeIn K cd_l_sign_by "_law_sign_by" = true)
    (k_l_sign_by : PySem.W.keepIn K (.ref f_l_sign_by) = true)
    (a_refuse_other_places : PySem.W.nsIn K mainGlobals "refuse_other_places" = some (some (.ref f_refuse_other_places)))
    (l_refuse_other_places : K.lookup f_refuse_other_places = some ⟨oc_refuse_other_places, od_refuse_other_places, .func (PySem.W.fnOf "refuse_other_places" "refuse_other_places" (defArgs s_refuse_other_places) (defBody s_refuse_other_places) (defScope s_refuse_other_places) .none kV_refuse_other_places dc_refuse_other_places pm_refuse_other_places an_refuse_other_places cd_refuse_other_places ct_refuse_other_places), sl_refuse_other_places⟩)
    (c_refuse_other_places : PySem.W.codeIn K cd_refuse_other_places "refuse_other_places" = true)
    (k_refuse_other_places : PySem.W.keepIn K (.ref f_refuse_other_places) = true)
    (a_good : PySem.W.nsIn K mainGlobals "good" = some (some (.ref f_good)))
    (l_good : K.lookup f_good = some ⟨oc_good, od_good, .func (PySem.W.fnOf "good" "good" (defArgs s_good) (defBody s_good) (defScope s_good) .none kV_good dc_good pm_good an_good cd_good ct_good), sl_good⟩)
    (c_good : PySem.W.codeIn K cd_good "good" = true)
    (k_good : PySem.W.keepIn K (.ref f_good) = true)
    (a_refuse_bad_sign : PySem.W.nsIn K mainGlobals "refuse_bad_sign" = some (some (.ref f_refuse_bad_sign)))
    (l_refuse_bad_sign : K.lookup f_refuse_bad_sign = some ⟨oc_refuse_bad_sign, od_refuse_bad_sign, .func (PySem.W.fnOf "refuse_bad_sign" "refuse_bad_sign" (defArgs s_refuse_bad_sign) (defBody s_refuse_bad_sign) (defScope s_refuse_bad_sign) .none kV_refuse_bad_sign dc_refuse_bad_sign pm_refuse_bad_sign an_refuse_bad_sign cd_refuse_bad_sign ct_refuse_bad_sign), sl_refuse_bad_sign⟩)
    (c_refuse_bad_sign : PySem.W.codeIn K cd_refuse_bad_sign "refuse_bad_sign" = true)
    (k_refuse_bad_sign : PySem.W.keepIn K (.ref f_refuse_bad_sign) = true)
    (a_small : PySem.W.nsIn K mainGlobals "small" = some (some (.ref f_small)))
    (l_small : K.lookup f_small = some ⟨oc_small, od_small, .func (PySem.W.fnOf "small" "small" (defArgs s_small) (defBody s_small) (defScope s_small) .none kV_small dc_small pm_small an_small cd_small ct_small), sl_small⟩)
    (c_small : PySem.W.codeIn K cd_small "small" = true)
    (k_small : PySem.W.keepIn K (.ref f_small) = true)
    (a_low_end : PySem.W.nsIn K mainGlobals "low_end" = some (some (.ref f_low_end)))
    (l_low_end : K.lookup f_low_end = some ⟨oc_low_end, od_low_end, .func (PySem.W.fnOf "low_end" "low_end" (defArgs s_low_end) (defBody s_low_end) (defScope s_low_end) .none kV_low_end dc_low_end pm_low_end an_low_end cd_low_end ct_low_end), sl_low_end⟩)
    (c_low_end : PySem.W.codeIn K cd_low_end "low_end" = true)
    (k_low_end : PySem.W.keepIn K (.ref f_low_end) = true)
    (a_high_end : PySem.W.nsIn K mainGlobals "high_end" = some (some (.ref f_high_end)))
    (l_high_end : K.lookup f_high_end = some ⟨oc_high_end, od_high_end, .func (PySem.W.fnOf "high_end" "high_end" (defArgs s_high_end) (defBody s_high_end) (defScope s_high_end) .none kV_high_end dc_high_end pm_high_end an_high_end cd_high_end ct_high_end), sl_high_end⟩)
    (c_high_end : PySem.W.codeIn K cd_high_end "high_end" = true)
    (k_high_end : PySem.W.keepIn K (.ref f_high_end) = true)
    (a_sets_measure : PySem.W.nsIn K mainGlobals "sets_measure" = some (some (.ref f_sets_measure)))
    (l_sets_measure : K.lookup f_sets_measure = some ⟨oc_sets_measure, od_sets_measure, .func (PySem.W.fnOf "sets_measure" "sets_measure" (defArgs s_sets_measure) (defBody s_sets_measure) (defScope s_sets_measure) .none kV_sets_measure dc_sets_measure pm_sets_measure an_sets_measure cd_sets_measure ct_sets_measure), sl_sets_measure⟩)
    (c_sets_measure : PySem.W.codeIn K cd_sets_measure "sets_measure" = true)
    (k_sets_measure : PySem.W.keepIn K (.ref f_sets_measure) = true)
    (a_window : PySem.W.nsIn K mainGlobals "window" = some (some (.ref f_window)))
    (l_window : K.lookup f_window = some ⟨oc_window, od_window, .func (PySem.W.fnOf "window" "window" (defArgs s_window) (defBody s_window) (defScope s_window) .none kV_window dc_window pm_window an_window cd_window ct_window), sl_window⟩)
    (c_window : PySem.W.codeIn K cd_window "window" = true)
    (k_window : PySem.W.keepIn K (.ref f_window) = true)
    (a_Book_voice_called : PySem.W.findIn K (.ref C_Book) "voice_called" = some (some (.ref f_Book_voice_called)))
    (l_Book_voice_called : K.lookup f_Book_voice_called = some ⟨oc_Book_voice_called, od_Book_voice_called, .func (PySem.W.fnOf "voice_called" "Book.voice_called" (defArgs s_Book_voice_called) (defBody s_Book_voice_called) (defScope s_Book_voice_called) .none kV_Book_voice_called dc_Book_voice_called pm_Book_voice_called an_Book_voice_called cd_Book_voice_called ct_Book_voice_called), sl_Book_voice_called⟩)
    (c_Book_voice_called : PySem.W.codeIn K cd_Book_voice_called "Book.voice_called" = true)
    (k_Book_voice_called : PySem.W.keepIn K (.ref f_Book_voice_called) = true)
    (fn_Book_voice_called : PySem.W.isFn K (.ref f_Book_voice_called) = true)
    (a_Book_plain_voice : PySem.W.findIn K (.ref C_Book) "plain_voice" = some (some (.ref f_Book_plain_voice)))
    (l_Book_plain_voice : K.lookup f_Book_plain_voice = some ⟨oc_Book_plain_voice, od_Book_plain_voice, .func (PySem.W.fnOf "plain_voice" "Book.plain_voice" (defArgs s_Book_plain_voice) (defBody s_Book_plain_voice) (defScope s_Book_plain_voice) .none kV_Book_plain_voice dc_Book_plain_voice pm_Book_plain_voice an_Book_plain_voice cd_Book_plain_voice ct_Book_plain_voice), sl_Book_plain_voice⟩)
    (c_Book_plain_voice : PySem.W.codeIn K cd_Book_plain_voice "Book.plain_voice" = true)
    (k_Book_plain_voice : PySem.W.keepIn K (.ref f_Book_plain_voice) = true)
    (fn_Book_plain_voice : PySem.W.isFn K (.ref f_Book_plain_voice) = true)
    (a_Book_put : PySem.W.findIn K (.ref C_Book) "put" = some (some (.ref f_Book_put)))
    (l_Book_put : K.lookup f_Book_put = some ⟨oc_Book_put, od_Book_put, .func (PySem.W.fnOf "put" "Book.put" (defArgs s_Book_put) (defBody s_Book_put) (defScope s_Book_put) .none kV_Book_put dc_Book_put pm_Book_put an_Book_put cd_Book_put ct_Book_put), sl_Book_put⟩)
    (c_Book_put : PySem.W.codeIn K cd_Book_put "Book.put" = true)
    (k_Book_put : PySem.W.keepIn K (.ref f_Book_put) = true)
    (fn_Book_put : PySem.W.isFn K (.ref f_Book_put) = true)
    (a_Deed_undo : PySem.W.findIn K (.ref C_Deed) "undo" = some (some (.ref f_Deed_undo)))
    (l_Deed_undo : K.lookup f_Deed_undo = some ⟨oc_Deed_undo, od_Deed_undo, .func (PySem.W.fnOf "undo" "Deed.undo" (defArgs s_Deed_undo) (defBody s_Deed_undo) (defScope s_Deed_undo) .none kV_Deed_undo dc_Deed_undo pm_Deed_undo an_Deed_undo cd_Deed_undo ct_Deed_undo), sl_Deed_undo⟩)
    (c_Deed_undo : PySem.W.codeIn K cd_Deed_undo "Deed.undo" = true)
    (k_Deed_undo : PySem.W.keepIn K (.ref f_Deed_undo) = true)
    (fn_Deed_undo : PySem.W.isFn K (.ref f_Deed_undo) = true)
    (a_Book_undo : PySem.W.findIn K (.ref C_Book) "undo" = some (some (.ref f_Book_undo)))
    (l_Book_undo : K.lookup f_Book_undo = some ⟨oc_Book_undo, od_Book_undo, .func (PySem.W.fnOf "undo" "Book.undo" (defArgs s_Book_undo) (defBody s_Book_undo) (defScope s_Book_undo) .none kV_Book_undo dc_Book_undo pm_Book_undo an_Book_undo cd_Book_undo ct_Book_undo), sl_Book_undo⟩)
    (c_Book_undo : PySem.W.codeIn K cd_Book_undo "Book.undo" = true)
    (k_Book_undo : PySem.W.keepIn K (.ref f_Book_undo) = true)
    (fn_Book_undo : PySem.W.isFn K (.ref f_Book_undo) = true)
    (a_Book_canon : PySem.W.findIn K (.ref C_Book) "canon" = some (some (.ref f_Book_canon)))
    (l_Book_canon : K.lookup f_Book_canon = some ⟨oc_Book_canon, od_Book_canon, .func (PySem.W.fnOf "canon" "Book.canon" (defArgs s_Book_canon) (defBody s_Book_canon) (defScope s_Book_canon) .none kV_Book_canon dc_Book_canon pm_Book_canon an_Book_canon cd_Book_canon ct_Book_canon), sl_Book_canon⟩)
    (c_Book_canon : PySem.W.codeIn K cd_Book_canon "Book.canon" = true)
    (k_Book_canon : PySem.W.keepIn K (.ref f_Book_canon) = true)
    (fn_Book_canon : PySem.W.isFn K (.ref f_Book_canon) = true)
    (a_turned : PySem.W.nsIn K mainGlobals "turned" = some (some (.ref f_turned)))
    (l_turned : K.lookup f_turned = some ⟨oc_turned, od_turned, .func (PySem.W.fnOf "turned" "turned" (defArgs s_turned) (defBody s_turned) (defScope s_turned) .none kV_turned dc_turned pm_turned an_turned cd_turned ct_turned), sl_turned⟩)
    (c_turned : PySem.W.codeIn K cd_turned "turned" = true)
    (k_turned : PySem.W.keepIn K (.ref f_turned) = true)
    (a_Book_line : PySem.W.findIn K (.ref C_Book) "line" = some (some (.ref f_Book_line)))
    (l_Book_line : K.lookup f_Book_line = some ⟨oc_Book_line, od_Book_line, .func (PySem.W.fnOf "line" "Book.line" (defArgs s_Book_line) (defBody s_Book_line) (defScope s_Book_line) .none kV_Book_line dc_Book_line pm_Book_line an_Book_line cd_Book_line ct_Book_line), sl_Book_line⟩)
    (c_Book_line : PySem.W.codeIn K cd_Book_line "Book.line" = true)
    (k_Book_line : PySem.W.keepIn K (.ref f_Book_line) = true)
    (fn_Book_line : PySem.W.isFn K (.ref f_Book_line) = true)
    (a_l_whole : PySem.W.nsIn K mainGlobals "_law_whole" = some (some (.ref f_l_whole)))
    (l_l_whole : K.lookup f_l_whole = some ⟨oc_l_whole, od_l_whole, .func (PySem.W.fnOf "_law_whole" "_law_whole" (defArgs s_l_whole) (defBody s_l_whole) (defScope s_l_whole) .none kV_l_whole dc_l_whole pm_l_whole an_l_whole cd_l_whole ct_l_whole), sl_l_whole⟩)
    (c_l_whole : PySem.W.codeIn K cd_l_whole "_law_whole" = true)
    (k_l_whole : PySem.W.keepIn K (.ref f_l_whole) = true)
    (a_l_signs : PySem.W.nsIn K mainGlobals "_law_signs" = some (some (.ref f_l_signs)))
    (l_l_signs : K.lookup f_l_signs = some ⟨oc_l_signs, od_l_signs, .func (PySem.W.fnOf "_law_signs" "_law_signs" (defArgs s_l_signs) (defBody s_l_signs) (defScope s_l_signs) .none kV_l_signs dc_l_signs pm_l_signs an_l_signs cd_l_signs ct_l_signs), sl_l_signs⟩)
    (c_l_signs : PySem.W.codeIn K cd_l_signs "_law_signs" = true)
    (k_l_signs : PySem.W.keepIn K (.ref f_l_signs) = true)
    (a_l_nums : PySem.W.nsIn K mainGlobals "_law_nums" = some (some (.ref f_l_nums)))
    (l_l_nums : K.lookup f_l_nums = some ⟨oc_l_nums, od_l_nums, .func (PySem.W.fnOf "_law_nums" "_law_nums" (defArgs s_l_nums) (defBody s_l_nums) (defScope s_l_nums) .none kV_l_nums dc_l_nums pm_l_nums an_l_nums cd_l_nums ct_l_nums), sl_l_nums⟩)
    (c_l_nums : PySem.W.codeIn K cd_l_nums "_law_nums" = true)
    (k_l_nums : PySem.W.keepIn K (.ref f_l_nums) = true)
    (a_measures : PySem.W.nsIn K mainGlobals "measures" = some (some (.ref f_measures)))
    (l_measures : K.lookup f_measures = some ⟨oc_measures, od_measures, .func (PySem.W.fnOf "measures" "measures" (defArgs s_measures) (defBody s_measures) (defScope s_measures) (.ref df_measures) kV_measures dc_measures pm_measures an_measures cd_measures ct_measures), sl_measures⟩)
    (c_measures : PySem.W.codeIn K cd_measures "measures" = true)
    (k_measures : PySem.W.keepIn K (.ref f_measures) = true)
    (dl_measures : K.lookup df_measures = some ⟨ddc_measures, ddo_measures, .seq #[.int 3 dt0_measures] ddn_measures, dds_measures⟩)
    (a_kind_at : PySem.W.nsIn K mainGlobals "kind_at" = some (some (.ref f_kind_at)))
    (l_kind_at : K.lookup f_kind_at = some ⟨oc_kind_at, od_kind_at, .func (PySem.W.fnOf "kind_at" "kind_at" (defArgs s_kind_at) (defBody s_kind_at) (defScope s_kind_at) .none kV_kind_at dc_kind_at pm_kind_at an_kind_at cd_kind_at ct_kind_at), sl_kind_at⟩)
    (c_kind_at : PySem.W.codeIn K cd_kind_at "kind_at" = true)
    (k_kind_at : PySem.W.keepIn K (.ref f_kind_at) = true)
    (a_plain_worth : PySem.W.nsIn K mainGlobals "plain_worth" = some (some (.ref f_plain_worth)))
    (l_plain_worth : K.lookup f_plain_worth = some ⟨oc_plain_worth, od_plain_worth, .func (PySem.W.fnOf "plain_worth" "plain_worth" (defArgs s_plain_worth) (defBody s_plain_worth) (defScope s_plain_worth) .none kV_plain_worth dc_plain_worth pm_plain_worth an_plain_worth cd_plain_worth ct_plain_worth), sl_plain_worth⟩)
    (c_plain_worth : PySem.W.codeIn K cd_plain_worth "plain_worth" = true)
    (k_plain_worth : PySem.W.keepIn K (.ref f_plain_worth) = true)
    (a_worths_without_runs : PySem.W.nsIn K mainGlobals "worths_without_runs" = some (some (.ref f_worths_without_runs)))
    (l_worths_without_runs : K.lookup f_worths_without_runs = some ⟨oc_worths_without_runs, od_worths_without_runs, .func (PySem.W.fnOf "worths_without_runs" "worths_without_runs" (defArgs s_worths_without_runs) (defBody s_worths_without_runs) (defScope s_worths_without_runs) .none kV_worths_without_runs dc_worths_without_runs pm_worths_without_runs an_worths_without_runs cd_worths_without_runs ct_worths_without_runs), sl_worths_without_runs⟩)
    (c_worths_without_runs : PySem.W.codeIn K cd_worths_without_runs "worths_without_runs" = true)
    (k_worths_without_runs : PySem.W.keepIn K (.ref f_worths_without_runs) = true)
    (a_runs : PySem.W.nsIn K mainGlobals "runs" = some (some (.ref f_runs)))
    (l_runs : K.lookup f_runs = some ⟨oc_runs, od_runs, .func (PySem.W.fnOf "runs" "runs" (defArgs s_runs) (defBody s_runs) (defScope s_runs) (.ref df_runs) kV_runs dc_runs pm_runs an_runs cd_runs ct_runs), sl_runs⟩)
    (c_runs : PySem.W.codeIn K cd_runs "runs" = true)
    (k_runs : PySem.W.keepIn K (.ref f_runs) = true)
    (dl_runs : K.lookup df_runs = some ⟨ddc_runs, ddo_runs, .seq #[.int 3 dt0_runs] ddn_runs, dds_runs⟩)
    (a_has_left_note : PySem.W.nsIn K mainGlobals "has_left_note" = some (some (.ref f_has_left_note)))
    (l_has_left_note : K.lookup f_has_left_note = some ⟨oc_has_left_note, od_has_left_note, .func (PySem.W.fnOf "has_left_note" "has_left_note" (defArgs s_has_left_note) (defBody s_has_left_note) (defScope s_has_left_note) .none kV_has_left_note dc_has_left_note pm_has_left_note an_has_left_note cd_has_left_note ct_has_left_note), sl_has_left_note⟩)
    (c_has_left_note : PySem.W.codeIn K cd_has_left_note "has_left_note" = true)
    (k_has_left_note : PySem.W.keepIn K (.ref f_has_left_note) = true)
    (a_has_right_note : PySem.W.nsIn K mainGlobals "has_right_note" = some (some (.ref f_has_right_note)))
    (l_has_right_note : K.lookup f_has_right_note = some ⟨oc_has_right_note, od_has_right_note, .func (PySem.W.fnOf "has_right_note" "has_right_note" (defArgs s_has_right_note) (defBody s_has_right_note) (defScope s_has_right_note) .none kV_has_right_note dc_has_right_note pm_has_right_note an_has_right_note cd_has_right_note ct_has_right_note), sl_has_right_note⟩)
    (c_has_right_note : PySem.W.codeIn K cd_has_right_note "has_right_note" = true)
    (k_has_right_note : PySem.W.keepIn K (.ref f_has_right_note) = true)
    (a_settle_one_over : PySem.W.nsIn K mainGlobals "settle_one_over" = some (some (.ref f_settle_one_over)))
    (l_settle_one_over : K.lookup f_settle_one_over = some ⟨oc_settle_one_over, od_settle_one_over, .func (PySem.W.fnOf "settle_one_over" "settle_one_over" (defArgs s_settle_one_over) (defBody s_settle_one_over) (defScope s_settle_one_over) .none kV_settle_one_over dc_settle_one_over pm_settle_one_over an_settle_one_over cd_settle_one_over ct_settle_one_over), sl_settle_one_over⟩)
    (c_settle_one_over : PySem.W.codeIn K cd_settle_one_over "settle_one_over" = true)
    (k_settle_one_over : PySem.W.keepIn K (.ref f_settle_one_over) = true)
    (a_settle_two_over : PySem.W.nsIn K mainGlobals "settle_two_over" = some (some (.ref f_settle_two_over)))
    (l_settle_two_over : K.lookup f_settle_two_over = some ⟨oc_settle_two_over, od_settle_two_over, .func (PySem.W.fnOf "settle_two_over" "settle_two_over" (defArgs s_settle_two_over) (defBody s_settle_two_over) (defScope s_settle_two_over) .none kV_settle_two_over dc_settle_two_over pm_settle_two_over an_settle_two_over cd_settle_two_over ct_settle_two_over), sl_settle_two_over⟩)
    (c_settle_two_over : PySem.W.codeIn K cd_settle_two_over "settle_two_over" = true)
    (k_settle_two_over : PySem.W.keepIn K (.ref f_settle_two_over) = true)
    (a_settle_run : PySem.W.nsIn K mainGlobals "settle_run" = some (some (.ref f_settle_run)))
    (l_settle_run : K.lookup f_settle_run = some ⟨oc_settle_run, od_settle_run, .func (PySem.W.fnOf "settle_run" "settle_run" (defArgs s_settle_run) (defBody s_settle_run) (defScope s_settle_run) .none kV_settle_run dc_settle_run pm_settle_run an_settle_run cd_settle_run ct_settle_run), sl_settle_run⟩)
    (c_settle_run : PySem.W.codeIn K cd_settle_run "settle_run" = true)
    (k_settle_run : PySem.W.keepIn K (.ref f_settle_run) = true)
    (a_reading : PySem.W.nsIn K mainGlobals "reading" = some (some (.ref f_reading)))
    (l_reading : K.lookup f_reading = some ⟨oc_reading, od_reading, .func (PySem.W.fnOf "reading" "reading" (defArgs s_reading) (defBody s_reading) (defScope s_reading) .none kV_reading dc_reading pm_reading an_reading cd_reading ct_reading), sl_reading⟩)
    (c_reading : PySem.W.codeIn K cd_reading "reading" = true)
    (k_reading : PySem.W.keepIn K (.ref f_reading) = true)
    (a_worths : PySem.W.nsIn K mainGlobals "worths" = some (some (.ref f_worths)))
    (l_worths : K.lookup f_worths = some ⟨oc_worths, od_worths, .func (PySem.W.fnOf "worths" "worths" (defArgs s_worths) (defBody s_worths) (defScope s_worths) (.ref df_worths) kV_worths dc_worths pm_worths an_worths cd_worths ct_worths), sl_worths⟩)
    (c_worths : PySem.W.codeIn K cd_worths "worths" = true)
    (k_worths : PySem.W.keepIn K (.ref f_worths) = true)
    (dl_worths : K.lookup df_worths = some ⟨ddc_worths, ddo_worths, .seq #[.int 3 dt0_worths] ddn_worths, dds_worths⟩)
    (a_Book_kept : PySem.W.findIn K (.ref C_Book) "kept" = some (some (.ref f_Book_kept)))
    (l_Book_kept : K.lookup f_Book_kept = some ⟨oc_Book_kept, od_Book_kept, .func (PySem.W.fnOf "kept" "Book.kept" (defArgs s_Book_kept) (defBody s_Book_kept) (defScope s_Book_kept) .none kV_Book_kept dc_Book_kept pm_Book_kept an_Book_kept cd_Book_kept ct_Book_kept), sl_Book_kept⟩)
    (c_Book_kept : PySem.W.codeIn K cd_Book_kept "Book.kept" = true)
    (k_Book_kept : PySem.W.keepIn K (.ref f_Book_kept) = true)
    (fn_Book_kept : PySem.W.isFn K (.ref f_Book_kept) = true)
    (a_l_line_of : PySem.W.nsIn K mainGlobals "_law_line_of" = some (some (.ref f_l_line_of)))
    (l_l_line_of : K.lookup f_l_line_of = some ⟨oc_l_line_of, od_l_line_of, .func (PySem.W.fnOf "_law_line_of" "_law_line_of" (defArgs s_l_line_of) (defBody s_l_line_of) (defScope s_l_line_of) .none kV_l_line_of dc_l_line_of pm_l_line_of an_l_line_of cd_l_line_of ct_l_line_of), sl_l_line_of⟩)
    (c_l_line_of : PySem.W.codeIn K cd_l_line_of "_law_line_of" = true)
    (k_l_line_of : PySem.W.keepIn K (.ref f_l_line_of) = true)
    (a_l_base : PySem.W.nsIn K mainGlobals "_law_base" = some (some (.ref f_l_base)))
    (l_l_base : K.lookup f_l_base = some ⟨oc_l_base, od_l_base, .func (PySem.W.fnOf "_law_base" "_law_base" (defArgs s_l_base) (defBody s_l_base) (defScope s_l_base) .none kV_l_base dc_l_base pm_l_base an_l_base cd_l_base ct_l_base), sl_l_base⟩)
    (c_l_base : PySem.W.codeIn K cd_l_base "_law_base" = true)
    (k_l_base : PySem.W.keepIn K (.ref f_l_base) = true)
    (a_l_three : PySem.W.nsIn K mainGlobals "_law_three" = some (some (.ref f_l_three)))
    (l_l_three : K.lookup f_l_three = some ⟨oc_l_three, od_l_three, .func (PySem.W.fnOf "_law_three" "_law_three" (defArgs s_l_three) (defBody s_l_three) (defScope s_l_three) .none kV_l_three dc_l_three pm_l_three an_l_three cd_l_three ct_l_three), sl_l_three⟩)
    (c_l_three : PySem.W.codeIn K cd_l_three "_law_three" = true)
    (k_l_three : PySem.W.keepIn K (.ref f_l_three) = true)
    (a_l_run : PySem.W.nsIn K mainGlobals "_law_run" = some (some (.ref f_l_run)))
    (l_l_run : K.lookup f_l_run = some ⟨oc_l_run, od_l_run, .func (PySem.W.fnOf "_law_run" "_law_run" (defArgs s_l_run) (defBody s_l_run) (defScope s_l_run) .none kV_l_run dc_l_run pm_l_run an_l_run cd_l_run ct_l_run), sl_l_run⟩)
    (c_l_run : PySem.W.codeIn K cd_l_run "_law_run" = true)
    (k_l_run : PySem.W.keepIn K (.ref f_l_run) = true)
    (a_l_read : PySem.W.nsIn K mainGlobals "_law_read" = some (some (.ref f_l_read)))
    (l_l_read : K.lookup f_l_read = some ⟨oc_l_read, od_l_read, .func (PySem.W.fnOf "_law_read" "_law_read" (defArgs s_l_read) (defBody s_l_read) (defScope s_l_read) .none kV_l_read dc_l_read pm_l_read an_l_read cd_l_read ct_l_read), sl_l_read⟩)
    (c_l_read : PySem.W.codeIn K cd_l_read "_law_read" = true)
    (k_l_read : PySem.W.keepIn K (.ref f_l_read) = true)
    (a_l_kept_of : PySem.W.nsIn K mainGlobals "_law_kept_of" = some (some (.ref f_l_kept_of)))
    (l_l_kept_of : K.lookup f_l_kept_of = some ⟨oc_l_kept_of, od_l_kept_of, .func (PySem.W.fnOf "_law_kept_of" "_law_kept_of" (defArgs s_l_kept_of) (defBody s_l_kept_of) (defScope s_l_kept_of) .none kV_l_kept_of dc_l_kept_of pm_l_kept_of an_l_kept_of cd_l_kept_of ct_l_kept_of), sl_l_kept_of⟩)
    (c_l_kept_of : PySem.W.codeIn K cd_l_kept_of "_law_kept_of" = true)
    (k_l_kept_of : PySem.W.keepIn K (.ref f_l_kept_of) = true)
    (a_l_stands : PySem.W.nsIn K mainGlobals "_law_stands" = some (some (.ref f_l_stands)))
    (l_l_stands : K.lookup f_l_stands = some ⟨oc_l_stands, od_l_stands, .func (PySem.W.fnOf "_law_stands" "_law_stands" (defArgs s_l_stands) (defBody s_l_stands) (defScope s_l_stands) .none kV_l_stands dc_l_stands pm_l_stands an_l_stands cd_l_stands ct_l_stands), sl_l_stands⟩)
    (c_l_stands : PySem.W.codeIn K cd_l_stands "_law_stands" = true)
    (k_l_stands : PySem.W.keepIn K (.ref f_l_stands) = true)
    (a_l_cell_at : PySem.W.nsIn K mainGlobals "_law_cell_at" = some (some (.ref f_l_cell_at)))
    (l_l_cell_at : K.lookup f_l_cell_at = some ⟨oc_l_cell_at, od_l_cell_at, .func (PySem.W.fnOf "_law_cell_at" "_law_cell_at" (defArgs s_l_cell_at) (defBody s_l_cell_at) (defScope s_l_cell_at) .none kV_l_cell_at dc_l_cell_at pm_l_cell_at an_l_cell_at cd_l_cell_at ct_l_cell_at), sl_l_cell_at⟩)
    (c_l_cell_at : PySem.W.codeIn K cd_l_cell_at "_law_cell_at" = true)
    (k_l_cell_at : PySem.W.keepIn K (.ref f_l_cell_at) = true)
    (a_l_mixed : PySem.W.nsIn K mainGlobals "_law_mixed" = some (some (.ref f_l_mixed)))
    (l_l_mixed : K.lookup f_l_mixed = some ⟨oc_l_mixed, od_l_mixed, .func (PySem.W.fnOf "_law_mixed" "_law_mixed" (defArgs s_l_mixed) (defBody s_l_mixed) (defScope s_l_mixed) .none kV_l_mixed dc_l_mixed pm_l_mixed an_l_mixed cd_l_mixed ct_l_mixed), sl_l_mixed⟩)
    (c_l_mixed : PySem.W.codeIn K cd_l_mixed "_law_mixed" = true)
    (k_l_mixed : PySem.W.keepIn K (.ref f_l_mixed) = true)
    (a_l_numbers : PySem.W.nsIn K mainGlobals "_law_numbers" = some (some (.ref f_l_numbers)))
    (l_l_numbers : K.lookup f_l_numbers = some ⟨oc_l_numbers, od_l_numbers, .func (PySem.W.fnOf "_law_numbers" "_law_numbers" (defArgs s_l_numbers) (defBody s_l_numbers) (defScope s_l_numbers) .none kV_l_numbers dc_l_numbers pm_l_numbers an_l_numbers cd_l_numbers ct_l_numbers), sl_l_numbers⟩)
    (c_l_numbers : PySem.W.codeIn K cd_l_numbers "_law_numbers" = true)
    (k_l_numbers : PySem.W.keepIn K (.ref f_l_numbers) = true)
    (a_l_line : PySem.W.nsIn K mainGlobals "_law_line" = some (some (.ref f_l_line)))
    (l_l_line : K.lookup f_l_line = some ⟨oc_l_line, od_l_line, .func (PySem.W.fnOf "_law_line" "_law_line" (defArgs s_l_line) (defBody s_l_line) (defScope s_l_line) .none kV_l_line dc_l_line pm_l_line an_l_line cd_l_line ct_l_line), sl_l_line⟩)
    (c_l_line : PySem.W.codeIn K cd_l_line "_law_line" = true)
    (k_l_line : PySem.W.keepIn K (.ref f_l_line) = true)
    (a_Book_add_canon : PySem.W.findIn K (.ref C_Book) "add_canon" = some (some (.ref f_Book_add_canon)))
    (l_Book_add_canon : K.lookup f_Book_add_canon = some ⟨oc_Book_add_canon, od_Book_add_canon, .func (PySem.W.fnOf "add_canon" "Book.add_canon" (defArgs s_Book_add_canon) (defBody s_Book_add_canon) (defScope s_Book_add_canon) (.ref df_Book_add_canon) kV_Book_add_canon dc_Book_add_canon pm_Book_add_canon an_Book_add_canon cd_Book_add_canon ct_Book_add_canon), sl_Book_add_canon⟩)
    (c_Book_add_canon : PySem.W.codeIn K cd_Book_add_canon "Book.add_canon" = true)
    (k_Book_add_canon : PySem.W.keepIn K (.ref f_Book_add_canon) = true)
    (fn_Book_add_canon : PySem.W.isFn K (.ref f_Book_add_canon) = true)
    (dl_Book_add_canon : K.lookup df_Book_add_canon = some ⟨ddc_Book_add_canon, ddo_Book_add_canon, .seq #[.int 0 dt0_Book_add_canon, .int 1 dt1_Book_add_canon, .bool false] ddn_Book_add_canon, dds_Book_add_canon⟩)
    (a_law : PySem.W.nsIn K mainGlobals "law" = some (some (.ref f_law)))
    (l_law : K.lookup f_law = some ⟨oc_law, od_law, .func (PySem.W.fnOf "law" "law" (defArgs s_law) (defBody s_law) (defScope s_law) .none kV_law dc_law pm_law an_law cd_law ct_law), sl_law⟩)
    (c_law : PySem.W.codeIn K cd_law "law" = true)
    (k_law : PySem.W.keepIn K (.ref f_law) = true)
    (z_all : PySem.W.nsIn K mainGlobals "all" = some none)
    (z_any : PySem.W.nsIn K mainGlobals "any" = some none)
    (z_bool : PySem.W.nsIn K mainGlobals "bool" = some none)
    (z_enumerate : PySem.W.nsIn K mainGlobals "enumerate" = some none)
    (z_int : PySem.W.nsIn K mainGlobals "int" = some none)
    (z_isinstance : PySem.W.nsIn K mainGlobals "isinstance" = some none)
    (z_len : PySem.W.nsIn K mainGlobals "len" = some none)
    (z_list : PySem.W.nsIn K mainGlobals "list" = some none)
    (z_max : PySem.W.nsIn K mainGlobals "max" = some none)
    (z_min : PySem.W.nsIn K mainGlobals "min" = some none)
    (z_range : PySem.W.nsIn K mainGlobals "range" = some none)
    (z_str : PySem.W.nsIn K mainGlobals "str" = some none)
    (z_tuple : PySem.W.nsIn K mainGlobals "tuple" = some none)
    (z_zip : PySem.W.nsIn K mainGlobals "zip" = some none)
    (a_GREAT_KINDS_ : PySem.W.nsIn K mainGlobals "GREAT_KINDS" = some (some (.ref a_GREAT_KINDS)))
    (l_GREAT_KINDS_ : K.lookup a_GREAT_KINDS = some ⟨.type "tuple", od_GREAT_KINDS, .seq #[.str (Str.ofString "G") t0_GREAT_KINDS, .str (Str.ofString "D") t1_GREAT_KINDS, .str (Str.ofString "R") t2_GREAT_KINDS] n_GREAT_KINDS, sl_GREAT_KINDS⟩)
    (a_SMALL_KINDS_ : PySem.W.nsIn K mainGlobals "SMALL_KINDS" = some (some (.ref a_SMALL_KINDS)))
    (l_SMALL_KINDS_ : K.lookup a_SMALL_KINDS = some ⟨.type "tuple", od_SMALL_KINDS, .seq #[.str (Str.ofString "s") t0_SMALL_KINDS, .str (Str.ofString "d") t1_SMALL_KINDS, .str (Str.ofString "r") t2_SMALL_KINDS] n_SMALL_KINDS, sl_SMALL_KINDS⟩)
    (a_PARTING_KINDS_ : PySem.W.nsIn K mainGlobals "PARTING_KINDS" = some (some (.ref a_PARTING_KINDS)))
    (l_PARTING_KINDS_ : K.lookup a_PARTING_KINDS = some ⟨.type "tuple", od_PARTING_KINDS, .seq #[.str (Str.ofString ".") t0_PARTING_KINDS, .str (Str.ofString "3") t1_PARTING_KINDS, .str (Str.ofString "2") t2_PARTING_KINDS] n_PARTING_KINDS, sl_PARTING_KINDS⟩)
    (a_MEASURE_KINDS_ : PySem.W.nsIn K mainGlobals "MEASURE_KINDS" = some (some (.ref a_MEASURE_KINDS)))
    (l_MEASURE_KINDS_ : K.lookup a_MEASURE_KINDS = some ⟨.type "tuple", od_MEASURE_KINDS, .seq #[.str (Str.ofString "3") t0_MEASURE_KINDS, .str (Str.ofString "2") t1_MEASURE_KINDS] n_MEASURE_KINDS, sl_MEASURE_KINDS⟩)
    (a_SOUNDING_KINDS_ : PySem.W.nsIn K mainGlobals "SOUNDING_KINDS" = some (some (.ref a_SOUNDING_KINDS)))
    (l_SOUNDING_KINDS_ : K.lookup a_SOUNDING_KINDS = some ⟨.type "tuple", od_SOUNDING_KINDS, .seq #[.str (Str.ofString "G") t0_SOUNDING_KINDS, .str (Str.ofString "D") t1_SOUNDING_KINDS, .str (Str.ofString "s") t2_SOUNDING_KINDS, .str (Str.ofString "d") t3_SOUNDING_KINDS] n_SOUNDING_KINDS, sl_SOUNDING_KINDS⟩)
    (a_SILENT_KINDS_ : PySem.W.nsIn K mainGlobals "SILENT_KINDS" = some (some (.ref a_SILENT_KINDS)))
    (l_SILENT_KINDS_ : K.lookup a_SILENT_KINDS = some ⟨.type "tuple", od_SILENT_KINDS, .seq #[.str (Str.ofString "R") t0_SILENT_KINDS, .str (Str.ofString "r") t1_SILENT_KINDS, .str (Str.ofString ".") t2_SILENT_KINDS, .str (Str.ofString "3") t3_SILENT_KINDS, .str (Str.ofString "2") t4_SILENT_KINDS] n_SILENT_KINDS, sl_SILENT_KINDS⟩)
    (a_HIGHEST_TONE_ : PySem.W.nsIn K mainGlobals "HIGHEST_TONE" = some (some (.int 99 t_HIGHEST_TONE)))
    (a_TURNED_KINDS_ : PySem.W.nsIn K mainGlobals "TURNED_KINDS" = some (some (.ref a_TURNED_KINDS)))
    (l_TURNED_KINDS_ : K.lookup a_TURNED_KINDS = some ⟨.type "dict", none, .dict #[⟨PyData.keyHash w.params (Str.ofString "3"), .str (Str.ofString "3") tk0_TURNED_KINDS, .str (Str.ofString "2") tv0_TURNED_KINDS⟩, ⟨PyData.keyHash w.params (Str.ofString "2"), .str (Str.ofString "2") tk1_TURNED_KINDS, .str (Str.ofString "3") tv1_TURNED_KINDS⟩] n_TURNED_KINDS, #[]⟩)
    (y_TURNED_KINDS_ : (a_TURNED_KINDS == sysModules) = false)
    (a_PLAIN_WORTHS_ : PySem.W.nsIn K mainGlobals "PLAIN_WORTHS" = some (some (.ref a_PLAIN_WORTHS)))
    (l_PLAIN_WORTHS_ : K.lookup a_PLAIN_WORTHS = some ⟨.type "dict", none, .dict #[⟨PyData.keyHash w.params (Str.ofString "G"), .str (Str.ofString "G") tk0_PLAIN_WORTHS, .int 3 tv0_PLAIN_WORTHS⟩, ⟨PyData.keyHash w.params (Str.ofString "D"), .str (Str.ofString "D") tk1_PLAIN_WORTHS, .int 2 tv1_PLAIN_WORTHS⟩, ⟨PyData.keyHash w.params (Str.ofString "R"), .str (Str.ofString "R") tk2_PLAIN_WORTHS, .int 3 tv2_PLAIN_WORTHS⟩, ⟨PyData.keyHash w.params (Str.ofString "s"), .str (Str.ofString "s") tk3_PLAIN_WORTHS, .int 1 tv3_PLAIN_WORTHS⟩, ⟨PyData.keyHash w.params (Str.ofString "d"), .str (Str.ofString "d") tk4_PLAIN_WORTHS, .int 1 tv4_PLAIN_WORTHS⟩, ⟨PyData.keyHash w.params (Str.ofString "r"), .str (Str.ofString "r") tk5_PLAIN_WORTHS, .int 1 tv5_PLAIN_WORTHS⟩, ⟨PyData.keyHash w.params (Str.ofString "."), .str (Str.ofString ".") tk6_PLAIN_WORTHS, .int 0 tv6_PLAIN_WORTHS⟩, ⟨PyData.keyHash w.params (Str.ofString "3"), .str (Str.ofString "3") tk7_PLAIN_WORTHS, .int 0 tv7_PLAIN_WORTHS⟩, ⟨PyData.keyHash w.params (Str.ofString "2"), .str (Str.ofString "2") tk8_PLAIN_WORTHS, .int 0 tv8_PLAIN_WORTHS⟩] n_PLAIN_WORTHS, #[]⟩)
    (y_PLAIN_WORTHS_ : (a_PLAIN_WORTHS == sysModules) = false)
    (a_TWOFOLD_WORTHS_ : PySem.W.nsIn K mainGlobals "TWOFOLD_WORTHS" = some (some (.ref a_TWOFOLD_WORTHS)))
    (l_TWOFOLD_WORTHS_ : K.lookup a_TWOFOLD_WORTHS = some ⟨.type "dict", none, .dict #[⟨PyData.keyHash w.params (Str.ofString "G"), .str (Str.ofString "G") tk0_TWOFOLD_WORTHS, .int 2 tv0_TWOFOLD_WORTHS⟩, ⟨PyData.keyHash w.params (Str.ofString "R"), .str (Str.ofString "R") tk1_TWOFOLD_WORTHS, .int 2 tv1_TWOFOLD_WORTHS⟩] n_TWOFOLD_WORTHS, #[]⟩)
    (y_TWOFOLD_WORTHS_ : (a_TWOFOLD_WORTHS == sysModules) = false)
    (a_FULL_WORTH_ : PySem.W.nsIn K mainGlobals "FULL_WORTH" = some (some (.int 3 t_FULL_WORTH)))
    (a_SHORTENED_WORTH_ : PySem.W.nsIn K mainGlobals "SHORTENED_WORTH" = some (some (.int 2 t_SHORTENED_WORTH)))
    (a_DOUBLED_WORTH_ : PySem.W.nsIn K mainGlobals "DOUBLED_WORTH" = some (some (.int 2 t_DOUBLED_WORTH)))
    (a_DOTTED_WORTH_ : PySem.W.nsIn K mainGlobals "DOTTED_WORTH" = some (some (.int 3 t_DOTTED_WORTH)))
    (a_LETTERS_ : PySem.W.nsIn K mainGlobals "LETTERS" = some (some (.str (Str.ofString "abcdefghijklmnopqrstuvwxyz") t_LETTERS)))
    (a_LONGEST_NAME_ : PySem.W.nsIn K mainGlobals "LONGEST_NAME" = some (some (.int 8 t_LONGEST_NAME)))
    (a_MOST_VOICES_ : PySem.W.nsIn K mainGlobals "MOST_VOICES" = some (some (.int 12 t_MOST_VOICES)))
    (a_MOST_SIGNS_ : PySem.W.nsIn K mainGlobals "MOST_SIGNS" = some (some (.int 200 t_MOST_SIGNS)))
    (a_LATEST_ : PySem.W.nsIn K mainGlobals "LATEST" = some (some (.int 999 t_LATEST)))
    (a_SLOWEST_ : PySem.W.nsIn K mainGlobals "SLOWEST" = some (some (.int 9 t_SLOWEST)))
    (mkm_Voice : PySem.W.makesIn K C_Voice = true)
    (mkk_Voice : PySem.W.keepIn K (.ref C_Voice) = true)
    (pg_Voice : PySem.W.plainGet K C_Voice Str.empty = true)
    (hd_Voice : PySem.W.hasDictIn K C_Voice = true)
    (po_Voice : PySem.W.plainOver K C_Voice = true)
    (sa_Voice : PySem.W.findIn K (.ref C_Voice) "__setattr__" = some (some (.builtin "object.__setattr__")))
    (na_Voice_name : PySem.W.findIn K (.ref C_Voice) "name" = some none)
    (na_Voice_terms : PySem.W.findIn K (.ref C_Voice) "terms" = some none)
    (na_Voice_signs : PySem.W.findIn K (.ref C_Voice) "signs" = some none)
    (mkm_Deed : PySem.W.makesIn K C_Deed = true)
    (mkk_Deed : PySem.W.keepIn K (.ref C_Deed) = true)
    (pg_Deed : PySem.W.plainGet K C_Deed Str.empty = true)
    (hd_Deed : PySem.W.hasDictIn K C_Deed = true)
    (po_Deed : PySem.W.plainOver K C_Deed = true)
    (sa_Deed : PySem.W.findIn K (.ref C_Deed) "__setattr__" = some (some (.builtin "object.__setattr__")))
    (na_Deed_things : PySem.W.findIn K (.ref C_Deed) "things" = some none)
    (na_Deed_at : PySem.W.findIn K (.ref C_Deed) "at" = some none)
    (na_Deed_before : PySem.W.findIn K (.ref C_Deed) "before" = some none)
    (na_Deed_after : PySem.W.findIn K (.ref C_Deed) "after" = some none)
    (mkm_Book : PySem.W.makesIn K C_Book = true)
    (mkk_Book : PySem.W.keepIn K (.ref C_Book) = true)
    (pg_Book : PySem.W.plainGet K C_Book Str.empty = true)
    (hd_Book : PySem.W.hasDictIn K C_Book = true)
    (po_Book : PySem.W.plainOver K C_Book = true)
    (sa_Book : PySem.W.findIn K (.ref C_Book) "__setattr__" = some (some (.builtin "object.__setattr__")))
    (na_Book_voices : PySem.W.findIn K (.ref C_Book) "voices" = some none)
    (na_Book_done : PySem.W.findIn K (.ref C_Book) "done" = some none)
    (na_Book_undone : PySem.W.findIn K (.ref C_Book) "undone" = some none) :
    ∃ fd : FuncData, (∀ (s : Shared) (v : Value), BindsTo s fd ⟨[v], []⟩ [("_law_script", v)]) ∧ ∀ base : Heap, K.In base → base.Ns mainGlobals mg → FnOk l.prog w K mg base CX0 9 fa fd ["_law_script"] (sp_law K) := by
  have e := hfa.symm.trans (PySem.W.mg_of X G a_law)
  cases e
  have F_Book___init__ := fun_mk (st := s_Book___init__) l_Book___init__ c_Book___init__ k_Book___init__
  have b_Book___init__ := F_Book___init__.binds (ps := ["self"]) fun _ _ _ _ _ _ us hl => match us, hl with | [_], _ => rfl
  have F_is_name := fun_mk (st := s_is_name) l_is_name c_is_name k_is_name
  have b_is_name := F_is_name.binds (ps := ["name"]) fun _ _ _ _ _ _ us hl => match us, hl with | [_], _ => rfl
  have F_Book_names := fun_mk (st := s_Book_names) l_Book_names c_Book_names k_Book_names
  have b_Book_names := F_Book_names.binds (ps := ["self"]) fun _ _ _ _ _ _ us hl => match us, hl with | [_], _ => rfl
  have F_Book_refuse_new := fun_mk (st := s_Book_refuse_new) l_Book_refuse_new c_Book_refuse_new k_Book_refuse_new
  have b_Book_refuse_new := F_Book_refuse_new.binds (ps := ["self", "name"]) fun _ _ _ _ _ _ us hl => match us, hl with | [_, _], _ => rfl
  have F_Deed_do := fun_mk (st := s_Deed_do) l_Deed_do c_Deed_do k_Deed_do
  have b_Deed_do := F_Deed_do.binds (ps := ["self"]) fun _ _ _ _ _ _ us hl => match us, hl with | [_], _ => rfl
  have F_Book_perform := fun_mk (st := s_Book_perform) l_Book_perform c_Book_perform k_Book_perform
  have b_Book_perform := F_Book_perform.binds (ps := ["self", "deed"]) fun _ _ _ _ _ _ us hl => match us, hl with | [_, _], _ => rfl
  have F_Deed___init__ := fun_mk (st := s_Deed___init__) l_Deed___init__ c_Deed___init__ k_Deed___init__
  have b_Deed___init__ := F_Deed___init__.binds (ps := ["self", "things", "at", "before", "after"]) fun _ _ _ _ _ _ us hl => match us, hl with | [_, _, _, _, _], _ => rfl
  have F_Book_put_in := fun_mk (st := s_Book_put_in) l_Book_put_in c_Book_put_in k_Book_put_in
  have b_Book_put_in := F_Book_put_in.binds (ps := ["self", "voice"]) fun _ _ _ _ _ _ us hl => match us, hl with | [_, _], _ => rfl
  have F_Voice___init__ := fun_mk (st := s_Voice___init__) l_Voice___init__ c_Voice___init__ k_Voice___init__
  have b_Voice___init__ := F_Voice___init__.binds (ps := ["self", "name", "terms"]) fun _ _ _ _ _ _ us hl => match us, hl with | [_, _, _], _ => rfl
  have F_Book_add_voice := fun_mk (st := s_Book_add_voice) l_Book_add_voice c_Book_add_voice k_Book_add_voice
  have b_Book_add_voice := F_Book_add_voice.binds (ps := ["self", "name"]) fun _ _ _ _ _ _ us hl => match us, hl with | [_, _], _ => rfl
  have F_l_sign_by := fun_mk (st := s_l_sign_by) l_l_sign_by c_l_sign_by k_l_sign_by
  have b_l_sign_by := F_l_sign_by.binds (ps := ["_law_number"]) fun _ _ _ _ _ _ us hl => match us, hl with | [_], _ => rfl
  have F_refuse_other_places := fun_mk (st := s_refuse_other_places) l_refuse_other_places c_refuse_other_places k_refuse_other_places
  have b_refuse_other_places := F_refuse_other_places.binds (ps := ["at", "last"]) fun _ _ _ _ _ _ us hl => match us, hl with | [_, _], _ => rfl
  have F_good := fun_mk (st := s_good) l_good c_good k_good
  have b_good := F_good.binds (ps := ["sign"]) fun _ _ _ _ _ _ us hl => match us, hl with | [_], _ => rfl
  have F_refuse_bad_sign := fun_mk (st := s_refuse_bad_sign) l_refuse_bad_sign c_refuse_bad_sign k_refuse_bad_sign
  have b_refuse_bad_sign := F_refuse_bad_sign.binds (ps := ["sign"]) fun _ _ _ _ _ _ us hl => match us, hl with | [_], _ => rfl
  have F_small := fun_mk (st := s_small) l_small c_small k_small
  have b_small := F_small.binds (ps := ["sign"]) fun _ _ _ _ _ _ us hl => match us, hl with | [_], _ => rfl
  have F_low_end := fun_mk (st := s_low_end) l_low_end c_low_end k_low_end
  have b_low_end := F_low_end.binds (ps := ["line", "at"]) fun _ _ _ _ _ _ us hl => match us, hl with | [_, _], _ => rfl
  have F_high_end := fun_mk (st := s_high_end) l_high_end c_high_end k_high_end
  have b_high_end := F_high_end.binds (ps := ["line", "first", "kinds"]) fun _ _ _ _ _ _ us hl => match us, hl with | [_, _, _], _ => rfl
  have F_sets_measure := fun_mk (st := s_sets_measure) l_sets_measure c_sets_measure k_sets_measure
  have b_sets_measure := F_sets_measure.binds (ps := ["sign"]) fun _ _ _ _ _ _ us hl => match us, hl with | [_], _ => rfl
  have F_window := fun_mk (st := s_window) l_window c_window k_window
  have b_window := F_window.binds (ps := ["line", "at", "behind", "changed"]) fun _ _ _ _ _ _ us hl => match us, hl with | [_, _, _, _], _ => rfl
  have F_Book_voice_called := fun_mk (st := s_Book_voice_called) l_Book_voice_called c_Book_voice_called k_Book_voice_called
  have b_Book_voice_called := F_Book_voice_called.binds (ps := ["self", "name"]) fun _ _ _ _ _ _ us hl => match us, hl with | [_, _], _ => rfl
  have F_Book_plain_voice := fun_mk (st := s_Book_plain_voice) l_Book_plain_voice c_Book_plain_voice k_Book_plain_voice
  have b_Book_plain_voice := F_Book_plain_voice.binds (ps := ["self", "name"]) fun _ _ _ _ _ _ us hl => match us, hl with | [_, _], _ => rfl
  have F_Book_put := fun_mk (st := s_Book_put) l_Book_put c_Book_put k_Book_put
  have b_Book_put := F_Book_put.binds (ps := ["self", "name", "at", "sign"]) fun _ _ _ _ _ _ us hl => match us, hl with | [_, _, _, _], _ => rfl
  have F_Deed_undo := fun_mk (st := s_Deed_undo) l_Deed_undo c_Deed_undo k_Deed_undo
  have b_Deed_undo := F_Deed_undo.binds (ps := ["self"]) fun _ _ _ _ _ _ us hl => match us, hl with | [_], _ => rfl
  have F_Book_undo := fun_mk (st := s_Book_undo) l_Book_undo c_Book_undo k_Book_undo
  have b_Book_undo := F_Book_undo.binds (ps := ["self"]) fun _ _ _ _ _ _ us hl => match us, hl with | [_], _ => rfl
  have F_Book_canon := fun_mk (st := s_Book_canon) l_Book_canon c_Book_canon k_Book_canon
  have b_Book_canon := F_Book_canon.binds (ps := ["self", "name"]) fun _ _ _ _ _ _ us hl => match us, hl with | [_, _], _ => rfl
  have F_turned := fun_mk (st := s_turned) l_turned c_turned k_turned
  have b_turned := F_turned.binds (ps := ["line"]) fun _ _ _ _ _ _ us hl => match us, hl with | [_], _ => rfl
  have F_Book_line := fun_mk (st := s_Book_line) l_Book_line c_Book_line k_Book_line
  have b_Book_line := F_Book_line.binds (ps := ["self", "name"]) fun _ _ _ _ _ _ us hl => match us, hl with | [_, _], _ => rfl
  have F_l_whole := fun_mk (st := s_l_whole) l_l_whole c_l_whole k_l_whole
  have b_l_whole := F_l_whole.binds (ps := ["_law_found"]) fun _ _ _ _ _ _ us hl => match us, hl with | [_], _ => rfl
  have F_l_signs := fun_mk (st := s_l_signs) l_l_signs c_l_signs k_l_signs
  have b_l_signs := F_l_signs.binds (ps := ["_law_found", "_law_due"]) fun _ _ _ _ _ _ us hl => match us, hl with | [_, _], _ => rfl
  have F_l_nums := fun_mk (st := s_l_nums) l_l_nums c_l_nums k_l_nums
  have b_l_nums := F_l_nums.binds (ps := ["_law_found", "_law_due"]) fun _ _ _ _ _ _ us hl => match us, hl with | [_, _], _ => rfl
  have F_measures := funD_mk (st := s_measures) l_measures c_measures k_measures
  have b_measures : Binds K _ ["line", "begin"] [] := F_measures.binds (ds := []) dl_measures rfl fun _ _ _ _ _ _ us hl => match us, hl with | [_, _], _ => ⟨_, rfl, rfl⟩
  have bd_measures : Binds K _ ["line", "begin"] [.int 3 dt0_measures] := F_measures.binds dl_measures rfl fun _ _ _ _ _ _ us hl => match us, (show us.length = 1 by simpa using hl) with | [_], _ => ⟨_, rfl, rfl⟩
  have F_kind_at := fun_mk (st := s_kind_at) l_kind_at c_kind_at k_kind_at
  have b_kind_at := F_kind_at.binds (ps := ["line", "at"]) fun _ _ _ _ _ _ us hl => match us, hl with | [_, _], _ => rfl
  have F_plain_worth := fun_mk (st := s_plain_worth) l_plain_worth c_plain_worth k_plain_worth
  have b_plain_worth := F_plain_worth.binds (ps := ["kind", "measure"]) fun _ _ _ _ _ _ us hl => match us, hl with | [_, _], _ => rfl
  have F_worths_without_runs := fun_mk (st := s_worths_without_runs) l_worths_without_runs c_worths_without_runs k_worths_without_runs
  have b_worths_without_runs := F_worths_without_runs.binds (ps := ["line", "begin"]) fun _ _ _ _ _ _ us hl => match us, hl with | [_, _], _ => rfl
  have F_runs := funD_mk (st := s_runs) l_runs c_runs k_runs
  have b_runs : Binds K _ ["line", "begin"] [] := F_runs.binds (ds := []) dl_runs rfl fun _ _ _ _ _ _ us hl => match us, hl with | [_, _], _ => ⟨_, rfl, rfl⟩
  have bd_runs : Binds K _ ["line", "begin"] [.int 3 dt0_runs] := F_runs.binds dl_runs rfl fun _ _ _ _ _ _ us hl => match us, (show us.length = 1 by simpa using hl) with | [_], _ => ⟨_, rfl, rfl⟩
  have F_has_left_note := fun_mk (st := s_has_left_note) l_has_left_note c_has_left_note k_has_left_note
  have b_has_left_note := F_has_left_note.binds (ps := ["line", "found", "first"]) fun _ _ _ _ _ _ us hl => match us, hl with | [_, _, _], _ => rfl
  have F_has_right_note := fun_mk (st := s_has_right_note) l_has_right_note c_has_right_note k_has_right_note
  have b_has_right_note := F_has_right_note.binds (ps := ["line", "behind"]) fun _ _ _ _ _ _ us hl => match us, hl with | [_, _], _ => rfl
  have F_settle_one_over := fun_mk (st := s_settle_one_over) l_settle_one_over c_settle_one_over k_settle_one_over
  have b_settle_one_over := F_settle_one_over.binds (ps := ["line", "found", "first", "behind"]) fun _ _ _ _ _ _ us hl => match us, hl with | [_, _, _, _], _ => rfl
  have F_settle_two_over := fun_mk (st := s_settle_two_over) l_settle_two_over c_settle_two_over k_settle_two_over
  have b_settle_two_over := F_settle_two_over.binds (ps := ["line", "found", "first", "behind"]) fun _ _ _ _ _ _ us hl => match us, hl with | [_, _, _, _], _ => rfl
  have F_settle_run := fun_mk (st := s_settle_run) l_settle_run c_settle_run k_settle_run
  have b_settle_run := F_settle_run.binds (ps := ["line", "found", "first", "behind"]) fun _ _ _ _ _ _ us hl => match us, hl with | [_, _, _, _], _ => rfl
  have F_reading := fun_mk (st := s_reading) l_reading c_reading k_reading
  have b_reading := F_reading.binds (ps := ["line", "begin"]) fun _ _ _ _ _ _ us hl => match us, hl with | [_, _], _ => rfl
  have F_worths := funD_mk (st := s_worths) l_worths c_worths k_worths
  have b_worths : Binds K _ ["line", "begin"] [] := F_worths.binds (ds := []) dl_worths rfl fun _ _ _ _ _ _ us hl => match us, hl with | [_, _], _ => ⟨_, rfl, rfl⟩
  have bd_worths : Binds K _ ["line", "begin"] [.int 3 dt0_worths] := F_worths.binds dl_worths rfl fun _ _ _ _ _ _ us hl => match us, (show us.length = 1 by simpa using hl) with | [_], _ => ⟨_, rfl, rfl⟩
  have F_Book_kept := fun_mk (st := s_Book_kept) l_Book_kept c_Book_kept k_Book_kept
  have b_Book_kept := F_Book_kept.binds (ps := ["self", "name"]) fun _ _ _ _ _ _ us hl => match us, hl with | [_, _], _ => rfl
  have F_l_line_of := fun_mk (st := s_l_line_of) l_l_line_of c_l_line_of k_l_line_of
  have b_l_line_of := F_l_line_of.binds (ps := ["_law_voices", "_law_name"]) fun _ _ _ _ _ _ us hl => match us, hl with | [_, _], _ => rfl
  have F_l_base := fun_mk (st := s_l_base) l_l_base c_l_base k_l_base
  have b_l_base := F_l_base.binds (ps := ["_law_line_here", "_law_begin"]) fun _ _ _ _ _ _ us hl => match us, hl with | [_, _], _ => rfl
  have F_l_three := fun_mk (st := s_l_three) l_l_three c_l_three k_l_three
  have b_l_three := F_l_three.binds (ps := ["_law_line_here", "_law_begin"]) fun _ _ _ _ _ _ us hl => match us, hl with | [_, _], _ => rfl
  have F_l_run := fun_mk (st := s_l_run) l_l_run c_l_run k_l_run
  have b_l_run := F_l_run.binds (ps := ["_law_line_here", "_law_told", "_law_low", "_law_high"]) fun _ _ _ _ _ _ us hl => match us, hl with | [_, _, _, _], _ => rfl
  have F_l_read := fun_mk (st := s_l_read) l_l_read c_l_read k_l_read
  have b_l_read := F_l_read.binds (ps := ["_law_line_here", "_law_begin"]) fun _ _ _ _ _ _ us hl => match us, hl with | [_, _], _ => rfl
  have F_l_kept_of := fun_mk (st := s_l_kept_of) l_l_kept_of c_l_kept_of k_l_kept_of
  have b_l_kept_of := F_l_kept_of.binds (ps := ["_law_voices", "_law_name"]) fun _ _ _ _ _ _ us hl => match us, hl with | [_, _], _ => rfl
  have F_l_stands := fun_mk (st := s_l_stands) l_l_stands c_l_stands k_l_stands
  have b_l_stands := F_l_stands.binds (ps := ["_law_book", "_law_voices"]) fun _ _ _ _ _ _ us hl => match us, hl with | [_, _], _ => rfl
  have F_l_cell_at := fun_mk (st := s_l_cell_at) l_l_cell_at c_l_cell_at k_l_cell_at
  have b_l_cell_at := F_l_cell_at.binds (ps := ["_law_script", "_law_k"]) fun _ _ _ _ _ _ us hl => match us, hl with | [_, _], _ => rfl
  have F_l_mixed := fun_mk (st := s_l_mixed) l_l_mixed c_l_mixed k_l_mixed
  have b_l_mixed := F_l_mixed.binds (ps := ["_law_seed", "_law_k"]) fun _ _ _ _ _ _ us hl => match us, hl with | [_, _], _ => rfl
  have F_l_numbers := fun_mk (st := s_l_numbers) l_l_numbers c_l_numbers k_l_numbers
  have b_l_numbers := F_l_numbers.binds (ps := ["_law_script", "_law_at", "_law_many"]) fun _ _ _ _ _ _ us hl => match us, hl with | [_, _, _], _ => rfl
  have F_l_line := fun_mk (st := s_l_line) l_l_line c_l_line k_l_line
  have b_l_line := F_l_line.binds (ps := ["_law_script", "_law_at", "_law_many"]) fun _ _ _ _ _ _ us hl => match us, hl with | [_, _, _], _ => rfl
  have F_Book_add_canon := funD_mk (st := s_Book_add_canon) l_Book_add_canon c_Book_add_canon k_Book_add_canon
  have b_Book_add_canon : Binds K _ ["self", "name", "leader", "later", "slow", "is_turned"] [] := F_Book_add_canon.binds (ds := []) dl_Book_add_canon rfl fun _ _ _ _ _ _ us hl => match us, hl with | [_, _, _, _, _, _], _ => ⟨_, rfl, rfl⟩
  have bd_Book_add_canon : Binds K _ ["self", "name", "leader", "later", "slow", "is_turned"] [.int 0 dt0_Book_add_canon, .int 1 dt1_Book_add_canon, .bool false] := F_Book_add_canon.binds dl_Book_add_canon rfl fun _ _ _ _ _ _ us hl => match us, (show us.length = 3 by simpa using hl) with | [_, _, _], _ => ⟨_, rfl, rfl⟩
  have F_law := fun_mk (st := s_law) l_law c_law k_law
  have b_law := F_law.binds (ps := ["_law_script"]) fun _ _ _ _ _ _ us hl => match us, hl with | [_], _ => rfl
  have T : Txt K w mg ⟨_, _, _, _, _, _, _, _, _, _, _, _, _, _, _, _, _, _, _, _, _, _, _, _, _, _, _, _, _, _, _, _, _, _, _, _, _, _, _, _, _, _, _, _, _, _, _, _, _, _, _, _, _, _, _, _, _, _, _, _, _, _, _, dt0_measures, _, _, _, _, _, _, _, _, _, dt0_runs, _, _, _, _, _, _, _, _, _, _, _, _, _, _, _, dt0_worths, _, _, _, _, _, _, _, _, _, _, _, _, _, _, _, _, _, _, _, _, _, _, _, _, _, _, _, dt0_Book_add_canon, dt1_Book_add_canon, _, _, a_GREAT_KINDS, a_SMALL_KINDS, a_PARTING_KINDS, a_MEASURE_KINDS, a_SOUNDING_KINDS, a_SILENT_KINDS, t_HIGHEST_TONE, a_TURNED_KINDS, a_PLAIN_WORTHS, a_TWOFOLD_WORTHS, t_FULL_WORTH, t_SHORTENED_WORTH, t_DOUBLED_WORTH, t_DOTTED_WORTH, t_LETTERS, t_LONGEST_NAME, t_MOST_VOICES, t_MOST_SIGNS, t_LATEST, t_SLOWEST, C_Voice, C_Deed, C_Book⟩ := ⟨F_Book___init__, b_Book___init__, F_is_name, b_is_name, PySem.W.mg_of X G a_is_name, F_Book_names, b_Book_names, ⟨a_Book_names, fn_Book_names, k_Book_names⟩, F_Book_refuse_new, b_Book_refuse_new, ⟨a_Book_refuse_new, fn_Book_refuse_new, k_Book_refuse_new⟩, F_Deed_do, b_Deed_do, ⟨a_Deed_do, fn_Deed_do, k_Deed_do⟩, F_Book_perform, b_Book_perform, ⟨a_Book_perform, fn_Book_perform, k_Book_perform⟩, F_Deed___init__, b_Deed___init__, F_Book_put_in, b_Book_put_in, ⟨a_Book_put_in, fn_Book_put_in, k_Book_put_in⟩, F_Voice___init__, b_Voice___init__, F_Book_add_voice, b_Book_add_voice, ⟨a_Book_add_voice, fn_Book_add_voice, k_Book_add_voice⟩, F_l_sign_by, b_l_sign_by, PySem.W.mg_of X G a_l_sign_by, F_refuse_other_places, b_refuse_other_places, PySem.W.mg_of X G a_refuse_other_places, F_good, b_good, PySem.W.mg_of X G a_good, F_refuse_bad_sign, b_refuse_bad_sign, PySem.W.mg_of X G a_refuse_bad_sign, F_small, b_small, PySem.W.mg_of X G a_small, F_low_end, b_low_end, PySem.W.mg_of X G a_low_end, F_high_end, b_high_end, PySem.W.mg_of X G a_high_end, F_sets_measure, b_sets_measure, PySem.W.mg_of X G a_sets_measure, F_window, b_window, PySem.W.mg_of X G a_window, F_Book_voice_called, b_Book_voice_called, ⟨a_Book_voice_called, fn_Book_voice_called, k_Book_voice_called⟩, F_Book_plain_voice, b_Book_plain_voice, ⟨a_Book_plain_voice, fn_Book_plain_voice, k_Book_plain_voice⟩, F_Book_put, b_Book_put, ⟨a_Book_put, fn_Book_put, k_Book_put⟩, F_Deed_undo, b_Deed_undo, ⟨a_Deed_undo, fn_Deed_undo, k_Deed_undo⟩, F_Book_undo, b_Book_undo, ⟨a_Book_undo, fn_Book_undo, k_Book_undo⟩, F_Book_canon, b_Book_canon, ⟨a_Book_canon, fn_Book_canon, k_Book_canon⟩, F_turned, b_turned, PySem.W.mg_of X G a_turned, F_Book_line, b_Book_line, ⟨a_Book_line, fn_Book_line, k_Book_line⟩, F_l_whole, b_l_whole, PySem.W.mg_of X G a_l_whole, F_l_signs, b_l_signs, PySem.W.mg_of X G a_l_signs, F_l_nums, b_l_nums, PySem.W.mg_of X G a_l_nums, F_measures, bd_measures, b_measures, PySem.W.mg_of X G a_measures, F_kind_at, b_kind_at, PySem.W.mg_of X G a_kind_at, F_plain_worth, b_plain_worth, PySem.W.mg_of X G a_plain_worth, F_worths_without_runs, b_worths_without_runs, PySem.W.mg_of X G a_worths_without_runs, F_runs, bd_runs, b_runs, PySem.W.mg_of X G a_runs, F_has_left_note, b_has_left_note, PySem.W.mg_of X G a_has_left_note, F_has_right_note, b_has_right_note, PySem.W.mg_of X G a_has_right_note, F_settle_one_over, b_settle_one_over, PySem.W.mg_of X G a_settle_one_over, F_settle_two_over, b_settle_two_over, PySem.W.mg_of X G a_settle_two_over, F_settle_run, b_settle_run, PySem.W.mg_of X G a_settle_run, F_reading, b_reading, PySem.W.mg_of X G a_reading, F_worths, bd_worths, b_worths, PySem.W.mg_of X G a_worths, F_Book_kept, b_Book_kept, ⟨a_Book_kept, fn_Book_kept, k_Book_kept⟩, F_l_line_of, b_l_line_of, PySem.W.mg_of X G a_l_line_of, F_l_base, b_l_base, PySem.W.mg_of X G a_l_base, F_l_three, b_l_three, PySem.W.mg_of X G a_l_three, F_l_run, b_l_run, PySem.W.mg_of X G a_l_run, F_l_read, b_l_read, PySem.W.mg_of X G a_l_read, F_l_kept_of, b_l_kept_of, PySem.W.mg_of X G a_l_kept_of, F_l_stands, b_l_stands, PySem.W.mg_of X G a_l_stands, F_l_cell_at, b_l_cell_at, PySem.W.mg_of X G a_l_cell_at, F_l_mixed, b_l_mixed, PySem.W.mg_of X G a_l_mixed, F_l_numbers, b_l_numbers, PySem.W.mg_of X G a_l_numbers, F_l_line, b_l_line, PySem.W.mg_of X G a_l_line, F_Book_add_canon, bd_Book_add_canon, b_Book_add_canon, ⟨a_Book_add_canon, fn_Book_add_canon, k_Book_add_canon⟩, F_law, b_law, PySem.W.mg_of X G a_law, PySem.W.mg_none_of X G z_all, PySem.W.mg_none_of X G z_any, PySem.W.mg_none_of X G z_bool, PySem.W.mg_none_of X G z_enumerate, PySem.W.mg_none_of X G z_int, PySem.W.mg_none_of X G z_isinstance, PySem.W.mg_none_of X G z_len, PySem.W.mg_none_of X G z_list, PySem.W.mg_none_of X G z_max, PySem.W.mg_none_of X G z_min, PySem.W.mg_none_of X G z_range, PySem.W.mg_none_of X G z_str, PySem.W.mg_none_of X G z_tuple, PySem.W.mg_none_of X G z_zip, PySem.W.mg_of X G a_GREAT_KINDS_, (fun H => .inr ⟨_, _, _, l_GREAT_KINDS_, rfl, rfl, (by show 3 ≤ sizeLine; decide), (.cons ⟨_, rfl⟩ (.cons ⟨_, rfl⟩ (.cons ⟨_, rfl⟩ .nil)))⟩), PySem.W.mg_of X G a_SMALL_KINDS_, (fun H => .inr ⟨_, _, _, l_SMALL_KINDS_, rfl, rfl, (by show 3 ≤ sizeLine; decide), (.cons ⟨_, rfl⟩ (.cons ⟨_, rfl⟩ (.cons ⟨_, rfl⟩ .nil)))⟩), PySem.W.mg_of X G a_PARTING_KINDS_, (fun H => .inr ⟨_, _, _, l_PARTING_KINDS_, rfl, rfl, (by show 3 ≤ sizeLine; decide), (.cons ⟨_, rfl⟩ (.cons ⟨_, rfl⟩ (.cons ⟨_, rfl⟩ .nil)))⟩), PySem.W.mg_of X G a_MEASURE_KINDS_, (fun H => .inr ⟨_, _, _, l_MEASURE_KINDS_, rfl, rfl, (by show 2 ≤ sizeLine; decide), (.cons ⟨_, rfl⟩ (.cons ⟨_, rfl⟩ .nil))⟩), PySem.W.mg_of X G a_SOUNDING_KINDS_, (fun H => .inr ⟨_, _, _, l_SOUNDING_KINDS_, rfl, rfl, (by show 4 ≤ sizeLine; decide), (.cons ⟨_, rfl⟩ (.cons ⟨_, rfl⟩ (.cons ⟨_, rfl⟩ (.cons ⟨_, rfl⟩ .nil))))⟩), PySem.W.mg_of X G a_SILENT_KINDS_, (fun H => .inr ⟨_, _, _, l_SILENT_KINDS_, rfl, rfl, (by show 5 ≤ sizeLine; decide), (.cons ⟨_, rfl⟩ (.cons ⟨_, rfl⟩ (.cons ⟨_, rfl⟩ (.cons ⟨_, rfl⟩ (.cons ⟨_, rfl⟩ .nil)))))⟩), PySem.W.mg_of X G a_HIGHEST_TONE_, PySem.W.mg_of X G a_TURNED_KINDS_, ⟨y_TURNED_KINDS_, _, _, l_TURNED_KINDS_, (.cons ⟨_, rfl⟩ (.cons ⟨_, rfl⟩ .nil)), by decide +kernel⟩, PySem.W.mg_of X G a_PLAIN_WORTHS_, ⟨y_PLAIN_WORTHS_, _, _, l_PLAIN_WORTHS_, (.cons ⟨_, rfl⟩ (.cons ⟨_, rfl⟩ (.cons ⟨_, rfl⟩ (.cons ⟨_, rfl⟩ (.cons ⟨_, rfl⟩ (.cons ⟨_, rfl⟩ (.cons ⟨_, rfl⟩ (.cons ⟨_, rfl⟩ (.cons ⟨_, rfl⟩ .nil))))))))), by decide +kernel⟩, PySem.W.mg_of X G a_TWOFOLD_WORTHS_, ⟨y_TWOFOLD_WORTHS_, _, _, l_TWOFOLD_WORTHS_, (.cons ⟨_, rfl⟩ (.cons ⟨_, rfl⟩ .nil)), by decide +kernel⟩, PySem.W.mg_of X G a_FULL_WORTH_, PySem.W.mg_of X G a_SHORTENED_WORTH_, PySem.W.mg_of X G a_DOUBLED_WORTH_, PySem.W.mg_of X G a_DOTTED_WORTH_, PySem.W.mg_of X G a_LETTERS_, PySem.W.mg_of X G a_LONGEST_NAME_, PySem.W.mg_of X G a_MOST_VOICES_, PySem.W.mg_of X G a_MOST_SIGNS_, PySem.W.mg_of X G a_LATEST_, PySem.W.mg_of X G a_SLOWEST_, PySem.W.mg_of X G aC_Voice, ⟨mkm_Voice, a_Voice___init__, fn_Voice___init__, mkk_Voice⟩, ⟨pg_Voice, hd_Voice, po_Voice, sa_Voice⟩, na_Voice_name, na_Voice_terms, na_Voice_signs, PySem.W.mg_of X G aC_Deed, ⟨mkm_Deed, a_Deed___init__, fn_Deed___init__, mkk_Deed⟩, ⟨pg_Deed, hd_Deed, po_Deed, sa_Deed⟩, na_Deed_things, na_Deed_at, na_Deed_before, na_Deed_after, PySem.W.mg_of X G aC_Book, ⟨mkm_Book, a_Book___init__, fn_Book___init__, mkk_Book⟩, ⟨pg_Book, hd_Book, po_Book, sa_Book⟩, na_Book_voices, na_Book_done, na_Book_undone⟩
  exact ⟨_, fun s v => .of_eq rfl, fun base _ _ => ok_law T⟩
theorem walk {l : PySem.W.OpenLaw} {q : Program} {loose : List Str} {XP : (Str → Option Value) → Heap → Prop} {YP : World → Heap → Prop} {d : DefRec} {K : Params → PySem.W.Frag} (hn : l.most = some 63) (hdf : d.params.defaults = [])
    (hY : ∀ (w : World) (h : Heap), YP w h → (K w.params).In h)
    (F : ∀ (w : World) (mg : Str → Option Value) (fa : Addr) (h : Heap), (K w.params).In h → h.Ns mainGlobals mg → mg d.name = some (.ref fa) →
      ∃ fd : FuncData, (∀ (s : Shared) (u : Value), BindsTo s fd ⟨[u], []⟩ [("_law_script", u)]) ∧ ∀ base : Heap, (K w.params).In base → base.Ns mainGlobals mg → FnOk l.prog w (K w.params) mg base CX0 9 fa fd ["_law_script"] (sp_law (K w.params))) :
    PySem.W.WalkO q loose XP YP l.row.toRowW d [] (fun f vs => PySem.call f vs) :=
  L2.walk_of (n := 63) (k := 9) (x := "_law_script") (CX := fun _ => CX0) (sp := fun w => sp_law (K w.params)) hn (by decide) hdf ⟨rfl, by decide, by decide⟩ hY F (fun _ H a ns hl hO hS => law_start hl hO hS) fun _ _ _ _ _ z => z
end Mine
def PySem.W.Fast.tw1004633374528523584 : Unit := ()
def PySem.W.Fast.tw10049126190530360008 : Unit := ()
def PySem.W.Fast.tw10688457273226158787 : Unit := ()
def PySem.W.Fast.tw10800845118668021105 : Unit := ()
def PySem.W.Fast.tw10950823757780034639 : Unit := ()
def PySem.W.Fast.tw11587215313585670653 : Unit := ()
def PySem.W.Fast.tw11953309824919096989 : Unit := ()
def PySem.W.Fast.tw12338557315829398824 : Unit := ()
def PySem.W.Fast.tw12557862985468705191 : Unit := ()
def PySem.W.Fast.tw12795445279520307658 : Unit := ()
def PySem.W.Fast.tw12854862384321582673 : Unit := ()
def PySem.W.Fast.tw13321465210217008583 : Unit := ()
def PySem.W.Fast.tw13817663904647262958 : Unit := ()
def PySem.W.Fast.tw13983827013762971445 : Unit := ()
def PySem.W.Fast.tw14155065450784131398 : Unit := ()
def PySem.W.Fast.tw14283820103604456622 : Unit := ()
def PySem.W.Fast.tw14546015583199199695 : Unit := ()
def PySem.W.Fast.tw14813848778709880268 : Unit := ()
def PySem.W.Fast.tw15172005477977036575 : Unit := ()
def PySem.W.Fast.tw15880378445781404597 : Unit := ()
def PySem.W.Fast.tw15943366249460909163 : Unit := ()
def PySem.W.Fast.tw1604596366198006095 : Unit := ()
def PySem.W.Fast.tw16729865548532111291 : Unit := ()
def PySem.W.Fast.tw1743136964632322759 : Unit := ()
def PySem.W.Fast.tw17673547669112642025 : Unit := ()
def PySem.W.Fast.tw18123698233225590000 : Unit := ()
def PySem.W.Fast.tw1831012188800023 : Unit := ()
def PySem.W.Fast.tw193042840780434221 : Unit := ()
def PySem.W.Fast.tw2385755955059995706 : Unit := ()
def PySem.W.Fast.tw2446736107946230366 : Unit := ()
def PySem.W.Fast.tw2516938481783508477 : Unit := ()
def PySem.W.Fast.tw2725373600799367559 : Unit := ()
def PySem.W.Fast.tw3031697097640124634 : Unit := ()
def PySem.W.Fast.tw3410521034931595533 : Unit := ()
def PySem.W.Fast.tw368727049228359988 : Unit := ()
def PySem.W.Fast.tw3912733087955094582 : Unit := ()
def PySem.W.Fast.tw4305650705392556888 : Unit := ()
def PySem.W.Fast.tw5057249754916846821 : Unit := ()
def PySem.W.Fast.tw5273372689205458499 : Unit := ()
def PySem.W.Fast.tw5381280163542395021 : Unit := ()
def PySem.W.Fast.tw5423020693053700578 : Unit := ()
def PySem.W.Fast.tw572528697727534722 : Unit := ()
def PySem.W.Fast.tw6215123825092376150 : Unit := ()
def PySem.W.Fast.tw6520956532352508615 : Unit := ()
def PySem.W.Fast.tw668560529339273379 : Unit := ()
def PySem.W.Fast.tw6845405968435422872 : Unit := ()
def PySem.W.Fast.tw7352953726906892711 : Unit := ()
def PySem.W.Fast.tw7418575190359157965 : Unit := ()
def PySem.W.Fast.tw7427776352658719379 : Unit := ()
def PySem.W.Fast.tw7538773838371329831 : Unit := ()
def PySem.W.Fast.tw7642744219701388056 : Unit := ()
def PySem.W.Fast.tw7885593332881347942 : Unit := ()
def PySem.W.Fast.tw8602891748677759710 : Unit := ()
def PySem.W.Fast.tw889563101348510919 : Unit := ()
def PySem.W.Fast.tw8923650857625302037 : Unit := ()
def PySem.W.Fast.tw8932781007559347655 : Unit := ()
def PySem.W.Fast.tw9298994102529721726 : Unit := ()
def PySem.W.Fast.tw9398726905196416964 : Unit := ()
def PySem.W.Fast.tw9515861633430022428 : Unit := ()
def PySem.W.Fast.tw9542149180468922321 : Unit := ()
def PySem.W.Fast.tw9745468087260494951 : Unit := ()
def PySem.W.Fast.tw3264291758950402070 : Unit := ()
def PySem.W.Fast.tw5612724175054506481 : Unit := ()
def PySem.W.Fast.tw8139791003898284597 : Unit := ()
def PySem.W.Fast.tw2349344822241074844 : Unit := ()
def PySem.W.Fast.tw10267429350689537596 : Unit := ()
def PySem.W.Fast.tw2426316213116514385 : Unit := ()
def PySem.W.Fast.tw11612104250483674581 : Unit := ()
def PySem.W.Fast.tw10654712846489685421 : Unit := ()
def PySem.W.Fast.tw12204978039768965018 : Unit := ()
def PySem.W.Fast.tw16259330956219860967 : Unit := ()
def PySem.W.Fast.tw2957819011061703266 : Unit := ()
def PySem.W.Fast.tw18233246728420769840 : Unit := ()
def PySem.W.Fast.tw10380753258939342981 : Unit := ()
def PySem.W.Fast.tw8603027541323583183 : Unit := ()
def PySem.W.Fast.tw7937160097615235570 : Unit := ()
def PySem.W.Fast.tw951340470241230951 : Unit := ()
def PySem.W.Fast.tw6351012319039006938 : Unit := ()
def PySem.W.Fast.tw3695123052296932933 : Unit := ()
def PySem.W.Fast.tw6334017696827643126 : Unit := ()
def PySem.W.Fast.tw4540010283447187752 : Unit := ()
def PySem.W.Fast.tw2294138681895513865 : Unit := ()
open PySem PySem.W PyProof.Rows
set_option maxRecDepth 100000 in
set_option maxHeartbeats 0 in
theorem PySem.Challenge.cw_noteworth_k38_canons_read_holds : PySem.Challenge.rw_noteworth_k38_canons_read.Holds := by
  w_on; o_law; k_head; (case hw => w_witness2)
  k_fill
  refine Mine.walk (l := PySem.Challenge.rw_noteworth_k38_canons_read) rfl rfl (fun w h Y => PySem.W.kIn_of Y) ?F
  case F =>
    intro w mg fa h KX G hmg
    refine' Mine.all_mk KX G hmg ?aC_Voice ?aC_Deed ?aC_Book ?a_Book___init__ ?l_Book___init__ ?c_Book___init__ ?k_Book___init__ ?fn_Book___init__ ?a_is_name ?l_is_name ?c_is_name ?k_is_name ?a_Book_names ?l_Book_names ?c_Book_names ?k_Book_names ?fn_Book_names ?a_Book_refuse_new ?l_Book_refuse_new ?c_Book_refuse_new ?k_Book_refuse_new ?fn_Book_refuse_new ?a_Deed_do ?l_Deed_do ?c_Deed_do ?k_Deed_do ?fn_Deed_do ?a_Book_perform ?l_Book_perform ?c_Book_perform ?k_Book_perform ?fn_Book_perform ?a_Deed___init__ ?l_Deed___init__ ?c_Deed___init__ ?k_Deed___init__ ?fn_Deed___init__ ?a_Book_put_in ?l_Book_put_in ?c_Book_put_in ?k_Book_put_in ?fn_Book_put_in ?a_Voice___init__ ?l_Voice___init__ ?c_Voice___init__ ?k_Voice___init__ ?fn_Voice___init__ ?a_Book_add_voice ?l_Book_add_voice ?c_Book_add_voice ?k_Book_add_voice ?fn_Book_add_voice ?a_l_sign_by ?l_l_sign_by ?c_l_sign_by ?k_l_sign_by ?a_refuse_other_places ?l_refuse_other_places ?c_refuse_other_places ?k_refuse_other_places ?a_good ?l_good ?c_good ?k_good ?a_refuse_bad_sign ?l_refuse_bad_sign ?c_refuse_bad_sign ?k_refuse_bad_sign ?a_small ?l_small ?c_small ?k_small ?a_low_end ?l_low_end ?c_low_end ?k_low_end ?a_high_end ?l_high_end ?c_high_end ?k_high_end ?a_sets_measure ?l_sets_measure ?c_sets_measure ?k_sets_measure ?a_window ?l_window ?c_window ?k_window ?a_Book_voice_called ?l_Book_voice_called ?c_Book_voice_called ?k_Book_voice_called ?fn_Book_voice_called ?a_Book_plain_voice ?l_Book_plain_voice ?c_Book_plain_voice ?k_Book_plain_voice ?fn_Book_plain_voice ?a_Book_put ?l_Book_put ?c_Book_put ?k_Book_put ?fn_Book_put ?a_Deed_undo ?l_Deed_undo ?c_Deed_undo ?k_Deed_undo ?fn_Deed_undo ?a_Book_undo ?l_Book_undo ?c_Book_undo ?k_Book_undo ?fn_Book_undo ?a_Book_canon ?l_Book_canon ?c_Book_canon ?k_Book_canon ?fn_Book_canon ?a_turned ?l_turned ?c_turned ?k_turned ?a_Book_line ?l_Book_line ?c_Book_line ?k_Book_line ?fn_Book_line ?a_l_whole ?l_l_whole ?c_l_whole ?k_l_whole ?a_l_signs ?l_l_signs ?c_l_signs ?k_l_signs ?a_l_nums ?l_l_nums ?c_l_nums ?k_l_nums ?a_measures ?l_measures ?c_measures ?k_measures ?dl_measures ?a_kind_at ?l_kind_at ?c_kind_at ?k_kind_at ?a_plain_worth ?l_plain_worth ?c_plain_worth ?k_plain_worth ?a_worths_without_runs ?l_worths_without_runs ?c_worths_without_runs ?k_worths_without_runs ?a_runs ?l_runs ?c_runs ?k_runs ?dl_runs ?a_has_left_note ?l_has_left_note ?c_has_left_note ?k_has_left_note ?a_has_right_note ?l_has_right_note ?c_has_right_note ?k_has_right_note ?a_settle_one_over ?l_settle_one_over ?c_settle_one_over ?k_settle_one_over ?a_settle_two_over ?l_settle_two_over ?c_settle_two_over ?k_settle_two_over ?a_settle_run ?l_settle_run ?c_settle_run ?k_settle_run ?a_reading ?l_reading ?c_reading ?k_reading ?a_worths ?l_worths ?c_worths ?k_worths ?dl_worths ?a_Book_kept ?l_Book_kept ?c_Book_kept ?k_Book_kept ?fn_Book_kept ?a_l_line_of ?l_l_line_of ?c_l_line_of ?k_l_line_of ?a_l_base ?l_l_base ?c_l_base ?k_l_base ?a_l_three ?l_l_three ?c_l_three ?k_l_three ?a_l_run ?l_l_run ?c_l_run ?k_l_run ?a_l_read ?l_l_read ?c_l_read ?k_l_read ?a_l_kept_of ?l_l_kept_of ?c_l_kept_of ?k_l_kept_of ?a_l_stands ?l_l_stands ?c_l_stands ?k_l_stands ?a_l_cell_at ?l_l_cell_at ?c_l_cell_at ?k_l_cell_at ?a_l_mixed ?l_l_mixed ?c_l_mixed ?k_l_mixed ?a_l_numbers ?l_l_numbers ?c_l_numbers ?k_l_numbers ?a_l_line ?l_l_line ?c_l_line ?k_l_line ?a_Book_add_canon ?l_Book_add_canon ?c_Book_add_canon ?k_Book_add_canon ?fn_Book_add_canon ?dl_Book_add_canon ?a_law ?l_law ?c_law ?k_law ?z_all ?z_any ?z_bool ?z_enumerate ?z_int ?z_isinstance ?z_len ?z_list ?z_max ?z_min ?z_range ?z_str ?z_tuple ?z_zip ?a_GREAT_KINDS_ ?l_GREAT_KINDS_ ?a_SMALL_KINDS_ ?l_SMALL_KINDS_ ?a_PARTING_KINDS_ ?l_PARTING_KINDS_ ?a_MEASURE_KINDS_ ?l_MEASURE_KINDS_ ?a_SOUNDING_KINDS_ ?l_SOUNDING_KINDS_ ?a_SILENT_KINDS_ ?l_SILENT_KINDS_ ?a_HIGHEST_TONE_ ?a_TURNED_KINDS_ ?l_TURNED_KINDS_ ?y_TURNED_KINDS_ ?a_PLAIN_WORTHS_ ?l_PLAIN_WORTHS_ ?y_PLAIN_WORTHS_ ?a_TWOFOLD_WORTHS_ ?l_TWOFOLD_WORTHS_ ?y_TWOFOLD_WORTHS_ ?a_FULL_WORTH_ ?a_SHORTENED_WORTH_ ?a_DOUBLED_WORTH_ ?a_DOTTED_WORTH_ ?a_LETTERS_ ?a_LONGEST_NAME_ ?a_MOST_VOICES_ ?a_MOST_SIGNS_ ?a_LATEST_ ?a_SLOWEST_ ?mkm_Voice ?mkk_Voice ?pg_Voice ?hd_Voice ?po_Voice ?sa_Voice ?na_Voice_name ?na_Voice_terms ?na_Voice_signs ?mkm_Deed ?mkk_Deed ?pg_Deed ?hd_Deed ?po_Deed ?sa_Deed ?na_Deed_things ?na_Deed_at ?na_Deed_before ?na_Deed_after ?mkm_Book ?mkk_Book ?pg_Book ?hd_Book ?po_Book ?sa_Book ?na_Book_voices ?na_Book_done ?na_Book_undone
    (case aC_Voice => k_is)
    (case aC_Deed => k_is)
    (case aC_Book => k_is)
    (case a_Book___init__ => k_is)
    (case l_Book___init__ => k_is)
    (case c_Book___init__ => k_is)
    (case k_Book___init__ => k_is)
    (case fn_Book___init__ => k_is)
    (case a_is_name => k_is)
    (case l_is_name => k_is)
    (case c_is_name => k_is)
    (case k_is_name => k_is)
    (case a_Book_names => k_is)
    (case l_Book_names => k_is)
    (case c_Book_names => k_is)
    (case k_Book_names => k_is)
    (case fn_Book_names => k_is)
    (case a_Book_refuse_new => k_is)
    (case l_Book_refuse_new => k_is)
    (case c_Book_refuse_new => k_is)
    (case k_Book_refuse_new => k_is)
    (case fn_Book_refuse_new => k_is)
    (case a_Deed_do => k_is)
    (case l_Deed_do => k_is)
    (case c_Deed_do => k_is)
    (case k_Deed_do => k_is)
    (case fn_Deed_do => k_is)
    (case a_Book_perform => k_is)
    (case l_Book_perform => k_is)
    (case c_Book_perform => k_is)
    (case k_Book_perform => k_is)
    (case fn_Book_perform => k_is)
    (case a_Deed___init__ => k_is)
    (case l_Deed___init__ => k_is)
    (case c_Deed___init__ => k_is)
    (case k_Deed___init__ => k_is)
    (case fn_Deed___init__ => k_is)
    (case a_Book_put_in => k_is)
    (case l_Book_put_in => k_is)
    (case c_Book_put_in => k_is)
    (case k_Book_put_in => k_is)
    (case fn_Book_put_in => k_is)
    (case a_Voice___init__ => k_is)
    (case l_Voice___init__ => k_is)
    (case c_Voice___init__ => k_is)
    (case k_Voice___init__ => k_is)
    (case fn_Voice___init__ => k_is)
    (case a_Book_add_voice => k_is)
    (case l_Book_add_voice => k_is)
    (case c_Book_add_voice => k_is)
    (case k_Book_add_voice => k_is)
    (case fn_Book_add_voice => k_is)
    (case a_l_sign_by => k_is)
    (case l_l_sign_by => k_is)
    (case c_l_sign_by => k_is)
    (case k_l_sign_by => k_is)
    (case a_refuse_other_places => k_is)
    (case l_refuse_other_places => k_is)
    (case c_refuse_other_places => k_is)
    (case k_refuse_other_places => k_is)
    (case a_good => k_is)
    (case l_good => k_is)
    (case c_good => k_is)
    (case k_good => k_is)
    (case a_refuse_bad_sign => k_is)
    (case l_refuse_bad_sign => k_is)
    (case c_refuse_bad_sign => k_is)
    (case k_refuse_bad_sign => k_is)
    (case a_small => k_is)
    (case l_small => k_is)
    (case c_small => k_is)
    (case k_small => k_is)
    (case a_low_end => k_is)
    (case l_low_end => k_is)
    (case c_low_end => k_is)
    (case k_low_end => k_is)
    (case a_high_end => k_is)
    (case l_high_end => k_is)
    (case c_high_end => k_is)
    (case k_high_end => k_is)
    (case a_sets_measure => k_is)
    (case l_sets_measure => k_is)
    (case c_sets_measure => k_is)
    (case k_sets_measure => k_is)
    (case a_window => k_is)
    (case l_window => k_is)
    (case c_window => k_is)
    (case k_window => k_is)
    (case a_Book_voice_called => k_is)
    (case l_Book_voice_called => k_is)
    (case c_Book_voice_called => k_is)
    (case k_Book_voice_called => k_is)
    (case fn_Book_voice_called => k_is)
    (case a_Book_plain_voice => k_is)
    (case l_Book_plain_voice => k_is)
    (case c_Book_plain_voice => k_is)
    (case k_Book_plain_voice => k_is)
    (case fn_Book_plain_voice => k_is)
    (case a_Book_put => k_is)
    (case l_Book_put => k_is)
    (case c_Book_put => k_is)
    (case k_Book_put => k_is)
    (case fn_Book_put => k_is)
    (case a_Deed_undo => k_is)
    (case l_Deed_undo => k_is)
    (case c_Deed_undo => k_is)
    (case k_Deed_undo => k_is)
    (case fn_Deed_undo => k_is)
    (case a_Book_undo => k_is)
    (case l_Book_undo => k_is)
    (case c_Book_undo => k_is)
    (case k_Book_undo => k_is)
    (case fn_Book_undo => k_is)
    (case a_Book_canon => k_is)
    (case l_Book_canon => k_is)
    (case c_Book_canon => k_is)
    (case k_Book_canon => k_is)
    (case fn_Book_canon => k_is)
    (case a_turned => k_is)
    (case l_turned => k_is)
    (case c_turned => k_is)
    (case k_turned => k_is)
    (case a_Book_line => k_is)
    (case l_Book_line => k_is)
    (case c_Book_line => k_is)
    (case k_Book_line => k_is)
    (case fn_Book_line => k_is)
    (case a_l_whole => k_is)
    (case l_l_whole => k_is)
    (case c_l_whole => k_is)
    (case k_l_whole => k_is)
    (case a_l_signs => k_is)
    (case l_l_signs => k_is)
    (case c_l_signs => k_is)
    (case k_l_signs => k_is)
    (case a_l_nums => k_is)
    (case l_l_nums => k_is)
    (case c_l_nums => k_is)
    (case k_l_nums => k_is)
    (case a_measures => k_is)
    (case l_measures => k_is)
    (case c_measures => k_is)
    (case k_measures => k_is)
    (case dl_measures => k_is)
    (case a_kind_at => k_is)
    (case l_kind_at => k_is)
    (case c_kind_at => k_is)
    (case k_kind_at => k_is)
    (case a_plain_worth => k_is)
    (case l_plain_worth => k_is)
    (case c_plain_worth => k_is)
    (case k_plain_worth => k_is)
    (case a_worths_without_runs => k_is)
    (case l_worths_without_runs => k_is)
    (case c_worths_without_runs => k_is)
    (case k_worths_without_runs => k_is)
    (case a_runs => k_is)
    (case l_runs => k_is)
    (case c_runs => k_is)
    (case k_runs => k_is)
    (case dl_runs => k_is)
    (case a_has_left_note => k_is)
    (case l_has_left_note => k_is)
    (case c_has_left_note => k_is)
    (case k_has_left_note => k_is)
    (case a_has_right_note => k_is)
    (case l_has_right_note => k_is)
    (case c_has_right_note => k_is)
    (case k_has_right_note => k_is)
    (case a_settle_one_over => k_is)
    (case l_settle_one_over => k_is)
    (case c_settle_one_over => k_is)
    (case k_settle_one_over => k_is)
    (case a_settle_two_over => k_is)
    (case l_settle_two_over => k_is)
    (case c_settle_two_over => k_is)
    (case k_settle_two_over => k_is)
    (case a_settle_run => k_is)
    (case l_settle_run => k_is)
    (case c_settle_run => k_is)
    (case k_settle_run => k_is)
    (case a_reading => k_is)
    (case l_reading => k_is)
    (case c_reading => k_is)
    (case k_reading => k_is)
    (case a_worths => k_is)
    (case l_worths => k_is)
    (case c_worths => k_is)
    (case k_worths => k_is)
    (case dl_worths => k_is)
    (case a_Book_kept => k_is)
    (case l_Book_kept => k_is)
    (case c_Book_kept => k_is)
    (case k_Book_kept => k_is)
    (case fn_Book_kept => k_is)
    (case a_l_line_of => k_is)
    (case l_l_line_of => k_is)
    (case c_l_line_of => k_is)
    (case k_l_line_of => k_is)
    (case a_l_base => k_is)
    (case l_l_base => k_is)
    (case c_l_base => k_is)
    (case k_l_base => k_is)
    (case a_l_three => k_is)
    (case l_l_three => k_is)
    (case c_l_three => k_is)
    (case k_l_three => k_is)
    (case a_l_run => k_is)
    (case l_l_run => k_is)
    (case c_l_run => k_is)
    (case k_l_run => k_is)
    (case a_l_read => k_is)
    (case l_l_read => k_is)
    (case c_l_read => k_is)
    (case k_l_read => k_is)
    (case a_l_kept_of => k_is)
    (case l_l_kept_of => k_is)
    (case c_l_kept_of => k_is)
    (case k_l_kept_of => k_is)
    (case a_l_stands => k_is)
    (case l_l_stands => k_is)
    (case c_l_stands => k_is)
    (case k_l_stands => k_is)
    (case a_l_cell_at => k_is)
    (case l_l_cell_at => k_is)
    (case c_l_cell_at => k_is)
    (case k_l_cell_at => k_is)
    (case a_l_mixed => k_is)
    (case l_l_mixed => k_is)
    (case c_l_mixed => k_is)
    (case k_l_mixed => k_is)
    (case a_l_numbers => k_is)
    (case l_l_numbers => k_is)
    (case c_l_numbers => k_is)
    (case k_l_numbers => k_is)
    (case a_l_line => k_is)
    (case l_l_line => k_is)
    (case c_l_line => k_is)
    (case k_l_line => k_is)
    (case a_Book_add_canon => k_is)
    (case l_Book_add_canon => k_is)
    (case c_Book_add_canon => k_is)
    (case k_Book_add_canon => k_is)
    (case fn_Book_add_canon => k_is)
    (case dl_Book_add_canon => k_is)
    (case a_law => k_is)
    (case l_law => k_is)
    (case c_law => k_is)
    (case k_law => k_is)
    (case z_all => k_is)
    (case z_any => k_is)
    (case z_bool => k_is)
    (case z_enumerate => k_is)
    (case z_int => k_is)
    (case z_isinstance => k_is)
    (case z_len => k_is)
    (case z_list => k_is)
    (case z_max => k_is)
    (case z_min => k_is)
    (case z_range => k_is)
    (case z_str => k_is)
    (case z_tuple => k_is)
    (case z_zip => k_is)
    (case a_GREAT_KINDS_ => k_is)
    (case l_GREAT_KINDS_ => k_is)
    (case a_SMALL_KINDS_ => k_is)
    (case l_SMALL_KINDS_ => k_is)
    (case a_PARTING_KINDS_ => k_is)
    (case l_PARTING_KINDS_ => k_is)
    (case a_MEASURE_KINDS_ => k_is)
    (case l_MEASURE_KINDS_ => k_is)
    (case a_SOUNDING_KINDS_ => k_is)
    (case l_SOUNDING_KINDS_ => k_is)
    (case a_SILENT_KINDS_ => k_is)
    (case l_SILENT_KINDS_ => k_is)
    (case a_HIGHEST_TONE_ => k_is)
    (case a_TURNED_KINDS_ => k_is)
    (case l_TURNED_KINDS_ => k_is)
    (case y_TURNED_KINDS_ => rfl)
    (case a_PLAIN_WORTHS_ => k_is)
    (case l_PLAIN_WORTHS_ => k_is)
    (case y_PLAIN_WORTHS_ => rfl)
    (case a_TWOFOLD_WORTHS_ => k_is)
    (case l_TWOFOLD_WORTHS_ => k_is)
    (case y_TWOFOLD_WORTHS_ => rfl)
    (case a_FULL_WORTH_ => k_is)
    (case a_SHORTENED_WORTH_ => k_is)
    (case a_DOUBLED_WORTH_ => k_is)
    (case a_DOTTED_WORTH_ => k_is)
    (case a_LETTERS_ => k_is)
    (case a_LONGEST_NAME_ => k_is)
    (case a_MOST_VOICES_ => k_is)
    (case a_MOST_SIGNS_ => k_is)
    (case a_LATEST_ => k_is)
    (case a_SLOWEST_ => k_is)
    (case mkm_Voice => k_is)
    (case mkk_Voice => k_is)
    (case pg_Voice => k_is)
    (case hd_Voice => k_is)
    (case po_Voice => k_is)
    (case sa_Voice => k_is)
    (case na_Voice_name => k_is)
    (case na_Voice_terms => k_is)
    (case na_Voice_signs => k_is)
    (case mkm_Deed => k_is)
    (case mkk_Deed => k_is)
    (case pg_Deed => k_is)
    (case hd_Deed => k_is)
    (case po_Deed => k_is)
    (case sa_Deed => k_is)
    (case na_Deed_things => k_is)
    (case na_Deed_at => k_is)
    (case na_Deed_before => k_is)
    (case na_Deed_after => k_is)
    (case mkm_Book => k_is)
    (case mkk_Book => k_is)
    (case pg_Book => k_is)
    (case hd_Book => k_is)
    (case po_Book => k_is)
    (case sa_Book => k_is)
    (case na_Book_voices => k_is)
    (case na_Book_done => k_is)
    (case na_Book_undone => k_is)
