import PyProof.Rows.All
import Wide.All
import OpenK.AllK
import Wide.FinOn
import Lean
import PyProof.EqAt
import PyProof.EqKinds
import PyProof.TupleCall
import PySem.Challenge.RW_noteworth_k40_spans_of_voices
set_option Elab.async false
set_option linter.all false
set_option maxRecDepth 100000
open PySem.W (Frag OpenLaw WalkO callWith_K callWith_K0 codeIn emptyDict excIn findIn fnOf handedIn hasDictIn instObj isFn keepIn kia_one kitOne kitx_dict kitx_list lookIn makesIn methodCall_KW methodObj mg_none_of mg_of mroIn nsIn plainGet plainGet_of plainOver specialIn takerIn)
namespace L2
open PySem PySem.Spec PyProof.Rows
abbrev Key:=Sum Int Str
def Zy:Key->Value->Bool
 | .inl k,v=>Value.isInt k v
 | .inr x,v=>Value.isStrOf x v
def ayw (w:World):Key->Int
 | .inl k=>hashInt k
 | .inr x=>hashStr w x
theorem gb:∀ {k:Key} {v:Value},Zy k v=true->(∃ i t,k=Sum.inl i/\v=Value.int i t)∨(∃ x t,k=Sum.inr x/\v=Value.str x t)
 | .inl i,v,h=>by
  obtain⟨t,e⟩:=Value.isInt_shape (k:=i) (v:=v) h
  exact .inl ⟨i,t,rfl,e⟩
 | .inr x,v,h=>by
  obtain⟨t,e⟩:=Value.isStrOf_shape (x:=x) (v:=v) h
  exact .inr ⟨x,t,rfl,e⟩
theorem am3 (i:Int)(t:Tok):Zy (.inl i) (.int i t)=true:=by simp[Zy,Value.isInt]
theorem am4 (x:Str)(t:Tok):Zy (.inr x) (.str x t)=true:=by simp[Zy,Value.isStrOf]
theorem auE (a b:Int):decide ((Sum.inl a:Key)=Sum.inl b)=(a == b):=by
 by_cases e:a=b
 ·subst e;simp
 ·have h:¬ (Sum.inl a:Key)=Sum.inl b:=fun q=>e (Sum.inl.inj q)
  rw[decide_eq_false h]
  exact (beq_eq_false_iff_ne.mpr e).symm
theorem auF (a b:Str):decide ((Sum.inr a:Key)=Sum.inr b)=decide (a=b):=by
 by_cases e:a=b
 ·subst e;simp
 ·have h:¬ (Sum.inr a:Key)=Sum.inr b:=fun q=>e (Sum.inr.inj q)
  rw[decide_eq_false h,decide_eq_false e]
theorem auG (a:Int)(b:Str):decide ((Sum.inl a:Key)=Sum.inr b)=false:=decide_eq_false (fun q=>nomatch q)
theorem auH (a:Str)(b:Int):decide ((Sum.inr a:Key)=Sum.inl b)=false:=decide_eq_false (fun q=>nomatch q)
def dw (prog:Program)(w:World):PySem.KeyKind prog w Key where
 is:=Zy
 hash:=ayw w
 inj:=fun v a b ha hb=>by
  rcases gb ha with ⟨i,t,rfl,rfl⟩ | ⟨x,t,rfl,rfl⟩
  ·rcases gb hb with ⟨j,u,rfl,e⟩ | ⟨y,u,rfl,e⟩
   ·injection e with e1 _;rw[e1]
   ·exact nomatch e
  ·rcases gb hb with ⟨j,u,rfl,e⟩ | ⟨y,u,rfl,e⟩
   ·exact nomatch e
   ·injection e with e1 _;rw[e1]
 byValue:=fun k v h=>by
  rcases gb h with ⟨i,t,rfl,rfl⟩ | ⟨x,t,rfl,rfl⟩ <;> rfl
 pyHash:=fun hv h=>by
  rcases gb hv with ⟨i,t,rfl,rfl⟩ | ⟨x,t,rfl,rfl⟩
  ·exact wpAny_pyHash_int h
  ·exact wpAny_pyHash_str h
 eqBool:=fun hu hv h=>by
  rcases gb hu with ⟨i,t,rfl,rfl⟩ | ⟨x,t,rfl,rfl⟩
  ·rcases gb hv with ⟨j,u,rfl,rfl⟩ | ⟨y,u,rfl,rfl⟩
   ·rw[auE] at h;exact wpAny_eqBool_int h
   ·rw[auG] at h;exact SeqAt.EqAt.int_str i t y u _ _ _ _ h
  ·rcases gb hv with ⟨j,u,rfl,rfl⟩ | ⟨y,u,rfl,rfl⟩
   ·rw[auH] at h;exact SeqAt.EqAt.str_int x t j u _ _ _ _ h
   ·rw[auF] at h;exact wpAny_eqBool_str h
 «strs»:=fun k x t v h=>by
  rcases gb h with ⟨i,u,rfl,e⟩ | ⟨y,u,rfl,e⟩
  ·exact nomatch e
  ·injection e with e1 _
   subst e1
   cases v <;> rfl
theorem ahZ (prog:Program)(w:World)(i:Int)(t:Tok):(dw prog w).is (.inl i) (.int i t)=true:=am3 i t
theorem pO (prog:Program)(w:World)(x:Str)(t:Tok):(dw prog w).is (.inr x) (.str x t)=true:=am4 x t
end L2
namespace L2
open PySem PySem.Spec PyProof.Rows
inductive V where
 | non | bl (b:Bool) | int (i:Int) | str (x:Str) | byt (b:Array UInt8) | flt (b:UInt64) | ref (a:Addr) | ty (n:String)
 deriving DecidableEq
def RelV:V->Value->Prop
 | .non,u=>u=Value.none
 | .bl b,u=>u=Value.bool b
 | .int i,u=>∃ t,u=Value.int i t
 | .str x,u=>∃ t,u=Value.str x t
 | .byt b,u=>∃ t,u=Value.bytes b t
 | .flt b,u=>∃ t,u=Value.float b t
 | .ref a,u=>u=Value.ref a
 | .ty n,u=>u=Value.type n
abbrev Vals:List V->List Value->Prop:=Paired RelV
theorem Vals.length {xs:List V}{us:List Value}(r:Vals xs us):xs.length=us.length:=Paired.length r
theorem Vals.get:∀ {xs:List V} {us:List Value} {i:Nat} {x:V},Vals xs us->xs[i]? = some x->∃ u,us[i]? = some u/\RelV x u
 | _,_,_,_,.nil,e=>by simp at e
 | _,_,0,_,.cons r _,e=>by simp at e;subst e;exact⟨_,rfl,r⟩
 | _,_,i+1,x,.cons _ t,e=>by
  obtain⟨u,h1,h2⟩:=Vals.get (i:=i) (x:=x) t (by simpa using e)
  exact⟨u,by simpa using h1,h2⟩
theorem Vals.set {x:V}{u:Value}(r:RelV x u):∀ {xs:List V} {us:List Value} (i:Nat),Vals xs us->Vals (xs.set i x) (us.set i u)
 | _,_,_,.nil=>.nil
 | _,_,0,.cons _ t=>.cons r t
 | _,_,i+1,.cons q t=>.cons q (Vals.set r i t)
theorem Vals.append:∀ {xs ys:List V} {us ws:List Value},Vals xs us->Vals ys ws->Vals (xs++ys) (us++ws)
 | _,_,_,_,.nil,s=>s
 | _,_,_,_,.cons r t,s=>.cons r (Vals.append t s)
theorem Vals.take:∀ {xs:List V} {us:List Value} (n:Nat),Vals xs us->Vals (xs.take n) (us.take n)
 | _,_,0,_=>.nil
 | _,_,_+1,.nil=>.nil
 | _,_,n+1,.cons r t=>.cons r (Vals.take n t)
theorem Vals.drop:∀ {xs:List V} {us:List Value} (n:Nat),Vals xs us->Vals (xs.drop n) (us.drop n)
 | _,_,0,r=>r
 | _,_,_+1,.nil=>.nil
 | _,_,n+1,.cons _ t=>Vals.drop n t
def Dm:Option V->Option Value->Prop
 | some v,some u=>RelV v u
 | none,none=>True
 | _,_=>False
def KV {κ:Type}:List (κ×V)->List (κ×Value)->Prop:=Paired fun (p:κ×V) (q:κ×Value)=>p.1=q.1/\RelV p.2 q.2
def kV:Key->V
 | .inl i=>.int i
 | .inr x=>.str x
inductive HO where
 /-- a list -/
 | lst (xs:List V)
 /-- a tuple (never changes) -/
 | tup (xs:List V)
 /-- a dict whose keys are ints and texts;one whose keys are tuples of ints and texts (the empty one is both) -/
 | dK (kvs:List (Key×V)) | dT (kvs:List (List Key×V))
 /-- a set of ints: its members,its size -/
 | set (S:Int->Bool) (n:Nat)
 /-- an instance of the class at C,its dict at dx,its attributes -/
 | ins (C dx:Addr) (fs:List (Str×V))
 /-- the dict of the instance at x -/
 | own (x:Addr)
 /-- the dict of an exception -/
 | xd (fs:List (Str×V))
 /-- a bound method,f of x -/
 | met (f x:Addr)
 /-- a range object lo,lo+1,.. below hi -/
 | rng (lo hi:Int)
 /-- a thing that is known to the object (the script;a dict while a loop walks it): read,never written while it is so -/
 | frz (o:Obj) (u:HO)
 /-- a code object's table -/
 | tbl (ps:Array Value)
 /-- any other thing,by what is true of its one object (a def of one's own: aBt a S n:=HO.ext fun h=>..) -/
 | ext (φ:Heap->Prop)
abbrev Hp:=Addr->Option HO
def upd (H:Hp)(a:Addr)(o:HO):Hp:=fun b=>if b=a then some o else H b
theorem ao {H:Hp}{a:Addr}{o:HO}:upd H a o a=some o:=by unfold upd;rw[if_pos rfl]
theorem aA {H:Hp}{a b:Addr}{o:HO}(h:b≠a):upd H a o b=H b:=by unfold upd;rw[if_neg h]
theorem eU {H:Hp}{a:Addr}{o u:HO}:upd (upd H a o) a u=upd H a u:=by
 funext b;unfold upd;split <;> rfl
theorem vL {H:Hp}{a b:Addr}{o u:HO}(h:H a=some o)(h':H b=some u)(d:o≠u):a≠b:=by
 intro e;subst e;rw[h] at h';exact d (Option.some.inj h')
theorem aD {H:Hp}{a b:Addr}{o:HO}(h:H a=some o)(h':H b=none):a≠b:=by
 intro e;subst e;rw[h] at h';cases h'
section
variable (P:Program) (w:World)
def jY (H:Hp)(h:Heap)(a:Addr):HO->Prop
 | .lst xs=>xs.length <= sizeLine/\∃ (its:List Value) (n:Nat),Vals xs its/\h.get? a=some { cls:=.type "list",data:=.seq its.toArray n }
 | .tup xs=>xs.length <= sizeLine/\∃ its:List Value,Vals xs its/\IsTup h a its.toArray
 | .dK kvs=>kvs.length <= sizeLine/\(a == sysModules)=false/\∃ vs,KV kvs vs/\h.DictOf (dw P w) a vs
 | .dT kvs=>kvs.length <= sizeLine/\(a == sysModules)=false/\∃ xs:List (List Key×Addr×Value),
   Paired (fun (p:List Key×V) (q:List Key×Addr×Value)=>p.1=q.1/\H q.2.1=some (.tup (p.1.map kV))/\RelV p.2 q.2.2) kvs xs /\
   ∃ o es ep,h.get? a=some o/\o.ExactDict/\o.data=.dict es ep/\es.toList=xs.map (entryOfKey (tupleKind (dw P w)))/\(xs.map (·.1)).Nodup
 | .set S n=>h.SetOf (intKind P w) a S n
 | .ins C dx fs=>H dx=some (.own a)/\fs.length <= 1000/\dx≠a/\h.get? a=some (instObj C dx) /\
   ∃ mA,h.Ns1 dx mA/\(∀ f,Dm (fs.lookup f) (mA f))/\PySem.Within mA (fs.map (·.1))
 | .own _=>∃ o,h.get? a=some o
 | .xd fs=>∃ mA,h.Ns1 a mA/\∀ f,Dm (fs.lookup f) (mA f)
 | .rng lo hi=>∃ t u v,h.get? a=some { cls:=.type "range",data:=.fields #[.int lo t,.int hi u,.int 1 v] }
 | .frz o u=>h.get? a=some o/\jY H h a u
 | .tbl ps=>h.get? a=some { cls:=.none,data:=.fields ps }
 | .met f x=>h.get? a=some (methodObj (.ref f) (.ref x))
 | .ext φ=>φ h/\(∃ o,h.get? a=some o)/\∀ h1 h2:Heap,φ h1->(∀ o,h1.get? a=some o->h2.get? a=some o)->φ h2
def QS (H:Hp)(h:Heap):Prop:=∀ a o,H a=some o->jY P w H h a o
end
section
variable {P:Program} {w:World} {H H':Hp} {h h':Heap} {a:Addr} {o:HO}
theorem jY.lt (x:jY P w H h a o):a < h.objs.size:=by
 cases o with
 | lst xs=>obtain⟨_,_,_,_,e⟩:=x;exact Heap.lt_size e
 | tup xs=>obtain⟨_,_,_,p⟩:=x;exact p.lt
 | dK kvs=>obtain⟨_,_,_,_,o,_,_,e,_⟩:=x;exact Heap.lt_size e
 | dT kvs=>obtain⟨_,_,_,_,o,_,_,e,_⟩:=x;exact Heap.lt_size e
 | set S n=>obtain⟨o,_,_,_,e,_⟩:=x;exact Heap.lt_size e
 | ins C dx fs=>obtain⟨_,_,_,e,_⟩:=x;exact Heap.lt_size e
 | own y=>obtain⟨_,e⟩:=x;exact Heap.lt_size e
 | xd fs=>obtain⟨_,⟨_,_,_,e,_⟩,_⟩:=x;exact Heap.lt_size e
 | rng lo hi=>obtain⟨_,_,_,e⟩:=x;exact Heap.lt_size e
 | frz ob u=>obtain⟨e,_⟩:=x;exact Heap.lt_size e
 | tbl ps=>exact Heap.lt_size (show h.get? a=some _ from x)
 | met f y=>exact Heap.lt_size (show h.get? a=some _ from x)
 | ext φ=>obtain⟨_,⟨_,e⟩,_⟩:=x;exact Heap.lt_size e
theorem Paired.awt {α β:Type}{F G:α->β->Prop}:∀ {l₁:List α} {l₂:List β},Paired F l₁ l₂->(∀ a b,F a b->G a b)->Paired G l₁ l₂
 | _,_,.nil,_=>.nil
 | _,_,.cons r t,f=>.cons (f _ _ r) (Paired.awt t f)
theorem jY.stay (x:jY P w H h a o)(k:∀ b u,(b=a∨H b=some (.own a))->h.get? b=some u->h'.get? b=some u)
  (ho:∀ b,H b=some (.own a)->H' b=some (.own a)) (ht:∀ b xs,H b=some (.tup xs)->H' b=some (.tup xs)):jY P w H' h' a o:=by
 induction o with
 | lst xs=>obtain⟨z,its,n,r,e⟩:=x;exact⟨z,its,n,r,k _ _ (.inl rfl) e⟩
 | tup xs=>obtain⟨z,its,r,ob,e,c⟩:=x;exact⟨z,its,r,ob,k _ _ (.inl rfl) e,c⟩
 | dK kvs=>obtain⟨z,y,vs,r,ob,es,ep,e,c⟩:=x;exact⟨z,y,vs,r,ob,es,ep,k _ _ (.inl rfl) e,c⟩
 | dT kvs =>
  obtain⟨z,y,xs,r,ob,es,ep,e,c⟩:=x
  exact⟨z,y,xs,Paired.awt r fun p q z=>⟨z.1,ht _ _ z.2.1,z.2.2⟩,ob,es,ep,k _ _ (.inl rfl) e,c⟩
 | set S n=>obtain⟨ob,es,ep,t,e,c⟩:=x;exact⟨ob,es,ep,t,k _ _ (.inl rfl) e,c⟩
 | ins C dx fs =>
  obtain⟨d,z,ne,e,mA,⟨od,es,ep,e2,c⟩,r⟩:=x
  exact⟨ho _ d,z,ne,k _ _ (.inl rfl) e,mA,⟨od,es,ep,k _ _ (.inr d) e2,c⟩,r⟩
 | own y=>obtain⟨ob,e⟩:=x;exact⟨ob,k _ _ (.inl rfl) e⟩
 | xd fs=>obtain⟨mA,⟨od,es,ep,e,c⟩,r⟩:=x;exact⟨mA,⟨od,es,ep,k _ _ (.inl rfl) e,c⟩,r⟩
 | rng lo hi=>obtain⟨t,u,v,e⟩:=x;exact⟨t,u,v,k _ _ (.inl rfl) e⟩
 | frz ob u ih=>obtain⟨e,q⟩:=x;exact⟨k _ _ (.inl rfl) e,ih q⟩
 | tbl ps =>
  have e:h.get? a=some { cls:=.none,data:=.fields ps }:=x
  show h'.get? a=some { cls:=.none,data:=.fields ps }
  exact k a _ (.inl rfl) e
 | met f y =>
  have e:h.get? a=some (methodObj (.ref f) (.ref y)):=x
  show h'.get? a=some (methodObj (.ref f) (.ref y))
  exact k a _ (.inl rfl) e
 | ext φ=>obtain⟨p,⟨o,e⟩,st⟩:=x;exact⟨st _ _ p fun o q=>k _ _ (.inl rfl) q,⟨o,k _ _ (.inl rfl) e⟩,st⟩
theorem QS.lt (x:QS P w H h)(e:H a=some o):a < h.objs.size:=(x a o e).lt
theorem QS.fresh (x:QS P w H h)(e:h.objs.size <= a):H a=none:=by
 cases q:H a with
 | none=>rfl
 | some u=>exact absurd (Nat.lt_of_lt_of_le (x.lt q) e) (Nat.lt_irrefl _)
theorem QS.kept (x:QS P w H h)(k:∀ b u,h.get? b=some u->h'.get? b=some u):QS P w H h':=fun a o e =>
 (x a o e).stay (fun b u _ q=>k b u q) (fun _ q=>q) fun _ _ q=>q
theorem QS.laid (x:QS P w H h)(k:∀ b u,h.get? b=some u->h'.get? b=some u)(hp:h.objs.size <= a)(new:jY P w (upd H a o) h' a o):QS P w (upd H a o) h':=fun b u e=>by
 have hn:=x.fresh hp
 by_cases hb:b=a
 ·subst hb;rw[ao] at e;cases e;exact new
 ·rw[aA hb] at e
  exact (x b u e).stay (fun c v _ q=>k c v q) (fun c q=>by rw[aA (aD q hn)];exact q) fun c xs q=>by rw[aA (aD q hn)];exact q
end
def Rd (H:Hp)(a:Addr)(u:HO):Prop:=H a=some u ∨ ∃ o,H a=some (.frz o u)
theorem Rd.ok {P:Program}{w:World}{H:Hp}{h:Heap}{a:Addr}{u:HO}(r:Rd H a u)(x:QS P w H h):jY P w H h a u:=by
 rcases r with r | ⟨o,r⟩
 ·exact x a u r
 ·obtain⟨_,q⟩:=x a _ r
  exact q
def Mut:Option HO->Prop
 | some (.lst _)=>True
 | some (.dK _)=>True
 | some (.dT _)=>True
 | some (.set _ _)=>True
 | some (.ins _ _ _)=>True
 | some (.ext _)=>True
 | _=>False
section
variable {P:Program} {w:World} {H:Hp} {h h':Heap} {x e:Addr} {o':HO}
theorem QS.write (ok:QS P w H h)(mu:Mut (H x))(he:e=x∨H e=some (.own x))(k:∀ b u,b≠e->h.get? b=some u->h'.get? b=some u)(heo:∃ u,h'.get? e=some u)
  (new:jY P w (upd H x o') h' x o'):QS P w (upd H x o') h':=fun b u q=>by
 have awu:∀ c y,H c=some (.own y)->c≠x:=fun c y r z=>by subst z;rw[r] at mu;exact mu
 have ayy:∀ c xs,H c=some (.tup xs)->c≠x:=fun c xs r z=>by subst z;rw[r] at mu;exact mu
 by_cases hb:b=x
 ·subst hb;rw[ao] at q;cases q;exact new
 ·rw[aA hb] at q
  by_cases hbe:b=e
  ·have q':H b=some (.own x):=by
    rcases he with z | z
    ·exact absurd (hbe.trans z) hb
    ·rw[hbe];exact z
   rw[q] at q';cases q'
   obtain⟨v,hv⟩:=heo
   exact⟨v,by rw[hbe];exact hv⟩
  ·refine (ok b u q).stay (fun c v hc r=>k c v ?_ r) (fun c r=>by rw[aA (awu c b r)];exact r) fun c xs r=>by rw[aA (ayy c xs r)];exact r
   rcases hc with rfl | hc
   ·exact hbe
   ·rintro rfl
    rcases he with z | z
    ·exact awu c b hc z
    ·rw[hc] at z;cases z;exact hb rfl
end
structure Un (fs ex:List Addr)(H H':Hp)(h h':Heap):Prop where
 keep:∀ b o,h.get? b=some o->H b=none->b ∉ fs->b ∉ ex->h'.get? b=some o
 slot:∀ b o,h.get? b=some o->H b=none->b∈fs->b ∉ ex->∃ sl,h'.get? b=some { o with slots:=sl }
 free:∀ b o,h.get? b=some o->H b=none->b ∉ ex->H' b=none
 there:∀ b o,h.get? b=some o->b ∉ ex->∃ o',h'.get? b=some o'
 tups:∀ b xs,H b=some (.tup xs)->H' b=some (.tup xs)
 acR:∀ b o u,H b=some (.frz o u)->H' b=some (.frz o u)
 aeQ:∀ b ps,H b=some (.tbl ps)->∃ more,H' b=some (.tbl (ps++more))
section
variable {fs fs' ex ex':List Addr} {H H1 H2:Hp} {h h1 h2 h':Heap} {a x e:Addr} {o:HO}
theorem Un.any (u:Un fs ex H H1 h h1){b:Addr}{ob:Obj}(q:h.get? b=some ob)(n:H b=none)(hx:b ∉ ex):∃ sl,h1.get? b=some { ob with slots:=sl }:=by
 by_cases hb:b∈fs
 ·exact u.slot b ob q n hb hx
 ·exact⟨ob.slots,u.keep b ob q n hb hx⟩
theorem Un.kept (k:∀ b u,h.get? b=some u->h'.get? b=some u):Un fs ex H H h h' :=
 ⟨fun b ob q _ _ _=>k b ob q,fun b ob q _ _ _=>⟨ob.slots,k b ob q⟩,fun _ _ _ n _=>n,fun b ob q _=>⟨ob,k b ob q⟩,fun _ _ q=>q,fun _ _ _ q=>q,fun _ ps q=>⟨#[],by rw[q];simp⟩⟩
theorem Un.refl:Un fs ex H H h h:=Un.kept fun _ _ q=>q
theorem Un.laid (k:∀ b u,h.get? b=some u->h'.get? b=some u)(hp:h.objs.size <= a)(hn:H a=none):Un fs ex H (upd H a o) h h' where
 keep:=fun b u q _ _ _=>k b u q
 slot:=fun b u q _ _ _=>⟨u.slots,k b u q⟩
 free:=fun b u q n _=>by rw[aA (Nat.ne_of_lt (Nat.lt_of_lt_of_le (Heap.lt_size q) hp))];exact n
 there:=fun b u q _=>⟨u,k b u q⟩
 tups:=fun b xs q=>by rw[aA (aD q hn)];exact q
 acR:=fun b u xs q=>by rw[aA (aD q hn)];exact q
 aeQ:=fun b ps q=>⟨#[],by rw[aA (aD q hn),q];simp⟩
theorem Un.write (mu:Mut (H x))(he:e=x∨H e=some (.own x))(k:∀ b u,b≠e->h.get? b=some u->h'.get? b=some u)(heo:∃ u,h'.get? e=some u):Un fs ex H (upd H x o) h h':=by
 have hx:∀ b,H b=none->b≠x:=fun b n z=>by subst z;rw[n] at mu;exact mu
 have hb:∀ b,H b=none->b≠e:=fun b n z=>by
  subst z
  rcases he with r | r
  ·exact hx b n r
  ·rw[n] at r;cases r
 have hm:∀ b u,H b=some u->¬ Mut (some u)->b≠x:=fun b u q nm z=>by subst z;rw[q] at mu;exact nm mu
 refine⟨fun b u q n _ _=>k b u (hb b n) q,fun b u q n _ _=>⟨u.slots,k b u (hb b n) q⟩,fun b u q n _=>by rw[aA (hx b n)];exact n,fun b u q _=>?_,
  fun b xs q=>by rw[aA (hm b _ q fun z=>z)];exact q,fun b u xs q=>by rw[aA (hm b _ q fun z=>z)];exact q,fun b ps q=>⟨#[],by rw[aA (hm b _ q fun z=>z),q];simp⟩⟩
 by_cases hbe:b=e
 ·subst hbe;exact heo
 ·exact⟨u,k b u hbe q⟩
end
def trk (h:Heap)(H:Hp):List Addr:=(List.range h.objs.size).filter fun a=>(H a).isSome
def aeR (h:Heap)(H:Hp):Heap:=PySem.W.hideAll h (trk h H)
theorem am5 (h:Heap)(H:Hp):(aeR h H).objs.size=h.objs.size:=PySem.W.hideAll_size _ _
theorem apL {h:Heap}{H:Hp}{b:Addr}{o:Obj}(e:h.get? b=some o)(n:H b=none):(aeR h H).get? b=some o :=
 PySem.W.hideAll_get _ e fun hm=>by
  have q:(H b).isSome=true:=(List.mem_filter.mp hm).2
  rw[n] at q;simp at q
theorem asr {h:Heap}{H:Hp}{b:Addr}{o:Obj}(e:(aeR h H).get? b=some o):h.get? b=some o/\H b=none:=by
 have e':h.get? b=some o:=PySem.W.of_hideAll (trk h H) e
 refine⟨e',?_⟩
 cases q:H b with
 | none=>rfl
 | some x =>
  have hm:b∈trk h H:=List.mem_filter.mpr ⟨List.mem_range.mpr (Heap.lt_size e'),by simp[q]⟩
  have z:(aeR h H).get? b=none:=PySem.W.hideAll_none (trk h H) hm
  rw[z] at e;cases e
def ass (g h:Heap)(L:Addr):List (Addr×Obj):=(List.range h.objs.size).filterMap fun a=>if a=L∨(g.get? a).isSome=true then none else (h.get? a).map fun o=>(a,o)
def rest (g h:Heap)(L d:Addr):List (Addr×Obj):=(ass g h L).filter fun p=>decide (p.1≠d)
end L2
namespace L2
open PySem PySem.Spec PyProof.Rows
structure Mod (K:Frag)(mg:Str->Option Value)(base:Heap):Prop where
 kin:K.In base
 glob:base.Ns mainGlobals mg
 blt:∃ mb,base.Ns builtinsNs mb/\∀ x:Str,x ≠ "__name__"->mb x=bootBuiltins x
 nolimit:base.NoLimit
structure Cx where
 prog:Program
 w:World
 K:Frag
 mg:Str->Option Value
 base:Heap
 A:Around
 N:List Str
 s₀:Shared
 H₀:Hp
 env:Env
 outer:List Env
 stack:List Env
 ex:List Addr
 fn:Str->Bool
 calm:Bool
 pn:List (Addr×Obj)
 xe:Value->Shared->Prop
def frs (l:List Env):List Addr:=l.filterMap (·.frame)
abbrev Cx.fs (X:Cx):List Addr:=frs X.outer
def Vis (sc:Scope)(x:Str):Prop:=sc.names.lookup x=some .local∨sc.names.lookup x=some .cell∨sc.names.lookup x=some .free
def Loc (sc:Scope)(x:Str):Prop:=sc.names.lookup x=some .local∨sc.names.lookup x=some .cell
def Look (env:Env)(h:Heap)(m:Str->Option Value)(x:Str)(u:Value):Prop :=
 (env.kindOf x=some .local/\m x=some u)∨((env.kindOf x=some .cell∨env.kindOf x=some .free)/\∃ c,env.cells.lookup x=some c/\h.IsCell c (some u))
structure Cx.Ok (X:Cx):Prop where
 mod:Mod X.K X.mg X.base
 kind:X.env.scope.kind=.function
 glob:X.env.globals=mainGlobals
 blt:X.env.builtins=builtinsNs
 above:X.s₀.heap.objs.size <= X.env.locals
 inj:∀ x y c,X.env.cells.lookup x=some c->X.env.cells.lookup y=some c->x=y
 has:∀ x,(X.env.kindOf x=some .cell∨X.env.kindOf x=some .free)->∃ c,X.env.cells.lookup x=some c
 cab:∀ x c,X.fn x=true->X.env.cells.lookup x=some c->X.s₀.heap.objs.size <= c
 hd:X.calm=true->X.A.handled=none
 frames:X.A.frames=some X.stack
 stk:X.stack=X.outer∨(X.stack=X.env :: X.outer/\X.env.frame=some X.env.locals)
 exf:∀ b∈X.ex,b≠X.env.locals/\∀ x c,X.env.cells.lookup x=some c->c≠b
 bs:∀ b o,X.base.get? b=some o->X.s₀.heap.get? b=some o/\X.H₀ b=none
 bsz:X.base.objs.size <= X.s₀.heap.objs.size
 ajI:∀ b o,X.base.get? b=some o->b ∉ X.ex
 ajJ:∀ b∈X.ex,b ∉ X.fs
 QW:X.s₀.heap.FunFrames X.base X.outer
 frf:∀ b∈X.fs,X.H₀ b=none
structure Inv (X:Cx)(pins:List (Addr×Obj))(σ:List (Option V))(H:Hp)(s:Shared):Prop where
 ok:X.Ok
 os:s.os=X.s₀.os
 bare:AllBare s.gens
 base:Un X.fs X.ex X.H₀ H X.s₀.heap s.heap
 loc:∃ m,s.heap.Ns X.env.locals m/\∀ (i:Nat) (x:Str) (v:V),X.N[i]? = some x->σ[i]? = some (some v)->Vis X.env.scope x->∃ u,RelV v u/\Look X.env s.heap m x u
 cell:∀ x c,X.env.cells.lookup x=some c->∃ v,s.heap.IsCell c v
 free:H X.env.locals=none
 HB:∀ x c,X.env.cells.lookup x=some c->H c=none
 pin:∀ p∈X.pn++pins,s.heap.get? p.1=some p.2/\H p.1=none/\p.1≠X.env.locals/\p.1 ∉ X.fs/\∀ v,p.2.data≠.cell v
 hok:QS X.prog X.w H s.heap
 len:σ.length=X.N.length
section
variable {X:Cx} {pins:List (Addr×Obj)} {σ:List (Option V)} {H H':Hp} {s:Shared} {h':Heap}
theorem Cx.Ok.ayz (ok:X.Ok){b:Addr}{o:Obj}(e:X.base.get? b=some o):b ∉ X.fs:=fun hb=>by
 have:=(ok.QW.mem hb).1
 rw[e] at this;cases this
theorem Inv.bs (I:Inv X pins σ H s):∀ b o,X.base.get? b=some o->s.heap.get? b=some o/\H b=none:=fun b o e =>
 ⟨I.base.keep b o (I.ok.bs b o e).1 (I.ok.bs b o e).2 (I.ok.ayz e) (I.ok.ajI b o e),I.base.free b o (I.ok.bs b o e).1 (I.ok.bs b o e).2 (I.ok.ajI b o e)⟩
theorem Inv.bk (I:Inv X pins σ H s):∀ b o,X.base.get? b=some o->s.heap.get? b=some o:=fun b o e=>(I.bs b o e).1
theorem Inv.mod (I:Inv X pins σ H s):Mod X.K X.mg X.base:=I.ok.mod
theorem Inv.QT (I:Inv X pins σ H s):X.K.In s.heap:=I.ok.mod.kin.keeps I.bk
theorem Inv.lt (I:Inv X pins σ H s):X.env.locals < s.heap.objs.size:=let ⟨_,hn,_⟩:=I.loc;hn.lt
theorem Inv.sz (I:Inv X pins σ H s):X.s₀.heap.objs.size <= s.heap.objs.size:=Nat.le_trans I.ok.above (Nat.le_of_lt I.lt)
theorem Inv.ayA (I:Inv X pins σ H s){a:Addr}(h:s.heap.objs.size <= a):a ∉ X.fs:=fun hb=>by
 obtain⟨_,o,ho,_⟩:=I.ok.QW.mem hb
 exact absurd (Nat.lt_of_lt_of_le (Heap.lt_size ho) (Nat.le_trans I.sz h)) (Nat.lt_irrefl _)
theorem Inv.cne (I:Inv X pins σ H s):∀ x c,X.env.cells.lookup x=some c->c≠X.env.locals:=fun x c e z=>by
 obtain⟨v,o,ho,hd⟩:=I.cell x c e
 obtain⟨m,⟨o',es,ep,ho',hd',_⟩,_⟩:=I.loc
 rw[z,ho'] at ho;cases ho;rw[hd'] at hd;cases hd
theorem Inv.QW (I:Inv X pins σ H s):s.heap.FunFrames X.base X.outer:=by
 have all:∀ (l:List Env),(∀ b∈frs l,b∈X.fs)->X.s₀.heap.FunFrames X.base l->s.heap.FunFrames X.base l:=by
  intro l
  induction l with
  | nil=>intro _ _;trivial
  | cons env r ih =>
   intro hs hl
   obtain⟨hk,⟨L,o,hf,hn,ho,hd⟩,hr⟩:=hl
   have hL:L∈X.fs:=hs L (by unfold frs;rw[List.filterMap_cons,hf];exact List.mem_cons_self)
   obtain⟨sl,e⟩:=I.base.slot L o ho (I.ok.frf L hL) hL fun z=>I.ok.ajJ L z hL
   exact⟨hk,⟨L,_,hf,hn,e,hd⟩,ih (fun b hb=>hs b (by unfold frs;rw[List.filterMap_cons,hf];exact List.mem_cons_of_mem _ hb)) hr⟩
 exact all X.outer (fun _ hb=>hb) I.ok.QW
theorem Inv.stack (I:Inv X pins σ H s):s.heap.FunFrames X.base X.stack:=by
 rcases I.ok.stk with e | ⟨e,hf⟩
 ·rw[e];exact I.QW
 ·rw[e]
  obtain⟨m,hn,_⟩:=I.loc
  refine .cons (by rw[I.ok.kind];decide) hf hn ?_ I.QW
  exact Heap.get?_none_of_le (Nat.le_trans I.ok.bsz I.ok.above)
theorem Inv.ajK (I:Inv X pins σ H s):∀ b∈frs X.stack,b∈X.env.locals :: X.fs:=fun b hb=>by
 rcases I.ok.stk with e | ⟨e,hf⟩
 ·rw[e] at hb;exact List.mem_cons_of_mem _ hb
 ·rw[e] at hb
  unfold frs at hb
  rw[List.filterMap_cons,hf] at hb
  exact hb
theorem Inv.ame (I:Inv X pins σ H s):∀ b∈frs X.stack,H b=none:=fun b hb=>by
 rcases List.mem_cons.mp (I.ajK b hb) with e | hb
 ·rw[e];exact I.free
 ·obtain⟨_,o,ho,_⟩:=I.ok.QW.mem hb
  exact I.base.free b o ho (I.ok.frf b hb) fun z=>I.ok.ajJ b z hb
theorem Inv.step {g':Array GenState}{t':Nat}{d':Drawn}{ch:List Addr}(I:Inv X pins σ H s)
  (hch:∀ b∈ch,(b∈X.ex∨X.s₀.heap.objs.size <= b)/\b≠X.env.locals/\(∀ x c,X.env.cells.lookup x=some c->c≠b)/\∀ p∈X.pn++pins,p.1≠b)
  (keep:∀ b o,b≠X.env.locals->b ∉ X.fs->b ∉ ch->s.heap.get? b=some o->H b=none->h'.get? b=some o)
  (slot:∀ b o,b≠X.env.locals->b∈X.fs->b ∉ ch->s.heap.get? b=some o->H b=none->∃ sl,h'.get? b=some { o with slots:=sl }) (free:∀ b o,b ∉ ch->s.heap.get? b=some o->H b=none->H' b=none)
  (there:∀ b o,b ∉ ch->s.heap.get? b=some o->∃ o',h'.get? b=some o')
  (tups:∀ b xs,H b=some (.tup xs)->H' b=some (.tup xs)) (acR:∀ b o u,H b=some (.frz o u)->H' b=some (.frz o u)) (aeQ:∀ b ps,H b=some (.tbl ps)->∃ more,H' b=some (.tbl (ps++more)))
  (ns:∀ m,s.heap.Ns X.env.locals m->h'.Ns X.env.locals m) (hok:QS X.prog X.w H' h') (hg:AllBare g') :
  Inv X pins σ H' { s with heap:=h',gens:=g',drawn:=d',toks:=t' }:=by
 have neL:∀ b o,X.s₀.heap.get? b=some o->b≠X.env.locals:=fun b o e=>Nat.ne_of_lt (Nat.lt_of_lt_of_le (Heap.lt_size e) I.ok.above)
 have neC:∀ b o,X.s₀.heap.get? b=some o->b ∉ X.ex->b ∉ ch:=fun b o e hx hb=>by
  rcases (hch b hb).1 with z | z
  ·exact hx z
  ·exact absurd (Nat.lt_of_lt_of_le (Heap.lt_size e) z) (Nat.lt_irrefl _)
 have cellK:∀ x c,X.env.cells.lookup x=some c->∀ v,s.heap.IsCell c v->h'.IsCell c v:=fun x c e v ⟨o,ho,hd⟩=>by
  have nch:c ∉ ch:=fun z=>(hch c z).2.2.1 x c e rfl
  by_cases hc:c∈X.fs
  ·obtain⟨sl,q⟩:=slot c o (I.cne x c e) hc nch ho (I.HB x c e)
   exact⟨_,q,hd⟩
  ·exact⟨o,keep c o (I.cne x c e) hc nch ho (I.HB x c e),hd⟩
 refine⟨I.ok,I.os,hg,⟨fun b o e n hb hx=>?_,fun b o e n hb hx=>?_,fun b o e n hx=>?_,fun b o e hx=>?_,fun b xs e=>tups b xs (I.base.tups b xs e),fun b o xs e=>acR b o xs (I.base.acR b o xs e),fun b ps e=>?_⟩,?_,fun x c e=>?_,?_,fun x c e=>?_,fun p hp=>?_,hok,I.len⟩
 ·exact keep b o (neL b o e) hb (neC b o e hx) (I.base.keep b o e n hb hx) (I.base.free b o e n hx)
 ·obtain⟨sl,e1⟩:=I.base.slot b o e n hb hx
  obtain⟨sl',e2⟩:=slot b _ (neL b o e) hb (neC b o e hx) e1 (I.base.free b o e n hx)
  exact⟨sl',e2⟩
 ·obtain⟨o',e1⟩:=I.base.there b o e hx
  exact free b o' (neC b o e hx) e1 (I.base.free b o e n hx)
 ·obtain⟨o',e1⟩:=I.base.there b o e hx
  exact there b o' (neC b o e hx) e1
 ·obtain⟨m1,e1⟩:=I.base.aeQ b ps e
  obtain⟨m2,e2⟩:=aeQ b _ e1
  exact⟨m1++m2,by rw[e2,Array.append_assoc]⟩
 ·obtain⟨m,hn,hl⟩:=I.loc
  refine⟨m,ns m hn,fun i x v e1 e2 e3=>?_⟩
  obtain⟨u,r,l⟩:=hl i x v e1 e2 e3
  refine⟨u,r,?_⟩
  rcases l with l | ⟨k,c,e,z⟩
  ·exact .inl l
  ·exact .inr ⟨k,c,e,cellK x c e _ z⟩
 ·obtain⟨v,z⟩:=I.cell x c e
  exact⟨v,cellK x c e v z⟩
 ·obtain⟨m,⟨o,_,_,ho,_⟩,_⟩:=I.loc
  exact free _ o (fun z=>(hch _ z).2.1 rfl) ho I.free
 ·obtain⟨v,o,ho,hd⟩:=I.cell x c e
  exact free c o (fun z=>(hch c z).2.2.1 x c e rfl) ho (I.HB x c e)
 ·obtain⟨e,n,ne,nf,d⟩:=I.pin p hp
  have nch:p.1 ∉ ch:=fun z=>(hch p.1 z).2.2.2 p hp rfl
  exact⟨keep p.1 p.2 ne nf nch e n,free p.1 p.2 nch e n,ne,nf,d⟩
theorem Inv.un {t':Nat}(I:Inv X pins σ H s)(u:Un X.fs [] H H' s.heap h')(hok:QS X.prog X.w H' h'):Inv X pins σ H' { s with heap:=h',toks:=t' }:=by
 obtain⟨m,⟨o,es,ep,ho,r⟩,_⟩:=id I.loc
 obtain⟨sl,hL⟩:=u.any ho I.free (by simp)
 exact I.step (g':=s.gens) (d':=s.drawn) (ch:=[]) (fun _ z=>nomatch z) (fun b o _ hb _ e n=>u.keep b o e n hb (by simp)) (fun b o _ hb _ e n=>u.slot b o e n hb (by simp)) (fun b o _ e n=>u.free b o e n (by simp)) (fun b o _ e=>u.there b o e (by simp)) u.tups u.acR u.aeQ (fun m' hm=>by
  obtain⟨o',es',ep',ho',r'⟩:=hm
  rw[ho] at ho';cases ho'
  exact⟨_,es',ep',hL,r'⟩) hok I.bare
theorem Inv.call {g':Array GenState}{t':Nat}{d':Drawn}{ch:List Addr}(I:Inv X pins σ H s)(u:Un (frs X.stack) ch H H' s.heap h')(hok:QS X.prog X.w H' h')(hg:AllBare g')
  (hch:∀ b∈ch,(b∈X.ex∨X.s₀.heap.objs.size <= b)/\b≠X.env.locals/\(∀ x c,X.env.cells.lookup x=some c->c≠b)/\∀ p∈X.pn++pins,p.1≠b) :
  Inv X pins σ H' { s with heap:=h',gens:=g',drawn:=d',toks:=t' }:=by
 obtain⟨m,⟨o,es,ep,ho,r⟩,_⟩:=id I.loc
 obtain⟨sl,hL⟩:=u.any ho I.free fun z=>(hch _ z).2.1 rfl
 exact I.step (ch:=ch) hch (fun b o hL hb hc e n=>u.keep b o e n (fun z=>(List.mem_cons.mp (I.ajK b z)).elim hL hb) hc) (fun b o _ _ hc e n=>u.any e n hc) (fun b o hc e n=>u.free b o e n hc) (fun b o hc e=>u.there b o e hc) u.tups u.acR u.aeQ (fun m' hm=>by
  obtain⟨o',es',ep',ho',r'⟩:=hm
  rw[ho] at ho';cases ho'
  exact⟨_,es',ep',hL,r'⟩) hok hg
theorem Inv.turned {t':Nat}{it:Addr}(I:Inv X pins σ H s)(k:∀ b o,b≠it->s.heap.get? b=some o->h'.get? b=some o)(hn:H it=none)(hL:it≠X.env.locals)
  (h1:it∈X.ex∨X.s₀.heap.objs.size <= it) (h2:∀ x c,X.env.cells.lookup x=some c->c≠it) (h3:∀ p∈X.pn++pins,p.1≠it):Inv X pins σ H { s with heap:=h',toks:=t' }:=by
 have nit:∀ b u,H b=some u->b≠it:=fun b u e z=>by rw[z,hn] at e;cases e
 refine I.step (g':=s.gens) (d':=s.drawn) (ch:=[it]) (fun b hb=>?_) (fun b o _ _ hc e _=>k b o (fun z=>hc (by simp[z])) e) (fun b o _ _ hc e _=>⟨o.slots,k b o (fun z=>hc (by simp[z])) e⟩) (fun _ _ _ _ n=>n)
  (fun b o hc e=>⟨o,k b o (fun z=>hc (by simp[z])) e⟩) (fun _ _ e=>e) (fun _ _ _ e=>e) (fun b ps e=>⟨#[],by rw[e];simp⟩) (fun m hm=>?_) (fun b u e=>?_) I.bare
 ·have e:b=it:=by simpa using hb
  subst e
  exact⟨h1,hL,h2,h3⟩
 ·obtain⟨o,es,ep,ho,r⟩:=hm
  exact⟨o,es,ep,k _ o (Ne.symm hL) ho,r⟩
 ·refine (I.hok b u e).stay (fun c v hc q=>k c v ?_ q) (fun _ q=>q) fun _ _ q=>q
  rcases hc with z | z
  ·rw[z];exact nit b u e
  ·exact nit c _ z
theorem Inv.tok (I:Inv X pins σ H s)(t:Nat):Inv X pins σ H { s with toks:=t }:=I.un (h':=s.heap) (t':=t) Un.refl I.hok
theorem Inv.kept {t':Nat}(I:Inv X pins σ H s)(k:∀ b u,s.heap.get? b=some u->h'.get? b=some u):Inv X pins σ H { s with heap:=h',toks:=t' }:=I.un (Un.kept k) (I.hok.kept k)
theorem Inv.laid {a:Addr}{o:HO}{t':Nat}(I:Inv X pins σ H s)(k:∀ b u,s.heap.get? b=some u->h'.get? b=some u)(hp:s.heap.objs.size <= a)(new:jY X.prog X.w (upd H a o) h' a o) :
  Inv X pins σ (upd H a o) { s with heap:=h',toks:=t' }:=I.un (Un.laid k hp (I.hok.fresh hp)) (I.hok.laid k hp new)
theorem Inv.write {x e:Addr}{o:HO}{t':Nat}(I:Inv X pins σ H s)(mu:Mut (H x))(he:e=x∨H e=some (.own x))(k:∀ b u,b≠e->s.heap.get? b=some u->h'.get? b=some u)(heo:∃ u,h'.get? e=some u)
  (new:jY X.prog X.w (upd H x o) h' x o):Inv X pins σ (upd H x o) { s with heap:=h',toks:=t' }:=I.un (Un.write mu he k heo) (I.hok.write mu he k heo new)
theorem Inv.amf {apM:List (Addr×Obj)}(I:Inv X pins σ H s)(h:∀ p∈apM,s.heap.get? p.1=some p.2/\H p.1=none/\p.1≠X.env.locals/\p.1 ∉ X.fs/\∀ v,p.2.data≠.cell v):Inv X apM σ H s :=
 ⟨I.ok,I.os,I.bare,I.base,I.loc,I.cell,I.free,I.HB,fun p hp=>(List.mem_append.mp hp).elim (fun z=>I.pin p (List.mem_append_left _ z)) (h p),I.hok,I.len⟩
theorem ah0 {N:List Str}(hN:N.Nodup){i j:Nat}{x:Str}(a:N[i]? = some x)(b:N[j]? = some x):i=j:=by
 obtain⟨h1,e1⟩:=List.getElem?_eq_some_iff.mp a
 obtain⟨h2,e2⟩:=List.getElem?_eq_some_iff.mp b
 exact (List.getElem_inj hN).mp (e1.trans e2.symm)
theorem adZ {M:Model}{A:Around}{E:Value->Shared->Prop}{i:Nat}{x:Str}{v:V}{u:Value}{Q:Unit->Shared->Prop}(I:Inv X pins σ H s)(hN:X.N.Nodup)(hi:X.N[i]? = some x)(hx:Loc X.env.scope x)(r:RelV v u)
  (h:∀ s',Inv X pins (σ.set i (some v)) H s'->(∃ a,Heap.SameBut a s.heap s'.heap/\(a=X.env.locals∨X.env.cells.lookup x=some a))->Q () s') (hf:X.fn x=true∨X.env.scope.names.lookup x=some .local:=by first | exact .inl rfl | exact .inr rfl | assumption):wpAny M A (storeName X.env x u) Q E s:=by
 obtain⟨m,hn,hl⟩:=id I.loc
 have hcls:(X.env.scope.kind == .class || (X.env.scope.kind == .module && X.env.locals != X.env.globals))=false:=by rw[I.ok.kind];rfl
 have aAC:i < σ.length:=by rw[I.len];exact (List.getElem?_eq_some_iff.mp hi).1
 have cne:=I.cne
 have tracked:∀ {a:Addr} {h':Heap},(∃ o,s.heap.get? a=some o/\H a=none)->Heap.SameBut a s.heap h'->QS X.prog X.w H h':=fun {a h'} ha hs b ob e=>by
  obtain⟨_,_,hfree⟩:=ha
  refine (I.hok b ob e).stay (fun c w' hc q=>(hs.2 c ?_).trans q) (fun _ q=>q) fun _ _ q=>q
  rintro rfl
  rcases hc with rfl | hc
  ·rw[hfree] at e;cases e
  ·rw[hfree] at hc;cases hc
 rcases hx with hk | hk
 ·refine wpAny_storeName_local hk hn (fun h' hn' hs=>?_) hcls
  obtain⟨oL,_,_,hoL,_⟩:=id hn
  refine h _ ⟨I.ok,I.os,I.bare,⟨fun b o e n hb hx=>?_,fun b o e n hb hx=>?_,I.base.free,fun b o e hx=>?_,I.base.tups,I.base.acR,I.base.aeQ⟩,⟨_,hn',fun j y v' e1 e2 e3=>?_⟩,fun y c e=>?_,I.free,I.HB,fun p hp=>?_,tracked ⟨oL,hoL,I.free⟩ hs,by simpa using I.len⟩ ⟨_,hs,.inl rfl⟩
  ·exact (hs.2 b (Nat.ne_of_lt (Nat.lt_of_lt_of_le (Heap.lt_size e) I.ok.above))).trans (I.base.keep b o e n hb hx)
  ·obtain⟨sl,e1⟩:=I.base.slot b o e n hb hx
   exact⟨sl,(hs.2 b (Nat.ne_of_lt (Nat.lt_of_lt_of_le (Heap.lt_size e) I.ok.above))).trans e1⟩
  ·obtain⟨o',e1⟩:=I.base.there b o e hx
   exact⟨o',(hs.2 b (Nat.ne_of_lt (Nat.lt_of_lt_of_le (Heap.lt_size e) I.ok.above))).trans e1⟩
  ·by_cases hj:j=i
   ·subst hj
    rw[hi] at e1;cases e1
    rw[List.getElem?_set_self aAC] at e2
    cases e2
    exact⟨u,r,.inl ⟨hk,by simp⟩⟩
   ·rw[List.getElem?_set_ne (Ne.symm hj)] at e2
    obtain⟨u',r',q⟩:=hl j y v' e1 e2 e3
    refine⟨u',r',?_⟩
    rcases q with ⟨k,e⟩ | ⟨k,c,e,z⟩
    ·refine .inl ⟨k,?_⟩
     have:y≠x:=fun e=>hj (ah0 hN e1 (e ▸ hi))
     simp[this,e]
    ·exact .inr ⟨k,c,e,z.sameBut hs (cne y c e)⟩
  ·obtain⟨w',z⟩:=I.cell y c e
   exact⟨w',z.sameBut hs (cne y c e)⟩
  ·obtain⟨e,n,ne,nf,d⟩:=I.pin p hp
   exact⟨(hs.2 p.1 ne).trans e,n,ne,nf,d⟩
 ·have hfn:X.fn x=true:=by
   rcases hf with z | z
   ·exact z
   ·rw[z] at hk;cases hk
  obtain⟨c,hc⟩:=I.ok.has x (.inl hk)
  obtain⟨w',z⟩:=I.cell x c hc
  refine wpAny_storeName_cell I.ok.kind hk hc z (fun h' hc' hs=>?_)
  obtain⟨oc,hoc,ayB⟩:=id z
  refine h { s with heap:=h' } ⟨I.ok,I.os,I.bare,⟨fun b o e n hb hx=>?_,fun b o e n hb hx=>?_,I.base.free,fun b o e hx=>?_,I.base.tups,I.base.acR,I.base.aeQ⟩,⟨m,hn.sameBut hs (Ne.symm (cne x c hc)),fun j y v' e1 e2 e3=>?_⟩,fun y c' e=>?_,I.free,I.HB,fun p hp=>?_,tracked ⟨oc,hoc,I.HB x c hc⟩ hs,by simpa using I.len⟩ ⟨c,hs,.inr hc⟩
  ·exact (hs.2 b (Nat.ne_of_lt (Nat.lt_of_lt_of_le (Heap.lt_size e) (I.ok.cab x c hfn hc)))).trans (I.base.keep b o e n hb hx)
  ·obtain⟨sl,e1⟩:=I.base.slot b o e n hb hx
   exact⟨sl,(hs.2 b (Nat.ne_of_lt (Nat.lt_of_lt_of_le (Heap.lt_size e) (I.ok.cab x c hfn hc)))).trans e1⟩
  ·obtain⟨o',e1⟩:=I.base.there b o e hx
   exact⟨o',(hs.2 b (Nat.ne_of_lt (Nat.lt_of_lt_of_le (Heap.lt_size e) (I.ok.cab x c hfn hc)))).trans e1⟩
  ·by_cases hj:j=i
   ·subst hj
    rw[hi] at e1;cases e1
    rw[List.getElem?_set_self aAC] at e2
    cases e2
    exact⟨u,r,.inr ⟨.inl hk,c,hc,hc'⟩⟩
   ·rw[List.getElem?_set_ne (Ne.symm hj)] at e2
    obtain⟨u',r',q⟩:=hl j y v' e1 e2 e3
    refine⟨u',r',?_⟩
    rcases q with q | ⟨k,c',e,z'⟩
    ·exact .inl q
    ·refine .inr ⟨k,c',e,z'.sameBut hs ?_⟩
     rintro rfl
     exact hj (ah0 hN e1 (I.ok.inj _ _ _ e hc ▸ hi))
  ·by_cases hcc:c'=c
   ·subst hcc;exact⟨_,hc'⟩
   ·obtain⟨w2,z2⟩:=I.cell y c' e
    exact⟨w2,z2.sameBut hs hcc⟩
  ·obtain⟨e,n,ne,nf,d⟩:=I.pin p hp
   refine⟨(hs.2 p.1 ?_).trans e,n,ne,nf,d⟩
   intro q
   rw[q,hoc] at e
   have q':oc=p.2:=Option.some.inj e
   exact d w' (by rw[← q'];exact ayB)
theorem Zz {M:Model}{A:Around}{E:Value->Shared->Prop}{i:Nat}{x:Str}{v:V}{u:Value}{Q:Unit->Shared->Prop}(I:Inv X pins σ H s)(hN:X.N.Nodup)(hi:X.N[i]? = some x)(hx:Loc X.env.scope x)(r:RelV v u)
  (h:∀ s',Inv X pins (σ.set i (some v)) H s'->Q () s') (hf:X.fn x=true∨X.env.scope.names.lookup x=some .local:=by first | exact .inl rfl | exact .inr rfl | assumption):wpAny M A (storeName X.env x u) Q E s :=
 adZ I hN hi hx r (fun s' I' _=>h s' I') hf
theorem Inv.call' {s':Shared}{ch:List Addr}(I:Inv X pins σ H s)(ho:s'.os=s.os)(u:Un (frs X.stack) ch H H' s.heap s'.heap)(hok:QS X.prog X.w H' s'.heap)(hg:AllBare s'.gens)
  (hch:∀ b∈ch,(b∈X.ex∨X.s₀.heap.objs.size <= b)/\b≠X.env.locals/\(∀ x c,X.env.cells.lookup x=some c->c≠b)/\∀ p∈X.pn++pins,p.1≠b):Inv X pins σ H' s':=by
 obtain⟨h',g',d',t',o'⟩:=s'
 have e:o'=s.os:=ho
 subst e
 exact I.call (g':=g') (t':=t') (d':=d') u hok hg hch
end
abbrev XK:=Value->Option Addr->Hp->Prop
abbrev St:=List (Option V)
abbrev VK:=V->Hp->Prop
abbrev TE:=St->Hp->VK->Prop
abbrev TT:=St->Hp->(Bool->Hp->Prop)->Prop
abbrev TA:=St->Hp->(List V->Hp->Prop)->Prop
structure Ends where
 nx:St->Hp->Prop
 rt:VK
 bk:St->Hp->Prop:=fun _ _=>False
 ct:St->Hp->Prop:=fun _ _=>False
abbrev TS:=Ends->St->Hp->Prop
def EP (X:Cx)(pins:List (Addr×Obj))(σ:St)(Q:VK)(u:Value)(s':Shared):Prop:=∃ v H',Inv X pins σ H' s'/\RelV v u/\Q v H'
def TP (X:Cx)(pins:List (Addr×Obj))(σ:St)(Q:Bool->Hp->Prop)(b:Bool)(s':Shared):Prop:=∃ H',Inv X pins σ H' s'/\Q b H'
def AP (X:Cx)(pins:List (Addr×Obj))(σ:St)(Q:List V->Hp->Prop)(us:List Value)(s':Shared):Prop:=∃ vs H',Inv X pins σ H' s'/\Vals vs us/\Q vs H'
def SP (X:Cx)(pins:List (Addr×Obj))(D:Ends)(f:Flow)(s':Shared):Prop :=
 match f with
 | .next=>∃ σ' H',Inv X pins σ' H' s'/\D.nx σ' H'
 | .brk=>∃ σ' H',Inv X pins σ' H' s'/\D.bk σ' H'
 | .cont=>∃ σ' H',Inv X pins σ' H' s'/\D.ct σ' H'
 | .ret u=>∃ v σ' H',Inv X pins σ' H' s'/\RelV v u/\D.rt v H'
def PE (X:Cx)(e:Expr)(t:TE):Prop :=
 ∀ (pins:List (Addr×Obj)) (s:Shared) (σ:St) (H:Hp) (Q:VK),Inv X pins σ H s->t σ H Q->wpAny (model X.prog X.w) X.A (eval e X.env) (EP X pins σ Q) X.xe s
def PT (X:Cx)(e:Expr)(t:TT):Prop :=
 ∀ (pins:List (Addr×Obj)) (s:Shared) (σ:St) (H:Hp) (Q:Bool->Hp->Prop),Inv X pins σ H s->t σ H Q->wpAny (model X.prog X.w) X.A (isTrue e X.env (eval e X.env)) (TP X pins σ Q) X.xe s
def PW (X:Cx)(e:Expr)(t:TT):Prop :=
 ∀ (whole:Sem Value) (pins:List (Addr×Obj)) (s:Shared) (σ:St) (H:Hp) (Q:Bool->Hp->Prop),Inv X pins σ H s->t σ H Q->wpAny (model X.prog X.w) X.A (isTrue e X.env whole) (TP X pins σ Q) X.xe s
theorem PW.pt {X:Cx}{e:Expr}{t:TT}(h:PW X e t):PT X e t:=h _
def PA (X:Cx)(es:List Expr)(t:TA):Prop :=
 ∀ (pos:Pos) (pins:List (Addr×Obj)) (s:Shared) (σ:St) (H:Hp) (Q:List V->Hp->Prop),Inv X pins σ H s->t σ H Q->wpAny (model X.prog X.w) X.A (spliced (backTo pos (starEach es X.env))) (AP X pins σ Q) X.xe s
def PS (X:Cx)(st:Stmt)(t:TS):Prop :=
 ∀ (pins:List (Addr×Obj)) (s:Shared) (σ:St) (H:Hp) (D:Ends),Inv X pins σ H s->t D σ H->wpAny (model X.prog X.w) X.A (exec st X.env) (SP X pins D) X.xe s
def PSs (X:Cx)(st:List Stmt)(t:TS):Prop :=
 ∀ (pins:List (Addr×Obj)) (s:Shared) (σ:St) (H:Hp) (D:Ends),Inv X pins σ H s->t D σ H->wpAny (model X.prog X.w) X.A (execs st X.env) (SP X pins D) X.xe s
theorem eX {α:Type}{t:Sem α}{Q Q':α->Shared->Prop}{M:Model}{A:Around}{E:Value->Shared->Prop}{s:Shared}(h:wpAny M A t Q E s)(hQ:∀ a s,Q a s->Q' a s):wpAny M A t Q' E s:=wpAny_mono h hQ fun _ _ x=>x
end L2
namespace L2
open PySem PySem.Spec PyProof.Rows
section
variable {X:Cx}
inductive atO (i:Nat)(σ:St)(H:Hp)(Q:VK):Prop
 | mk (v:_) (fU:σ[i]? = some (some v)) (fV:Q v H):atO i σ H Q
def awy (i:Nat):TE:=fun σ H Q=>atO i σ H Q
def tC (v:V):TE:=fun _ H Q=>Q v H
theorem auK {i:Nat}{x:Str}{pos:Pos}(hN:X.N[i]? = some x)(hv:Vis X.env.scope x)(hd:(x == ("__debug__":Str))=false:=by decide)(hcd:(x == ("__classdict__":Str))=false:=by decide):PE X (.Name x pos) (awy i):=by
 intro pins s σ H Q I h
 obtain⟨v,e,h⟩:=h
 obtain⟨m,hn,hl⟩:=I.loc
 obtain⟨u,r,l⟩:=hl i x v hN e hv
 have fin:EP X pins σ Q u s:=⟨v,H,I,r,h⟩
 rcases l with ⟨hk,hm⟩ | ⟨hk,c,hc,hcell⟩
 ·exact wpAny_Name (wpAny_loadName_local I.ok.kind hk hn hm fin) hd
 ·rcases hk with hk | hk
  ·exact wpAny_Name (wpAny_loadName_cell I.ok.kind hk hc hcell fin) hd
  ·exact wpAny_Name (wpAny_loadName_free I.ok.kind hk hc hcell fin hcd) hd
theorem az {i j pos}:PE X (.Constant (.int i) j pos) (tC (.int i)):=fun _ _ _ H _ I h=>wpAny_Constant_int ⟨.int i,H,I.tok _,⟨_,rfl⟩,h⟩
theorem dB {b j pos}:PE X (.Constant (.bool b) j pos) (tC (.bl b)):=fun _ _ _ H _ I h=>Constant_bool ⟨.bl b,H,I,rfl,h⟩
theorem Ni {j pos}:PE X (.Constant .none j pos) (tC .non):=fun _ _ _ H _ I h=>Constant_none ⟨.non,H,I,rfl,h⟩
theorem cF {x j pos}:PE X (.Constant (.str x) j pos) (tC (.str x)):=fun _ _ _ H _ I h=>Calls.Constant_str ⟨.str x,H,I.tok _,⟨_,rfl⟩,h⟩
def Gl (X:Cx)(x:Str):Prop:=X.env.kindOf x=some .globalImplicit
theorem Zg {E:Value->Shared->Prop}{pins:List (Addr×Obj)}{s:Shared}{σ:St}{H:Hp}{x:Str}{u:Value}{pos:Pos}{Q:Value->Shared->Prop}(I:Inv X pins σ H s)(hg:Gl X x)(hm:X.mg x=some u)(h:Q u s)
  (hd:(x == ("__debug__":Str))=false:=by decide):wpAny (model X.prog X.w) X.A (eval (.Name x pos) X.env) Q E s :=
 Calls.Name_function_global I.ok.kind hg (Calls.loadGlobal_global (by rw[I.ok.glob];exact I.mod.glob.keeps I.bk) hm h) hd
theorem yI {E:Value->Shared->Prop}{pins:List (Addr×Obj)}{s:Shared}{σ:St}{H:Hp}{x:Str}{u:Value}{pos:Pos}{Q:Value->Shared->Prop}(I:Inv X pins σ H s)(hg:Gl X x)(hm:X.mg x=none)(hv:bootBuiltins x=some u)(h:Q u s)
  (hn:x ≠ "__name__":=by decide) (hd:(x == ("__debug__":Str))=false:=by decide):wpAny (model X.prog X.w) X.A (eval (.Name x pos) X.env) Q E s:=by
 obtain⟨mb,h1,h2⟩:=I.mod.blt
 exact Calls.Name_function_global I.ok.kind hg (Calls.loadGlobal_builtin (by rw[I.ok.glob];exact I.mod.glob.keeps I.bk) hm (by rw[I.ok.blt];exact h1.keeps I.bk) ((h2 x hn).trans hv) h) hd
theorem cO {x:Str}{v:V}{u:Value}{pos:Pos}(hg:Gl X x)(hm:X.mg x=some u)(r:RelV v u)(hd:(x == ("__debug__":Str))=false:=by decide):PE X (.Name x pos) (tC v) :=
 fun _ _ _ H _ I h=>Zg I hg hm ⟨v,H,I,r,h⟩ hd
theorem dW {x:Str}{v:V}{u:Value}{pos:Pos}(hg:Gl X x)(hm:X.mg x=none)(hv:bootBuiltins x=some u)(r:RelV v u)(hn:x ≠ "__name__":=by decide)(hd:(x == ("__debug__":Str))=false:=by decide):PE X (.Name x pos) (tC v) :=
 fun _ _ _ H _ I h=>yI I hg hm hv ⟨v,H,I,r,h⟩ hn hd
def t2I (ta tb:TE)(k:Int->Int->Hp->Prop):St->Hp->Prop:=fun σ H=>ta σ H fun x H1=>tb σ H1 fun y H2=>∃ i j,x=.int i/\y=.int j/\k i j H2
variable {a b:Expr} {ta tb:TE} {pos:Pos}
def am6 (p:Int->Int->Bool)(ta tb:TE):TE:=fun σ H Q=>t2I ta tb (fun i j H2=>Q (.bl (p i j)) H2) σ H
abbrev tLt:TE->TE->TE:=am6 fun i j=>decide (i < j)
abbrev tLe:TE->TE->TE:=am6 fun i j=>decide (i <= j)
abbrev tGt:TE->TE->TE:=am6 fun i j=>decide (j < i)
abbrev tGe:TE->TE->TE:=am6 fun i j=>decide (j <= i)
abbrev aBv:TE->TE->TE:=am6 fun i j=>decide (i=j)
abbrev aBw:TE->TE->TE:=am6 fun i j=>!decide (i=j)
def tB (t:TE):TT:=fun σ H Q=>t σ H fun x H1=>∃ c,x=.bl c/\Q c H1
theorem bB {e:Expr}{t:TE}(h:PE X e t)(he:∀ whole,isTrue e X.env whole=(do let v ← whole;standAt e.pos;holding [v] (truthy v)):=by intro _;rfl):PT X e (tB t):=by
 intro pins s σ H Q I hw
 refine isTrue_plain (eX (h pins s σ H _ I hw) fun v s1 ⟨x,H1,I1,r1,q1⟩=>?_) (he _)
 obtain⟨d,rfl,q⟩:=q1
 cases r1
 exact wpAny_truthy_bool ⟨H1,I1,q⟩
variable {tA tB':TT} {rest:List Expr}
def ayC (t u:TT):TT:=fun σ H Q=>t σ H fun c H1=>if c=true then u σ H1 Q else Q false H1
def tOr (t u:TT):TT:=fun σ H Q=>t σ H fun c H1=>if c=true then Q true H1 else u σ H1 Q
def ayD (t:TT):TT:=fun σ H Q=>t σ H fun c H1=>Q (!c) H1
theorem ig (ha:PT X a tA):PW X (.BoolOp .And [a] pos) tA:=by
 intro wh pins s σ H Q I h
 refine isTrue_and (eX (ha pins s σ H Q I h) fun c s1 e=>?_)
 cases c with
 | true=>exact isTrue_and_nil e
 | false=>exact e
theorem jf (ha:PT X a tA):PW X (.BoolOp .Or [a] pos) tA:=by
 intro wh pins s σ H Q I h
 refine isTrue_or (eX (ha pins s σ H Q I h) fun c s1 e=>?_)
 cases c with
 | false=>exact isTrue_or_nil e
 | true=>exact e
theorem fL (ha:PT X a tA)(hb:PW X (.BoolOp .And (b :: rest) pos) tB'):PW X (.BoolOp .And (a :: b :: rest) pos) (ayC tA tB'):=by
 intro wh pins s σ H Q I h
 refine isTrue_and (eX (ha pins s σ H _ I h) fun c s1 ⟨H1,I1,q1⟩=>?_)
 cases c with
 | true=>exact hb wh pins s1 σ H1 Q I1 q1
 | false=>exact⟨H1,I1,q1⟩
theorem lR (ha:PT X a tA)(hb:PW X (.BoolOp .Or (b :: rest) pos) tB'):PW X (.BoolOp .Or (a :: b :: rest) pos) (tOr tA tB'):=by
 intro wh pins s σ H Q I h
 refine isTrue_or (eX (ha pins s σ H _ I h) fun c s1 ⟨H1,I1,q1⟩=>?_)
 cases c with
 | true=>exact⟨H1,I1,q1⟩
 | false=>exact hb wh pins s1 σ H1 Q I1 q1
theorem cz (ha:PT X a tA):PT X (.UnaryOp .Not a pos) (ayD tA):=by
 intro pins s σ H Q I h
 exact isTrue_not (ha pins s σ H (fun c H1=>Q (!c) H1) I h)
def awz (ta tb:TE):TE:=fun σ H Q=>ta σ H fun x H1=>∃ c,x=.bl c/\if c=true then tb σ H1 Q else Q (.bl false) H1
def ayE (ta tb:TE):TE:=fun σ H Q=>ta σ H fun x H1=>∃ c,x=.bl c/\if c=true then Q (.bl true) H1 else tb σ H1 Q
def awA (ta:TE):TE:=fun σ H Q=>ta σ H fun x H1=>∃ c,x=.bl c/\Q (.bl (!c)) H1
theorem wA {op}{t:TE}(h:PE X a t):PE X (.BoolOp op [a] pos) t:=fun pins s σ H Q I hw=>BoolOp_one (h pins s σ H Q I hw)
theorem wB (ha:PE X a ta)(hb:PE X (.BoolOp .And (b :: rest) pos) tb):PE X (.BoolOp .And (a :: b :: rest) pos) (awz ta tb):=by
 intro pins s σ H Q I h
 refine BoolOp_and (eX (ha pins s σ H _ I h) fun v s1 ⟨x,H1,I1,r1,q1⟩=>?_)
 obtain⟨c,rfl,q1⟩:=q1
 cases r1
 refine wpAny_truthy_bool ?_
 cases c with
 | true=>exact hb pins s1 σ H1 Q I1 q1
 | false=>exact⟨.bl false,H1,I1,rfl,q1⟩
theorem apO (ha:PE X a ta)(hb:PE X (.BoolOp .Or (b :: rest) pos) tb):PE X (.BoolOp .Or (a :: b :: rest) pos) (ayE ta tb):=by
 intro pins s σ H Q I h
 refine BoolOp_or (eX (ha pins s σ H _ I h) fun v s1 ⟨x,H1,I1,r1,q1⟩=>?_)
 obtain⟨c,rfl,q1⟩:=q1
 cases r1
 refine wpAny_truthy_bool ?_
 cases c with
 | false=>exact hb pins s1 σ H1 Q I1 q1
 | true=>exact⟨.bl true,H1,I1,rfl,q1⟩
theorem auL (ha:PE X a ta):PE X (.UnaryOp .Not a pos) (awA ta):=by
 intro pins s σ H Q I h
 refine UnaryOp_ (eX (ha pins s σ H _ I h) fun v s1 ⟨x,H1,I1,r1,q1⟩=>?_)
 obtain⟨c,rfl,q1⟩:=q1
 cases r1
 exact not_of (wpAny_truthy_bool ⟨.bl (!c),H1,I1,rfl,q1⟩)
def tIf (t:TT)(ta tb:TE):TE:=fun σ H Q=>t σ H fun c H1=>if c=true then ta σ H1 Q else tb σ H1 Q
theorem jg {c:Expr}(hc:PT X c tA)(ha:PE X a ta)(hb:PE X b tb):PE X (.IfExp c a b pos) (tIf tA ta tb):=by
 intro pins s σ H Q I h
 refine wpAny_IfExp (eX (hc pins s σ H _ I h) fun d s1 ⟨H1,I1,q1⟩=>?_)
 cases d with
 | true=>exact ha pins s1 σ H1 Q I1 q1
 | false=>exact hb pins s1 σ H1 Q I1 q1
end
end L2
namespace L2
open PySem PySem.Spec PyProof.Rows
def bu (K:Frag)(H:Hp)(a:Addr)(xs:List V):Prop :=
 Rd H a (.lst xs) ∨
  ∃ (o:Obj) (its:Array Value) (n:Nat),K.lookup a=some o/\o.cls=.type "list"/\o.dict=none/\o.data=.seq its n/\its.size <= sizeLine/\Vals xs its.toList
def pP (K:Frag)(H:Hp)(a:Addr)(xs:List V):Prop :=
 Rd H a (.tup xs) ∨
  ∃ (o:Obj) (its:Array Value) (n:Nat),K.lookup a=some o/\o.cls=.type "tuple"/\o.data=.seq its n/\its.size <= sizeLine/\Vals xs its.toList
def ayF:Value->Option V
 | .none=>some .non
 | .bool b=>some (.bl b)
 | .int i _=>some (.int i)
 | .str x _=>some (.str x)
 | .bytes b _=>some (.byt b)
 | .float b _=>some (.flt b)
 | .ref a=>some (.ref a)
 | .type n=>some (.ty n)
 | _=>none
theorem RelV.abs {x:V}{u:Value}(r:RelV x u):ayF u=some x:=by
 cases x with
 | non=>cases r;rfl
 | bl _=>cases r;rfl
 | int _=>obtain⟨t,rfl⟩:=r;rfl
 | str _=>obtain⟨t,rfl⟩:=r;rfl
 | byt _=>obtain⟨t,rfl⟩:=r;rfl
 | flt _=>obtain⟨t,rfl⟩:=r;rfl
 | ref _=>cases r;rfl
 | ty _=>cases r;rfl
theorem RelV.inj {x y:V}{u:Value}(r:RelV x u)(q:RelV y u):x=y:=Option.some.inj (r.abs.symm.trans q.abs)
theorem Vals.inj:∀ {xs ys:List V} {us:List Value},Vals xs us->Vals ys us->xs=ys
 | _,_,_,.nil,.nil=>rfl
 | _,_,_,.cons r t,.cons r' t'=>by rw[r.inj r',Vals.inj t t']
section
variable {X:Cx} {pins:List (Addr×Obj)} {σ:St} {H:Hp} {s:Shared} {a:Addr} {xs ys:List V}
theorem bu.of {K:Frag}(h:H a=some (.lst xs)):bu K H a xs:=.inl (.inl h)
theorem pP.of {K:Frag}(h:H a=some (.tup xs)):pP K H a xs:=.inl (.inl h)
theorem Inv.list (I:Inv X pins σ H s)(h:bu X.K H a xs):∃ its:List Value,Vals xs its/\PlainL s.heap a its.toArray/\xs.length <= sizeLine:=by
 rcases h with h | ⟨o,its,n,hk,hc,hd,hs,hz,r⟩
 ·obtain⟨z,its,n,r,e⟩:=h.ok I.hok
  exact⟨its,r,⟨_,n,e,rfl,rfl,rfl⟩,z⟩
 ·refine⟨its.toList,r,⟨o,n,I.QT a o hk,hc,hd,by simpa using hs⟩,?_⟩
  have e:=r.length
  simp only [Array.length_toList] at e
  omega
theorem Inv.tuple (I:Inv X pins σ H s)(h:pP X.K H a xs):∃ its:List Value,Vals xs its/\IsTup s.heap a its.toArray/\xs.length <= sizeLine:=by
 rcases h with h | ⟨o,its,n,hk,hc,hs,hz,r⟩
 ·obtain⟨z,its,r,p⟩:=h.ok I.hok
  exact⟨its,r,p,z⟩
 ·refine⟨its.toList,r,⟨o,I.QT a o hk,hc,n,by simpa using hs⟩,?_⟩
  have e:=r.length
  simp only [Array.length_toList] at e
  omega
theorem Inv.ah1 (I:Inv X pins σ H s)(h:bu X.K H a xs)(h':bu X.K H a ys):xs=ys:=by
 obtain⟨its,r,⟨o,n,e,_,_,d⟩,_⟩:=I.list h
 obtain⟨its',r',⟨o',n',e',_,_,d'⟩,_⟩:=I.list h'
 rw[e] at e';cases e'
 rw[d] at d'
 injection d' with d1 _
 have:its=its':=by simpa using congrArg Array.toList d1
 subst this
 exact r.inj r'
end
abbrev Cx.wish (X:Cx)(E:Value->Shared->Prop):Cx:={ X with xe:=E }
abbrev Cx.nox (X:Cx):Cx:=X.wish fun _ _=>False
theorem Cx.Ok.wish {X:Cx}(ok:X.Ok)(E:Value->Shared->Prop):(X.wish E).Ok :=
 ⟨ok.mod,ok.kind,ok.glob,ok.blt,ok.above,ok.inj,ok.has,ok.cab,ok.hd,ok.frames,ok.stk,ok.exf,ok.bs,ok.bsz,ok.ajI,ok.ajJ,ok.QW,ok.frf⟩
theorem Cx.Ok.Ii {X:Cx}{E:Value->Shared->Prop}(ok:(X.wish E).Ok):X.Ok :=
 ⟨ok.mod,ok.kind,ok.glob,ok.blt,ok.above,ok.inj,ok.has,ok.cab,ok.hd,ok.frames,ok.stk,ok.exf,ok.bs,ok.bsz,ok.ajI,ok.ajJ,ok.QW,ok.frf⟩
section
variable {X:Cx} {pins:List (Addr×Obj)} {σ:St} {H:Hp} {s:Shared} {E:Value->Shared->Prop}
theorem Inv.wish (I:Inv X pins σ H s)(E:Value->Shared->Prop):Inv (X.wish E) pins σ H s:=⟨I.ok.wish E,I.os,I.bare,I.base,I.loc,I.cell,I.free,I.HB,I.pin,I.hok,I.len⟩
theorem Inv.Ii (I:Inv (X.wish E) pins σ H s):Inv X pins σ H s:=⟨I.ok.Ii,I.os,I.bare,I.base,I.loc,I.cell,I.free,I.HB,I.pin,I.hok,I.len⟩
theorem SP.Ii {D:Ends}{f:Flow}{s':Shared}(h:SP (X.wish E) pins D f s'):SP X pins D f s':=by
 cases f with
 | next=>obtain⟨σ',H',I,q⟩:=h;exact⟨σ',H',I.Ii,q⟩
 | brk=>obtain⟨σ',H',I,q⟩:=h;exact⟨σ',H',I.Ii,q⟩
 | cont=>obtain⟨σ',H',I,q⟩:=h;exact⟨σ',H',I.Ii,q⟩
 | ret u=>obtain⟨v,σ',H',I,r,q⟩:=h;exact⟨v,σ',H',I.Ii,r,q⟩
theorem PSs.nox {st:List Stmt}{t:TS}(h:PSs X.nox st t):PSs X st t:=fun pins s σ H D I hw =>
 wpAny_mono (h pins s σ H D (I.wish _) hw) (fun _ _ q=>q.Ii) fun _ _ z=>False.elim z
end
section
variable {X:Cx} {st:Stmt} {rest:List Stmt} {t u:TS} {e:Expr} {te:TE} {pos:Pos}
def awB:TS:=fun D σ H=>D.nx σ H
def awC (t u:TS):TS:=fun D σ H=>t { D with nx:=u D } σ H
theorem aM:PSs X [] awB:=fun _ _ σ H _ I h=>wpAny_execs_nil ⟨σ,H,I,h⟩
theorem ak (h1:PS X st t)(h2:PSs X rest u):PSs X (st :: rest) (awC t u):=by
 intro pins s σ H D I h
 refine wpAny_execs_cons (eX (h1 pins s σ H { D with nx:=u D } I h) fun f s1 q=>?_)
 cases f with
 | next =>
  obtain⟨σ',H',I',q⟩:=q
  exact h2 pins s1 σ' H' D I' q
 | ret v=>exact q
 | brk=>exact q
 | cont=>exact q
theorem aq (h1:PS X st t):PSs X [st] t:=by
 intro pins s σ H D I h
 refine wpAny_execs_cons (eX (h1 pins s σ H D I h) fun f s1 q=>?_)
 cases f with
 | next=>exact wpAny_execs_nil q
 | ret v=>exact q
 | brk=>exact q
 | cont=>exact q
theorem Inv.quiet {pins:List (Addr×Obj)}{σ:St}{H:Hp}{s:Shared}(I:Inv X pins σ H s):interactive X.env=false:=by simp[interactive,I.ok.kind]
def awD (te:TE):TS:=fun D σ H=>te σ H fun _ H1=>D.nx σ H1
theorem bh (he:PE X e te)(hs:swapsWith e none pos.line X.env=pure false:=by rfl):PS X (.Expr e pos) (awD te):=by
 intro pins s σ H D I h
 exact wpAny_Expr_any (eX (he pins s σ H _ I h) fun v s1 ⟨x,H1,I1,r1,q1⟩=>⟨σ,H1,I1,q1⟩) I.quiet hs
def ayG (te:TE):TS:=fun D σ H=>te σ H D.rt
theorem aG (he:PE X e te):PS X (.Return (some e) pos) (ayG te):=by
 intro pins s σ H D I h
 exact wpAny_Return_some (eX (he pins s σ H _ I h) fun v s1 ⟨x,H1,I1,r1,q1⟩=>⟨x,σ,H1,I1,r1,q1⟩)
def ayH (c:TT)(t u:TS):TS:=fun D σ H=>c σ H fun b H1=>if b=true then t D σ H1 else u D σ H1
theorem bC {c:Expr}{a b:List Stmt}{tc:TT}(hc:PT X c tc)(ha:PSs X a t)(hb:PSs X b u):PS X (.If c a b pos) (ayH tc t u):=by
 intro pins s σ H D I h
 refine wpAny_If (eX (hc pins s σ H _ I h) fun d s1 ⟨H1,I1,q1⟩=>?_)
 cases d with
 | true=>exact ha pins s1 σ H1 D I1 q1
 | false=>exact hb pins s1 σ H1 D I1 q1
def auM:TS:=fun _ _ _=>False
theorem lU:PS X st auM:=fun _ _ _ _ _ _ h=>h.elim
end
abbrev TG:=V->St->Hp->(St->Hp->Prop)->Prop
abbrev TGs:=List V->St->Hp->(St->Hp->Prop)->Prop
def PG (X:Cx)(target:Expr)(t:TG):Prop :=
 ∀ (pins:List (Addr×Obj)) (s:Shared) (σ:St) (H:Hp) (v:V) (u:Value) (Q:St->Hp->Prop),Inv X pins σ H s->RelV v u->t v σ H Q ->
  wpAny (model X.prog X.w) X.A (assign target X.env u) (fun _ s'=>∃ σ' H',Inv X pins σ' H' s'/\Q σ' H') X.xe s
def PGs (X:Cx)(ts:List Expr)(t:TGs):Prop :=
 ∀ (pins:List (Addr×Obj)) (s:Shared) (σ:St) (H:Hp) (vs:List V) (us:List Value) (Q:St->Hp->Prop),Inv X pins σ H s->Vals vs us->t vs σ H Q ->
  wpAny (model X.prog X.w) X.A (assignInOrder ((assignEach ts X.env).map (·.2)) us) (fun _ s'=>∃ σ' H',Inv X pins σ' H' s'/\Q σ' H') X.xe s
abbrev auN:=V->V->V->Hp->(Hp->Prop)->Prop
def awE (X:Cx)(t:auN):Prop :=
 ∀ (pins:List (Addr×Obj)) (s:Shared) (σ:St) (H:Hp) (o i v:V) (ov iv u:Value) (Q:Hp->Prop),Inv X pins σ H s->RelV o ov->RelV i iv->RelV v u->t o i v H Q ->
  wpAny (model X.prog X.w) X.A (setItem ov iv u) (fun _ s'=>∃ H',Inv X pins σ H' s'/\Q H') X.xe s
abbrev TIp:=V->V->Hp->VK->Prop
def PIp (X:Cx)(op:Operator)(t:TIp):Prop :=
 ∀ (pins:List (Addr×Obj)) (s:Shared) (σ:St) (H:Hp) (x y:V) (v u:Value) (Q:VK),Inv X pins σ H s->RelV x v->RelV y u->t x y H Q ->
  wpAny (model X.prog X.w) X.A (inplaceOp op v u) (EP X pins σ Q) X.xe s
section
variable {X:Cx} {pos:Pos}
def ad0 (i:Nat):TG:=fun v σ H Q=>Q (σ.set i (some v)) H
theorem aY {i:Nat}{x:Str}(hN:X.N.Nodup)(hi:X.N[i]? = some x)(hx:Loc X.env.scope x)(hf:X.fn x=true∨X.env.scope.names.lookup x=some .local:=by first | exact .inl rfl | exact .inr rfl | assumption):PG X (.Name x pos) (ad0 i):=by
 intro pins s σ H v u Q I r h
 exact wpAny_assign_Name (Zz I hN hi hx r (fun s' I'=>⟨_,H,I',h⟩) hf)
def ayI:TGs:=fun vs σ H Q=>vs=[]/\Q σ H
inductive apP (t:TG)(u:TGs)(vs:List V)(σ:St)(H:Hp)(Q:(St->Hp->Prop)):Prop
 | mk (v:_) (r:_) (fU:vs=v :: r) (fV:t v σ H fun σ' H'=>u r σ' H' Q):apP t u vs σ H Q
def awF (t:TG)(u:TGs):TGs:=fun vs σ H Q=>apP t u vs σ H Q
theorem gM:PGs X [] ayI:=by
 intro pins s σ H vs us Q I r h
 obtain⟨e,h⟩:=h
 subst e
 cases r
 exact assignInOrder_nil ⟨σ,H,I,h⟩
theorem bD {e:Expr}{es:List Expr}{t:TG}{u:TGs}(h1:PG X e t)(h2:PGs X es u)
  (hs:(assignEach (e :: es) X.env).map (·.2)=assign e X.env :: (assignEach es X.env).map (·.2):=by rfl):PGs X (e :: es) (awF t u):=by
 intro pins s σ H vs us Q I r h
 obtain⟨v,vr,e1,h⟩:=h
 subst e1
 cases r with
 | cons r rr =>
  rw[hs]
  refine assignInOrder_cons (eX (h1 pins s σ H _ _ _ I r h) fun _ s1 ⟨σ1,H1,I1,q1⟩=>?_)
  exact h2 pins s1 σ1 H1 _ _ Q I1 rr q1
inductive atP (K:Frag)(n:Nat)(t:TGs)(v:V)(σ:St)(H:Hp)(Q:(St->Hp->Prop)):Prop
 | mk (a:_) (xs:_) (fU:v=.ref a) (fV:pP K H a xs) (iQ:xs.length=n) (nZ:t xs σ H Q):atP K n t v σ H Q
def ayJ (K:Frag)(n:Nat)(t:TGs):TG:=fun v σ H Q=>atP K n t v σ H Q
theorem kE {es:List Expr}{k:Nat}{t:TGs}{n:Nat}(hc:X.calm=true)(h:PGs X es t)
  (hn:(assignEach es X.env).length=n:=by rfl) (hst:(assignEach es X.env).findIdx? (·.1)=none:=by rfl):PG X (.Tuple es k pos) (ayJ X.K n t):=by
 intro pins s σ H v u Q I r hw
 obtain⟨a,xs,e1,hq,hl,hw⟩:=hw
 subst e1
 cases r
 obtain⟨its,rv,ht,hz⟩:=I.tuple hq
 refine assign_Tuple_tuple (I.ok.hd hc) ht (by simp[hn,← hl,rv.length]) hst fun h' hx=>?_
 have I1:Inv X pins σ H { s with heap:=h' }:=I.kept (t':=s.toks) fun b o e=>hx b o (Nat.ne_of_lt (Heap.lt_size e)) e
 exact h pins _ σ H xs _ Q I1 (by simpa using rv) hw
def ayK (to ti:TE)(t:auN):TG:=fun v σ H Q=>to σ H fun o H1=>ti σ H1 fun i H2=>t o i v H2 fun H3=>Q σ H3
theorem Ij {o i:Expr}{to ti:TE}{t:auN}(ho:PE X o to)(hi:PE X i ti)(hs:awE X t)
  (ha:∀ v,assign (.Subscript o i pos) X.env v=(do
   let ov ← holding [v] (eval o X.env)
   let iv ← holding [v,ov] (eval i X.env)
   standAt pos
   holding [v,ov,iv] (setItem ov iv v)
   release [v,ov,iv] []):=by intro _;rfl):PG X (.Subscript o i pos) (ayK to ti t):=by
 intro pins s σ H v u Q I r h
 rw[ha]
 refine wpAny_bind (wpAny_holding (eX (ho pins s σ H _ I h) fun ov s1 ⟨x,H1,I1,r1,q1⟩=>?_))
 refine wpAny_bind (wpAny_holding (eX (hi pins s1 σ H1 _ I1 q1) fun iv s2 ⟨y,H2,I2,r2,q2⟩=>?_))
 refine wpAny_bind (wpAny_standAt (wpAny_bind (wpAny_holding (eX (hs pins s2 σ H2 x y v ov iv u _ I2 r1 r2 r q2) fun _ s3 ⟨H3,I3,q3⟩=>?_))))
 exact wpAny_release ⟨σ,H3,I3,q3⟩
def asw (te:TE)(g:TG):TS:=fun D σ H=>te σ H fun x H1=>g x σ H1 D.nx
theorem qH {tg e:Expr}{te:TE}{g:TG}(he:PE X e te)(hg:PG X tg g)(hs:swapsWithSole [tg] e pos.line X.env=pure false:=by rfl)(hw:swappedStores [tg] e X.env=pure none:=by rfl)
  (h1:(assignEach [tg] X.env).map (·.2)=[assign tg X.env]:=by rfl):PS X (.Assign [tg] e pos) (asw te g):=by
 intro pins s σ H D I h
 refine wpAny_Assign_stores (eX (he pins s σ H _ I h) fun v s1 ⟨x,H1,I1,r1,q1⟩=>?_) hs hw
 rw[h1]
 exact eX (hg pins s1 σ H1 x v _ I1 r1 q1) fun _ s2 q=>q
theorem aU {i:Nat}{x:Str}{e:Expr}{te:TE}{pos':Pos}(hN:X.N.Nodup)(hi:X.N[i]? = some x)(hx:Loc X.env.scope x)(he:PE X e te)(hs:swapsWith e (some (.Name x pos')) pos.line X.env=pure false:=by rfl)(hf:X.fn x=true∨X.env.scope.names.lookup x=some .local:=by first | exact .inl rfl | exact .inr rfl | assumption) :
  PS X (.Assign [.Name x pos'] e pos) (asw te (ad0 i)):=by
 intro pins s σ H D I h
 refine wpAny_Assign_Name (eX (he pins s σ H _ I h) fun v s1 ⟨y,H1,I1,r1,q1⟩=>?_) hs
 exact Zz I1 hN hi hx r1 (fun s2 I2=>⟨_,H1,I2,q1⟩) hf
def ayL (i:Nat)(te:TE)(ti:TIp):TS:=fun D σ H=>∃ x,σ[i]? = some (some x)/\te σ H fun y H1=>ti x y H1 fun z H2=>D.nx (σ.set i (some z)) H2
theorem apQ {i:Nat}{x:Str}{e:Expr}{te:TE}{op:Operator}{ti:TIp}{pos':Pos}(hN:X.N.Nodup)(hi:X.N[i]? = some x)(hx:Loc X.env.scope x)(he:PE X e te)(ho:PIp X op ti)(hf:X.fn x=true∨X.env.scope.names.lookup x=some .local:=by first | exact .inl rfl | exact .inr rfl | assumption) :
  PS X (.AugAssign (.Name x pos') op e pos) (ayL i te ti):=by
 intro pins s σ H D I h
 obtain⟨v,e1,h⟩:=h
 obtain⟨m,hn,hl⟩:=I.loc
 have vis:Vis X.env.scope x:=by rcases hx with k | k;exact .inl k;exact .inr (.inl k)
 obtain⟨u,r,l⟩:=hl i x v hi e1 vis
 refine wpAny_AugAssign_Name ?_
 have go:wpAny (model X.prog X.w) X.A (eval e X.env) (fun w s₂=>wpAny (model X.prog X.w) X.A (inplaceOp op u w) (fun r s₃=>wpAny (model X.prog X.w) X.A (storeName X.env x r) (fun _=>SP X pins D .next) X.xe s₃) X.xe s₂) X.xe s:=by
  refine eX (he pins s σ H _ I h) fun w s1 ⟨y,H1,I1,r1,q1⟩=>?_
  refine eX (ho pins s1 σ H1 v y u w _ I1 r r1 q1) fun z s2 ⟨zv,H2,I2,r2,q2⟩=>?_
  exact Zz I2 hN hi hx r2 (fun s3 I3=>⟨_,H2,I3,q2⟩) hf
 rcases l with ⟨hk,hm⟩ | ⟨hk,c,hc,hcell⟩
 ·exact wpAny_loadName_local I.ok.kind hk hn hm go
 ·rcases hk with hk | hk
  ·exact wpAny_loadName_cell I.ok.kind hk hc hcell go
  ·rcases hx with k | k
   ·have:X.env.scope.names.lookup x=some .free:=hk
    rw[k] at this;cases this
   ·have:X.env.scope.names.lookup x=some .free:=hk
    rw[k] at this;cases this
def ipI (f:Int->Int->Int):TIp:=fun x y H Q=>∃ i j,x=.int i/\y=.int j/\Q (.int (f i j)) H
theorem apR:PIp X .Add (ipI fun i j=>i+j):=by
 intro pins s σ H x y v u Q I r1 r2 h
 obtain⟨i,j,e1,e2,q⟩:=h
 subst e1;subst e2
 obtain⟨t,rfl⟩:=r1
 obtain⟨t',rfl⟩:=r2
 exact iadd_int ⟨.int _,H,I.tok _,⟨_,rfl⟩,q⟩
end
section
variable {X:Cx} {pos:Pos}
def auO (c:TT)(tb:TS):TS:=fun D σ H=>∃ W:Nat->St->Hp->Prop,(∃ m,W m σ H)/\∀ m σ H,W m σ H ->
 c σ H fun b H1=>if b=true then ∃ N:St->Hp->Prop,(∀ σ' H',N σ' H'->∃ m',m' < m/\W m' σ' H')/\tb { D with nx:=N,ct:=N,bk:=D.nx } σ H1 else D.nx σ H1
theorem ZC {c:Expr}{body:List Stmt}{tc:TT}{tb:TS}(hp:PassesOwn (model X.prog X.w) X.A X.env X.xe)(hc:PT X c tc)(hb:PSs X body tb):PS X (.While c body [] pos) (auO tc tb):=by
 intro pins s σ H D I h
 obtain⟨W,⟨m0,w0⟩,turn⟩:=h
 refine wpAny_While (codeAny_whileLoop (fun n s'=>∃ σ' H',Inv X pins σ' H' s'/\W n σ' H') ?_ m0 ⟨σ,H,I,w0⟩)
 rintro n s1 ⟨σ1,H1,I1,w1⟩
 refine wpAny_passesOwn hp (eX (hc pins s1 σ1 H1 _ I1 (turn n σ1 H1 w1)) fun b s2 ⟨H2,I2,q2⟩=>?_)
 cases b with
 | true =>
  obtain⟨N,hN,q2⟩:=q2
  rw[if_pos rfl]
  refine wpAny_passesOwn hp (eX (hb pins s2 σ1 H2 _ I2 q2) fun f s3 q3=>?_)
  cases f with
  | next =>
   obtain⟨σ3,H3,I3,n3⟩:=q3
   obtain⟨m',hm,w3⟩:=hN σ3 H3 n3
   exact⟨m',hm,σ3,H3,I3,w3⟩
  | cont =>
   obtain⟨σ3,H3,I3,n3⟩:=q3
   obtain⟨m',hm,w3⟩:=hN σ3 H3 n3
   exact⟨m',hm,σ3,H3,I3,w3⟩
  | brk=>exact q3
  | ret v=>exact q3
 | false =>
  rw[if_neg Bool.false_ne_true]
  exact wpAny_execs_nil ⟨σ1,H2,I2,q2⟩
end
structure It where
 go:Nat->Hp->Prop
 yld:Nat->Hp->V->Hp->Prop
 stop:Nat->Hp->Prop
def tX (X:Cx)(pins:List (Addr×Obj))(H:Hp)(b:Addr):Prop :=
 H b=none/\b≠X.env.locals/\b ∉ X.fs/\(b∈X.ex∨X.s₀.heap.objs.size <= b)/\(∀ x c,X.env.cells.lookup x=some c->c≠b)/\∀ p∈X.pn++pins,p.1≠b
theorem Inv.acS {X:Cx}{pins:List (Addr×Obj)}{σ:St}{H H':Hp}{s:Shared}{b:Addr}(I:Inv X pins σ H s)(hb:s.heap.objs.size <= b)(hn:H' b=none):tX X pins H' b:=by
 refine⟨hn,Nat.ne_of_gt (Nat.lt_of_lt_of_le I.lt hb),I.ayA hb,.inr (Nat.le_trans I.sz hb),fun x c e z=>?_,fun p hp z=>?_⟩
 ·obtain⟨v,q⟩:=I.cell x c e
  exact absurd (Nat.lt_of_lt_of_le q.lt (by rw[z];exact hb)) (Nat.lt_irrefl _)
 ·exact absurd (Nat.lt_of_lt_of_le (Heap.lt_size (I.pin p hp).1) (by rw[z];exact hb)) (Nat.lt_irrefl _)
structure Turn (P:Program)(w:World)(K:Frag)(tg:Expr)(J:It)(fp:List Addr)(it:Addr)(tn:Nat->Heap->Prop):Prop where
 mem:it∈fp
 obj:∀ i h,tn i h->∀ b∈fp,∃ o,h.get? b=some o/\∀ v,o.data≠.cell v
 keep:∀ i h h',tn i h->(∀ b∈fp,∀ o,h.get? b=some o->h'.get? b=some o)->tn i h'
 item:∀ (X:Cx),X.prog=P->X.w=w->X.K=K->X.calm=true->∀ (i:Nat) (pins:List (Addr×Obj)) (s:Shared) (σ:St) (H:Hp) (E:Value->Shared->Prop),Inv X pins σ H s->(∀ b∈fp,tX X pins H b)->tn i s.heap->J.go i H ->
  wpAny (model P w) X.A (pyNext (.ref it)) (fun r s1=>∃ u,r=some u /\
   wpAny (model P w) X.A (letOwnedTupleGo tg (.ref it) u) (fun _ s2=>∃ x H',Inv X pins σ H' s2/\RelV x u/\J.yld i H x H'/\tn (i+1) s2.heap/\∀ b∈fp,H' b=none) E s1) E s
 done:∀ (X:Cx),X.prog=P->X.w=w->X.K=K->X.calm=true->∀ (i:Nat) (pins:List (Addr×Obj)) (s:Shared) (σ:St) (H:Hp) (E:Value->Shared->Prop),Inv X pins σ H s->(∀ b∈fp,tX X pins H b)->tn i s.heap->J.stop i H ->
  wpAny (model P w) X.A (pyNext (.ref it)) (fun r s1=>r=none/\Inv X pins σ H s1) E s
 self:∀ (A:Around) (i:Nat) (s:Shared) (Q:Value->Shared->Prop) (E:Value->Shared->Prop),tn i s.heap->Q (.ref it) s->wpAny (model P w) A (pyIter (.ref it)) Q E s
abbrev TI:=St->Hp->(It->Hp->Prop)->Prop
def PIE (X:Cx)(pins:List (Addr×Obj))(σ:St)(tg:Expr)(R:It->Hp->Prop)(itv:Value)(s2:Shared):Prop :=
 ∃ (it:Addr) (fp:List Addr) (tn:Nat->Heap->Prop) (J:It) (H':Hp),itv=.ref it/\Inv X pins σ H' s2/\Turn X.prog X.w X.K tg J fp it tn/\tn 0 s2.heap/\(∀ b∈fp,tX X pins H' b)/\R J H'
def PI (X:Cx)(tg iter:Expr)(wi:TI):Prop :=
 ∀ (pins:List (Addr×Obj)) (s:Shared) (σ:St) (H:Hp) (R:It->Hp->Prop),Inv X pins σ H s->wi σ H R ->
  wpAny (model X.prog X.w) X.A (eval iter X.env) (fun v s1=>wpAny (model X.prog X.w) X.A (pyIter v) (PIE X pins σ tg R) X.xe s1) X.xe s
theorem amg {M:Model}{A:Around}{E:Value->Shared->Prop}{s:Shared}{tg:Expr}{it:Addr}{u:Value}{o:Obj}{n:String}{vs:Array Value}{Q:Unit->Shared->Prop}(ho:s.heap.get? it=some o)(hc:o.cls=.type n)(hd:o.data=.fields vs)
  (hn:["enumerate","zip","dict_itemiterator","dict_reverseitemiterator","odict_iterator","itertools.zip_longest","itertools.pairwise"].contains n=false) (hQ:Q () s):wpAny M A (letOwnedTupleGo tg (.ref it) u) Q E s:=by
 unfold letOwnedTupleGo
 cases tg <;> first
  | exact wpAny_pure hQ
  | (cases u <;> first
    | exact wpAny_pure hQ
    | (refine wpAny_bind (wpAny_load ho ?_);rw[hc,hd];show wpAny M A (if (["enumerate","zip","dict_itemiterator","dict_reverseitemiterator","odict_iterator","itertools.zip_longest","itertools.pairwise"].contains n && vs[0]? == some (rawInt _))=true then _ else _) Q E s;rw[if_neg (by intro h;rw[hn,Bool.false_and] at h;cases h)];exact wpAny_pure hQ))
def Itl (K:Frag)(a:Addr):It :=
 ⟨fun i H=>∃ xs x,bu K H a xs/\xs[i]? = some x,fun i H x H'=>H'=H/\∀ xs,bu K H a xs->xs[i]? = some x,fun i H=>∃ xs,bu K H a xs/\xs.length <= i⟩
def Itt (K:Frag)(a:Addr):It :=
 ⟨fun i H=>∃ xs x,pP K H a xs/\xs[i]? = some x,fun i H x H'=>H'=H/\∀ xs,pP K H a xs->xs[i]? = some x,fun i H=>∃ xs,pP K H a xs/\xs.length <= i⟩
def Itr (lo:Int)(n:Nat):It:=⟨fun i _=>i < n,fun i H x H'=>H'=H/\x=.int (lo+i),fun i _=>n <= i⟩
theorem am8 {P:Program}{w:World}{K:Frag}{tg:Expr}(a it:Addr):Turn P w K tg (Itl K a) [it] it (fun i h=>h.IsListIter it a i) where
 mem:=by simp
 obj:=fun i h st b hb=>by
  have e:b=it:=by simpa using hb
  subst e
  obtain⟨o,e,c,d⟩:=st
  exact⟨o,e,fun v z=>by rw[d] at z;cases z⟩
 keep:=fun i h h' st k=>st.at fun o e=>k it (by simp) o e
 item:=by
  intro X hP hw hK hc i pins s σ H E I hf st hg
  subst hP hw hK
  obtain⟨xs,x,hq,hx⟩:=hg
  obtain⟨its,rv,p,hz⟩:=I.list hq
  obtain⟨u,hu,ru⟩:=rv.get hx
  obtain⟨f0,f1,f2,f3,f4,f5⟩:=hf it (by simp)
  refine wpAny_pyNext_list_item st p.isList (x:=u) (by simpa using hu) fun h' st' sb=>?_
  have I1:Inv X pins σ H { s with heap:=h' }:=I.turned (t':=s.toks) (fun b o hb e=>(sb.2 b hb).trans e) f0 f1 f3 f4 f5
  obtain⟨o,e,c,d⟩:=id st'
  exact⟨u,rfl,amg (s:={ s with heap:=h' }) e c d (by decide) ⟨x,H,I1,ru,⟨rfl,fun ys hy=>by rw[I.ah1 hy hq];exact hx⟩,st',fun b hb=>(hf b hb).1⟩⟩
 done:=by
  intro X hP hw hK hc i pins s σ H E I hf st hg
  subst hP hw hK
  obtain⟨xs,hq,hx⟩:=hg
  obtain⟨its,rv,p,hz⟩:=I.list hq
  obtain⟨f0,f1,f2,f3,f4,f5⟩:=hf it (by simp)
  have hl:=rv.length
  exact wpAny_pyNext_list_end (I.ok.hd hc) st p.isList (by simp;omega) fun h' eb=>⟨rfl,I.turned (t':=s.toks) (fun b o hb e=>eb b o hb e) f0 f1 f3 f4 f5⟩
 self:=fun _ _ _ _ _ st h=>wpAny_pyIter_listiter st h
theorem ajL {P:Program}{w:World}{K:Frag}{tg:Expr}(it:Addr)(lo:Int)(n:Nat):Turn P w K tg (Itr lo n) [it] it (fun i h=>IsRangeIter h it (lo+(i:Nat) * 1) ((n:Int) - (i:Nat)) 1) where
 mem:=by simp
 obj:=fun i h st b hb=>by
  have e:b=it:=by simpa using hb
  subst e
  exact⟨_,st,fun v z=>by
   have z':Data.fields _=Data.cell v:=z
   cases z'⟩
 keep:=fun i h h' st k=>k it (by simp) _ st
 item:=by
  intro X hP hw hK hc i pins s σ H E I hf st hg
  subst hP hw hK
  obtain⟨f0,f1,f2,f3,f4,f5⟩:=hf it (by simp)
  have W:=Walks.range (prog:=X.prog) (w:=X.w) (I.ok.hd hc) it lo 1 n
  refine W.item i s _ _ hg st fun v h' tk hv st' kk=>?_
  obtain⟨t,rfl⟩:=hv
  have I1:Inv X pins σ H { s with heap:=h',toks:=tk }:=I.turned (fun b o hb e=>kk b o (by simpa using hb) e) f0 f1 f3 f4 f5
  refine⟨_,rfl,amg (s:={ s with heap:=h',toks:=tk }) (n:="range_iterator") st' rfl rfl (by decide) ⟨.int (lo+i),H,I1,⟨t,?_⟩,⟨rfl,rfl⟩,st',fun b hb=>(hf b hb).1⟩⟩
  rw[Int.mul_one]
 done:=by
  intro X hP hw hK hc i pins s σ H E I hf st hg
  subst hP hw hK
  obtain⟨f0,f1,f2,f3,f4,f5⟩:=hf it (by simp)
  exact wpAny_pyNext_range_end (I.ok.hd hc) st (by have:n <= i:=hg;omega) fun h' eb=>⟨rfl,I.turned (t':=s.toks) (fun b o hb e=>eb b o hb e) f0 f1 f3 f4 f5⟩
 self:=fun _ _ _ _ _ st h=>wpAny_pyIter_rangeiter st h
end L2
namespace L2
open PySem PySem.Spec PyProof.Rows
section
variable {X:Cx} {tg:Expr}
inductive apS (K:Frag)(R:(It->Hp->Prop))(x:V)(H1:Hp):Prop
 | mk (a:_) (fU:x=.ref a) (fV:(∃ xs,bu K H1 a xs)/\R (Itl K a) H1):apS K R x H1
def awG (K:Frag)(tl:TE):TI:=fun σ H R=>tl σ H fun x H1=>apS K R x H1
inductive awH (K:Frag)(R:(It->Hp->Prop))(x:V)(H1:Hp):Prop
 | mk (a:_) (fU:x=.ref a) (fV:(∃ xs,pP K H1 a xs)/\R (Itt K a) H1):awH K R x H1
theorem ik {l:Expr}{tl:TE}(hl:PE X l tl):PI X tg l (awG X.K tl):=by
 intro pins s σ H R I h
 refine eX (hl pins s σ H _ I h) fun v s1 ⟨x,H1,I1,r1,q1⟩=>?_
 obtain⟨a,e,⟨xs,hq⟩,q⟩:=q1
 subst e
 cases r1
 obtain⟨its,rv,p,hz⟩:=I1.list hq
 refine wpAny_pyIter_list p.isList ?_
 refine⟨s1.heap.objs.size,[s1.heap.objs.size],_,_,H1,rfl,I1.kept (t':=s1.toks) fun b o e=>Heap.get?_push_of_some _ e,am8 a _,⟨_,Heap.get?_push_size _ rfl,rfl,rfl⟩,fun b hb=>?_,q⟩
 have e:b=s1.heap.objs.size:=by simpa using hb
 subst e
 exact I1.acS (Nat.le_refl _) (I1.hok.fresh (Nat.le_refl _))
theorem ah2 {pins:List (Addr×Obj)}{σ:St}{H:Hp}{s:Shared}{R:It->Hp->Prop}{E:Value->Shared->Prop}{lo hi:Int}{t u v:Tok}{tk:Nat}(I:Inv X pins σ H s)(h1:-(2 ^ 62) <= lo)(h2:lo < 2 ^ 62)(h3:-(2 ^ 62) <= hi)(h4:hi < 2 ^ 62)
  (q:R (Itr lo (hi - lo).toNat) H):wpAny (model X.prog X.w) X.A (pyIter (.ref s.heap.objs.size)) (PIE X pins σ tg R) E { s with heap:=s.heap.push { cls:=.type "range",data:=.fields #[.int lo t,.int hi u,.int 1 v] },toks:=tk }:=by
 refine wpAny_pyIter_range (IsRange.new ..) (small_one h1 h2 h3 h4) ?_
 have I1:Inv X pins σ H { s with heap:=s.heap.push { cls:=.type "range",data:=.fields #[.int lo t,.int hi u,.int 1 v] },toks:=tk }:=I.kept fun b o e=>Heap.get?_push_of_some _ e
 refine⟨(s.heap.push { cls:=.type "range",data:=.fields #[.int lo t,.int hi u,.int 1 v] }).objs.size,[(s.heap.push { cls:=.type "range",data:=.fields #[.int lo t,.int hi u,.int 1 v] }).objs.size],_,_,H,rfl,
  I1.kept (t':=tk) fun b o e=>Heap.get?_push_of_some _ e,ajL _ lo (hi - lo).toNat,?_,fun b hb=>?_,q⟩
 ·have e1:lo+((0:Nat):Int) * 1=lo:=by simp
  have e2:(((hi - lo).toNat:Nat):Int) - ((0:Nat):Int)=Builtin.Range.rangeSize lo hi 1:=by rw[rangeSize_one];split <;> omega
  show IsRangeIter _ _ (lo+((0:Nat):Int) * 1) ((((hi - lo).toNat:Nat):Int) - ((0:Nat):Int)) 1
  rw[e1,e2]
  exact Heap.get?_push_size _ rfl
 ·have e:b=(s.heap.push { cls:=.type "range",data:=.fields #[.int lo t,.int hi u,.int 1 v] }).objs.size:=by simpa using hb
  subst e
  exact I1.acS (Nat.le_refl _) (I1.hok.fresh (Nat.le_refl _))
inductive apT (R:(It->Hp->Prop))(vs:List V)(H1:Hp):Prop
 | mk (j:Int) (fU:vs=[.int j]) (fV:-(2 ^ 62) <= j/\j < 2 ^ 62/\R (Itr 0 j.toNat) H1):apT R vs H1
def awI (ta:TA):TI:=fun σ H R=>ta σ H fun vs H1=>apT R vs H1
inductive apU (R:(It->Hp->Prop))(vs:List V)(H1:Hp):Prop
 | mk (i j:Int) (fU:vs=[.int i,.int j]) (fV:(-(2 ^ 62) <= i/\i < 2 ^ 62/\-(2 ^ 62) <= j/\j < 2 ^ 62)) (iQ:R (Itr i (j - i).toNat) H1):apU R vs H1
def awJ (ta:TA):TI:=fun σ H R=>ta σ H fun vs H1=>apU R vs H1
theorem tY {a:Expr}{ta:TA}{p pos:Pos}(hg:Gl X "range")(hm:X.mg "range" = none)(ha:PA X [a] ta)(hs:starEach [a] X.env=[(false,eval a X.env)]:=by rfl):PI X tg (.Call (.Name "range" p) [a] [] pos) (awI ta):=by
 intro pins s σ H R I h
 refine Call_ (yI I hg hm boot_range (PyProof.Rows.callWith_type1 (eX (ha pos pins s σ H _ I h) fun us s1 ⟨vs,H1,I1,r1,q1⟩=>?_) hs rfl))
 obtain⟨j,e,q1,q2,q⟩:=q1
 subst e
 cases r1 with
 | cons r rr =>
  cases rr
  obtain⟨t,rfl⟩:=r
  exact call_range_1 (ah2 I1 (by omega) (by omega) q1 q2 (by simpa using q))
theorem am9 {a b:Expr}{ta:TA}{p pos:Pos}(hg:Gl X "range")(hm:X.mg "range" = none)(ha:PA X [a,b] ta)(hs:starEach [a,b] X.env=[(false,eval a X.env),(false,eval b X.env)]:=by rfl)(hs2:starEach [b] X.env=[(false,eval b X.env)]:=by rfl) :
  PI X tg (.Call (.Name "range" p) [a,b] [] pos) (awJ ta):=by
 intro pins s σ H R I h
 refine Call_ (yI I hg hm boot_range (PyProof.Rows.callWith_type1 (eX (ha pos pins s σ H _ I h) fun us s1 ⟨vs,H1,I1,r1,q1⟩=>?_) (by rw[hs,hs2]) (by rw[hs2];rfl)))
 obtain⟨i,j,e,⟨q1,q2,q3,q4⟩,q⟩:=q1
 subst e
 cases r1 with
 | cons r rr =>
  cases rr with
  | cons r' rr =>
   cases rr
   obtain⟨t,rfl⟩:=r
   obtain⟨t',rfl⟩:=r'
   exact call_range_2 (ah2 I1 q1 q2 q3 q4 q)
def ayN (wi:TI)(g:TG)(tb:TS):TS:=fun D σ H=>wi σ H fun J H1=>∃ W:Nat->Nat->St->Hp->Prop,(∃ m,W 0 m σ H1)/\∀ i m σ H,W i m σ H ->
 (J.stop i H/\D.nx σ H)∨(J.go i H/\∃ N:St->Hp->Prop,(∀ σ' H',N σ' H'->∃ m',m' < m/\W (i+1) m' σ' H')/\∀ x H',J.yld i H x H'->g x σ H' fun σ2 H2=>tb { D with nx:=N,ct:=N,bk:=D.nx } σ2 H2)
def ZD (fp:List Addr)(h:Heap):List (Addr×Obj):=fp.filterMap fun b=>(h.get? b).map fun o=>(b,o)
theorem EY {fp:List Addr}{h:Heap}{b:Addr}{o:Obj}(hb:b∈fp)(e:h.get? b=some o):(b,o)∈ZD fp h:=List.mem_filterMap.mpr ⟨b,hb,by rw[e];rfl⟩
theorem ana {fp:List Addr}{h:Heap}{p:Addr×Obj}(hp:p∈ZD fp h):p.1∈fp/\h.get? p.1=some p.2:=by
 obtain⟨b,hb,e⟩:=List.mem_filterMap.mp hp
 cases q:h.get? b with
 | none=>rw[q] at e;cases e
 | some o =>
  rw[q] at e
  have e':(b,o)=p:=Option.some.inj e
  subst e'
  exact⟨hb,q⟩
theorem Inv.pinned {pins:List (Addr×Obj)}{σ:St}{H:Hp}{s:Shared}{fp:List Addr}(I:Inv X pins σ H s)(hf:∀ b∈fp,tX X pins H b)(ho:∀ b∈fp,∃ o,s.heap.get? b=some o/\∀ v,o.data≠.cell v):Inv X (pins++ZD fp s.heap) σ H s :=
 I.amf fun p hp=>(List.mem_append.mp hp).elim (fun z=>I.pin p (List.mem_append_right _ z)) fun z=>by
  obtain⟨hb,e⟩:=ana z
  obtain⟨f0,f1,f2,_⟩:=hf p.1 hb
  obtain⟨o,e',d⟩:=ho p.1 hb
  rw[e] at e';cases e'
  exact⟨e,f0,f1,f2,d⟩
theorem Inv.Ik {pins pl:List (Addr×Obj)}{σ:St}{H:Hp}{s:Shared}(I:Inv X (pins++pl) σ H s):Inv X pins σ H s:=I.amf fun p hp=>I.pin p (List.mem_append_right _ (List.mem_append_left _ hp))
theorem gw {iter:Expr}{body:List Stmt}{wi:TI}{g:TG}{tb:TS}{pos:Pos}(hp:PassesOwn (model X.prog X.w) X.A X.env X.xe)(hc:X.calm=true)(hi:PI X tg iter wi)(hg:PG X tg g)(hb:PSs X body tb)
  (hs:∀ x,foldedSetIterable iter X.env x=pure x:=by intro _;rfl):PS X (.For tg iter body [] pos) (ayN wi g tb):=by
 intro pins s σ H D I h
 refine wpAny_For (eX (hi pins s σ H _ I h) fun v s1 h1=>eX h1 fun itv s2 h2=>?_) hs
 obtain⟨it,fp,tn,J,H2,e,I2,T,st2,f2,W,⟨m0,w0⟩,turn⟩:=h2
 subst e
 have stat:∀ {H':Hp},(∀ b∈fp,H' b=none)->∀ b∈fp,tX X pins H' b:=fun hn b hb=>⟨hn b hb,(f2 b hb).2⟩
 refine codeAny_forLoop_any (fun n s'=>∃ i σ' H',Inv X pins σ' H' s'/\tn i s'.heap/\(∀ b∈fp,H' b=none)/\W i n σ' H') ?_ m0 ⟨0,σ,H2,I2,st2,fun b hb=>(f2 b hb).1,w0⟩
 rintro n s3 ⟨i,σ3,H3,I3,st3,fr3,w3⟩
 rcases turn i n σ3 H3 w3 with ⟨stop,qn⟩ | ⟨go,N,hN,step⟩
 ·refine wpAny_passesOwn hp (eX (T.done X rfl rfl rfl hc i pins s3 σ3 H3 X.xe I3 (stat fr3) st3 stop) fun r s4 ⟨hr,I4⟩=>?_)
  subst hr
  exact wpAny_execs_nil ⟨σ3,H3,I4,qn⟩
 ·refine wpAny_passesOwn hp (eX (T.item X rfl rfl rfl hc i pins s3 σ3 H3 X.xe I3 (stat fr3) st3 go) fun r s4 ⟨u,hr,h4⟩=>?_)
  subst hr
  refine wpAny_passesOwn hp (eX h4 fun _ s5 ⟨x,H5,I5,r5,y5,st5,fr5⟩=>?_)
  have I5':=I5.pinned (stat fr5) (T.obj _ _ st5)
  refine wpAny_passesOwn hp (eX (hg _ s5 σ3 H5 x u _ I5' r5 (step x H5 y5)) fun _ s6 ⟨σ6,H6,I6,q6⟩=>?_)
  refine wpAny_passesOwn hp (eX (hb _ s6 σ6 H6 _ I6 q6) fun f s7 q7=>?_)
  have again:∀ {σ7:St} {H7:Hp},Inv X (pins++ZD fp s5.heap) σ7 H7 s7->N σ7 H7->∃ m,m < n/\∃ i σ' H',Inv X pins σ' H' s7/\tn i s7.heap/\(∀ b∈fp,H' b=none)/\W i m σ' H':=fun {σ7 H7} I7 n7=>by
   obtain⟨m',hm,w7⟩:=hN σ7 H7 n7
   refine⟨m',hm,i+1,σ7,H7,I7.Ik,T.keep _ _ _ st5 fun b hb o e=>(I7.pin (b,o) (List.mem_append_right _ (List.mem_append_right _ (EY hb e)))).1,fun b hb=>?_,w7⟩
   obtain⟨o,e,d⟩:=T.obj _ _ st5 b hb
   exact (I7.pin (b,o) (List.mem_append_right _ (List.mem_append_right _ (EY hb e)))).2.1
  cases f with
  | next=>obtain⟨σ7,H7,I7,n7⟩:=q7;exact again I7 n7
  | cont=>obtain⟨σ7,H7,I7,n7⟩:=q7;exact again I7 n7
  | brk=>obtain⟨σ7,H7,I7,q7⟩:=q7;exact⟨σ7,H7,I7.Ik,q7⟩
  | ret v=>obtain⟨x7,σ7,H7,I7,r7,q7⟩:=q7;exact⟨x7,σ7,H7,I7.Ik,r7,q7⟩
end
theorem vM {K:Frag}{a:Addr}{xs:List V}{g:TG}{tb:TS}{D:Ends}{σ:St}{H:Hp}(Pv:Nat->St->Hp->Prop)(h0:Pv 0 σ H)(hl:∀ i σ H,i <= xs.length->Pv i σ H->bu K H a xs)
  (hs:∀ i x σ H,xs[i]? = some x->Pv i σ H->g x σ H fun σ2 H2=>tb { D with nx:=Pv (i+1),ct:=Pv (i+1),bk:=D.nx } σ2 H2) (hd:∀ σ H,Pv xs.length σ H->D.nx σ H) :
  ∃ W:Nat->Nat->St->Hp->Prop,(∃ m,W 0 m σ H)/\∀ i m σ H,W i m σ H ->
   ((Itl K a).stop i H/\D.nx σ H)∨((Itl K a).go i H/\∃ N:St->Hp->Prop,(∀ σ' H',N σ' H'->∃ m',m' < m/\W (i+1) m' σ' H')/\∀ x H',(Itl K a).yld i H x H'->g x σ H' fun σ2 H2=>tb { D with nx:=N,ct:=N,bk:=D.nx } σ2 H2):=by
 refine⟨fun i m σ H=>m=xs.length - i/\i <= xs.length/\Pv i σ H,⟨xs.length,by simp,Nat.zero_le _,h0⟩,?_⟩
 rintro i m σ H ⟨rfl,hi,p⟩
 have q:=hl i σ H hi p
 by_cases hlt:i < xs.length
 ·refine .inr ⟨⟨xs,xs[i],q,by simp[hlt]⟩,Pv (i+1),fun σ' H' p'=>⟨xs.length - (i+1),by omega,rfl,hlt,p'⟩,fun x H' y=>?_⟩
  obtain⟨e,y⟩:=y
  subst e
  exact hs i x σ _ (y xs q) p
 ·have e:i=xs.length:=by omega
  subst e
  exact .inl ⟨⟨xs,q,Nat.le_refl _⟩,hd σ H p⟩
theorem yp {lo:Int}{n:Nat}{g:TG}{tb:TS}{D:Ends}{σ:St}{H:Hp}(Pv:Nat->St->Hp->Prop)(h0:Pv 0 σ H)
  (hs:∀ i σ H,i < n->Pv i σ H->g (.int (lo+i)) σ H fun σ2 H2=>tb { D with nx:=Pv (i+1),ct:=Pv (i+1),bk:=D.nx } σ2 H2) (hd:∀ σ H,Pv n σ H->D.nx σ H) :
  ∃ W:Nat->Nat->St->Hp->Prop,(∃ m,W 0 m σ H)/\∀ i m σ H,W i m σ H ->
   ((Itr lo n).stop i H/\D.nx σ H)∨((Itr lo n).go i H/\∃ N:St->Hp->Prop,(∀ σ' H',N σ' H'->∃ m',m' < m/\W (i+1) m' σ' H')/\∀ x H',(Itr lo n).yld i H x H'->g x σ H' fun σ2 H2=>tb { D with nx:=N,ct:=N,bk:=D.nx } σ2 H2):=by
 refine⟨fun i m σ H=>m=n - i/\i <= n/\Pv i σ H,⟨n,by simp,Nat.zero_le _,h0⟩,?_⟩
 rintro i m σ H ⟨rfl,hi,p⟩
 by_cases hlt:i < n
 ·refine .inr ⟨hlt,Pv (i+1),fun σ' H' p'=>⟨n - (i+1),by omega,rfl,hlt,p'⟩,fun x H' y=>?_⟩
  obtain⟨e,y⟩:=y
  subst e y
  exact hs i σ _ hlt p
 ·have e:i=n:=by omega
  subst e
  exact .inl ⟨Nat.le_refl _,hd σ H p⟩
end L2
namespace L2
open PySem PySem.Spec PyProof.Rows
abbrev R2:=V->V->Hp->VK->Prop
def Ez (X:Cx)(f:Value->Value->Sem Value)(r:R2):Prop :=
 ∀ (pins:List (Addr×Obj)) (s:Shared) (σ:St) (H:Hp) (x y:V) (v u:Value) (Q:VK),Inv X pins σ H s->RelV x v->RelV y u->r x y H Q ->
  wpAny (model X.prog X.w) X.A (f v u) (EP X pins σ Q) X.xe s
def UnR (X:Cx)(f:Value->Sem Value)(r:V->Hp->VK->Prop):Prop :=
 ∀ (pins:List (Addr×Obj)) (s:Shared) (σ:St) (H:Hp) (x:V) (v:Value) (Q:VK),Inv X pins σ H s->RelV x v->r x H Q ->
  wpAny (model X.prog X.w) X.A (f v) (EP X pins σ Q) X.xe s
def qI (X:Cx)(f:Value)(r:List V->Hp->VK->Prop):Prop :=
 ∀ (pins:List (Addr×Obj)) (s:Shared) (σ:St) (H:Hp) (xs:List V) (us:List Value) (Q:VK),Inv X pins σ H s->Vals xs us->r xs H Q ->
  wpAny (model X.prog X.w) X.A (call f us) (EP X pins σ Q) X.xe s
def tOp (r:R2)(ta tb:TE):TE:=fun σ H Q=>ta σ H fun x H1=>tb σ H1 fun y H2=>r x y H2 Q
def tUn (r:V->Hp->VK->Prop)(ta:TE):TE:=fun σ H Q=>ta σ H fun x H1=>r x H1 Q
inductive rII (C:Int->Int->Prop)(g:Int->Int->V)(x:V)(y:V)(H:Hp)(Q:VK):Prop
 | mk (i:_) (j:_) (fU:x=.int i) (fV:y=.int j) (iQ:C i j/\Q (g i j) H):rII C g x y H Q
def rI (C:Int->Int->Prop)(g:Int->Int->V):R2:=fun x y H Q=>rII C g x y H Q
inductive awK (g:Int->Int->V)(x:V)(y:V)(H:Hp)(Q:VK):Prop
 | mk (i:_) (j:_) (fU:x=.int i) (fV:y=.int j) (iQ:Q (g i j) H):awK g x y H Q
def rI0 (g:Int->Int->V):R2:=fun x y H Q=>awK g x y H Q
def rU (g:Int->V):V->Hp->VK->Prop:=fun x H Q=>∃ i,x=.int i/\Q (g i) H
section
variable {X:Cx} {a b c:Expr} {ta tb tc:TE} {pos:Pos}
theorem auQ (ha:PE X a ta)(hb:PE X b tb){pins:List (Addr×Obj)}{s:Shared}{σ:St}{H:Hp}{R:V->V->Hp->Prop}(I:Inv X pins σ H s)
  (h:ta σ H fun x H1=>tb σ H1 fun y H2=>R x y H2) {Q:Value->Shared->Prop} {f:Value->Value->Sem Value}
  (hf:∀ v u s2 x y H2,Inv X pins σ H2 s2->RelV x v->RelV y u->R x y H2->wpAny (model X.prog X.w) X.A (f v u) Q X.xe s2) :
  wpAny (model X.prog X.w) X.A (eval a X.env) (fun v s₁=>wpAny (model X.prog X.w) X.A (eval b X.env) (fun u s₂=>wpAny (model X.prog X.w) X.A (f v u) Q X.xe s₂) X.xe s₁) X.xe s:=by
 refine eX (ha pins s σ H _ I h) fun v s1 ⟨x,H1,I1,r1,q1⟩=>?_
 refine eX (hb pins s1 σ H1 _ I1 q1) fun u s2 ⟨y,H2,I2,r2,q2⟩=>?_
 exact hf v u s2 x y H2 I2 r1 r2 q2
theorem aW {op:Operator}{r:R2}(ho:Ez X (binaryOp op) r)(ha:PE X a ta)(hb:PE X b tb):PE X (.BinOp a op b pos) (tOp r ta tb):=by
 intro pins s σ H Q I h
 exact wpAny_BinOp (auQ ha hb I h fun v u s2 x y H2 I2 rx ry q=>ho pins s2 σ H2 x y v u Q I2 rx ry q)
theorem XJ {op:UnaryOp}{r:V->Hp->VK->Prop}(ho:UnR X (unaryOp op) r)(ha:PE X a ta):PE X (.UnaryOp op a pos) (tUn r ta):=by
 intro pins s σ H Q I h
 exact UnaryOp_ (eX (ha pins s σ H _ I h) fun v s1 ⟨x,H1,I1,r1,q1⟩=>ho pins s1 σ H1 x v Q I1 r1 q1)
theorem opI {f:Value->Value->Sem Value}{C:Int->Int->Prop}{g:Int->Int->Int}
  (rule:∀ (i j:Int) (t u:Tok) (s:Shared) (Q:Value->Shared->Prop) (E:Value->Shared->Prop),C i j->Q (.int (g i j) s.toks) { s with toks:=s.toks+1 }->wpAny (model X.prog X.w) X.A (f (.int i t) (.int j u)) Q E s) :
  Ez X f (rI C fun i j=>.int (g i j)):=by
 intro pins s σ H x y v u Q I rx ry h
 obtain⟨i,j,rfl,rfl,hc,q⟩:=h
 obtain⟨t,rfl⟩:=rx
 obtain⟨t',rfl⟩:=ry
 exact rule i j t t' s _ _ hc ⟨.int (g i j),H,I.tok _,⟨_,rfl⟩,q⟩
theorem awL {f:Value->Value->Sem Value}{g:Int->Int->Int}
  (rule:∀ (i j:Int) (t u:Tok) (s:Shared) (Q:Value->Shared->Prop) (E:Value->Shared->Prop),Q (.int (g i j) s.toks) { s with toks:=s.toks+1 }->wpAny (model X.prog X.w) X.A (f (.int i t) (.int j u)) Q E s) :
  Ez X f (rI0 fun i j=>.int (g i j)):=by
 intro pins s σ H x y v u Q I rx ry h
 obtain⟨i,j,rfl,rfl,q⟩:=h
 obtain⟨t,rfl⟩:=rx
 obtain⟨t',rfl⟩:=ry
 exact rule i j t t' s _ _ ⟨.int (g i j),H,I.tok _,⟨_,rfl⟩,q⟩
theorem asx {f:Value->Value->Sem Value}{g:Int->Int->Bool}
  (rule:∀ (i j:Int) (t u:Tok) (s:Shared) (Q:Value->Shared->Prop) (E:Value->Shared->Prop),Q (.bool (g i j)) s->wpAny (model X.prog X.w) X.A (f (.int i t) (.int j u)) Q E s) :
  Ez X f (rI0 fun i j=>.bl (g i j)):=by
 intro pins s σ H x y v u Q I rx ry h
 obtain⟨i,j,rfl,rfl,q⟩:=h
 obtain⟨t,rfl⟩:=rx
 obtain⟨t',rfl⟩:=ry
 exact rule i j t t' s _ _ ⟨.bl (g i j),H,I,rfl,q⟩
def ayR (i j:Int):Prop:=0 < j/\j < 1073741824
def ayS (i j:Int):Prop:=0 <= j/\j <= 1000000/\i.natAbs < 2 ^ 64
def auR (i j:Int):Prop:=(-(2 ^ 64) < i/\i < 2 ^ 64)∨(-(2 ^ 64) < j/\j < 2 ^ 64)
theorem auR.ok {i j:Int}(h:auR i j):IntMulOk i j:=by
 rcases h with ⟨h1,h2⟩ | ⟨h1,h2⟩
 ·exact .of_left (intBits_le_64 h1 h2)
 ·exact .of_right (intBits_le_64 h1 h2)
theorem bO:Ez X (binaryOp .Add) (rI0 fun i j=>.int (i+j)):=awL fun _ _ _ _ _ _ _ q=>add_int q
theorem lV:Ez X (binaryOp .Sub) (rI0 fun i j=>.int (i - j)):=awL fun _ _ _ _ _ _ _ q=>sub_int q
theorem wC:Ez X (binaryOp .Mult) (rI auR fun i j=>.int (i * j)):=opI fun _ _ _ _ _ _ _ hc q=>mul_int q hc.ok
theorem xQ:Ez X (binaryOp .FloorDiv) (rI ayR fun i j=>.int (i / j)):=opI fun i j _ _ _ _ _ hc q=>by
 have h1:(0:Int) < j:=hc.1
 have h2:j < 1073741824:=hc.2
 exact floordiv_int (by omega) (by rw[Int.fdiv_eq_ediv_of_nonneg i (by omega)];exact q) (.inl (PyProof.noPylong_small (by omega)))
theorem d7:Ez X (binaryOp .Mod) (rI (fun _ j=>0 < j) fun i j=>.int (i % j)):=opI fun i j _ _ _ _ _ hc q=>by
 have h1:(0:Int) < j:=hc
 exact mod_int' (by omega) (by rw[Int.fmod_eq_emod_of_nonneg i (by omega)];exact q)
theorem apV:Ez X (binaryOp .Pow) (rI ayS fun i j=>.int (i ^ j.toNat)):=opI fun _ _ _ _ _ _ _ hc q=>pow_int_small hc.1 hc.2.1 hc.2.2 q
theorem unI {f:Value->Sem Value}{g:Int->Int}
  (rule:∀ (i:Int) (t:Tok) (s:Shared) (Q:Value->Shared->Prop) (E:Value->Shared->Prop),Q (.int (g i) s.toks) { s with toks:=s.toks+1 }->wpAny (model X.prog X.w) X.A (f (.int i t)) Q E s) :
  UnR X f (rU fun i=>.int (g i)):=by
 intro pins s σ H x v Q I rx h
 obtain⟨i,rfl,q⟩:=h
 obtain⟨t,rfl⟩:=rx
 exact rule i t s _ _ ⟨.int (g i),H,I.tok _,⟨_,rfl⟩,q⟩
theorem Il:UnR X (unaryOp .USub) (rU fun i=>.int (-i)):=unI fun _ _ _ _ _ q=>neg_int q
end
def awM:V->V->Bool
 | .non,.non=>true | .non,.int _=>true | .int _,.non=>true | .non,.bl _=>true | .bl _,.non=>true | .non,.str _=>true | .str _,.non=>true
 | .int _,.int _=>true | .bl _,.bl _=>true | .str _,.str _=>true | .byt _,.byt _=>true
 | .int _,.str _=>true | .str _,.int _=>true | .bl _,.str _=>true | .str _,.bl _=>true
 | _,_=>false
def rEq:R2:=fun x y H Q=>awM x y=true/\Q (.bl (decide (x=y))) H
def rNe:R2:=fun x y H Q=>awM x y=true/\Q (.bl (!decide (x=y))) H
theorem amh {i j:Int}:decide (V.int i=V.int j)=(i == j):=by
 rw[Bool.eq_iff_iff]
 simp
theorem apW {i j:Bool}:decide (V.bl i=V.bl j)=(i == j):=by
 rw[Bool.eq_iff_iff]
 simp
theorem ami {i j:Str}:decide (V.str i=V.str j)=(i == j):=by
 rw[Bool.eq_iff_iff]
 simp
theorem amj {i j:Array UInt8}:decide (V.byt i=V.byt j)=(i.toList == j.toList):=by
 rw[Bool.eq_iff_iff]
 cases i
 cases j
 simp
section
variable {X:Cx} {a b c:Expr} {ta tb tc:TE} {pos:Pos}
theorem cR {pins:List (Addr×Obj)}{σ:St}{H:Hp}{s:Shared}{Q:VK}{k k':Bool}(I:Inv X pins σ H s)(q:Q (.bl k) H)(e:k=k'):EP X pins σ Q (.bool k') s:=by
 subst e
 exact⟨.bl k,H,I,rfl,q⟩
theorem cX:Ez X (compareOp .Eq) rEq:=by
 intro pins s σ H x y v u Q I rx ry h
 obtain⟨hs,q⟩:=h
 cases x with
 | non =>
  cases rx
  cases y with
  | non=>cases ry;exact PySem.EqNone.eq_none_none (cR I q (by simp))
  | bl j=>cases ry;exact PySem.EqNone.eq_none_bool (cR I q (by simp))
  | int j=>obtain⟨t',rfl⟩:=ry;exact PySem.EqNone.eq_none_int (cR I q (by simp))
  | str j=>obtain⟨t',rfl⟩:=ry;exact PySem.EqNone.eq_none_str (cR I q (by simp))
  | _=>exact absurd (show false=true from hs) Bool.false_ne_true
 | bl i =>
  cases rx
  cases y with
  | non=>cases ry;exact PySem.EqNone.eq_bool_none (cR I q (by simp))
  | bl j=>cases ry;exact eq_bool (cR I q apW)
  | str j=>obtain⟨t',rfl⟩:=ry;exact PySem.EqMixed.eq_bool_str (cR I q (by simp))
  | _=>exact absurd (show false=true from hs) Bool.false_ne_true
 | int i =>
  obtain⟨t,rfl⟩:=rx
  cases y with
  | non=>cases ry;exact PySem.EqNone.eq_int_none (cR I q (by simp))
  | int j=>obtain⟨t',rfl⟩:=ry;exact eq_int (cR I q amh)
  | str j=>obtain⟨t',rfl⟩:=ry;exact PySem.EqMixed.eq_int_str (cR I q (by simp))
  | _=>exact absurd (show false=true from hs) Bool.false_ne_true
 | str i =>
  obtain⟨t,rfl⟩:=rx
  cases y with
  | non=>cases ry;exact PySem.EqNone.eq_str_none (cR I q (by simp))
  | bl j=>cases ry;exact PySem.EqMixed.eq_str_bool (cR I q (by simp))
  | int j=>obtain⟨t',rfl⟩:=ry;exact PySem.EqMixed.eq_str_int (cR I q (by simp))
  | str j=>obtain⟨t',rfl⟩:=ry;exact eq_str (cR I q ami)
  | _=>exact absurd (show false=true from hs) Bool.false_ne_true
 | byt i =>
  obtain⟨t,rfl⟩:=rx
  cases y with
  | byt j=>obtain⟨t',rfl⟩:=ry;exact PySem.W.eq_bytes (cR I q amj)
  | _=>exact absurd (show false=true from hs) Bool.false_ne_true
 | _=>cases y <;> exact absurd (show false=true from hs) Bool.false_ne_true
theorem Dn:Ez X (compareOp .NotEq) rNe:=by
 intro pins s σ H x y v u Q I rx ry h
 obtain⟨hs,q⟩:=h
 cases x with
 | non =>
  cases rx
  cases y with
  | non=>cases ry;exact PySem.EqNone.ne_none_none (cR I q (by simp))
  | bl j=>cases ry;exact PySem.EqNone.ne_none_bool (cR I q (by simp))
  | int j=>obtain⟨t',rfl⟩:=ry;exact PySem.EqNone.ne_none_int (cR I q (by simp))
  | str j=>obtain⟨t',rfl⟩:=ry;exact PySem.EqNone.ne_none_str (cR I q (by simp))
  | _=>exact absurd (show false=true from hs) Bool.false_ne_true
 | bl i =>
  cases rx
  cases y with
  | non=>cases ry;exact PySem.EqNone.ne_bool_none (cR I q (by simp))
  | bl j=>cases ry;exact ne_bool (cR I q (congrArg not apW))
  | str j=>obtain⟨t',rfl⟩:=ry;exact PySem.EqMixed.ne_bool_str (cR I q (by simp))
  | _=>exact absurd (show false=true from hs) Bool.false_ne_true
 | int i =>
  obtain⟨t,rfl⟩:=rx
  cases y with
  | non=>cases ry;exact PySem.EqNone.ne_int_none (cR I q (by simp))
  | int j=>obtain⟨t',rfl⟩:=ry;exact ne_int (cR I q (congrArg not amh))
  | str j=>obtain⟨t',rfl⟩:=ry;exact PySem.EqMixed.ne_int_str (cR I q (by simp))
  | _=>exact absurd (show false=true from hs) Bool.false_ne_true
 | str i =>
  obtain⟨t,rfl⟩:=rx
  cases y with
  | non=>cases ry;exact PySem.EqNone.ne_str_none (cR I q (by simp))
  | bl j=>cases ry;exact PySem.EqMixed.ne_str_bool (cR I q (by simp))
  | int j=>obtain⟨t',rfl⟩:=ry;exact PySem.EqMixed.ne_str_int (cR I q (by simp))
  | str j=>obtain⟨t',rfl⟩:=ry;exact ne_str (cR I q (congrArg not ami))
  | _=>exact absurd (show false=true from hs) Bool.false_ne_true
 | byt i =>
  obtain⟨t,rfl⟩:=rx
  cases y with
  | byt j=>obtain⟨t',rfl⟩:=ry;exact PySem.W.ne_bytes (cR I q (congrArg not amj))
  | _=>exact absurd (show false=true from hs) Bool.false_ne_true
 | _=>cases y <;> exact absurd (show false=true from hs) Bool.false_ne_true
theorem Dp:Ez X (compareOp .Lt) (rI0 fun i j=>.bl (decide (i < j))):=asx fun _ _ _ _ _ _ _ q=>lt_int q
theorem Im:Ez X (compareOp .LtE) (rI0 fun i j=>.bl (decide (i <= j))):=asx fun _ _ _ _ _ _ _ q=>le_int q
theorem ah3:Ez X (compareOp .Gt) (rI0 fun i j=>.bl (decide (j < i))):=asx fun _ _ _ _ _ _ _ q=>gt_int q
theorem atU:Ez X (compareOp .GtE) (rI0 fun i j=>.bl (decide (j <= i))):=asx fun _ _ _ _ _ _ _ q=>ge_int q
theorem eE:Ez X (compareOp .In) (fun x y H Q=>∃ i j,x=.str i/\y=.str j/\Q (.bl (!(Builtin.Str.occurrences j i 0 j.length 1).isEmpty)) H):=by
 intro pins s σ H x y v u Q I rx ry h
 obtain⟨i,j,rfl,rfl,q⟩:=h
 obtain⟨t,rfl⟩:=rx
 obtain⟨t',rfl⟩:=ry
 exact in_str (cR I q rfl)
theorem aeS:Ez X (compareOp .Is) (fun x y H Q=>y=.non/\Q (.bl (decide (x=.non))) H):=by
 intro pins s σ H x y v u Q I rx ry h
 obtain⟨rfl,q⟩:=h
 cases ry
 refine is_none_gen (cR I q ?_)
 cases x <;> first
  | (cases rx;rfl)
  | (obtain⟨t,rfl⟩:=rx;rfl)
theorem amk:Ez X (compareOp .IsNot) (fun x y H Q=>y=.non/\Q (.bl (!decide (x=.non))) H):=by
 intro pins s σ H x y v u Q I rx ry h
 obtain⟨rfl,q⟩:=h
 cases ry
 refine isnot_none_gen (cR I q ?_)
 cases x <;> first
  | (cases rx;rfl)
  | (obtain⟨t,rfl⟩:=rx;rfl)
theorem Ez.or {f:Value->Value->Sem Value}{r r':R2}(h:Ez X f r)(h':Ez X f r'):Ez X f (fun x y H Q=>r x y H Q∨r' x y H Q):=by
 intro pins s σ H x y v u Q I rx ry q
 rcases q with q | q
 ·exact h pins s σ H x y v u Q I rx ry q
 ·exact h' pins s σ H x y v u Q I rx ry q
theorem aR (b:Expr){op:CmpOp}(h:op≠.In:=by decide)(h2:op≠.NotIn:=by decide):behindInMarks op b=false:=by
 have e1:(op == CmpOp.In)=false:=by cases op <;> first | rfl | exact absurd rfl h
 have e2:(op == CmpOp.NotIn)=false:=by cases op <;> first | rfl | exact absurd rfl h2
 cases b <;> simp[behindInMarks,e1,e2]
theorem dz {op:CmpOp}{r:R2}(ho:Ez X (compareOp op) r)(ha:PE X a ta)(hb:PE X b tb)(hm:behindInMarks op b=false):PE X (.Compare a [op] [b] pos) (tOp r ta tb):=by
 intro pins s σ H Q I h
 exact wpAny_Compare1 (auQ ha hb I h fun v u s2 x y H2 I2 rx ry q=>ho pins s2 σ H2 x y v u Q I2 rx ry q) hm
inductive apY (Q:(Bool->Hp->Prop))(x:V)(H':Hp):Prop
 | mk (k:_) (fU:x=.bl k) (fV:Q k H'):apY Q x H'
def atV (t:TE):TT:=fun σ H Q=>t σ H fun x H'=>apY Q x H'
theorem aJ {op:CmpOp}{r:R2}(ho:Ez X (compareOp op) r)(ha:PE X a ta)(hb:PE X b tb)(hm:behindInMarks op b=false):PT X (.Compare a [op] [b] pos) (atV (tOp r ta tb)):=by
 intro pins s σ H Q I h
 refine wpAny_isTrue_Compare1 (eX (ha pins s σ H _ I h) fun v s1 ⟨x,H1,I1,r1,q1⟩=>eX (hb pins s1 σ H1 _ I1 q1) fun u s2 ⟨y,H2,I2,r2,q2⟩ =>
  eX (ho pins s2 σ H2 x y v u _ I2 r1 r2 q2) fun c s3 ⟨z,H3,I3,r3,k,e,q3⟩=>?_) hm
 subst e
 cases r3
 exact wpAny_truthy_bool ⟨H3,I3,q3⟩
def apZ (r r':R2)(ta tb tc:TE):TE:=fun σ H Q=>ta σ H fun x H1=>tb σ H1 fun y H2=>r x y H2 fun z H3=>∃ k,z=.bl k /\
 (if k=true then tc σ H3 fun w' H4=>r' y w' H4 Q else Q (.bl false) H3)
theorem ah4 {op op':CmpOp}{r r':R2}(ho:Ez X (compareOp op) r)(ho':Ez X (compareOp op') r')(ha:PE X a ta)(hb:PE X b tb)(hc:PE X c tc)
  (hm:lastMarks [op,op'] [b,c]=false:=by with_unfolding_all rfl):PE X (.Compare a [op,op'] [b,c] pos) (apZ r r' ta tb tc):=by
 intro pins s σ H Q I h
 refine Compare_chain (eX (ha pins s σ H _ I h) fun v s1 ⟨x,H1,I1,r1,q1⟩=>chain_link (eX (hb pins s1 σ H1 _ I1 q1) fun u s2 ⟨y,H2,I2,r2,q2⟩ =>
  eX (ho pins s2 σ H2 x y v u _ I2 r1 r2 q2) fun d s3 ⟨z,H3,I3,r3,k,e,q3⟩=>?_)) hm
 subst e
 cases r3
 refine wpAny_truthy_bool ?_
 cases k with
 | false=>exact ite_ff ⟨.bl false,H3,I3,rfl,q3⟩
 | true=>exact ite_tt (chain_last (eX (hc pins s3 σ H3 _ I3 q3) fun w' s4 ⟨z',H4,I4,r4,q4⟩=>ho' pins s4 σ H4 y z' u w' Q I4 r2 r4 q4))
theorem QX {op op':CmpOp}{r r':R2}(ho:Ez X (compareOp op) r)(ho':Ez X (compareOp op') r')(ha:PE X a ta)(hb:PE X b tb)(hc:PE X c tc)
  (hm:lastMarks [op,op'] [b,c]=false:=by with_unfolding_all rfl):PT X (.Compare a [op,op'] [b,c] pos) (atV (apZ r r' ta tb tc)):=by
 intro pins s σ H Q I h
 refine isTrue_chain (eX (ha pins s σ H _ I h) fun v s1 ⟨x,H1,I1,r1,q1⟩=>test_link (eX (hb pins s1 σ H1 _ I1 q1) fun u s2 ⟨y,H2,I2,r2,q2⟩ =>
  eX (ho pins s2 σ H2 x y v u _ I2 r1 r2 q2) fun d s3 ⟨z,H3,I3,r3,k,e,q3⟩=>?_)) hm
 subst e
 cases r3
 refine wpAny_truthy_bool ?_
 cases k with
 | false =>
  obtain⟨k',e',q'⟩:=q3
  cases e'
  exact ite_ff ⟨H3,I3,q'⟩
 | true =>
  refine ite_tt (test_last (eX (hc pins s3 σ H3 _ I3 q3) fun w' s4 ⟨z',H4,I4,r4,q4⟩=>eX (ho' pins s4 σ H4 y z' u w' _ I4 r2 r4 q4) fun d' s5 ⟨z2,H5,I5,r5,k2,e2,q5⟩=>?_))
  subst e2
  cases r5
  exact wpAny_truthy_bool ⟨H5,I5,q5⟩
theorem Us:(sizeLine:Nat) < 2 ^ 63:=by rw[sizeLine_eq];decide
theorem aQ:Ez X (binaryOp .Add) (fun x y H Q=>∃ i j,x=.str i/\y=.str j/\i.length+j.length <= sizeLine/\Q (.str (i++j)) H):=by
 intro pins s σ H x y v u Q I rx ry h
 obtain⟨i,j,rfl,rfl,hz,q⟩:=h
 obtain⟨t,rfl⟩:=rx
 obtain⟨t',rfl⟩:=ry
 exact add_str (fun t' tk=>⟨.str (i++j),H,I.tok _,⟨_,rfl⟩,q⟩) hz
theorem vals1 {x:V}{us:List Value}(r:Vals [x] us):∃ u,us=[u]/\RelV x u:=by
 cases r with
 | cons r1 r2=>cases r2;exact⟨_,rfl,r1⟩
theorem vals2 {x y:V}{us:List Value}(r:Vals [x,y] us):∃ u w',us=[u,w']/\RelV x u/\RelV y w':=by
 cases r with
 | cons r1 r2 =>
  cases r2 with
  | cons r3 r4=>cases r4;exact⟨_,_,rfl,r1,r3⟩
theorem anb (hc:X.calm=true):qI X (.builtin "max") (fun xs H Q=>∃ i j,xs=[.int i,.int j]/\Q (.int (if j > i then j else i)) H):=by
 intro pins s σ H xs us Q I r h
 obtain⟨i,j,rfl,q⟩:=h
 obtain⟨u,w',rfl,⟨t,rfl⟩,⟨t',rfl⟩⟩:=vals2 r
 refine max_two_ints (I.ok.hd hc) fun h' tk k=>⟨_,H,I.kept k,?_,q⟩
 by_cases hj:j > i
 ·rw[if_pos hj,if_pos hj];exact⟨_,rfl⟩
 ·rw[if_neg hj,if_neg hj];exact⟨_,rfl⟩
theorem anc (hc:X.calm=true):qI X (.builtin "min") (fun xs H Q=>∃ i j,xs=[.int i,.int j]/\Q (.int (if j < i then j else i)) H):=by
 intro pins s σ H xs us Q I r h
 obtain⟨i,j,rfl,q⟩:=h
 obtain⟨u,w',rfl,⟨t,rfl⟩,⟨t',rfl⟩⟩:=vals2 r
 refine min_two_ints (I.ok.hd hc) fun h' tk k=>⟨_,H,I.kept k,?_,q⟩
 by_cases hj:j < i
 ·rw[if_pos hj,if_pos hj];exact⟨_,rfl⟩
 ·rw[if_neg hj,if_neg hj];exact⟨_,rfl⟩
theorem yq:qI X (.type "int") (fun xs H Q=>(∃ i,xs=[.int i]/\Q (.int i) H) ∨ ∃ k,xs=[.bl k]/\Q (.int (if k then 1 else 0)) H):=by
 intro pins s σ H xs us Q I r h
 rcases h with ⟨i,rfl,q⟩ | ⟨k,rfl,q⟩
 ·obtain⟨u,rfl,t,rfl⟩:=vals1 r
  exact call_int_int ⟨.int i,H,I,⟨_,rfl⟩,q⟩
 ·obtain⟨u,rfl,r1⟩:=vals1 r
  cases r1
  exact call_int_bool ⟨.int (if k then 1 else 0),H,I.tok _,⟨_,rfl⟩,q⟩
end
end L2
namespace L2
open PySem PySem.Spec PyProof.Rows
structure ajM (h:Heap)(x dx C:Addr)(mA:Str->Option Value):Prop where
 obj:h.get? x=some (instObj C dx)
 ns:h.Ns1 dx mA
 ne:dx≠x
theorem anf {h:Heap}{dx:Addr}{mA:Str->Option Value}(n:h.Ns1 dx mA):∃ od,h.get? dx=some od/\∀ name,lookIn name od=some (mA name):=by
 obtain⟨o,es,ep,ho,hd,hk,_,hm⟩:=n
 refine⟨o,ho,fun name=>?_⟩
 have e:=hm name
 unfold nsFind findBy at e
 rw[← Array.find?_toList] at e
 unfold lookIn
 rw[hd]
 dsimp only
 split
 ·rename_i y q
  rw[q] at e
  exact congrArg some e
 ·rename_i q
  rw[q] at e
  have a:es.toList.any (·.refKey)=false:=by
   rw[List.any_eq_false]
   intro y hy
   obtain⟨z,t,hkey⟩:=hk y (Array.mem_toList_iff.mp hy)
   simp[DictEntry.refKey,hkey]
  have a':¬ es.toList.any (·.refKey)=true:=by rw[a];exact Bool.false_ne_true
  rw[if_neg a']
  exact congrArg some e
theorem ajM.look {h:Heap}{x dx C:Addr}{mA:Str->Option Value}(I:ajM h x dx C mA):∃ od,PySem.W.InstAt h x (instObj C dx) C (some od)/\∀ name,lookIn name od=some (mA name) :=
 let ⟨od,ho,hl⟩:=anf I.ns
 ⟨od,⟨I.obj,rfl,rfl,ho⟩,hl⟩
section
variable {prog:Program} {w:World} {A:Around} {E:Value->Shared->Prop} {s:Shared} {K:Frag} {x dx C f:Addr} {mA:Str->Option Value} {name:Str} {v:Value}
theorem get_map {expr:Bool}{Q:Value->Shared->Prop}(X:K.In s.heap)(I:ajM s.heap x dx C mA)(hg:plainGet K C name=true)(hh:hasDictIn K C=true)
  (ha:findIn K (.ref C) name=some none) (hv:mA name=some v) (hv':handedIn v=true) (h:Q v { s with toks:=s.toks+1 }) :
  wpAny (model prog w) A (getAttr (.ref x) name expr) Q E s:=by
 obtain⟨od,J,hl⟩:=I.look
 exact PySem.W.get_value X J (plainGet_of hg).1 (PySem.W.findObj_own hh ha rfl (by rw[hl,hv])) hv' h
theorem ap0 {pl:Sem Bool}{Q:Value×List Value->Shared->Prop}(X:K.In s.heap)(I:ajM s.heap x dx C mA)(hg:plainGet K C name=true)
  (hf:findIn K (.ref C) name=some (some (.ref f))) (ht:isFn K (.ref f)=true) (hv:mA name=none) (h:Q (.ref f,[.ref x]) s) :
  wpAny (model prog w) A (getMethod (.ref x) name pl) Q E s:=by
 obtain⟨od,J,hl⟩:=I.look
 exact PySem.W.method_fn X J (plainGet_of hg).1 (plainGet_of hg).2 hf (beq_iff_eq.mp ht) (by show (lookIn name od).map (·.isSome)=some false;rw[hl,hv];rfl) h
theorem vz {ns:List Str}{Q:Unit->Shared->Prop}(X:K.In s.heap)(I:ajM s.heap x dx C mA)
  (hs:findIn K (.ref C) "__setattr__" = some (some (.builtin "object.__setattr__"))) (hp:plainOver K C=true) (ht:takerIn K C name=some none) (hh:hasDictIn K C=true)
  (hw:PySem.Within mA ns) (hsz:ns.length <= sizeLine)
  (h:∀ h',ajM h' x dx C (fun y=>if y=name then some v else mA y)->Heap.SameBut dx s.heap h'->Q () { s with heap:=h',toks:=s.toks+2 }) :
  wpAny (model prog w) A (setAttr (.ref x) name v) Q E s:=by
 obtain⟨od,J,hl⟩:=I.look
 refine PySem.W.set_plain X J hs (PySem.W.osa_open (s:={ s with toks:=s.toks+1 }) (r:=none) X J hp ht fun b=>?_)
 obtain⟨cd,hc,hd'⟩:=PySem.W.any_some hh
 have hx:s.heap.get? x=some ⟨.ref C,some dx,.plain,#[]⟩:=I.obj
 refine wpAny_bind (wpAny_pure (wpAny_bind (wpAny_bind (wpAny_loadPart hx (wpAny_bind (PySem.W.Looks.here (s:={ s with toks:=s.toks+1 }) (PySem.W.looks_clsIn X hc) ?_))))))
 rw[hd']
 refine wpAny_pure (a:=some dx) (wpAny_bind (wpAny_pure (wpAny_bind ?_)))
 refine wpAny_nsSet1 (s:={ s with toks:=s.toks+1 }) I.ns fun h' hn2 hs2=>?_
 obtain⟨oD,esD,epD,hoD,hdD,hcD⟩:=hn2.count (PySem.Within.cons name v hw)
 refine wpAny_bind (wpAny_lookBehind hoD (by rw[hdD];exact pastItsLine_dict (Nat.le_trans hcD (by rw[List.length_cons];omega))) ?_)
 exact wpAny_pure (h _ ⟨(hs2.2 _ (Ne.symm I.ne)).trans I.obj,hn2,I.ne⟩ hs2)
theorem ap1 {R:Result->Shared->Prop}{vs:List Value}{kw:List (Str×Value)}(X:K.In s.heap)(hm:makesIn K C=true)
  (hi:findIn K (.ref C) "__init__" = some (some (.ref f))) (hf:PySem.W.typeIn K (.ref f)=some (.type "function"))
  (h:codeAny (model prog w) (A.under (.builtin "type.__call__" ⟨.ref C :: vs,kw⟩)) (.call (.ref f) ⟨.ref (s.heap.objs.size+1) :: vs,kw⟩) (PySem.W.InitBack (s.heap.objs.size+1) R)
   { s with heap:=(s.heap.push emptyDict).push (instObj C s.heap.objs.size) }) :
  codeAny (model prog w) A (.call (.ref C) ⟨vs,kw⟩) R s:=by
 obtain⟨hh,g,d,t,os⟩:=s
 exact PySem.W.make_core (PySem.W.makes_of X hm) (PySem.W.looks_findIn X hi) (fun self=>PySem.W.bind_fn X self hf) (.inl rfl) h
end
def tR (f:Str)(v:V):List (Str×V)->List (Str×V)
 | []=>[(f,v)]
 | (g,x) :: r=>if g=f then (g,v) :: r else (g,x) :: tR f v r
theorem XM (f g:Str)(v:V):∀ fs:List (Str×V),(tR f v fs).lookup g=if g=f then some v else fs.lookup g
 | []=>by
  show List.lookup g [(f,v)]=_
  by_cases h:g=f
  ·have hb:(g == f)=true:=beq_iff_eq.mpr h
   simp only [List.lookup,hb,if_pos h]
  ·have hb:(g == f)=false:=beq_eq_false_iff_ne.mpr h
   simp only [List.lookup,hb,if_neg h]
 | (k,x) :: r=>by
  have ih:=XM f g v r
  rw[show tR f v ((k,x) :: r)=(if k=f then (k,v) :: r else (k,x) :: tR f v r) from rfl]
  by_cases hk:k=f
  ·rw[if_pos hk]
   by_cases h:g=k
   ·have hb:(g == k)=true:=beq_iff_eq.mpr h
    simp only [List.lookup,hb,if_pos (h.trans hk)]
   ·have hb:(g == k)=false:=beq_eq_false_iff_ne.mpr h
    simp only [List.lookup,hb,if_neg (fun e:g=f=>h (e.trans hk.symm))]
  ·rw[if_neg hk]
   by_cases h:g=k
   ·have hb:(g == k)=true:=beq_iff_eq.mpr h
    simp only [List.lookup,hb,if_neg (fun e:g=f=>hk (h.symm.trans e))]
   ·have hb:(g == k)=false:=beq_eq_false_iff_ne.mpr h
    simp only [List.lookup,hb]
    exact ih
theorem Ut (f:Str)(v:V):∀ fs:List (Str×V),f∈(tR f v fs).map (·.1)/\∀ g,g∈fs.map (·.1)->g∈(tR f v fs).map (·.1)
 | []=>⟨by simp[tR],fun g h=>by simp at h⟩
 | (k,x) :: r=>by
  obtain⟨i1,i2⟩:=Ut f v r
  rw[show tR f v ((k,x) :: r)=(if k=f then (k,v) :: r else (k,x) :: tR f v r) from rfl]
  by_cases hk:k=f
  ·rw[if_pos hk]
   subst hk
   exact⟨by simp,fun g h=>by simpa using h⟩
  ·rw[if_neg hk]
   refine⟨?_,fun g h=>?_⟩
   ·rw[List.map_cons]
    exact List.mem_cons_of_mem _ i1
   ·rw[List.map_cons] at h ⊢
    rcases List.mem_cons.mp h with e | e
    ·exact List.mem_cons.mpr (.inl e)
    ·exact List.mem_cons_of_mem _ (i2 g e)
theorem XN (f:Str)(v:V):∀ fs:List (Str×V),(tR f v fs).length <= fs.length+1
 | []=>by simp[tR]
 | (k,x) :: r=>by
  have ih:=XN f v r
  rw[show tR f v ((k,x) :: r)=(if k=f then (k,v) :: r else (k,x) :: tR f v r) from rfl]
  by_cases hk:k=f
  ·rw[if_pos hk,List.length_cons,List.length_cons];omega
  ·rw[if_neg hk,List.length_cons,List.length_cons];omega
theorem Dm.some_of {v:V}{o:Option Value}(r:Dm (some v) o):∃ u,o=some u/\RelV v u:=by
 cases o with
 | none=>exact (show False from r).elim
 | some u=>exact⟨u,rfl,r⟩
theorem Dm.none_of {o:Option Value}(r:Dm none o):o=none:=by
 cases o with
 | none=>rfl
 | some u=>exact (show False from r).elim
theorem ang {v:V}{u:Value}(r:RelV v u):handedIn u=true:=by
 cases v with
 | non=>cases (show u=Value.none from r);rfl
 | bl b=>cases (show u=Value.bool b from r);rfl
 | int i=>obtain⟨t,e⟩:=(show ∃ t,u=Value.int i t from r);cases e;rfl
 | str x=>obtain⟨t,e⟩:=(show ∃ t,u=Value.str x t from r);cases e;rfl
 | byt b=>obtain⟨t,e⟩:=(show ∃ t,u=Value.bytes b t from r);cases e;rfl
 | flt b=>obtain⟨t,e⟩:=(show ∃ t,u=Value.float b t from r);cases e;rfl
 | ref a=>cases (show u=Value.ref a from r);rfl
 | ty n=>cases (show u=Value.type n from r);rfl
section
variable {P:Program} {w:World} {H H':Hp} {h h':Heap} {a C dx:Addr} {fs fs':List (Str×V)}
theorem Zh (hok:QS P w H h)(e:H a=some (.ins C dx fs)):∃ mA,ajM h a dx C mA/\(∀ f,Dm (fs.lookup f) (mA f))/\PySem.Within mA (fs.map (·.1))/\fs.length <= 1000/\H dx=some (.own a):=by
 obtain⟨d,z,ne,ob,mA,n,r,q⟩:=(show jY P w H h a (.ins C dx fs) from hok a _ e)
 exact⟨mA,⟨ob,n,ne⟩,r,q,z,d⟩
end
structure Cls (K:Frag)(C:Addr):Prop where
 pg:plainGet K C Str.empty=true
 hd:hasDictIn K C=true
 po:plainOver K C=true
 sa:findIn K (.ref C) "__setattr__" = some (some (.builtin "object.__setattr__"))
theorem Cls.get {K:Frag}{C:Addr}(c:Cls K C)(f:Str):plainGet K C f=true:=c.pg
def n6 (K:Frag)(C:Addr)(f:Str):Prop:=findIn K (.ref C) f=some none
theorem n6.taker {K:Frag}{C:Addr}{f:Str}(n:n6 K C f):takerIn K C f=some none:=by
 unfold takerIn
 rw[show findIn K (.ref C) f=some none from n]
 rfl
structure Con (K:Frag)(C:Addr)(f:Str)(v:V)(u:Value):Prop where
 at_:findIn K (.ref C) f=some (some u)
 rel:RelV v u
 get:specialIn K u "__get__" = some none
 cp:PySem.W.copiedNames.contains f=false
structure Meth (K:Frag)(C:Addr)(m:Str)(f:Addr):Prop where
 at_:findIn K (.ref C) m=some (some (.ref f))
 fn:isFn K (.ref f)=true
 kp:keepIn K (.ref f)=true
section
variable {X:Cx} {pins:List (Addr×Obj)} {σ:St} {H:Hp} {s:Shared} {a C dx:Addr} {fs:List (Str×V)} {f:Str} {v:V} {A:Around} {E:Value->Shared->Prop}
theorem ajN {b:Bool}{Q:Value->Shared->Prop}(I:Inv X pins σ H s)(e:H a=some (.ins C dx fs))(c:Cls X.K C)(n:n6 X.K C f)(l:fs.lookup f=some v)
  (h:∀ u s',Inv X pins σ H s'->RelV v u->Q u s'):wpAny (model X.prog X.w) A (getAttr (.ref a) f b) Q E s:=by
 obtain⟨mA,O,r,_,_,_⟩:=Zh I.hok e
 obtain⟨u,hu,ru⟩:=Dm.some_of (v:=v) (o:=mA f) (by rw[← l];exact r f)
 exact get_map I.QT O (c.get f) c.hd n hu (ang ru) (h u _ (I.tok _) ru)
theorem ZF {m:Str}{g:Addr}{pl:Sem Bool}{Q:Value×List Value->Shared->Prop}(I:Inv X pins σ H s)(e:H a=some (.ins C dx fs))(c:Cls X.K C)(k:Meth X.K C m g)(l:fs.lookup m=none)
  (h:Q (.ref g,[.ref a]) s):wpAny (model X.prog X.w) A (getMethod (.ref a) m pl) Q E s:=by
 obtain⟨mA,O,r,_,_,_⟩:=Zh I.hok e
 have hn:mA m=none:=Dm.none_of (by rw[← l];exact r m)
 exact ap0 I.QT O (c.get m) k.at_ k.fn hn h
theorem ajO {y:V}{u:Value}{Q:Unit->Shared->Prop}(I:Inv X pins σ H s)(e:H a=some (.ins C dx fs))(c:Cls X.K C)(n:n6 X.K C f)(hl:fs.length < 1000)(ry:RelV y u)
  (h:∀ s',Inv X pins σ (upd H a (.ins C dx (tR f y fs))) s'->Q () s'):wpAny (model X.prog X.w) A (setAttr (.ref a) f u) Q E s:=by
 obtain⟨mA,O,r,wi,_,ho⟩:=Zh I.hok e
 have hz:(fs.map (·.1)).length <= sizeLine:=by rw[List.length_map,sizeLine_eq];omega
 refine vz I.QT O c.sa c.po n.taker c.hd wi hz fun h' O' sb=>h _ ?_
 have hd:∃ o,h'.get? dx=some o:=let ⟨o,_,_,e',_⟩:=O'.ns;⟨o,e'⟩
 refine I.write (x:=a) (e:=dx) (by rw[e];exact True.intro) (.inr ho) (fun b q hb z=>(sb.2 b hb).trans z) hd ?_
 refine⟨by rw[aA O.ne];exact ho,?_,O.ne,O'.obj,_,O'.ns,fun g=>?_,fun g hg=>?_⟩
 ·have:=XN f y fs;omega
 ·show Dm ((tR f y fs).lookup g) (if g=f then some u else mA g)
  rw[XM]
  by_cases q:g=f
  ·rw[if_pos q,if_pos q];exact ry
  ·rw[if_neg q,if_neg q];exact r g
 ·by_cases q:g=f
  ·rw[q];exact (Ut f y fs).1
  ·refine (Ut f y fs).2 g (wi g fun z=>hg ?_)
   show (if g=f then some u else mA g)=none
   rw[if_neg q];exact z
theorem Inv.made (I:Inv X pins σ H s):Inv X pins σ (upd (upd H s.heap.objs.size (.own (s.heap.objs.size+1))) (s.heap.objs.size+1) (.ins C s.heap.objs.size []))
  { s with heap:=(s.heap.push emptyDict).push (instObj C s.heap.objs.size) }:=by
 have e1:(s.heap.push emptyDict).get? s.heap.objs.size=some emptyDict:=Heap.get?_push_size s.heap rfl
 have e2:((s.heap.push emptyDict).push (instObj C s.heap.objs.size)).get? (s.heap.objs.size+1)=some (instObj C s.heap.objs.size):=by
  have:=Heap.get?_push_size (s.heap.push emptyDict) (o:=instObj C s.heap.objs.size) rfl
  rwa [Heap.size_push] at this
 have e3:(s.heap.push emptyDict).Ns s.heap.objs.size (fun _=>none):=⟨emptyDict,#[],_,e1,rfl,(fun e he=>absurd he (by simp)),fun _=>rfl⟩
 have I1:=I.laid (a:=s.heap.objs.size) (o:=.own (s.heap.objs.size+1)) (h':=s.heap.push emptyDict) (t':=s.toks) (fun b u q=>Heap.get?_push_of_some _ q) (Nat.le_refl _) ⟨_,e1⟩
 refine I1.laid (a:=s.heap.objs.size+1) (o:=.ins C s.heap.objs.size []) (t':=s.toks) (fun b u q=>Heap.get?_push_of_some _ q) (Nat.le_of_eq (Heap.size_push _ _)) ?_
 have ne:s.heap.objs.size≠s.heap.objs.size+1:=Nat.ne_of_lt (Nat.lt_succ_self _)
 refine⟨by rw[aA ne,ao],Nat.zero_le _,ne,e2,fun _=>none,(Heap.Ns1.of_empty e3).at fun o q=>Heap.get?_push_of_some _ q,fun _=>True.intro,fun y hy=>absurd rfl hy⟩
theorem asy {prog:Program}{w:World}{env:Env}{e:Expr}{f:Str}{pos:Pos}{s:Shared}{Q:Value->Shared->Prop}(hb:attributeBase e f env (eval e env)=eval e env)
  (h:wpAny (model prog w) A (eval e env) (fun o s₁=>wpAny (model prog w) A (getAttr o f true) Q E s₁) E s):wpAny (model prog w) A (eval (.Attribute e f pos) env) Q E s :=
 Attribute_any_ h (by rw[arm_eval_Attribute,hb])
end
inductive atX (K:Frag)(f:Str)(Q:VK)(x:V)(H1:Hp):Prop
 | mk (a:_) (C:_) (dx:_) (fs:_) (v:_) (fU:x=.ref a) (fV:H1 a=some (.ins C dx fs)) (iQ:Cls K C) (nZ:n6 K C f) (xM:fs.lookup f=some v) (h5_:Q v H1):atX K f Q x H1
def ayT (K:Frag)(ta:TE)(f:Str):TE:=fun σ H Q=>ta σ H fun x H1=>atX K f Q x H1
inductive atY (K:Frag)(f:Str)(D:Ends)(σ:St)(y:V)(x:V)(H2:Hp):Prop
 | mk (a:_) (C:_) (dx:_) (fs:_) (fU:x=.ref a) (fV:H2 a=some (.ins C dx fs)) (iQ:Cls K C) (nZ:n6 K C f) (xM:fs.length < 1000) (h5_:D.nx σ (upd H2 a (.ins C dx (tR f y fs)))):atY K f D σ y x H2
def ayU (K:Frag)(ta tv:TE)(f:Str):TS:=fun D σ H=>tv σ H fun y H1=>ta σ H1 fun x H2=>atY K f D σ y x H2
section
variable {X:Cx} {o e value:Expr} {f:Str} {pos pos' tpos:Pos} {ta tv:TE}
theorem cY (he:PE X e ta)(hb:attributeBase e f X.env (eval e X.env)=eval e X.env):PE X (.Attribute e f pos) (ayT X.K ta f):=by
 intro pins s σ H Q I h
 refine asy hb (eX (he pins s σ H _ I h) fun u s1 ⟨x,H1,I1,rx,a,C,dx,fs,v,ex,ea,c,n,l,q⟩=>?_)
 subst ex
 obtain rfl:u=Value.ref a:=rx
 exact ajN I1 ea c n l fun u' s2 I2 ru=>⟨v,H1,I2,ru,q⟩
theorem BW (ha:PE X o ta)(hv:PE X value tv)(hs:swapsWith value (some (.Attribute o f pos')) pos.line X.env=pure false):PS X (.Assign [.Attribute o f pos'] value pos) (ayU X.K ta tv f):=by
 intro pins s σ H D I h
 refine plainObj_wpAny_Assign_Attribute (eX (hv pins s σ H _ I h) fun u s1 ⟨y,H1,I1,ry,q⟩=>eX (ha pins s1 σ H1 _ I1 q) fun ov s2 ⟨x,H2,I2,rx,a,C,dx,fs,ex,ea,c,n,l,q2⟩=>?_) hs
 subst ex
 obtain rfl:ov=Value.ref a:=rx
 exact ajO I2 ea c n l ry fun s3 I3=>⟨σ,_,I3,q2⟩
end
section
variable {X:Cx} {pins:List (Addr×Obj)} {σ:St} {H:Hp} {s:Shared} {A:Around} {E:Value->Shared->Prop} {Q:Value->Shared->Prop} {c:Value} {b:Bool}
inductive gQ (K:Frag)(H:Hp):V->Value->Prop where
 | non:gQ K H .non (.type "NoneType")
 | bl (x:Bool):gQ K H (.bl x) (.type "bool")
 | int (i:Int):gQ K H (.int i) (.type "int")
 | str (x:Str):gQ K H (.str x) (.type "str")
 | flt (x:UInt64):gQ K H (.flt x) (.type "float")
 | lst {a:Addr} {xs:List V} (e:H a=some (.lst xs)):gQ K H (.ref a) (.type "list")
 | frz {a:Addr} {o:Obj} {xs:List V} (e:H a=some (.frz o (.lst xs))):gQ K H (.ref a) (.type "list")
 | tup {a:Addr} {xs:List V} (e:H a=some (.tup xs)):gQ K H (.ref a) (.type "tuple")
 | dK {a:Addr} {kvs:List (Key×V)} (e:H a=some (.dK kvs)):gQ K H (.ref a) (.type "dict")
 | dT {a:Addr} {kvs:List (List Key×V)} (e:H a=some (.dT kvs)):gQ K H (.ref a) (.type "dict")
 | ins {a C dx:Addr} {fs:List (Str×V)} (e:H a=some (.ins C dx fs)) (cl:Cls K C) (ha:findIn K (.ref C) "__class__" = some (some (.builtin "object.__class__")))
   (hn:specialIn K (.builtin "object.__class__") "__get__" = some (some (.builtin "getset_descriptor.__get__"))) (htk:PySem.W.takesIn K (.builtin "object.__class__")=some true)
   (hm:mroIn K C (.type "object")=some true):gQ K H (.ref a) (.ref C)
theorem ani {x:V}{u t:Value}(I:Inv X pins σ H s)(rx:RelV x u)(ty:gQ X.K H x t)(e:kitOne X.K t c=some b)(h:∀ tk,Q (.bool b) { s with toks:=tk }) :
  wpAny (model X.prog X.w) A (call (.builtin "isinstance") [u,c]) Q E s:=by
 cases ty with
 | non=>cases (show u=Value.none from rx);exact kia_one PySem.W.kitx_none I.QT True.intro e (fun z=>nomatch z) h
 | bl y=>cases (show u=Value.bool y from rx);exact kia_one PySem.W.kitx_bool I.QT True.intro e (fun z=>nomatch z) h
 | int i=>obtain⟨t,q⟩:=(show ∃ t,u=Value.int i t from rx);cases q;exact kia_one PySem.W.kitx_int I.QT True.intro e (fun z=>nomatch z) h
 | str y=>obtain⟨t,q⟩:=(show ∃ t,u=Value.str y t from rx);cases q;exact kia_one PySem.W.kitx_str I.QT True.intro e (fun z=>nomatch z) h
 | flt y=>obtain⟨t,q⟩:=(show ∃ t,u=Value.float y t from rx);cases q;exact kia_one PySem.W.kitx_float I.QT True.intro e (fun z=>nomatch z) h
 | @lst a xs ea =>
  cases (show u=Value.ref a from rx)
  obtain⟨_,_,n,_,h1⟩:=(show jY X.prog X.w H s.heap a (.lst xs) from I.hok a _ ea)
  exact kia_one kitx_list I.QT ⟨_,h1,rfl⟩ e (fun z=>nomatch z) h
 | @frz a ob xs ea =>
  cases (show u=Value.ref a from rx)
  obtain⟨_,_,_,n,_,h1⟩:=(show jY X.prog X.w H s.heap a (.frz ob (.lst xs)) from I.hok a _ ea)
  exact kia_one kitx_list I.QT ⟨_,h1,rfl⟩ e (fun z=>nomatch z) h
 | @tup a xs ea =>
  cases (show u=Value.ref a from rx)
  obtain⟨_,_,_,p⟩:=(show jY X.prog X.w H s.heap a (.tup xs) from I.hok a _ ea)
  obtain⟨o,h1,h2,_⟩:=p
  exact kia_one PySem.W.kitx_tuple I.QT ⟨o,h1,h2⟩ e (fun z=>nomatch z) h
 | @dK a kvs ea =>
  cases (show u=Value.ref a from rx)
  obtain⟨_,_,vs,_,p⟩:=(show jY X.prog X.w H s.heap a (.dK kvs) from I.hok a _ ea)
  obtain⟨o,es,ep,h1,h2,_⟩:=p
  exact kia_one kitx_dict I.QT ⟨o,h1,h2.1⟩ e (fun z=>nomatch z) h
 | @dT a kvs ea =>
  cases (show u=Value.ref a from rx)
  obtain⟨_,_,xs,_,o,es,ep,h1,h2,_⟩:=(show jY X.prog X.w H s.heap a (.dT kvs) from I.hok a _ ea)
  exact kia_one kitx_dict I.QT ⟨o,h1,h2.1⟩ e (fun z=>nomatch z) h
 | @ins a C dx fs ea cl ha hn htk hm =>
  cases (show u=Value.ref a from rx)
  obtain⟨mA,O,_⟩:=Zh I.hok ea
  obtain⟨od,J,_⟩:=O.look
  exact kia_one (PySem.W.kitx_own (cl.get _) cl.hd ha hn htk hm) I.QT J e (fun z=>nomatch z) h
end
end L2
namespace L2
open PySem PySem.Spec PyProof.Rows
structure tU (k:Nat)(A:Around):Prop where
 hd:A.handled=none
 dp:A.depth+3 * k+5 < recursionLimit
 un:A.units+16 * k+200 < cLine
theorem tU.mono {j k:Nat}{A:Around}(r:tU k A)(h:j <= k):tU j A:=⟨r.hd,by have:=r.dp;omega,by have:=r.un;omega⟩
theorem tU.deeper {k:Nat}{A:Around}(r:tU (k+1) A)(env:Env):tU k (A.deeper env) :=
 ⟨r.hd,by have:=r.dp;show A.depth+1+3 * k+5 < _;omega,by have:=r.un;show A.units+3+16 * k+200 < _;omega⟩
theorem ajP {A:Around}{C:Addr}{us:List Value}{kw:List (Str×Value)}:(A.under (.builtin "type.__call__" ⟨.ref C :: us,kw⟩)).depth=A.depth+1:=by
 first | rfl | simp[Around.under,Code.weight,Code.isCreation,Code.isGuard,Code.isCaller,Code.frames,Code.isFrame,guardIds]
theorem ajQ {A:Around}{C:Addr}{us:List Value}{kw:List (Str×Value)}:(A.under (.builtin "type.__call__" ⟨.ref C :: us,kw⟩)).units=A.units+1:=by
 first | rfl | simp[Around.under,Code.cUnits,Code.frames,Code.isFrame]
theorem tU.make {k:Nat}{A:Around}(r:tU (k+1) A)(C:Addr)(us:List Value)(kw:List (Str×Value)):tU k (A.under (.builtin "type.__call__" ⟨.ref C :: us,kw⟩)) :=
 ⟨r.hd,by have:=r.dp;rw[ajP];omega,by have:=r.un;rw[ajQ];omega⟩
theorem tU.depth {k:Nat}{A:Around}(r:tU k A):A.depth < recursionLimit:=by have:=r.dp;omega
theorem tU.units {k:Nat}{A:Around}(r:tU k A):A.units+64 < cLine:=by have:=r.un;omega
def auS:TA:=fun _ H Q=>Q [] H
def awN (ta:TE)(tr:TA):TA:=fun σ H Q=>ta σ H fun x H1=>tr σ H1 fun xs H2=>Q (x :: xs) H2
section
variable {X:Cx} {e:Expr} {es:List Expr} {te:TE} {t:TA} {pos:Pos}
theorem aj:PA X [] auS:=fun _ _ _ _ H Q I h=>Calls.spliced_nil ⟨[],H,I,.nil,h⟩
theorem aa (ha:PE X e te)(hr:PA X es t)(hs:starEach (e :: es) X.env=(false,eval e X.env) :: starEach es X.env:=by rfl):PA X (e :: es) (awN te t):=by
 intro pos pins s σ H Q I h
 rw[hs]
 show wpAny _ _ (spliced ((false,eval e X.env) :: backTo pos (starEach es X.env))) _ _ s
 refine Calls.spliced_cons (eX (ha pins s σ H _ I h) fun u s1 ⟨x,H1,I1,r1,q1⟩=>?_)
 exact eX (hr pos pins s1 σ H1 _ I1 q1) fun us s2 ⟨xs,H2,I2,r2,q2⟩=>⟨x :: xs,H2,I2,.cons r1 r2,q2⟩
def ayV (t:TA):TE:=fun σ H Q=>t σ H fun xs H1=>xs.length <= sizeLine/\∀ p,H1 p=none->Q (.ref p) (upd H1 p (.tup xs))
def awO (t:TA):TE:=fun σ H Q=>t σ H fun xs H1=>xs.length <= sizeLine/\∀ p,H1 p=none->Q (.ref p) (upd H1 p (.lst xs))
theorem gA {x1}(h:PA X es t):PE X (.Tuple es x1 pos) (ayV t):=by
 intro pins s σ H Q I hq
 refine wpAny_Tuple_spliced (eX (h pos pins s σ H _ I hq) fun us s1 ⟨xs,H1,I1,r,z,q⟩=>⟨by rw[← r.length];exact z,?_⟩)
 have hf:H1 s1.heap.objs.size=none:=I1.hok.fresh (Nat.le_refl _)
 refine⟨.ref s1.heap.objs.size,upd H1 s1.heap.objs.size (.tup xs),I1.laid (t':=s1.toks) (fun b u e=>Heap.get?_push_of_some _ e) (Nat.le_refl _) ?_,rfl,q _ hf⟩
 exact⟨z,us,r,⟨_,Heap.get?_push_size _ rfl,rfl,_,rfl⟩⟩
theorem bZ (h:PA X es t):PE X (.List es pos) (awO t):=by
 intro pins s σ H Q I hq
 refine wpAny_List_spliced (eX (h pos pins s σ H _ I hq) fun us s1 ⟨xs,H1,I1,r,z,q⟩=>⟨by rw[← r.length];exact z,?_⟩)
 have hf:H1 s1.heap.objs.size=none:=I1.hok.fresh (Nat.le_refl _)
 refine⟨.ref s1.heap.objs.size,upd H1 s1.heap.objs.size (.lst xs),I1.laid (t':=s1.toks) (fun b u e=>Heap.get?_push_of_some _ e) (Nat.le_refl _) ?_,rfl,q _ hf⟩
 exact⟨z,us,0,r,Heap.get?_push_size _ rfl⟩
end
abbrev Sp:=List V->Hp->VK->XK->Prop
abbrev CXT:=List Env->Hp->Shared->XK->Value->Shared->Prop
structure ajR (P:Program)(w:World)(K:Frag)(mg:Str->Option Value)(base:Heap)(A:Around)(outer:List Env)(s:Shared)(H:Hp):Prop where
 frames:A.frames=some outer
 mod:Mod K mg base
 bs:∀ b o,base.get? b=some o->s.heap.get? b=some o/\H b=none
 bsz:base.objs.size <= s.heap.objs.size
 QW:s.heap.FunFrames base outer
 frf:∀ b∈frs outer,H b=none
 hok:QS P w H s.heap
 bare:AllBare s.gens
def CE (outer:List Env)(P:Program)(w:World)(H:Hp)(s:Shared)(Q:VK)(u:Value)(s':Shared):Prop :=
 ∃ v H',s'.os=s.os/\AllBare s'.gens/\Un (frs outer) [] H H' s.heap s'.heap/\QS P w H' s'.heap/\RelV v u/\Q v H'
def CR (CX:CXT)(outer:List Env)(P:Program)(w:World)(H:Hp)(s:Shared)(Q:VK)(E:XK)(r:Result)(s':Shared):Prop :=
 match r with
 | .ok (.ret u)=>CE outer P w H s Q u s'
 | .ok _=>False
 | .error e=>CX outer H s E e s'
structure bU (P:Program)(w:World)(K:Frag)(mg:Str->Option Value)(base:Heap)(CX:CXT)(k:Nat)(f:Addr)(fd:FuncData)(ps:List Str)(sp:Sp):Prop where
 len:∀ vs H Q E,sp vs H Q E->vs.length=ps.length
 run:∀ (A:Around) (outer:List Env) (s:Shared) (H:Hp) (args:Args) (us:List Value) (vs:List V) (Q:VK) (E:XK),tU k A->ajR P w K mg base A outer s H->BindsTo s fd args (ps.zip us)->Vals vs us->sp vs H Q E ->
  codeAny (model P w) A (.call (.ref f) args) (CR CX outer P w H s Q E) s
theorem ajR.make {P:Program}{w:World}{K:Frag}{mg:Str->Option Value}{base:Heap}{A:Around}{outer:List Env}{s:Shared}{H:Hp}(e:ajR P w K mg base A outer s H)(C:Addr)(us:List Value)(kw:List (Str×Value)) :
  ajR P w K mg base (A.under (.builtin "type.__call__" ⟨.ref C :: us,kw⟩)) outer s H:=⟨by first | exact e.frames | (simpa [Around.under,Code.envs,Code.isFrame,pushEnvs] using e.frames),e.mod,e.bs,e.bsz,e.QW,e.frf,e.hok,e.bare⟩
section
variable {X:Cx} {pins:List (Addr×Obj)} {σ:St} {H:Hp} {s s':Shared}
theorem Inv.env0 (I:Inv X pins σ H s):ajR X.prog X.w X.K X.mg X.base X.A X.stack s H :=
 ⟨I.ok.frames,I.ok.mod,I.bs,Nat.le_trans I.ok.bsz I.sz,I.stack,I.ame,I.hok,I.bare⟩
theorem Inv.after {Q:VK}{u:Value}(I:Inv X pins σ H s)(h:CE X.stack X.prog X.w H s Q u s'):EP X pins σ Q u s':=by
 obtain⟨v,H',os,bare,un,hok,r,q⟩:=h
 obtain⟨hh,g,d,t,os'⟩:=s'
 obtain rfl:os'=s.os:=os
 exact⟨v,H',I.call (h':=hh) (g':=g) (d':=d) (t':=t) (ch:=[]) un hok bare (fun b z=>absurd z (by simp)),r,q⟩
end
def awP (sp:Sp)(QV:List V)(E:XK)(t:TA):TE:=fun σ H Q=>t σ H fun vs H1=>sp (vs++QV) H1 Q E
inductive ap3 (C:Addr)(m:Str)(sp:Sp)(QV:List V)(E:XK)(t:TA)(σ:St)(Q:VK)(x:V)(H1:Hp):Prop
 | mk (a:_) (dx:_) (fs:_) (fU:x=.ref a) (fV:H1 a=some (.ins C dx fs)) (iQ:fs.lookup m=none) (nZ:t σ H1 fun vs H2=>sp (x :: (vs++QV)) H2 Q E):ap3 C m sp QV E t σ Q x H1
def atZ (C:Addr)(m:Str)(sp:Sp)(QV:List V)(E:XK)(ta:TE)(t:TA):TE:=fun σ H Q=>ta σ H fun x H1=>ap3 C m sp QV E t σ Q x H1
def at3 (C:Addr)(sp:Sp)(QV:List V)(E:XK)(t:TA):TE:=fun σ H Q=>t σ H fun vs H1=>∀ x dx,H1 x=none->H1 dx=none->dx≠x ->
 sp (.ref x :: (vs++QV)) (upd (upd H1 dx (.own x)) x (.ins C dx [])) (fun v H2=>v=.non/\Q (.ref x) H2) E
def Binds (K:Frag)(fd:FuncData)(ps:List Str)(ds:List Value):Prop :=
 ∀ (s:Shared) (us:List Value),K.In s.heap->(us++ds).length=ps.length->BindsTo s fd ⟨us,[]⟩ (ps.zip (us++ds))
theorem Binds.all {K:Frag}{fd:FuncData}{ps:List Str}(h:∀ us:List Value,us.length=ps.length->bindArgs fd ⟨us,[]⟩=pure (ps.zip us)):Binds K fd ps []:=fun s us _ hl=>by
 rw[List.append_nil] at hl ⊢
 exact .of_eq (h us hl)
def Passes (CX:CXT)(X:Cx)(E:XK):Prop:=∀ (pins:List (Addr×Obj)) (σ:St) (H:Hp) (s:Shared) (e:Value) (s':Shared),Inv X pins σ H s->CX X.stack H s E e s'->X.xe e s'
section
variable {X:Cx} {CX:CXT} {k:Nat} {f C:Addr} {fd:FuncData} {ps:List Str} {sp:Sp} {QV:List V} {ds:List Value} {E:XK} {x m:Str} {p pos apos:Pos} {e o:Expr} {es:List Expr} {ta:TE} {t:TA}
theorem ajS {pins:List (Addr×Obj)}{σ:St}{H:Hp}{s:Shared}{Q:VK}{us:List Value}{vs:List V}(F:bU X.prog X.w X.K X.mg X.base CX k f fd ps sp)(hr:tU k X.A)(hb:Binds X.K fd ps ds)(hd:Vals QV ds)(hx:Passes CX X E)
  (I:Inv X pins σ H s) (r:Vals vs us) (h:sp (vs++QV) H Q E):wpAny (model X.prog X.w) X.A (call (.ref f) us) (EP X pins σ Q) X.xe s:=by
 have r2:Vals (vs++QV) (us++ds):=r.append hd
 have hl:(us++ds).length=ps.length:=by rw[← r2.length];exact F.len _ _ _ _ h
 refine wpAny_call (codeAny_mono (F.run X.A X.stack s H ⟨us,[]⟩ (us++ds) (vs++QV) Q E hr I.env0 (hb s us I.QT hl) r2 h) fun r s' hq=>?_)
 cases r with
 | error e=>exact hx pins σ H s e s' I hq
 | ok fl =>
  cases fl with
  | ret u=>exact I.after hq
  | next=>exact False.elim hq
  | brk=>exact False.elim hq
  | cont=>exact False.elim hq
theorem aC (F:bU X.prog X.w X.K X.mg X.base CX k f fd ps sp)(hr:tU k X.A)(hg:Gl X x)(hm:X.mg x=some (.ref f))(hk:keepIn X.K (.ref f)=true)(hb:Binds X.K fd ps ds)(hd:Vals QV ds)(hx:Passes CX X E)
  (ha:PA X (e :: es) t) (hdb:(x == ("__debug__":Str))=false:=by decide) (he:starEach (e :: es) X.env=(false,eval e X.env) :: starEach es X.env:=by rfl) (hpl:(backTo pos (starEach es X.env)).any (·.1)=false:=by rfl) :
  PE X (.Call (.Name x p) (e :: es) [] pos) (awP sp QV E t):=by
 intro pins s σ H Q I h
 refine wpAny_Call_Name_kw (Zg I hg hm ?_ hdb)
 refine callWith_K (h₀:=X.base) I.ok.mod.kin hk (eX (ha pos pins s σ H _ I h) fun us s1 ⟨vs,H1,I1,r,q⟩=>⟨I1.QT,?_⟩) he hpl
 exact ajS F hr hb hd hx I1 r q
theorem bL {pl:Sem Bool}(he:PE X o ta)(c:Cls X.K C)(hm:Meth X.K C m f)(F:bU X.prog X.w X.K X.mg X.base CX k f fd ps sp)(hr:tU k X.A)(hb:Binds X.K fd ps ds)(hd:Vals QV ds)(hx:Passes CX X E)(ha:PA X (e :: es) t)
  (hst:starEach (e :: es) X.env=(false,eval e X.env) :: starEach es X.env:=by rfl) (hpl:(backTo pos (starEach es X.env)).any (·.1)=false:=by rfl)
  (ht:eval (.Call (.Attribute o m apos) (e :: es) [] pos) X.env=(do
   let ov ← eval o X.env
   standAt apos.atName
   let (f,first) ← holding [ov] (getMethod ov m pl)
   callWith pos f first (backTo pos (starEach (e :: es) X.env)) (backToKw pos (keywordEach [] X.env))):=by rfl) :
  PE X (.Call (.Attribute o m apos) (e :: es) [] pos) (atZ C m sp QV E ta t):=by
 intro pins s σ H Q I h
 refine methodCall_KW (pl:=pl) (eX (he pins s σ H _ I h) fun u s1 ⟨x,H1,I1,rx,a,dx,fs,ex,ea,l,q⟩=>?_) ht
 subst ex
 obtain rfl:u=Value.ref a:=rx
 refine ZF I1 ea c hm l ?_
 refine callWith_K (first:=[.ref a]) (h₀:=X.base) I.ok.mod.kin hm.kp (eX (ha pos pins s1 σ H1 _ I1 q) fun us s2 ⟨vs,H2,I2,r,q2⟩=>⟨I2.QT,?_⟩) hst hpl
 exact ajS (us:=.ref a :: us) (vs:=.ref a :: vs) F hr hb hd hx I2 (.cons rfl r) q2
theorem ir {pl:Sem Bool}(he:PE X o ta)(c:Cls X.K C)(hm:Meth X.K C m f)(F:bU X.prog X.w X.K X.mg X.base CX k f fd ps sp)(hr:tU k X.A)(hb:Binds X.K fd ps ds)(hd:Vals QV ds)(hx:Passes CX X E)
  (ht:eval (.Call (.Attribute o m apos) [] [] pos) X.env=(do
   let ov ← eval o X.env
   standAt apos.atName
   let (f,first) ← holding [ov] (getMethod ov m pl)
   callWith pos f first (backTo pos (starEach [] X.env)) (backToKw pos (keywordEach [] X.env))):=by rfl) :
  PE X (.Call (.Attribute o m apos) [] [] pos) (atZ C m sp QV E ta auS):=by
 intro pins s σ H Q I h
 refine methodCall_KW (pl:=pl) (eX (he pins s σ H _ I h) fun u s1 ⟨x,H1,I1,rx,a,dx,fs,ex,ea,l,q⟩=>?_) ht
 subst ex
 obtain rfl:u=Value.ref a:=rx
 refine ZF I1 ea c hm l ?_
 exact callWith_K0 (first:=[.ref a]) I1.QT hm.kp (ajS (us:=[.ref a]) (vs:=[.ref a]) F hr hb hd hx I1 (.cons rfl .nil) q)
structure Mk (K:Frag)(C f:Addr):Prop where
 makes:makesIn K C=true
 init:findIn K (.ref C) "__init__" = some (some (.ref f))
 fn:isFn K (.ref f)=true
 kp:keepIn K (.ref C)=true
theorem ah5 {pins:List (Addr×Obj)}{σ:St}{H:Hp}{s:Shared}{Q:VK}{us:List Value}{vs:List V}(M:Mk X.K C f)(F:bU X.prog X.w X.K X.mg X.base CX k f fd ps sp)(hr:tU (k+1) X.A)(hb:Binds X.K fd ps ds)(hd:Vals QV ds)
  (hx:Passes CX X E) (I:Inv X pins σ H s) (r:Vals vs us)
  (h:∀ x dx,H x=none->H dx=none->dx≠x->sp (.ref x :: (vs++QV)) (upd (upd H dx (.own x)) x (.ins C dx [])) (fun v H2=>v=.non/\Q (.ref x) H2) E) :
  wpAny (model X.prog X.w) X.A (call (.ref C) us) (EP X pins σ Q) X.xe s:=by
 have hq:=h (s.heap.objs.size+1) s.heap.objs.size (I.hok.fresh (Nat.le_succ _)) (I.hok.fresh (Nat.le_refl _)) (Nat.ne_of_lt (Nat.lt_succ_self _))
 have I2:=Inv.made (C:=C) I
 have r2:Vals (V.ref (s.heap.objs.size+1) :: (vs++QV)) (Value.ref (s.heap.objs.size+1) :: (us++ds)):=.cons rfl (r.append hd)
 have hl:(Value.ref (s.heap.objs.size+1) :: us++ds).length=ps.length:=by
  have e:=r2.length
  rw[F.len _ _ _ _ hq] at e
  exact e.symm
 refine wpAny_call (ap1 (f:=f) I.QT M.makes M.init (beq_iff_eq.mp M.fn) (codeAny_mono (F.run _ X.stack _ _ ⟨Value.ref (s.heap.objs.size+1) :: us,[]⟩ (Value.ref (s.heap.objs.size+1) :: (us++ds)) _ _ E (hr.make C us [])
  (I2.env0.make C us []) (hb _ (Value.ref (s.heap.objs.size+1) :: us) I2.QT hl) r2 hq) fun r s' hq'=>?_))
 cases r with
 | error e=>exact hx pins σ _ _ e s' I2 hq'
 | ok fl =>
  cases fl with
  | ret u =>
   obtain⟨v,H',I3,rv,ev,q3⟩:=I2.after hq'
   subst ev
   exact⟨rv,⟨V.ref (s.heap.objs.size+1),H',I3,rfl,q3⟩⟩
  | next=>exact False.elim hq'
  | brk=>exact False.elim hq'
  | cont=>exact False.elim hq'
theorem Ls (M:Mk X.K C f)(F:bU X.prog X.w X.K X.mg X.base CX k f fd ps sp)(hr:tU (k+1) X.A)(hg:Gl X x)(hm:X.mg x=some (.ref C))(hb:Binds X.K fd ps ds)(hd:Vals QV ds)(hx:Passes CX X E)
  (ha:PA X (e :: es) t) (hdb:(x == ("__debug__":Str))=false:=by decide) (he:starEach (e :: es) X.env=(false,eval e X.env) :: starEach es X.env:=by rfl) (hpl:(backTo pos (starEach es X.env)).any (·.1)=false:=by rfl) :
  PE X (.Call (.Name x p) (e :: es) [] pos) (at3 C sp QV E t):=by
 intro pins s σ H Q I h
 refine wpAny_Call_Name_kw (Zg I hg hm ?_ hdb)
 refine callWith_K (h₀:=X.base) I.ok.mod.kin M.kp (eX (ha pos pins s σ H _ I h) fun us s1 ⟨vs,H1,I1,r,q⟩=>⟨I1.QT,?_⟩) he hpl
 exact ah5 M F hr hb hd hx I1 r q
theorem ap4 (M:Mk X.K C f)(F:bU X.prog X.w X.K X.mg X.base CX k f fd ps sp)(hr:tU (k+1) X.A)(hg:Gl X x)(hm:X.mg x=some (.ref C))(hb:Binds X.K fd ps ds)(hd:Vals QV ds)(hx:Passes CX X E)
  (hdb:(x == ("__debug__":Str))=false:=by decide):PE X (.Call (.Name x p) [] [] pos) (at3 C sp QV E auS):=by
 intro pins s σ H Q I h
 refine wpAny_Call_Name_kw (Zg I hg hm ?_ hdb)
 exact callWith_K0 I.QT M.kp (ah5 (us:=[]) M F hr hb hd hx I .nil h)
end
section
variable {X:Cx} {CX:CXT} {k:Nat} {f C:Addr} {fd:FuncData} {ps ks:List Str} {sp:Sp} {E:XK} {x m:Str} {p pos apos aBF:Pos} {e o:Expr} {es:List Expr} {kws:List Keyword} {te ta:TE} {t tk:TA} {nm:Option Str}
structure ayW (K:Frag)(fd:FuncData)(ps ks:List Str)(g:List Value->List Value->List Value)(gV:List V->List V->List V):Prop where
 to:∀ (s:Shared) (us ws:List Value),K.In s.heap->(g us ws).length=ps.length->BindsTo s fd ⟨us,ks.zip ws⟩ (ps.zip (g us ws))
 rel:∀ {vs:List V} {us:List Value} {zs:List V} {ws:List Value},Vals vs us->Vals zs ws->Vals (gV vs zs) (g us ws)
variable {g:List Value->List Value->List Value} {gV:List V->List V->List V}
end
structure aP (N P:List Str)(sc:Scope):Prop where
 kind:sc.kind=.function
 co:sc.isCoroutine=false
 gen:sc.isGenerator=false
 nd:N.Nodup
 pre:N.take P.length=P
 par:∀ x∈P,sc.names.lookup x=some .local∨sc.names.lookup x=some .cell
 auT:∀ y∈sc.names,y.2≠.free
theorem ad1 {kindOf:Str->Option NameKind}{x:Str}:∀ {binds:List (Str×Value)} {m:Str->Option Value},(∀ v,(x,v) ∉ binds)->bindL kindOf binds m x=m x
 | [],_,_=>rfl
 | (n,v) :: r,m,h=>by
  unfold bindL
  rw[ad1 fun w hw=>h w (List.mem_cons_of_mem _ hw)]
  split
  ·have:x≠n:=by rintro rfl;exact h v List.mem_cons_self
   simp[this]
  ·rfl
theorem ad2 {kindOf:Str->Option NameKind}{x:Str}:∀ {binds:List (Str×Value)} {m:Str->Option Value},(∀ v,(x,v) ∉ binds)->bindC kindOf binds m x=m x
 | [],_,_=>rfl
 | (n,v) :: r,m,h=>by
  unfold bindC
  rw[ad2 fun w hw=>h w (List.mem_cons_of_mem _ hw)]
  split
  ·rfl
  ·have:x≠n:=by rintro rfl;exact h v List.mem_cons_self
   simp[this]
theorem ad3 {kindOf:Str->Option NameKind}{x:Str}{v:Value}:∀ {P:List Str} {vs:List Value} {i:Nat} {m:Str->Option Value},P.Nodup->P[i]? = some x->vs[i]? = some v->kindOf x=some .local ->
  bindL kindOf (P.zip vs) m x=some v
 | [],_,_,_,_,h,_,_=>by simp at h
 | _ :: _,[],_,_,_,_,h,_=>by simp at h
 | p :: P,w :: vs,0,m,nd,h1,h2,hk=>by
  simp at h1 h2;subst h1;subst h2
  show bindL kindOf ((p,w) :: P.zip vs) m p=_
  unfold bindL
  rw[ad1 fun v hv=>(List.nodup_cons.mp nd).1 (List.of_mem_zip hv).1,if_pos hk]
  simp
 | p :: P,w :: vs,i+1,m,nd,h1,h2,hk=>by
  show bindL kindOf ((p,w) :: P.zip vs) m x=_
  unfold bindL
  exact ad3 (i:=i) (List.nodup_cons.mp nd).2 (by simpa using h1) (by simpa using h2) hk
theorem ad4 {kindOf:Str->Option NameKind}{x:Str}{v:Value}:∀ {P:List Str} {vs:List Value} {i:Nat} {m:Str->Option Value},P.Nodup->P[i]? = some x->vs[i]? = some v->kindOf x≠some .local ->
  bindC kindOf (P.zip vs) m x=some v
 | [],_,_,_,_,h,_,_=>by simp at h
 | _ :: _,[],_,_,_,_,h,_=>by simp at h
 | p :: P,w :: vs,0,m,nd,h1,h2,hk=>by
  simp at h1 h2;subst h1;subst h2
  show bindC kindOf ((p,w) :: P.zip vs) m p=_
  unfold bindC
  rw[ad2 fun v hv=>(List.nodup_cons.mp nd).1 (List.of_mem_zip hv).1,if_neg hk]
  simp
 | p :: P,w :: vs,i+1,m,nd,h1,h2,hk=>by
  show bindC kindOf ((p,w) :: P.zip vs) m x=_
  unfold bindC
  exact ad4 (i:=i) (List.nodup_cons.mp nd).2 (by simpa using h1) (by simpa using h2) hk
def start (N:List Str)(vs:List V):St:=vs.map some++List.replicate (N.length - vs.length) none
def ajT (CX:CXT)(P:Program)(w:World)(K:Frag)(mg:Str->Option Value)(base:Heap)(N:List Str)(qual:Str)(scope:Scope)(f:Addr)(cd:Value)(A:Around)(outer:List Env)(s:Shared)(H:Hp)(E:XK):Cx where
 prog:=P
 w:=w
 K:=K
 mg:=mg
 base:=base
 A:=A.deeper (envOfC qual scope s.heap.objs.size f cd)
 N:=N
 s₀:=s
 H₀:=H
 env:=envOfC qual scope s.heap.objs.size f cd
 outer:=outer
 stack:=envOfC qual scope s.heap.objs.size f cd :: outer
 ex:=[]
 calm:=true
 fn:=fun _=>true
 pn:=[]
 xe:=fun e s'=>wpAny (model P w) (A.deeper (envOfC qual scope s.heap.objs.size f cd)) (leaving (envOfC qual scope s.heap.objs.size f cd) e) (fun _ s''=>CX outer H s E e s'') (fun e' s''=>CX outer H s E e' s'') s'
theorem ah6 {sc:Scope}{n:Nat}{x:Str}(h:sc.names.lookup x=some .cell):∃ c,(cellsFrom n sc.names []).lookup x=some c:=by
 have q:=PySem.W.cellsFrom_some sc.names n [] (.inl h)
 exact Option.isSome_iff_exists.mp q
theorem anj {CX:CXT}{P:Program}{w:World}{K:Frag}{mg:Str->Option Value}{base:Heap}{N ps:List Str}{qual:Str}{scope:Scope}{f:Addr}{cd:Value}{A:Around}{outer:List Env}{s s1:Shared}{H:Hp}{E:XK}{us:List Value}{vs:List V}
  (S:aP N ps scope) (hd:A.handled=none) (e0:ajR P w K mg base A outer s H) (hl:vs.length=ps.length) (r:Vals vs us)
  (x:InCallC s s.heap.objs.size (bindL (envOfC qual scope s.heap.objs.size f cd).kindOf (ps.zip us) fun _=>none) (cellsFrom (s.heap.objs.size+1) scope.names []) (bindC (envOfC qual scope s.heap.objs.size f cd).kindOf (ps.zip us) fun _=>none) s1) :
  Inv (ajT CX P w K mg base N qual scope f cd A outer s H E) [] (start N vs) H s1:=by
 have hpl:ps.length <= N.length:=by have:=congrArg List.length S.pre;rw[List.length_take] at this;omega
 obtain⟨h1,tk,rfl,hk⟩:=x.done
 have noA:∀ b:Addr,b ∉ (ajT CX P w K mg base N qual scope f cd A outer s H E).ex:=fun b z=>absurd (show b∈([]:List Addr) from z) (by simp)
 refine⟨⟨e0.mod,S.kind,rfl,rfl,Nat.le_refl _,fun y z c h1 h2=>?_,fun y hy=>?_,fun y c _ h=>?_,fun _=>hd,Around.frames_deeper e0.frames,.inr ⟨rfl,rfl⟩,fun b z=>absurd z (noA b),e0.bs,e0.bsz,fun b _ _=>noA b,fun b z=>absurd z (noA b),e0.QW,e0.frf⟩,
  rfl,e0.bare,Un.kept hk,⟨_,x.toInCall.ns,fun i y v h1 h2 h3=>?_⟩,fun y c h=>⟨_,x.cell y c h⟩,e0.hok.fresh (Nat.le_refl _),fun y c h=>?_,fun p hp=>absurd (show p∈([]:List (Addr×Obj)) from hp) (by simp),e0.hok.kept hk,?_⟩
 ·exact name_of_addr x.apart (PySem.mem_of_lookup h1) (PySem.mem_of_lookup h2)
 ·have hy:scope.names.lookup y=some .cell∨scope.names.lookup y=some .free:=hy
  rcases hy with hy | hy
  ·exact ah6 hy
  ·exact absurd rfl (S.auT _ (PySem.mem_of_lookup hy))
 ·exact Nat.le_of_lt (x.above y c (PySem.mem_of_lookup h))
 ·have hi:i < vs.length:=by
   unfold start at h2
   by_cases hi:i < vs.length
   ·exact hi
   ·rw[List.getElem?_append_right (by simpa using hi)] at h2
    rw[List.getElem?_replicate] at h2
    split at h2 <;> cases h2
  have ha:vs[i]? = some v:=by
   unfold start at h2
   rw[List.getElem?_append_left (by simpa using hi),List.getElem?_map] at h2
   cases e:vs[i]? with
   | none=>rw[e] at h2;cases h2
   | some a=>rw[e] at h2;cases h2;rfl
  obtain⟨u,hu,rv⟩:=r.get ha
  have hp:ps[i]? = some y:=by
   rw[← S.pre,List.getElem?_take_of_lt (by omega)];exact h1
  have ndP:ps.Nodup:=by rw[← S.pre];exact S.nd.sublist (List.take_sublist _ _)
  refine⟨u,rv,?_⟩
  rcases S.par y (List.mem_of_getElem? hp) with k | k
  ·exact .inl ⟨k,ad3 ndP hp hu k⟩
  ·obtain⟨c,e⟩:=ah6 (n:=s.heap.objs.size+1) k
   refine .inr ⟨.inl k,c,e,?_⟩
   have q:=x.cell y c e
   rw[ad4 ndP hp hu (by show scope.names.lookup y≠_;rw[k];decide)] at q
   exact q
 ·exact e0.hok.fresh (Nat.le_of_lt (x.above y c (PySem.mem_of_lookup h)))
 ·unfold start
  show _=N.length
  rw[List.length_append,List.length_map,List.length_replicate]
  omega
theorem at4 {CX:CXT}{P:Program}{w:World}{K:Frag}{mg:Str->Option Value}{base:Heap}{k:Nat}{f:Addr}{name qual:Str}{params:Arguments}{body:List Stmt}{scope:Scope}{dV kV doc pm cdv ct oc:Value}{an od:Option Addr}
  {osl:Array (Option Value)} {N ps:List Str} {sp:Sp} (lk:K.lookup f=some ⟨oc,od,.func (fnOf name qual params body scope dV kV doc pm an cdv ct),osl⟩) (hcd:codeIn K cdv qual=true) (S:aP N ps scope)
  (len:∀ vs H Q E,sp vs H Q E->vs.length=ps.length)
  (hbody:∀ (A:Around) (outer:List Env) (s:Shared) (H:Hp) (vs:List V) (Q:VK) (E:XK),tU k (A.deeper (envOfC qual scope s.heap.objs.size f cdv))->sp vs H Q E ->
   ∃ t,PSs (ajT CX P w K mg base N qual scope f cdv A outer s H E) body t/\t { nx:=fun _ H'=>Q .non H',rt:=Q } (start N vs) H) :
  bU P w K mg base CX (k+1) f (fnOf name qual params body scope dV kV doc pm an cdv ct) ps sp:=by
 refine⟨len,fun A outer s H args us vs Q E hr e0 hb r hsp=>?_⟩
 have hl:=len _ _ _ _ hsp
 have KX:K.In s.heap:=e0.mod.kin.keeps fun b o e=>(e0.bs b o e).1
 have lim:s.heap.NoLimit:=e0.mod.nolimit.keeps fun b o e=>(e0.bs b o e).1
 have hkind:∀ y∈ps.zip us,scope.names.lookup y.1=some .local∨(scope.names.lookup y.1=some .cell/\((cellsFrom (s.heap.objs.size+1) scope.names []).lookup y.1).isSome=true):=fun ⟨n,v⟩ hy=>by
  rcases S.par n (List.of_mem_zip hy).1 with q | q
  ·exact .inl q
  ·exact .inr ⟨q,PySem.W.cellsFrom_some _ _ _ (.inl q)⟩
 refine codeAny_call_function hr.depth (KX _ _ lk) rfl S.co S.gen rfl (PySem.W.codeRec_of KX hcd) (hb _ _ _ _ ?_)
 refine wpAny_newFunctionEnv_cells S.kind hkind fun env he s1 x=>?_
 subst he
 refine⟨lim.keeps x.toInCall.keep,codeAny_func ?_⟩
 obtain⟨t,ht,hq⟩:=hbody A outer s H vs Q E (hr.deeper _) hsp
 have I:Inv (ajT CX P w K mg base N qual scope f cdv A outer s H E) [] (start N vs) H s1:=anj S hr.hd e0 hl r x
 refine wpAny_mono (ht [] s1 (start N vs) H _ I hq) (fun fl s' hs=>?_) fun e s' hs=>hs
 have fin:∀ {σ':St} {H':Hp} {v:V} {u:Value},Inv (ajT CX P w K mg base N qual scope f cdv A outer s H E) [] σ' H' s'->RelV v u->Q v H'->CE outer P w H s Q u s' :=
  fun {σ' H' v u} J rv q=>⟨v,H',J.os,J.bare,J.base,J.hok,rv,q⟩
 cases fl with
 | ret u =>
  obtain⟨v,σ',H',J,rv,q⟩:=hs
  exact fin J rv q
 | next =>
  obtain⟨σ',H',J,q⟩:=hs
  exact fin (v:=V.non) (u:=Value.none) J rfl q
 | brk =>
  obtain⟨_,_,_,q⟩:=hs
  exact False.elim q
 | cont =>
  obtain⟨_,_,_,q⟩:=hs
  exact False.elim q
end L2
namespace L2
open PySem PySem.Spec PyProof.Rows
section
variable {X:Cx} {x:Str} {p pos:Pos} {e:Expr} {es:List Expr} {t:TA} {id T:String} {r:List V->Hp->VK->Prop}
def tCB (r:List V->Hp->VK->Prop)(t:TA):TE:=fun σ H Q=>t σ H fun vs H1=>r vs H1 Q
theorem aL (hc:qI X (.builtin id) r)(hg:Gl X x)(hm:X.mg x=none)(hv:bootBuiltins x=some (.builtin id))(ha:PA X (e :: es) t)(hn:x ≠ "__name__":=by decide)(hdb:(x == ("__debug__":Str))=false:=by decide)
  (he:starEach (e :: es) X.env=(false,eval e X.env) :: starEach es X.env:=by rfl) (hpl:(backTo pos (starEach es X.env)).any (·.1)=false:=by rfl):PE X (.Call (.Name x p) (e :: es) [] pos) (tCB r t):=by
 intro pins s σ H Q I h
 refine wpAny_Call_Name_kw (yI I hg hm hv ?_ hn hdb)
 exact PyProof.Rows.callWith_builtin1 (eX (ha pos pins s σ H _ I h) fun us s1 ⟨vs,H1,I1,r1,q1⟩=>hc pins s1 σ H1 vs us Q I1 r1 q1) he hpl
theorem cC (hc:qI X (.type T) r)(hg:Gl X x)(hm:X.mg x=none)(hv:bootBuiltins x=some (.type T))(ha:PA X (e :: es) t)(hn:x ≠ "__name__":=by decide)(hdb:(x == ("__debug__":Str))=false:=by decide)
  (he:starEach (e :: es) X.env=(false,eval e X.env) :: starEach es X.env:=by rfl) (hpl:(backTo pos (starEach es X.env)).any (·.1)=false:=by rfl):PE X (.Call (.Name x p) (e :: es) [] pos) (tCB r t):=by
 intro pins s σ H Q I h
 refine wpAny_Call_Name_kw (yI I hg hm hv ?_ hn hdb)
 exact PyProof.Rows.callWith_type1 (eX (ha pos pins s σ H _ I h) fun us s1 ⟨vs,H1,I1,r1,q1⟩=>hc pins s1 σ H1 vs us Q I1 r1 q1) he hpl
end
end L2
namespace HT
open PySem PyProof.Rows
section
open PySem.SeqAt
open PySem.AutoSeq1 (wpAny_loadPart')
open PySem.MeetsSeq PySem.MeetsSeq2 PySem.MeetsSeq3
end
section
variable {prog:Program} {w:World} {A:Around} {E:Value->Shared->Prop} {s:Shared}
def tQ (n d:Nat):Option Int->Nat
 | none=>d
 | some v=>if v < 0 then (v+(n:Int)).toNat else min v.toNat n
theorem ZG (n d:Nat):tQ n d none=d:=rfl
theorem aml (n d k:Nat):tQ n d (some (k:Int))=min k n:=by
 show (if (k:Int) < 0 then ((k:Int)+(n:Int)).toNat else min (k:Int).toNat n)=min k n
 rw[if_neg (by omega),Int.toNat_natCast]
theorem auU (n d:Nat)(hd:d <= n)(o:Option Int):tQ n d o <= n:=by
 cases o with
 | none=>exact hd
 | some v =>
  show (if v < 0 then (v+(n:Int)).toNat else min v.toNat n) <= n
  by_cases hv:v < 0
  ·rw[if_pos hv];omega
  ·rw[if_neg hv];exact Nat.min_le_right _ _
theorem amm (v:Int)(n d:Nat):(if v < 0 then max (v+(n:Int)) 0 else min v (n:Int))=((tQ n d (some v):Nat):Int):=by
 show (if v < 0 then max (v+(n:Int)) 0 else min v (n:Int))=(((if v < 0 then (v+(n:Int)).toNat else min v.toNat n):Nat):Int)
 by_cases hv:v < 0
 ·simp only [if_pos hv];omega
 ·simp only [if_neg hv];omega
theorem ajU (lo hi:Option Int)(n:Nat):Builtin.Slice.sliceAdjust lo hi 1 (n:Int)=(((tQ n 0 lo:Nat):Int),((tQ n n hi:Nat):Int)):=by
 have h1:¬ ((1:Int) < 0):=by omega
 unfold Builtin.Slice.sliceAdjust
 simp only [h1,if_false]
 refine Prod.ext ?_ ?_
 ·cases lo with
  | none=>rfl
  | some v=>exact amm v n 0
 ·cases hi with
  | none=>rfl
  | some v=>exact amm v n n
theorem ajV (i j:Nat):Builtin.Slice.slicePlaces (i:Int) (j:Int) 1=j - i:=by
 unfold Builtin.Slice.slicePlaces
 have h1:(1:Int) > 0:=by omega
 simp only [h1,if_true,Int.ediv_one]
 split <;> omega
theorem ZJ {v:Value}{o:Option Int}{Q:Option Int->Shared->Prop}(p:IsPart v o)(h:Q o s):wpAny (model prog w) A (Builtin.Slice.slicePartIndex v) Q E s:=by
 cases p with
 | none=>exact slicePart_none h
 | int i t=>exact slicePart_int h
theorem Uu {sl:Addr}{vl vu:Value}{lo hi:Option Int}{n:Nat}{Q:Int×Int×Nat->Shared->Prop}(hs:s.heap.IsSliceOf sl vl vu .none)(pl:IsPart vl lo)(pu:IsPart vu hi)
  (h:Q (((tQ n 0 lo:Nat):Int),1,tQ n n hi - tQ n 0 lo) s):wpAny (model prog w) A (Builtin.Slice.sliceApplied (.ref sl) (pure (n:Int))) Q E s:=by
 obtain⟨os,hos,hcs,hds⟩:=id hs
 unfold Builtin.Slice.sliceApplied Builtin.Slice.sliceFields
 refine wpAny_bind (wpAny_bind (wpAny_field hos hds (x:=vl) rfl (wpAny_bind (wpAny_field hos hds (x:=vu) rfl (wpAny_bind (wpAny_field hos hds (x:=.none) rfl (wpAny_pure ?_)))))))
 refine wpAny_bind (slicePart_none ?_)
 show wpAny _ _ (if ((1:Int) == 0)=true then _ else _) _ _ s
 rw[if_neg (by decide)]
 refine wpAny_bind (ZJ pl (wpAny_bind (ZJ pu (wpAny_bind (wpAny_pure ?_)))))
 show wpAny _ _ (match Builtin.Slice.sliceAdjust lo hi 1 (n:Int) with | (lo,hi)=>pure (lo,(1:Int),Builtin.Slice.slicePlaces lo hi 1)) _ _ s
 rw[ajU lo hi n]
 show wpAny _ _ (pure (((tQ n 0 lo:Nat):Int),(1:Int),Builtin.Slice.slicePlaces ((tQ n 0 lo:Nat):Int) ((tQ n n hi:Nat):Int) 1)) _ _ s
 rw[ajV]
 exact wpAny_pure h
theorem ap5 (xs:Array Value)(i k:Nat):((List.range k).filterMap fun (m:Nat)=>xs[((i:Int)+(m:Int) * 1).toNat]?).toArray=((xs.toList.drop i).take k).toArray:=by
 have e:(fun (m:Nat)=>xs[((i:Int)+(m:Int) * 1).toNat]?)=fun m=>xs[i+m]?:=by
  funext m
  have:((i:Int)+(m:Int) * 1).toNat=i+m:=by omega
  rw[this]
 rw[e]
 have:=pick_run xs i k
 rw[List.filterMap_map] at this
 have e2:((fun x=>xs[x]?) ∘ fun x=>i+x)=fun m=>xs[i+m]?:=rfl
 rw[e2] at this
 rw[this]
theorem QZ {t sl:Addr}{items:Array Value}{vl vu:Value}{lo hi:Option Int}{Q:Value->Shared->Prop}(ht:IsTup s.heap t items)(hs:s.heap.IsSliceOf sl vl vu .none)(pl:IsPart vl lo)(pu:IsPart vu hi)
  (hw:¬ (tQ items.size 0 lo=0/\tQ items.size items.size hi=items.size))
  (h:Q (.ref s.heap.objs.size) { s with heap:=s.heap.push { cls:=.type "tuple",data:=.seq ((items.toList.drop (tQ items.size 0 lo)).take (tQ items.size items.size hi - tQ items.size 0 lo)).toArray } })
  (hsz:items.size <= sizeLine):wpAny (model prog w) A (getItem (.ref t) (.ref sl)) Q E s:=by
 have amn:sizeOk (.seq ((items.toList.drop (tQ items.size 0 lo)).take (tQ items.size items.size hi - tQ items.size 0 lo)).toArray):=by
  show ((items.toList.drop (tQ items.size 0 lo)).take (tQ items.size items.size hi - tQ items.size 0 lo)).toArray.size <= sizeLine
  rw[List.size_toArray,List.length_take,List.length_drop,Array.length_toList]
  omega
 have hj:tQ items.size items.size hi <= items.size:=auU _ _ (Nat.le_refl _) hi
 obtain⟨os,hos,hcs,hds⟩:=id hs
 have hTs:s.TypeIs (.ref sl) "slice":=⟨os,hos,hcs⟩
 unfold getItem
 try with_reducible refine wpAny_holding ?_
 first | refine wpAny_bind (wpAny_pure ?_) | skip
 refine wpAny_bind (wpAny_sequenceKey ht.typeIs (by decide) ?_)
 refine wpAny_bind (wpAny_callSpecial?_slot (name:=Str.ofString "__getitem__") ht.typeIs PyProof.Rows.slot_tuple_getitem
  (wpAny_call_entry PyProof.Rows.slot_tuple_getitem ht.typeIs entry_tuple_getitem ?_ (args_tuple_getitem _ _)))
 show wpAny _ _ (Builtin.Tuple.tupleItemsOf (.ref t) >>= _) _ _ s
 refine wpAny_bind (tupleItemsOf_ ht ?_)
 refine wpAny_bind (wpAny_typeOf hTs ?_)
 rw[if_pos (by decide)]
 refine wpAny_bind (Uu hs pl pu ?_)
 have hno:¬ ((((tQ items.size 0 lo:Nat):Int) == 0 && (1:Int) == 1 && (tQ items.size items.size hi - tQ items.size 0 lo) == items.size)=true):=by
  intro q
  rw[Bool.and_eq_true,Bool.and_eq_true] at q
  have q1:((tQ items.size 0 lo:Nat):Int)=0:=eq_of_beq q.1.1
  have q2:tQ items.size items.size hi - tQ items.size 0 lo=items.size:=eq_of_beq q.2
  exact hw ⟨by omega,by omega⟩
 show wpAny _ _ (if (((tQ items.size 0 lo:Nat):Int) == 0 && (1:Int) == 1 && (tQ items.size items.size hi - tQ items.size 0 lo) == items.size)=true then _ else _) _ _ s
 rw[if_neg hno,ap5]
 first
  | exact wpAny_bind (m:=Builtin.Tuple.tupleExact _) (wpAny_newObj_type (wpAny_pure ⟨_,rfl,wpAny_pure h⟩) amn)
  | exact wpAny_bind (m:=Builtin.Tuple.tupleExact _) (wpAny_newObj_type (wpAny_bind (wpAny_pure (wpAny_pure ⟨_,rfl,wpAny_pure h⟩))) amn)
  | exact wpAny_bind (wpAny_bind (m:=Builtin.Tuple.tupleExact _) (wpAny_newObj_type (wpAny_pure (wpAny_pure ⟨_,rfl,wpAny_pure h⟩)) amn))
  | exact wpAny_bind (wpAny_bind (m:=Builtin.Tuple.tupleExact _) (wpAny_newObj_type (wpAny_pure ⟨_,rfl,wpAny_pure h⟩) amn))
end
end HT
namespace L2
open PySem PySem.Spec PyProof.Rows
abbrev TO:=St->Hp->(Option Int->Hp->Prop)->Prop
def PO (X:Cx)(e:Option Expr)(t:TO):Prop :=
 ∀ (pins:List (Addr×Obj)) (s:Shared) (σ:St) (H:Hp) (Q:Option Int->Hp->Prop),Inv X pins σ H s->t σ H Q ->
  wpAny (model X.prog X.w) X.A (evalPart e X.env) (fun u s'=>∃ o H',Inv X pins σ H' s'/\IsPart u o/\Q o H') X.xe s
def asz:TO:=fun _ H Q=>Q none H
inductive ap6 (Q:(Option Int->Hp->Prop))(x:V)(H1:Hp):Prop
 | mk (i:_) (fU:x=.int i) (fV:Q (some i) H1):ap6 Q x H1
def awR (t:TE):TO:=fun σ H Q=>t σ H fun x H1=>ap6 Q x H1
section
variable {X:Cx} {e:Expr} {te:TE} {lo hi:Option Expr} {tl th:TO} {pos p2:Pos}
theorem vA:PO X none asz:=by
 intro pins s σ H Q I h
 rw[evalPart_none]
 exact wpAny_pure ⟨none,H,I,.none,h⟩
theorem lC (h:PE X e te):PO X (some e) (awR te):=by
 intro pins s σ H Q I hw
 rw[evalPart_some]
 refine eX (h pins s σ H _ I hw) fun u s1 ⟨x,H1,I1,r1,q1⟩=>?_
 obtain⟨i,rfl,q⟩:=q1
 obtain⟨t,rfl⟩:=r1
 exact⟨some i,H1,I1,.int i t,q⟩
def SlR (X:Cx)(r:V->Option Int->Option Int->Hp->VK->Prop):Prop :=
 ∀ (pins:List (Addr×Obj)) (s:Shared) (σ:St) (H:Hp) (x:V) (v vl vu:Value) (lo hi:Option Int) (sl:Addr) (Q:VK),Inv X pins σ H s->RelV x v->s.heap.IsSliceOf sl vl vu .none->IsPart vl lo->IsPart vu hi->r x lo hi H Q ->
  ∃ T id,typeLookup (.type T) "__getitem__" = pure (some (.builtin id))/\s.TypeIs v T/\wpAny (model X.prog X.w) X.A (getItem v (.ref sl)) (EP X pins σ Q) X.xe s
theorem SlR.or {r r':V->Option Int->Option Int->Hp->VK->Prop}(h:SlR X r)(h':SlR X r'):SlR X (fun x lo hi H Q=>r x lo hi H Q∨r' x lo hi H Q):=by
 intro pins s σ H x v vl vu lo hi sl Q I rx hs pl pu q
 rcases q with q | q
 ·exact h pins s σ H x v vl vu lo hi sl Q I rx hs pl pu q
 ·exact h' pins s σ H x v vl vu lo hi sl Q I rx hs pl pu q
def tSl (r:V->Option Int->Option Int->Hp->VK->Prop)(te:TE)(tl th:TO):TE:=fun σ H Q=>te σ H fun x H1=>tl σ H1 fun l H2=>th σ H2 fun u H3=>r x l u H3 Q
theorem oG {r:V->Option Int->Option Int->Hp->VK->Prop}(hr:SlR X r)(he:PE X e te)(hl:PO X lo tl)(hu:PO X hi th):PE X (.Subscript e (.Slice lo hi none p2) pos) (tSl r te tl th):=by
 intro pins s σ H Q I h
 refine Subscript_ (eX (he pins s σ H _ I h) fun v s1 ⟨x,H1,I1,r1,q1⟩=>?_)
 refine wpAny_Slice (eX (hl pins s1 σ H1 _ I1 q1) fun vl s2 ⟨l,H2,I2,pl,q2⟩=>eX (hu pins s2 σ H2 _ I2 q2) fun vu s3 ⟨u,H3,I3,pu,q3⟩=>?_)
 rw[evalPart_none]
 refine wpAny_pure ?_
 have I4:Inv X pins σ H3 { s3 with heap:=s3.heap.push { cls:=.type "slice",data:=.fields #[vl,vu,.none] } }:=I3.kept (t':=s3.toks) fun b ob q=>Heap.get?_push_of_some _ q
 obtain⟨T,id,hT,ht,hg⟩:=hr pins { s3 with heap:=s3.heap.push { cls:=.type "slice",data:=.fields #[vl,vu,.none] } } σ H3 x v vl vu l u s3.heap.objs.size Q I4 r1 (Heap.IsSliceOf.new ..) pl pu q3
 show wpAny (model X.prog X.w) X.A (subscriptTail e (.Slice lo hi none p2) v (.ref s3.heap.objs.size)) (EP X pins σ Q) X.xe { s3 with heap:=s3.heap.push { cls:=.type "slice",data:=.fields #[vl,vu,.none] } }
 exact tail_any (ops:=[.ref s3.heap.objs.size,v]) ht hT hg (by with_unfolding_all rfl)
def Nj (xs:List V)(lo hi:Option Int):List V:=(xs.drop (HT.tQ xs.length 0 lo)).take (HT.tQ xs.length xs.length hi - HT.tQ xs.length 0 lo)
theorem XQ (xs:List V)(lo hi:Option Int):(Nj xs lo hi).length <= xs.length:=by
 unfold Nj
 rw[List.length_take,List.length_drop]
 omega
inductive at6 (K:Frag)(x:V)(lo:Option Int)(hi:Option Int)(H:Hp)(Q:VK):Prop
 | mk (a:_) (xs:_) (fU:x=.ref a) (fV:pP K H a xs) (iQ:¬ (HT.tQ xs.length 0 lo=0/\HT.tQ xs.length xs.length hi=xs.length)) (nZ:∀ p,H p=none->Q (.ref p) (upd H p (.tup (Nj xs lo hi)))):at6 K x lo hi H Q
def ayX (K:Frag):V->Option Int->Option Int->Hp->VK->Prop:=fun x lo hi H Q=>at6 K x lo hi H Q
theorem BX:SlR X (ayX X.K):=by
 intro pins s σ H x v vl vu lo hi sl Q I rx hs pl pu h
 obtain⟨a,xs,rfl,hx,hw,q⟩:=h
 cases rx
 obtain⟨its,r,ht,hz⟩:=I.tuple hx
 have hlen:its.toArray.size=xs.length:=by rw[List.size_toArray];exact r.length.symm
 refine⟨"tuple",_,PyProof.Rows.slot_tuple_getitem.lookup,ht.typeIs,?_⟩
 refine HT.QZ ht hs pl pu (by rw[hlen];exact hw) ?_ (by rw[hlen];exact hz)
 rw[hlen]
 refine⟨.ref s.heap.objs.size,_,I.laid (t':=s.toks) (o:=.tup (Nj xs lo hi)) (fun b ob q=>Heap.get?_push_of_some _ q) (Nat.le_refl _) ?_,rfl,q _ (I.hok.fresh (Nat.le_refl _))⟩
 exact⟨Nat.le_trans (XQ xs lo hi) hz,_,(r.drop (HT.tQ xs.length 0 lo)).take (HT.tQ xs.length xs.length hi - HT.tQ xs.length 0 lo),IsTup.new _ _⟩
end
end L2
namespace L2
open PySem PySem.Spec PyProof.Rows
def ixN (n:Nat)(i:Int):Option Nat:=if 0 <= i then (if i < n then some i.toNat else none) else if -(n:Int) <= i then some (i+n).toNat else none
def atI {α:Type}(xs:List α)(i:Int):Option α:=(ixN xs.length i).bind fun j=>xs[j]?
theorem amo {n:Nat}{i:Int}{j:Nat}(h:ixN n i=some j):seqIndex? i n=some j/\j < n/\-(n:Int) <= i/\i < n:=by
 unfold ixN at h
 by_cases h0:0 <= i
 ·rw[if_pos h0] at h
  by_cases h1:i < n
  ·rw[if_pos h1] at h
   have e:i.toNat=j:=Option.some.inj h
   exact⟨by rw[seqIndex_of h0 h1,e],by omega,by omega,h1⟩
  ·rw[if_neg h1] at h;cases h
 ·rw[if_neg h0] at h
  by_cases h1:-(n:Int) <= i
  ·rw[if_pos h1] at h
   have e:(i+n).toNat=j:=Option.some.inj h
   exact⟨by rw[seqIndex_neg (by omega) h1,e],by omega,h1,by omega⟩
  ·rw[if_neg h1] at h;cases h
theorem aeT {α:Type}{xs:List α}{i:Int}{v:α}(h:atI xs i=some v):∃ j,seqIndex? i xs.length=some j/\xs[j]? = some v/\j < xs.length/\-(xs.length:Int) <= i/\i < xs.length:=by
 unfold atI at h
 cases e:ixN xs.length i with
 | none=>rw[e] at h;cases h
 | some j =>
  rw[e] at h
  obtain⟨h1,h2,h3,h4⟩:=amo e
  exact⟨j,h1,h,h2,h3,h4⟩
theorem Q0 {α:Type}{xs:List α}{j:Nat}{v:α}(h:xs[j]? = some v):atI xs (j:Int)=some v:=by
 have hj:j < xs.length:=(List.getElem?_eq_some_iff.mp h).1
 have e:ixN xs.length (j:Int)=some j:=by
  unfold ixN
  rw[if_pos (by omega),if_pos (by omega)];simp
 unfold atI;rw[e];exact h
theorem Io {α:Type}(xs:List α)(v:α):atI (xs++[v]) (-1)=some v:=by
 have hl:(xs++[v]).length=xs.length+1:=by simp
 have e:ixN (xs++[v]).length (-1)=some xs.length:=by
  unfold ixN
  rw[hl,if_neg (by decide),if_pos (by omega)]
  congr 1
  omega
 unfold atI
 rw[e]
 show (xs++[v])[xs.length]? = some v
 simp
def asA (b:Expr):Prop:=∀ o i,subscripted b false o i=operate [o,i] (getItem o i)
def IxR (X:Cx)(r:R2):Prop :=
 ∀ (value slice:Expr) (pins:List (Addr×Obj)) (s:Shared) (σ:St) (H:Hp) (x y:V) (v u:Value) (Q:VK),Inv X pins σ H s->RelV x v->RelV y u->r x y H Q ->
  subscripted slice false v u=operate [v,u] (getItem v u)->wpAny (model X.prog X.w) X.A (subscriptTail value slice v u) (EP X pins σ Q) X.xe s
def MtR (X:Cx)(id:String)(r:V->List V->Hp->VK->Prop):Prop :=
 ∀ (pins:List (Addr×Obj)) (s:Shared) (σ:St) (H:Hp) (x:V) (xs:List V) (v:Value) (us:List Value) (Q:VK),Inv X pins σ H s->RelV x v->Vals xs us->r x xs H Q ->
  wpAny (model X.prog X.w) X.A (call (.builtin id) (v :: us)) (EP X pins σ Q) X.xe s
section
variable {X:Cx} {a b:Expr} {ta tb:TE} {pos:Pos}
theorem IxR.or {r r':R2}(h:IxR X r)(h':IxR X r'):IxR X (fun x y H Q=>r x y H Q∨r' x y H Q):=by
 intro value slice pins s σ H x y v u Q I rx ry q hs
 rcases q with q | q
 ·exact h value slice pins s σ H x y v u Q I rx ry q hs
 ·exact h' value slice pins s σ H x y v u Q I rx ry q hs
theorem bH {r:R2}(hr:IxR X r)(ha:PE X a ta)(hb:PE X b tb)(hs:asA b):PE X (.Subscript a b pos) (tOp r ta tb):=by
 intro pins s σ H Q I h
 exact Subscript_ (auQ ha hb I h fun v u s2 x y H2 I2 rx ry q=>hr a b pins s2 σ H2 x y v u Q I2 rx ry q (hs _ _))
inductive at7 (K:Frag)(x:V)(y:V)(H:Hp)(Q:VK):Prop
 | mk (p:_) (xs:_) (i:_) (v:_) (fU:x=.ref p) (fV:y=.int i) (iQ:bu K H p xs) (nZ:atI xs i=some v) (xM:Q v H):at7 K x y H Q
def ah7 (K:Frag):R2:=fun x y H Q=>at7 K x y H Q
inductive at8 (K:Frag)(x:V)(y:V)(H:Hp)(Q:VK):Prop
 | mk (p:_) (xs:_) (i:_) (v:_) (fU:x=.ref p) (fV:y=.int i) (iQ:pP K H p xs) (nZ:atI xs i=some v) (xM:Q v H):at8 K x y H Q
def ah8 (K:Frag):R2:=fun x y H Q=>at8 K x y H Q
inductive at9 (x:V)(y:V)(H:Hp)(Q:VK):Prop
 | mk (z:_) (i:_) (c:_) (fU:x=.str z) (fV:y=.int i) (iQ:z.length <= sizeLine) (nZ:atI z.cps.toList i=some c) (xM:Q (.str ⟨#[c]⟩) H):at9 x y H Q
def ah9 :R2:=fun x y H Q=>at9 x y H Q
theorem asB:IxR X (ah7 X.K):=by
 intro value slice pins s σ H x y v u Q I rx ry h hs
 obtain⟨p,xs,i,z,rfl,rfl,hq,he,q⟩:=h
 cases rx
 obtain⟨t,rfl⟩:=ry
 obtain⟨its,r,pl,hz⟩:=I.list hq
 obtain⟨j,h1,h2,h3,h4,h5⟩:=aeT he
 obtain⟨w,ew,rw'⟩:=r.get h2
 have hl:=r.length
 have hn:=Us
 have fin:EP X pins σ Q w s:=⟨z,H,I,rw',q⟩
 by_cases h0:0 <= i
 ·have hj:i.toNat=j:=by
   rw[seqIndex_of h0 h5] at h1
   exact Option.some.inj h1
  exact item_listR pl.isList h0 (by omega) (by rw[hj];simpa using ew) fin hs
 ·have hj:(i+(its.toArray.size:Int)).toNat=j:=by
   rw[seqIndex_neg (by omega) h4] at h1
   rw[List.size_toArray,← hl]
   exact Option.some.inj h1
  exact subscriptTail_builtinR (x:=w) pl.isList.typeIs slot_list_getitem.lookup
   (wpAny_getItem_list_neg (Q:=fun r s'=>r=w/\EP X pins σ Q r s') pl.isList (by omega) (by rw[List.size_toArray] <;> omega) (by omega) (by rw[hj];simpa using ew) ⟨rfl,fin⟩) hs
theorem auV:IxR X (ah8 X.K):=by
 intro value slice pins s σ H x y v u Q I rx ry h hs
 obtain⟨p,xs,i,z,rfl,rfl,hq,he,q⟩:=h
 cases rx
 obtain⟨t,rfl⟩:=ry
 obtain⟨its,r,pl,hz⟩:=I.tuple hq
 obtain⟨j,h1,h2,h3,h4,h5⟩:=aeT he
 obtain⟨w,ew,rw'⟩:=r.get h2
 have hl:=r.length
 have hn:=Us
 have fin:EP X pins σ Q w s:=⟨z,H,I,rw',q⟩
 exact subscriptTail_builtinR (x:=w) pl.typeIs slot_tuple_getitem.lookup
  (getItem_tuple (j:=j) (Q:=fun r s'=>r=w/\EP X pins σ Q r s') pl (by omega) (by omega) (by rw[List.size_toArray,← hl];exact h1) (by simpa using ew) ⟨rfl,fin⟩) hs
theorem auW:IxR X ah9:=by
 intro value slice pins s σ H x y v u Q I rx ry h hs
 obtain⟨z,i,c,rfl,rfl,hz,he,q⟩:=h
 obtain⟨t,rfl⟩:=rx
 obtain⟨t',rfl⟩:=ry
 obtain⟨j,h1,h2,h3,h4,h5⟩:=aeT he
 have hl:z.cps.toList.length=z.length:=by simp[Str.length]
 rw[hl] at h1 h4 h5
 have hn:=Us
 exact tail_any (typeIs_str s z t) slot_str_getitem.lookup (getItem_str (c:=c) (by
  have e1:decide (i < -(2 ^ 63:Int))=false:=decide_eq_false (by omega)
  have e2:decide (i ≥ 2 ^ 63)=false:=decide_eq_false (by omega)
  rw[e1,e2,Bool.or_false]) (by rw[h1];simpa using h2) ⟨.str ⟨#[c]⟩,H,I.tok _,⟨_,rfl⟩,q⟩) hs
def rIx (K:Frag):R2:=fun x y H Q=>ah7 K x y H Q∨ah8 K x y H Q∨ah9 x y H Q
theorem bc:IxR X (rIx X.K):=asB.or (auV.or auW)
theorem ajW (its:List Value)(n j:Nat)(u:Value):Obj.mapSeq (·.setIfInBounds j u) { cls:=.type "list",data:=.seq its.toArray n } = { cls:=.type "list",data:=.seq (its.set j u).toArray n }:=by
 simp[Obj.mapSeq]
theorem Inv.lst {pins:List (Addr×Obj)}{σ:St}{H:Hp}{s:Shared}{p:Addr}{xs:List V}(I:Inv X pins σ H s)(h:H p=some (.lst xs)) :
  ∃ (its:List Value) (n:Nat),Vals xs its/\s.heap.get? p=some { cls:=.type "list",data:=.seq its.toArray n }/\xs.length <= sizeLine:=by
 obtain⟨z,its,n,r,e⟩:=I.hok p _ h
 exact⟨its,n,r,e,z⟩
theorem Inv.auX {pins:List (Addr×Obj)}{σ:St}{H:Hp}{s:Shared}{p:Addr}{xs ys:List V}{its its':List Value}{n n':Nat}{f:Obj->Obj}(I:Inv X pins σ H s)(h:H p=some (.lst xs))
  (ho:s.heap.get? p=some { cls:=.type "list",data:=.seq its.toArray n }) (hf:f { cls:=.type "list",data:=.seq its.toArray n } = { cls:=.type "list",data:=.seq its'.toArray n' }) (r:Vals ys its') (hz:ys.length <= sizeLine) (t:Nat) :
  Inv X pins σ (upd H p (.lst ys)) { s with heap:=s.heap.update p f,toks:=t }:=by
 have e:(s.heap.update p f).get? p=some { cls:=.type "list",data:=.seq its'.toArray n' }:=by
  rw[Heap.get?_update_self f ho (by rw[hf] <;> rfl),hf]
 refine I.write (x:=p) (e:=p) (by rw[h];trivial) (.inl rfl) (fun b u hb q=>(Heap.get?_update_other _ _ (Ne.symm hb)).trans q) ⟨_,e⟩ ?_
 exact⟨hz,its',n',r,e⟩
inductive ap8 (o:V)(i:V)(v:V)(H:Hp)(Q:(Hp->Prop)):Prop
 | mk (p:_) (xs:_) (k:_) (j:_) (fU:o=.ref p) (fV:i=.int k) (iQ:H p=some (.lst xs)) (nZ:ixN xs.length k=some j) (xM:Q (upd H p (.lst (xs.set j v)))):ap8 o i v H Q
def awS :V->V->V->Hp->(Hp->Prop)->Prop:=fun o i v H Q=>ap8 o i v H Q
theorem set_list:awE X awS:=by
 intro pins s σ H o i v ov iv u Q I ro ri rv h
 obtain⟨p,xs,k,j,rfl,rfl,hp,hj,q⟩:=h
 cases ro
 obtain⟨t,rfl⟩:=ri
 obtain⟨its,n,r,ho,hz⟩:=I.lst hp
 obtain⟨h1,h2,h3,h4⟩:=amo hj
 have hl:=r.length
 have hn:=Us
 have I':Inv X pins σ (upd H p (.lst (xs.set j v))) { s with heap:=s.heap.update p (Obj.mapSeq (·.setIfInBounds j u)) } :=
  I.auX hp ho (ajW its n j u) (r.set rv j) (by rw[List.length_set];exact hz) s.toks
 by_cases h0:0 <= k
 ·have hk:k.toNat=j:=by
   rw[seqIndex_of h0 h4] at h1
   exact Option.some.inj h1
  exact PySem.W.ki_setAt ho h0 (by omega) (by rw[List.size_toArray,← hl];exact h4) (by rw[hk];exact⟨_,I',q⟩)
 ·have hk:(k+(its.toArray.size:Int)).toNat=j:=by
   rw[seqIndex_neg (by omega) h3] at h1
   rw[List.size_toArray,← hl]
   exact Option.some.inj h1
  exact PySem.W.ki_setBack ho (by omega) (by rw[List.size_toArray,← hl];exact h3) (by omega) (by rw[hk];exact⟨_,I',q⟩)
theorem aeU (lo hi:Option Int)(n:Nat):(sliceBounds lo hi none n).1=((HT.tQ n 0 lo:Nat):Int)/\(sliceBounds lo hi none n).2.1=((HT.tQ n n hi:Nat):Int)/\(sliceBounds lo hi none n).2.2=1:=by
 refine⟨?_,?_,rfl⟩
 ·cases lo with
  | none=>simp[sliceBounds,HT.tQ]
  | some i =>
   simp only [sliceBounds,HT.tQ,Option.getD_none,show (1:Int) > 0 by decide,if_true]
   by_cases h:i < 0
   ·simp only [h,if_true] <;> omega
   ·simp only [h,if_false] <;> omega
 ·cases hi with
  | none=>simp[sliceBounds,HT.tQ]
  | some i =>
   simp only [sliceBounds,HT.tQ,Option.getD_none,show (1:Int) > 0 by decide,if_true]
   by_cases h:i < 0
   ·simp only [h,if_true] <;> omega
   ·simp only [h,if_false] <;> omega
theorem acT (its:List Value)(lo hi:Option Int):slicePick its.toArray lo hi none=((its.drop (HT.tQ its.length 0 lo)).take (HT.tQ its.length its.length hi - HT.tQ its.length 0 lo)).toArray:=by
 obtain⟨h1,h2,h3⟩:=aeU lo hi its.toArray.size
 unfold slicePick
 rw[h1,h2,h3]
 simp only [sliceRange_one,pick_run,List.size_toArray] <;> rfl
inductive aua (K:Frag)(x:V)(lo:Option Int)(hi:Option Int)(H:Hp)(Q:VK):Prop
 | mk (a:_) (xs:_) (fU:x=.ref a) (fV:bu K H a xs) (iQ:∀ p,H p=none->Q (.ref p) (upd H p (.lst (Nj xs lo hi)))):aua K x lo hi H Q
def ayY (K:Frag):V->Option Int->Option Int->Hp->VK->Prop:=fun x lo hi H Q=>aua K x lo hi H Q
theorem vB:SlR X (ayY X.K):=by
 intro pins s σ H x v vl vu lo hi sl Q I rx hs pl pu h
 obtain⟨a,xs,rfl,hx,q⟩:=h
 cases rx
 obtain⟨its,r,ht,hz⟩:=I.list hx
 have hlen:=r.length
 refine⟨"list",_,slot_list_getitem.lookup,ht.isList.typeIs,?_⟩
 refine wpAny_getItem_list_slice ht.isList hs pl pu .none (by simp) ?_ (by rw[List.size_toArray] <;> omega)
 rw[acT,← hlen]
 refine⟨.ref s.heap.objs.size,_,I.laid (t':=s.toks) (o:=.lst (Nj xs lo hi)) (fun b ob q=>Heap.get?_push_of_some _ q) (Nat.le_refl _) ?_,rfl,q _ (I.hok.fresh (Nat.le_refl _))⟩
 exact⟨Nat.le_trans (XQ xs lo hi) hz,_,0,(r.drop (HT.tQ xs.length 0 lo)).take (HT.tQ xs.length xs.length hi - HT.tQ xs.length 0 lo),Heap.get?_push_size _ rfl⟩
def HD:V->Bool
 | .non=>true
 | .bl _=>true
 | .int _=>true
 | .str _=>true
 | _=>false
def eqV:V->V->Bool
 | .non,.non=>true
 | .bl a,.bl b=>a == b
 | .bl a,.int b=>(if a then 1 else 0) == b
 | .int a,.bl b=>a == (if b then 1 else 0)
 | .int a,.int b=>a == b
 | .str a,.str b=>a == b
 | _,_=>false
theorem ap9 {A:Around}{s:Shared}{y x:V}{u v:Value}(ry:RelV y u)(rx:RelV x v)(fy:HD y=true)(fx:HD x=true):SeqAt.EqAt A s u v (eqV y x):=by
 cases y with
 | non =>
  cases ry
  cases x with
  | non=>cases rx;exact SeqAt.EqAt.same _
  | bl b=>cases rx;exact SeqAt.EqAt.none_bool b
  | int b=>obtain⟨t,rfl⟩:=rx;exact SeqAt.EqAt.none_int b t
  | str b=>obtain⟨t,rfl⟩:=rx;exact SeqAt.EqAt.none_str b t
  | _=>exact absurd (show false=true from fx) Bool.false_ne_true
 | bl a =>
  cases ry
  cases x with
  | non=>cases rx;exact SeqAt.EqAt.bool_none a
  | bl b=>cases rx;exact SeqAt.EqAt.bool_bool a b
  | int b=>obtain⟨t,rfl⟩:=rx;exact SeqAt.EqAt.bool_int a b t
  | str b=>obtain⟨t,rfl⟩:=rx;exact SeqAt.EqAt.bool_str a b t
  | _=>exact absurd (show false=true from fx) Bool.false_ne_true
 | int a =>
  obtain⟨t',rfl⟩:=ry
  cases x with
  | non=>cases rx;exact SeqAt.EqAt.int_none a t'
  | bl b=>cases rx;exact SeqAt.EqAt.int_bool a t' b
  | int b=>obtain⟨t,rfl⟩:=rx;exact SeqAt.EqAt.int_int a t' b t
  | str b=>obtain⟨t,rfl⟩:=rx;exact SeqAt.EqAt.int_str a t' b t
  | _=>exact absurd (show false=true from fx) Bool.false_ne_true
 | str a =>
  obtain⟨t',rfl⟩:=ry
  cases x with
  | non=>cases rx;exact SeqAt.EqAt.str_none a t'
  | bl b=>cases rx;exact SeqAt.EqAt.str_bool a t' b
  | int b=>obtain⟨t,rfl⟩:=rx;exact SeqAt.EqAt.str_int a t' b t
  | str b=>obtain⟨t,rfl⟩:=rx;exact SeqAt.EqAt.str_str a t' b t
  | _=>exact absurd (show false=true from fx) Bool.false_ne_true
 | _=>exact absurd (show false=true from fy) Bool.false_ne_true
def eqU (x:V)(u:Value):Bool:=match u with
 | .none=>eqV .non x
 | .bool b=>eqV (.bl b) x
 | .int i _=>eqV (.int i) x
 | .str z _=>eqV (.str z) x
 | _=>false
theorem aqa {x y:V}{u:Value}(r:RelV y u)(f:HD y=true):eqU x u=eqV y x:=by
 cases y with
 | non=>cases r;rfl
 | bl b=>cases r;rfl
 | int i=>obtain⟨t,rfl⟩:=r;rfl
 | str z=>obtain⟨t,rfl⟩:=r;rfl
 | _=>exact absurd (show false=true from f) Bool.false_ne_true
theorem Q3 {x:V}:∀ {xs:List V} {us:List Value},Vals xs us->xs.all HD=true->us.any (eqU x)=xs.any fun y=>eqV y x
 | _,_,.nil,_=>rfl
 | y :: xs,u :: us,.cons r t,f=>by
  rw[List.all_cons,Bool.and_eq_true] at f
  rw[List.any_cons,List.any_cons,aqa r f.1,Q3 t f.2]
theorem Ip {A:Around}{s:Shared}{x:V}{v:Value}(rx:RelV x v)(fx:HD x=true):∀ {xs:List V} {us:List Value},Vals xs us->xs.all HD=true->∀ u∈us,SeqAt.EqAt A s u v (eqU x u)
 | _,_,.nil,_=>fun u hu=>by cases hu
 | y :: xs,u :: us,.cons r t,f=>fun u' hu=>by
  rw[List.all_cons,Bool.and_eq_true] at f
  rcases List.mem_cons.mp hu with rfl | hu
  ·rw[aqa r f.1];exact ap9 r rx f.1 fx
  ·exact Ip rx fx t f.2 u' hu
def inV (x:V)(xs:List V):Bool:=xs.any fun y=>eqV y x
inductive awT (K:Frag)(neg:Bool)(x:V)(y:V)(H:Hp)(Q:VK):Prop
 | mk (p:_) (xs:_) (fU:y=.ref p) (fV:(bu K H p xs∨pP K H p xs)) (iQ:HD x=true) (nZ:xs.all HD=true) (xM:Q (.bl (if neg then !inV x xs else inV x xs)) H):awT K neg x y H Q
def rIn (K:Frag)(neg:Bool):R2:=fun x y H Q=>awT K neg x y H Q
theorem eF:Ez X (compareOp .In) (rIn X.K false):=by
 intro pins s σ H x y v u Q I rx ry h
 obtain⟨p,xs,rfl,hq,fx,fs,q⟩:=h
 cases ry
 rcases hq with hq | hq
 ·obtain⟨its,r,pl,hz⟩:=I.list hq
  refine SeqAt.in_listAt (eqU x) pl.isList (fun w hw=>Ip rx fx r fs w (by simpa using hw)) ⟨.bl _,H,I,rfl,?_⟩
  rw[show its.toArray.any (eqU x)=its.any (eqU x) by simp,Q3 r fs]
  exact q
 ·obtain⟨its,r,pl,hz⟩:=I.tuple hq
  refine SeqAt.in_tupleAt (eqU x) pl (fun w hw=>Ip rx fx r fs w (by simpa using hw)) ⟨.bl _,H,I,rfl,?_⟩
  rw[show its.toArray.any (eqU x)=its.any (eqU x) by simp,Q3 r fs]
  exact q
theorem Q4:Ez X (compareOp .NotIn) (rIn X.K true):=by
 intro pins s σ H x y v u Q I rx ry h
 obtain⟨p,xs,rfl,hq,fx,fs,q⟩:=h
 cases ry
 rcases hq with hq | hq
 ·obtain⟨its,r,pl,hz⟩:=I.list hq
  refine SeqAt.notIn_listAt (eqU x) pl.isList (fun w hw=>Ip rx fx r fs w (by simpa using hw)) ⟨.bl _,H,I,rfl,?_⟩
  rw[show its.toArray.any (eqU x)=its.any (eqU x) by simp,Q3 r fs]
  exact q
 ·obtain⟨its,r,pl,hz⟩:=I.tuple hq
  refine SeqAt.notIn_tupleAt (eqU x) pl (fun w hw=>Ip rx fx r fs w (by simpa using hw)) ⟨.bl _,H,I,rfl,?_⟩
  rw[show its.toArray.any (eqU x)=its.any (eqU x) by simp,Q3 r fs]
  exact q
theorem Q5:Ez X (compareOp .NotIn) (fun x y H Q=>∃ i j,x=.str i/\y=.str j/\Q (.bl (!(!(Builtin.Str.occurrences j i 0 j.length 1).isEmpty))) H):=by
 intro pins s σ H x y v u Q I rx ry h
 obtain⟨i,j,rfl,rfl,q⟩:=h
 obtain⟨t,rfl⟩:=rx
 obtain⟨t',rfl⟩:=ry
 exact notIn_str ⟨.bl _,H,I,rfl,q⟩
theorem aN:qI X (.builtin "len") (fun xs H Q=>∃ p ys,xs=[.ref p]/\(bu X.K H p ys∨pP X.K H p ys)/\Q (.int ys.length) H):=by
 intro pins s σ H xs us Q I r h
 obtain⟨p,ys,rfl,hq,q⟩:=h
 obtain⟨u,rfl,rx⟩:=vals1 r
 cases rx
 have hn:=Us
 rcases hq with hq | hq
 ·obtain⟨its,r',pl,hz⟩:=I.list hq
  have hlen:=r'.length
  exact Calls.call_len_list pl.isList (by simp only [List.size_toArray] <;> omega) ⟨.int ys.length,H,I.tok _,⟨s.toks+1,by rw[List.size_toArray,hlen]⟩,q⟩
 ·obtain⟨its,r',pl,hz⟩:=I.tuple hq
  have hlen:=r'.length
  exact len_tuple pl (by simp only [List.size_toArray] <;> omega) ⟨.int ys.length,H,I.tok _,⟨s.toks+1,by rw[List.size_toArray,hlen]⟩,q⟩
theorem aO:qI X (.builtin "len") (fun xs H Q=>∃ z,xs=[.str z]/\z.length <= sizeLine/\Q (.int z.length) H):=by
 intro pins s σ H xs us Q I r h
 obtain⟨z,rfl,hz,q⟩:=h
 obtain⟨u,rfl,t,rfl⟩:=vals1 r
 have hn:=Us
 exact len_str (by omega) ⟨.int z.length,H,I.tok _,⟨_,rfl⟩,q⟩
theorem qI.or {f:Value}{r r':List V->Hp->VK->Prop}(h:qI X f r)(h':qI X f r'):qI X f (fun xs H Q=>r xs H Q∨r' xs H Q):=by
 intro pins s σ H xs us Q I rs q
 rcases q with q | q
 ·exact h pins s σ H xs us Q I rs q
 ·exact h' pins s σ H xs us Q I rs q
theorem Q6:qI X (.type "list") (fun xs H Q=>∃ p ys,xs=[.ref p]/\(bu X.K H p ys∨pP X.K H p ys)/\∀ l,H l=none->Q (.ref l) (upd H l (.lst ys))):=by
 intro pins s σ H xs us Q I r h
 obtain⟨p,ys,rfl,hq,q⟩:=h
 obtain⟨u,rfl,rx⟩:=vals1 r
 cases rx
 have fin:∀ (its:List Value),Vals ys its->ys.length <= sizeLine->∀ (h':Heap) (c':Nat),(∀ b o',s.heap.get? b=some o'->h'.get? b=some o') ->
   h'.get? s.heap.objs.size=some { cls:=.type "list",dict:=none,data:=.seq its.toArray c',slots:=#[] }->EP X pins σ Q (.ref s.heap.objs.size) { s with heap:=h' }:=fun its r' hz h' c' kp e =>
  ⟨.ref s.heap.objs.size,_,I.laid (t':=s.toks) kp (Nat.le_refl _) (show jY X.prog X.w _ h' _ (.lst ys) from ⟨hz,its,c',r',e⟩),rfl,q _ (I.hok.fresh (Nat.le_refl _))⟩
 rcases hq with hq | hq
 ·obtain⟨its,r',pl,hz⟩:=I.list hq
  have hlen:=r'.length
  obtain⟨o,ho,hc,n,hd⟩:=pl.isList
  exact call_list_seq p (.inl rfl) ho hc hd (fun h' c' kp e=>fin its r' hz h' c' kp e) (by simp only [List.size_toArray] <;> omega)
 ·obtain⟨its,r',pl,hz⟩:=I.tuple hq
  have hlen:=r'.length
  obtain⟨o,ho,hc,n,hd⟩:=pl
  exact call_list_seq p (.inr rfl) ho hc hd (fun h' c' kp e=>fin its r' hz h' c' kp e) (by simp only [List.size_toArray] <;> omega)
def tyV (K:Frag)(T:String)(x:V)(H:Hp):Prop:=match x with
 | .str _=>T = "str"
 | .int _=>T = "int"
 | .ref p=>(T = "list"/\∃ xs,bu K H p xs)∨(T = "tuple"/\∃ o,K.lookup p=some o/\o.cls=.type "tuple"/\o.dict=none) ∨
   (T = "dict"/\((∃ kvs,H p=some (.dK kvs)) ∨ ∃ kvs,H p=some (.dT kvs)))∨(T = "set"/\∃ S n,H p=some (.set S n))
 | _=>False
theorem aqb {pins:List (Addr×Obj)}{σ:St}{H:Hp}{s:Shared}{T:String}{x:V}{v:Value}(I:Inv X pins σ H s)(r:RelV x v)(ty:tyV X.K T x H) :
  s.TypeIs v T/\∀ a,v=.ref a->∃ ob,s.heap.get? a=some ob/\ob.dict=none:=by
 cases x with
 | str z =>
  obtain⟨t,rfl⟩:=r
  cases (show T = "str" from ty)
  exact⟨typeIs_str s z t,fun _ e=>nomatch e⟩
 | int i =>
  obtain⟨t,rfl⟩:=r
  cases (show T = "int" from ty)
  exact⟨typeIs_int s i t,fun _ e=>nomatch e⟩
 | ref p =>
  cases r
  rcases ty with ⟨rfl,xs,hq⟩ | ⟨rfl,o,hk,hc,hd⟩ | ⟨rfl,hk⟩ | ⟨rfl,S,n,hk⟩
  ·obtain⟨its,_,pl,_⟩:=I.list hq
   refine⟨pl.isList.typeIs,fun a e=>?_⟩
   cases e
   obtain⟨o,n,e,c,hd,_⟩:=pl
   exact⟨o,e,hd⟩
  ·refine⟨⟨o,I.QT p o hk,hc⟩,fun a e=>?_⟩
   cases e
   exact⟨o,I.QT _ o hk,hd⟩
  ·have z:∃ o,s.heap.get? p=some o/\o.ExactDict:=by
    rcases hk with ⟨kvs,hk⟩ | ⟨kvs,hk⟩
    ·obtain⟨_,_,_,_,o,_,_,e,ex,_⟩:=I.hok p _ hk
     exact⟨o,e,ex⟩
    ·obtain⟨_,_,_,_,o,_,_,e,ex,_⟩:=I.hok p _ hk
     exact⟨o,e,ex⟩
   obtain⟨o,e,ex⟩:=z
   refine⟨⟨o,e,ex.1⟩,fun a e2=>?_⟩
   cases e2
   exact⟨o,e,ex.2.1⟩
  ·obtain⟨o,_,_,_,e,ex,_⟩:=I.hok p _ hk
   refine⟨⟨o,e,ex.1⟩,fun a e2=>?_⟩
   cases e2
   exact⟨o,e,ex.2.1⟩
 | _=>exact False.elim ty
def ay0 (K:Frag)(T:String)(r:V->List V->Hp->VK->Prop)(to:TE):TE:=fun σ H Q=>to σ H fun x H1=>tyV K T x H1/\r x [] H1 Q
def tBM (K:Frag)(T:String)(r:V->List V->Hp->VK->Prop)(to:TE)(t:TA):TE:=fun σ H Q=>to σ H fun x H1=>tyV K T x H1/\t σ H1 fun xs H2=>r x xs H2 Q
variable {o e:Expr} {es:List Expr} {to:TE} {t:TA} {name:Str} {apos cpos:Pos} {T id:String} {r:V->List V->Hp->VK->Prop}
theorem aeV (pa:PlainAttrs T)(slot:Slot T name id)(hty:typeOf (.builtin id)=pure (.type "method_descriptor"))(hm:MtR X id r)(ho:PE X o to)
  (hbase:attributeBase o name X.env (eval o X.env)=eval o X.env:=by rfl) (hline:(apos.endLine == cpos.line)=true:=by rfl):PE X (.Call (.Attribute o name apos) [] [] cpos) (ay0 X.K T r to):=by
 intro pins s σ H Q I h
 refine wpAny_Call_method0_late hbase hline (eX (ho pins s σ H _ I h) fun v s1 ⟨x,H1,I1,r1,ty,q1⟩=>?_)
 obtain⟨h1,h2⟩:=aqb I1 r1 ty
 exact⟨T,id,pa,slot,hty,h1,h2,Calls.callWith_builtin rfl (PySem.evalArgs_none (hm pins s1 σ H1 x [] v [] Q I1 r1 .nil q1))⟩
theorem jh (pa:PlainAttrs T)(slot:Slot T name id)(hty:typeOf (.builtin id)=pure (.type "method_descriptor"))(hm:MtR X id r)(ho:PE X o to)(ha:PA X (e :: es) t)
  (hbase:attributeBase o name X.env (eval o X.env)=eval o X.env:=by rfl)
  (hfew:((backTo cpos (starEach (e :: es) X.env)).all (fun x=>!x.1) && (backToKw cpos (keywordEach [] X.env)).all (fun x=>x.1.isSome)
   && decide ((e :: es).length+([]:List Keyword).length+(if ([]:List Keyword).isEmpty then 0 else 1) < 30))=true:=by rfl)
  (hline:(apos.endLine == cpos.line)=true:=by rfl) (hs:starEach (e :: es) X.env=(false,eval e X.env) :: starEach es X.env:=by rfl) (hplain:(backTo cpos (starEach es X.env)).any (·.1)=false:=by rfl) :
  PE X (.Call (.Attribute o name apos) (e :: es) [] cpos) (tBM X.K T r to t):=by
 intro pins s σ H Q I h
 refine wpAny_Call_method_late hbase hfew hline rfl (eX (ho pins s σ H _ I h) fun v s1 ⟨x,H1,I1,r1,ty,q1⟩=>?_)
 obtain⟨h1,h2⟩:=aqb I1 r1 ty
 refine⟨T,id,pa,slot,hty,h1,h2,?_⟩
 have hA:=ha cpos pins s1 σ H1 _ I1 q1
 rw[hs] at hA ⊢
 refine Calls.callWith_builtin (by show (false || (backTo cpos (starEach es X.env)).any (·.1))=false;rw[hplain] <;> rfl) (Calls.evalArgs_plain ?_)
 exact eX hA fun us s2 ⟨vs,H2,I2,r2,q2⟩=>hm pins s2 σ H2 x vs v us Q I2 r1 r2 q2
end
end L2
namespace L2
open PySem PySem.Spec PyProof.Rows
def MtM (X:Cx)(id:String)(r:V->List V->Hp->VK->Prop):Prop :=
 ∀ (pins:List (Addr×Obj)) (s:Shared) (σ:St) (H:Hp) (x:V) (xs:List V) (v:Value) (us:List Value) (Q:VK),Inv X pins σ H s->RelV x v->Vals xs us->r x xs H Q ->
  wpAny (model X.prog X.w) X.A (call (.builtin id) (v :: us)) (EP X pins σ Q) X.xe s
theorem Vals.one:∀ {x:V} {us:List Value},Vals [x] us->∃ u,us=[u]/\RelV x u
 | _,_,.cons r .nil=>⟨_,rfl,r⟩
theorem Vals.two:∀ {x y:V} {us:List Value},Vals [x,y] us->∃ u v,us=[u,v]/\RelV x u/\RelV y v
 | _,_,_,.cons r (.cons q .nil)=>⟨_,_,rfl,r,q⟩
theorem Vals.zero:∀ {us:List Value},Vals [] us->us=[]
 | _,.nil=>rfl
theorem Vals.dropLast {xs:List V}{us:List Value}(h:Vals xs us):Vals xs.dropLast us.dropLast:=by
 induction h with
 | nil=>exact .nil
 | cons r t ih =>
  cases t with
  | nil=>exact .nil
  | cons q t'=>exact .cons r ih
theorem Vals.reverse {xs:List V}{us:List Value}(h:Vals xs us):Vals xs.reverse us.reverse:=by
 induction h with
 | nil=>exact .nil
 | cons r t ih=>rw[List.reverse_cons,List.reverse_cons];exact Vals.append ih (.cons r .nil)
theorem Vals.rep {xs:List V}{us:List Value}(h:Vals xs us):∀ k:Nat,Vals (List.replicate k xs).flatten (List.replicate k us).flatten
 | 0=>.nil
 | k+1=>by
  rw[List.replicate_succ,List.replicate_succ,List.flatten_cons,List.flatten_cons]
  exact Vals.append h (Vals.rep h k)
theorem ajY {α:Type}(l:List α):l.eraseIdx (l.length - 1)=l.dropLast:=by
 induction l with
 | nil=>rfl
 | cons a r ih =>
  cases r with
  | nil=>rfl
  | cons b r =>
   have e:(a :: b :: r).length - 1=((b :: r).length - 1)+1:=by
    have h1:(a :: b :: r).length=r.length+2:=rfl
    have h2:(b :: r).length=r.length+1:=rfl
    omega
   rw[e,List.eraseIdx_cons_succ,ih]
   all_goals rfl
theorem foldl_rep (its:List Value):∀ (k:Nat) (acc:List Value),
  List.foldl (fun x1 x2=>x1++x2) acc.toArray (List.replicate k its.toArray)=(acc++(List.replicate k its).flatten).toArray
 | 0,acc=>by simp
 | k+1,acc=>by
  have e:acc.toArray++its.toArray=(acc++its).toArray:=by simp
  have e2:(acc++its)++(List.replicate k its).flatten=acc++(List.replicate (k+1) its).flatten:=by
   rw[List.replicate_succ,List.flatten_cons,List.append_assoc]
  rw[← e2,← foldl_rep its k (acc++its),← e,List.replicate_succ,List.foldl_cons]
section
variable {X:Cx} {pins:List (Addr×Obj)} {σ:St} {H:Hp} {s:Shared} {l b:Addr} {xs ys zs:List V}
theorem Inv.aqc {its its':List Value}{n:Nat}{f:Array Value->Array Value}{t':Nat}(I:Inv X pins σ H s)(hH:H l=some (.lst xs))
  (e:s.heap.get? l=some { cls:=.type "list",data:=.seq its.toArray n }) (hf:f its.toArray=its'.toArray) (hv:Vals ys its') (hz:ys.length <= sizeLine) :
  Inv X pins σ (upd H l (.lst ys)) { s with heap:=s.heap.update l (Obj.mapSeq f),toks:=t' }:=by
 have q:=PySem.IsL.update e f
 rw[hf] at q
 refine I.write (x:=l) (e:=l) (by rw[hH];exact trivial) (.inl rfl) (fun b' u hb hu=>(Heap.get?_update_other s.heap (Obj.mapSeq f) (Ne.symm hb)).trans hu) ⟨_,q⟩ ?_
 exact⟨hz,its',_,hv,q⟩
theorem Inv.awU {its:List Value}{t':Nat}(I:Inv X pins σ H s)(hv:Vals ys its)(hz:ys.length <= sizeLine) :
  Inv X pins σ (upd H s.heap.objs.size (.lst ys)) { s with heap:=s.heap.push { cls:=.type "list",data:=.seq its.toArray },toks:=t' } :=
 I.laid (fun _ _ q=>Heap.get?_push_of_some _ q) (Nat.le_refl _) ⟨hz,its,0,hv,Heap.get?_push_size _ rfl⟩
theorem Inv.fresh (I:Inv X pins σ H s):H s.heap.objs.size=none:=I.hok.fresh (Nat.le_refl _)
theorem Inv.aeW (I:Inv X pins σ H s)(hH:H l=some (.lst xs)):xs.length <= sizeLine/\∃ (its:List Value) (n:Nat),Vals xs its/\xs.length=its.length/\s.heap.get? l=some { cls:=.type "list",data:=.seq its.toArray n }:=by
 obtain⟨z,its,n,r,e⟩:=I.hok l _ hH
 exact⟨z,its,n,r,r.length,e⟩
theorem ZK {n:Nat}(h:n <= sizeLine):Builtin.List.listTooLong n=false:=by
 unfold Builtin.List.listTooLong
 exact decide_eq_false (by omega)
end
section
variable {X:Cx}
inductive aia (x:V)(vs:List V)(H:Hp)(Q:VK):Prop
 | mk (l:_) (xs:_) (y:_) (fU:x=.ref l) (fV:vs=[y]) (iQ:H l=some (.lst xs)) (nZ:xs.length < sizeLine) (xM:Q .non (upd H l (.lst (xs++[y])))):aia x vs H Q
def asD :V->List V->Hp->VK->Prop:=fun x vs H Q=>aia x vs H Q
theorem bK:MtM X "list.append" asD:=by
 intro pins s σ H x vs v us Q I rx rv h
 obtain⟨l,xs,y,rfl,rfl,hH,hz,q⟩:=h
 cases rx
 obtain⟨u,rfl,ru⟩:=rv.one
 obtain⟨z,its,n,r,hl,e⟩:=I.aeW hH
 refine call_meets F.slot_list_append ⟨_,e,rfl⟩ F.entry_list_append (F.args_list_append_2 _ _) (PySem.list_append l its.toArray n u (by rw[List.size_toArray];omega)) ⟨e,?_⟩
 refine⟨.non,_,I.aqc (its':=its++[u]) hH e (by simp) (r.append (.cons ru .nil)) ?_,rfl,q⟩
 rw[List.length_append,List.length_singleton]
 omega
inductive aub (x:V)(vs:List V)(H:Hp)(Q:VK):Prop
 | mk (l:_) (xs:_) (y:_) (fU:x=.ref l) (fV:vs=[]) (iQ:H l=some (.lst xs)) (nZ:xs[xs.length - 1]? = some y) (xM:Q y (upd H l (.lst xs.dropLast))):aub x vs H Q
def ay1 :V->List V->Hp->VK->Prop:=fun x vs H Q=>aub x vs H Q
theorem aqd:MtM X "list.pop" ay1:=by
 intro pins s σ H x vs v us Q I rx rv h
 obtain⟨l,xs,y,rfl,rfl,hH,hy,q⟩:=h
 cases rx
 have hus:=rv.zero
 subst hus
 obtain⟨z,its,n,r,hl,e⟩:=I.aeW hH
 obtain⟨u,hu,ru⟩:=r.get hy
 have hy':its.toArray[its.toArray.size - 1]? = some u:=by
  show its.toArray[its.length - 1]? = some u
  rw[← Array.getElem?_toList,← hl]
  exact hu
 refine call_meets F.slot_list_pop ⟨_,e,rfl⟩ F.entry_list_pop (F.args_list_pop_1 _) (MeetsSeq.list_pop_last l its.toArray n u hy' (by rw[List.size_toArray];omega)) ⟨e,?_⟩
 refine⟨y,_,I.aqc (its':=its.dropLast) hH e ?_ r.dropLast ?_,ru,q⟩
 ·show its.toArray.eraseIdxIfInBounds (its.toArray.size - 1)=its.dropLast.toArray
  rw[List.size_toArray,List.eraseIdxIfInBounds_toArray,ajY]
 ·rw[List.length_dropLast]
  omega
inductive ad5 (x:V)(vs:List V)(H:Hp)(Q:VK):Prop
 | mk (l:_) (xs:_) (fU:x=.ref l) (fV:vs=[]) (iQ:H l=some (.lst xs)) (nZ:Q .non (upd H l (.lst xs.reverse))):ad5 x vs H Q
def aqe :V->List V->Hp->VK->Prop:=fun x vs H Q=>ad5 x vs H Q
theorem ajZ:MtM X "list.reverse" aqe:=by
 intro pins s σ H x vs v us Q I rx rv h
 obtain⟨l,xs,rfl,rfl,hH,q⟩:=h
 cases rx
 have hus:=rv.zero
 subst hus
 obtain⟨z,its,n,r,hl,e⟩:=I.aeW hH
 refine call_meets F.slot_list_reverse ⟨_,e,rfl⟩ F.entry_list_reverse (F.args_list_reverse_1 _) (AutoSeq1.list_reverse_list_0 l its.toArray n (by rw[List.size_toArray];omega)) ⟨e,?_⟩
 refine⟨.non,_,I.aqc (its':=its.reverse) hH e (by simp) r.reverse ?_,rfl,q⟩
 rw[List.length_reverse]
 omega
inductive amr (x:V)(vs:List V)(H:Hp)(Q:VK):Prop
 | mk (l:_) (xs:_) (fU:x=.ref l) (fV:vs=[]) (iQ:H l=some (.lst xs)) (nZ:Q .non (upd H l (.lst []))):amr x vs H Q
def auY :V->List V->Hp->VK->Prop:=fun x vs H Q=>amr x vs H Q
theorem aqf:MtM X "list.clear" auY:=by
 intro pins s σ H x vs v us Q I rx rv h
 obtain⟨l,xs,rfl,rfl,hH,q⟩:=h
 cases rx
 have hus:=rv.zero
 subst hus
 obtain⟨z,its,n,r,hl,e⟩:=I.aeW hH
 refine call_meets F.slot_list_clear ⟨_,e,rfl⟩ F.entry_list_clear (F.args_list_clear_1 _) (AutoSeq1.list_clear_list_0 l its.toArray n (by rw[List.size_toArray];omega)) ⟨e,?_⟩
 exact⟨.non,_,I.aqc (its':=[]) (ys:=[]) hH e rfl .nil (Nat.zero_le _),rfl,q⟩
inductive auc (x:V)(y:V)(H:Hp)(Q:VK):Prop
 | mk (l:_) (b:_) (xs:_) (zs:_) (fU:x=.ref l) (fV:y=.ref b) (iQ:H l=some (.lst xs)) (nZ:H b=some (.lst zs)) (xM:xs.length+zs.length <= sizeLine) (h5_:∀ p,H p=none->Q (.ref p) (upd H p (.lst (xs++zs)))):auc x y H Q
def ay2 :R2:=fun x y H Q=>auc x y H Q
theorem bQ:Ez X (binaryOp .Add) ay2:=by
 intro pins s σ H x y v u Q I rx ry h
 obtain⟨l,b,xs,zs,rfl,rfl,hH,hB,hz,q⟩:=h
 cases rx
 cases ry
 obtain⟨z,its,n,r,hl,e⟩:=I.aeW hH
 obtain⟨z2,its2,n2,r2,hl2,e2⟩:=I.aeW hB
 refine PySem.P.add_list e e2 ?_ (by rw[List.size_toArray,List.size_toArray];omega)
 have ea:its.toArray++its2.toArray=(its++its2).toArray:=by simp
 rw[ea]
 exact⟨.ref _,_,I.awU (t':=s.toks) (r.append r2) (by rw[List.length_append];omega),rfl,q _ I.fresh⟩
def ay3:R2:=fun x y H Q=>∃ l k xs,x=.ref l/\y=.int k/\H l=some (.lst xs)/\-(2 ^ 63) <= k/\k < 2 ^ 63/\xs.length * k.toNat <= sizeLine /\
 ∀ p,H p=none->Q (.ref p) (upd H p (.lst (List.replicate k.toNat xs).flatten))
theorem len_rep {α:Type}(xs:List α)(k:Nat):(List.replicate k xs).flatten.length=k * xs.length:=by
 induction k with
 | zero=>simp
 | succ k ih=>rw[List.replicate_succ,List.flatten_cons,List.length_append,ih,Nat.succ_mul,Nat.add_comm]
theorem wD:Ez X (binaryOp .Mult) ay3:=by
 intro pins s σ H x y v u Q I rx ry h
 obtain⟨l,k,xs,rfl,rfl,hH,h1,h2,hz,q⟩:=h
 cases rx
 obtain⟨t,rfl⟩:=ry
 obtain⟨z,its,n,r,hl,e⟩:=I.aeW hH
 have hlen:its.toArray.size * k.toNat <= sizeLine:=by rw[List.size_toArray,← hl];exact hz
 have ay4:¬ its.toArray.size * k.toNat > (2 ^ 63 - 1) / 8:=by
  have:(sizeLine:Nat) <= (2 ^ 63 - 1) / 8:=by decide
  omega
 have hfit:¬ (!Builtin.List.listFitsIndex k)=true:=by
  rw[fitsIndex_both h1 h2]
  exact Bool.false_ne_true
 have awV:¬ Builtin.List.listTooLong (its.toArray.size * k.toNat)=true:=by
  rw[ZK hlen]
  exact Bool.false_ne_true
 have hnew:List.foldl (fun x1 x2=>x1++x2) #[] (List.replicate (if its.toArray.isEmpty=true then 0 else k.toNat) its.toArray)=(List.replicate k.toNat its).flatten.toArray:=by
  have f0:∀ m:Nat,List.foldl (fun x1 x2=>x1++x2) #[] (List.replicate m its.toArray)=(List.replicate m its).flatten.toArray:=fun m=>by
   have:=foldl_rep its m []
   rw[List.nil_append] at this
   exact this
  rw[f0]
  cases its with
  | nil=>simp
  | cons a r'=>rw[if_neg (by simp)]
 refine wpAny_binaryOp_repeat_ref (T:="list") (U:="int") (by decide) ⟨_,e,rfl⟩ (fun s'=>typeIs_int s' k t) noFill_list_mul F.fills_int_mul F.slot_int_rmul repeat_list F.slot_int_index.lookup
  (call_meets F.slot_int_rmul (typeIs_int s k t) F.entry_int_rmul (F.args_int_rmul_2 _ _) (int___rmul___int_list k t l its.toArray n)
   ⟨e,rfl,⟨_,e,rfl⟩,call_meets F.slot_list_mul ⟨_,e,rfl⟩ F.entry_list_mul (F.args_list_mul_2 _ _) (AutoListH.list___mul___list_int_3 l its.toArray n k t hfit ay4 awV) ⟨e,?_⟩⟩)
 rw[hnew]
 exact⟨.ref _,_,I.awU (t':=s.toks) (r.rep k.toNat) (by rw[len_rep,Nat.mul_comm];exact hz),rfl,q _ I.fresh⟩
end
section
variable {prog:Program} {w:World} {A:Around} {E:Value->Shared->Prop} {s:Shared}
theorem ank (its its2:List Value)(a c:Nat):its.toArray.extract 0 a++its2.toArray++its.toArray.extract c its.toArray.size=(its.take a++its2++its.drop c).toArray:=by
 apply Array.toList_inj.mp
 first
  | (simp;exact List.take_of_length_le (by simp))
  | simp[List.take_of_length_le]
  | simp
theorem aj0 {a c n:Nat}(hac:a <= c)(hc:c <= n):sliceBounds (some (a:Int)) (some (c:Int)) none n=((a:Int),(c:Int),1):=by
 simp only [sliceBounds,Option.getD_none]
 have h1:¬ ((a:Int) < 0):=by omega
 have h2:¬ ((c:Int) < 0):=by omega
 simp only [h1,h2,if_false,show (1:Int) > 0 by decide,if_true]
 congr 1
 ·omega
 ·congr 1;omega
set_option maxRecDepth 100000 in
theorem acU {l b sl:Addr}{items new:Array Value}{n n2:Nat}{vl vu:Value}{a c:Nat}{Q:Unit->Shared->Prop}
  (e:s.heap.get? l=some { cls:=.type "list",data:=.seq items n }) (e2:s.heap.get? b=some { cls:=.type "list",data:=.seq new n2 }) (hne:l≠b)
  (hs:s.heap.IsSliceOf sl vl vu .none) (pl:IsPart vl (some (a:Int))) (pu:IsPart vu (some (c:Int))) (hac:a <= c) (hc:c <= items.size)
  (hsz:items.size+new.size <= sizeLine) (h:Q () { s with heap:=s.heap.update l (Obj.mapSeq fun xs=>xs.extract 0 a++new++xs.extract c xs.size) }) :
  wpAny (model prog w) A (setItem (.ref l) (.ref sl) (.ref b)) Q E s:=by
 have hl:s.heap.IsList l items:=PySem.IsL.isList e
 have hb:s.heap.IsList b new:=PySem.IsL.isList e2
 obtain⟨os,hos,hcs,hds⟩:=id hs
 have hTs:s.TypeIs (.ref sl) "slice":=⟨os,hos,hcs⟩
 have hstep:¬ ((rawPart none == rawInt 0)=true):=Bool.false_ne_true
 have hsame:Builtin.List.listSameRef (.ref l) (.ref b)=false:=by
  unfold Builtin.List.listSameRef
  exact beq_eq_false_iff_ne.mpr hne
 have ay5:(max (a:Int) (c:Int)).toNat=c:=by omega
 have hz':((fun xs:Array Value=>xs.extract 0 a++new++xs.extract c xs.size) items).size <= sizeLine+1:=by
  simp only [Array.size_append,Array.size_extract]
  omega
 unfold setItem
 try with_reducible refine wpAny_holding ?_
 first | refine wpAny_bind (wpAny_pure ?_) | skip
 refine wpAny_bind (wpAny_sequenceKey hl.typeIs (by decide) ?_)
 refine wpAny_bind (wpAny_callSpecial?_slot (name:=Str.ofString "__setitem__") hl.typeIs slot_list_setitem
  (wpAny_call_entry slot_list_setitem hl.typeIs entry_list_setitem ?_ (args_list_setitem _ _ _)))
 show wpAny _ _ (Builtin.List.listSubscript? (.ref sl) >>= _) _ _ s
 refine wpAny_bind ?_
 unfold Builtin.List.listSubscript?
 refine wpAny_bind (wpAny_specialOf hTs slice_no_index ?_)
 simp only [Option.isNone_none,if_true]
 refine wpAny_pure ?_
 show wpAny _ _ (typeOf (.ref sl) >>= _) _ _ s
 refine wpAny_bind (wpAny_typeOf hTs ?_)
 first
  | rw[if_neg (by decide)]
  | refine PySem.W.KFB.if_not (by decide) ?_
 rw[listSliceParts_eq]
 refine wpAny_bind (wpAny_bind (wpAny_field hos hds (x:=.none) rfl (wpAny_bind (wpAny_listPart .none ?_))))
 rw[if_neg hstep]
 refine wpAny_bind (wpAny_field hos hds (x:=vl) rfl (wpAny_bind (wpAny_listPart pl ?_)))
 refine wpAny_bind (wpAny_field hos hds (x:=vu) rfl (wpAny_bind (wpAny_listPart pu (wpAny_pure ?_))))
 first
  | simp only [hsame,Bool.false_eq_true,if_false]
  | refine PySem.W.KFB.if_not hsame ?_
  | (dsimp only;rw[if_neg (by rw[hsame];exact Bool.false_ne_true)])
 refine wpAny_bind (m:=Builtin.List.listAllItems (.ref b) "must assign iterable to extended slice") ?_
 unfold Builtin.List.listAllItems
 refine wpAny_bind (wpAny_typeOf hb.typeIs ?_)
 first
  | refine PySem.W.KFB.if_so (by decide) ?_
  | rw[if_pos (by decide)]
  | simp only [beq_self_eq_true,Bool.true_or,if_true]
 unfold Builtin.List.listItems
 refine wpAny_bind (wpAny_seqItems e2 rfl (wpAny_pure ?_))
 refine wpAny_bind (wpAny_bind (wpAny_seqItems e rfl (wpAny_pure ?_)))
 refine wpAny_bind (wpAny_of_eq ((sliceIndices_raw (some (a:Int)) (some (c:Int)) none items.size (by simp)).trans (congrArg (pure:Int×Int×Int->Sem (Int×Int×Int)) (aj0 hac hc))) ?_)
 show wpAny _ _ (if ((1:Int) == 1)=true then _ else _) _ _ s
 rw[if_pos (by decide)]
 refine wpAny_bind (wpAny_rule ?_)
 first
  | simp only [ZK hsz,Bool.false_eq_true,if_false]
  | refine PySem.W.KFB.if_not (ZK hsz) ?_
 first | refine wpAny_bind (wpAny_pure ?_) | skip
 show wpAny _ _ (updateSeq l (fun xs=>xs.extract 0 ((a:Int)).toNat++new++xs.extract (max (a:Int) (c:Int)).toNat xs.size) >>= _) _ _ s
 rw[ay5,Int.toNat_natCast]
 refine wpAny_bind (wpAny_updateSeq (hz:=Nat.le_trans (Nat.le_add_right _ _) hsz) (_hz':=hz') e rfl ?_)
 refine wpAny_bind (wpAny_letGo ?_)
 first
  | exact wpAny_bind (wpAny_pure (wpAny_pure ⟨.none,rfl,wpAny_pure h⟩))
  | exact wpAny_pure ⟨.none,rfl,wpAny_pure h⟩
end
section
variable {X:Cx}
theorem anl {pins:List (Addr×Obj)}{s:Shared}{σ:St}{H:Hp}{l b sl:Addr}{xs ys:List V}{a c:Int}{vl vu:Value}{Q:Unit->Shared->Prop}(I:Inv X pins σ H s)
  (hH:H l=some (.lst xs)) (hB:H b=some (.lst ys)) (hne:l≠b) (hs:s.heap.IsSliceOf sl vl vu .none) (ra:RelV (.int a) vl) (rc:RelV (.int c) vu) (h0:0 <= a) (hac:a <= c) (hc:c <= xs.length)
  (hz:xs.length+ys.length <= sizeLine) (h:∀ s',Inv X pins σ (upd H l (.lst (xs.take a.toNat++ys++xs.drop c.toNat))) s'->Q () s') :
  wpAny (model X.prog X.w) X.A (setItem (.ref l) (.ref sl) (.ref b)) Q X.xe s:=by
 obtain⟨ta,rfl⟩:=ra
 obtain⟨tc,rfl⟩:=rc
 obtain⟨z,its,n,r,hl,e⟩:=I.aeW hH
 obtain⟨z2,its2,n2,r2,hl2,e2⟩:=I.aeW hB
 obtain⟨a',rfl⟩:=Int.eq_ofNat_of_zero_le h0
 obtain⟨c',rfl⟩:=Int.eq_ofNat_of_zero_le (Int.le_trans h0 hac)
 simp only [Int.toNat_natCast] at h
 refine acU (a:=a') (c:=c') e e2 hne hs (.int _ _) (.int _ _) (by omega) (by rw[List.size_toArray];omega) (by rw[List.size_toArray,List.size_toArray];omega) (h _ ?_)
 refine I.aqc (its':=its.take a'++its2++its.drop c') (t':=s.toks) hH e ?_ (Vals.append (Vals.append (r.take _) r2) (r.drop _)) ?_
 ·exact ank its its2 a' c'
 ·rw[List.length_append,List.length_append,List.length_take,List.length_drop]
  omega
end
end L2
namespace Att
open PySem PySem.W PySem.Calls PyProof.Rows
theorem Yt {P:Params}{h:Heap}:∀ (ns:List Int) (vs:List Value),WellAll P h vs (ns.map WData.int)->IntsAre vs ns:=by
 intro ns
 induction ns with
 | nil =>
  intro vs w
  rw[List.map_nil] at w
  cases w
  exact .nil
 | cons n ns ih =>
  intro vs w
  rw[List.map_cons] at w
  cases w with
  | cons a b =>
   cases a
   exact .cons _ _ (ih _ b)
theorem anm {l:OpenLaw}{n:Nat}(hn:l.most=some n){P:Params}{h:Heap}{args:List WData}{vals:List Value}
  (hpre:l.row.toRowW.claim.pre args=true) (hwl:WellAll P h vals args) :
  ∃ a vs ns,vals=[Value.ref a]/\args=[WData.list (ns.map WData.int)]/\h.get? a=some { cls:=.type "list",data:=.seq vs.toArray }/\IntsAre vs ns/\ns.length <= n:=by
 have hsh:WShape.hasAll [] args [.list .int]=true:=(pre_splitW hpre).1
 have hc:l.pre.holds [] { args:=args } = true:=(pre_splitW hpre).2
 obtain⟨d,r,rfl,h1,h2⟩:=hasAllW_cons hsh
 obtain rfl:=hasAllW_nil h2
 obtain⟨xs,rfl,h3⟩:=hasW_list h1
 obtain⟨ns,rfl⟩:=items_int h3
 have hlen:ns.length <= n:=by
  unfold OpenLaw.pre at hc
  have h4:(WTm.not (.lt (.lit (.int (n:Int))) (.len (.arg 0)))).holds [] { args:=[.list (ns.map .int)] } = true:=by
   have h4:=(holds_andW hc).1
   rw[hn] at h4
   exact h4
  have h5:=condW_of h4 (w_not (w_lt w_lit (w_len_list (w_arg rfl))))
  rw[List.length_map] at h5
  refine Nat.le_of_not_lt fun q=>?_
  have q':(n:Int) < ((ns.length:Nat):Int):=by omega
  first
   | (rw[decide_eq_true q'] at h5;exact absurd h5 (by decide))
   | (simp at h5;omega)
 cases hwl with
 | cons w1 w2 =>
  cases w2
  cases w1 with
  | list ho hall=>exact⟨_,_,ns,rfl,rfl,ho,Yt ns _ hall,hlen⟩
theorem ano (l:OpenLaw)(args:List WData):l.row.toRowW.claim.post args (.bool true) args=true :=
 postW_of (r:=l.row.toRowW) (X:=(true == true))
  (show WShape.has [] (.bool true) .bool=true by first | rfl | decide | simp[WShape.has,WShape.arms,WShape.armsAll])
  (show (WTm.eq .res (.lit (.bool true))).value [] { args:=args,res:=some (.bool true),after:=args } = some (.bool (true == true)) from w_eq_bool (w_res rfl) w_lit) rfl
theorem aib {l:OpenLaw}{n:Nat}{q:Program}{loose:List Str}{XP:(Str->Option Value)->Heap->Prop}{YP:World->Heap->Prop}{d:DefRec}
  (hn:l.most=some n) (hdf:d.params.defaults=[])
  (call:∀ (w:World) (s₀ s₁:Shared) (mg mb:Str->Option Value) (fa:Addr) (o:Obj) (pm cd doc:Value) (a:Addr) (vs:List Value) (ns:List Int),
   Ground q loose [] XP w s₀ mg mb s₁.heap->YP w s₁.heap ->
   s₁.heap.get? fa=some o->o.data=.func (docDef d.name d.params d.body d.scope pm cd doc)->s₁.heap.CodeRec cd d.name->mg d.name=some (.ref fa) ->
   s₁.heap.get? a=some { cls:=.type "list",data:=.seq vs.toArray }->IntsAre vs ns->ns.length <= n->s₁.gens = #[] ->
   codeAny (model l.prog w) callerA (.call (.ref fa) ⟨[.ref a],[]⟩) (fun r s'=>r=.ok (.ret (.bool true))/\OldK s₁.heap s'.heap/\s'.os=s₁.os/\AllBare s'.gens) s₁) :
  WalkO q loose XP YP l.row.toRowW d [] (fun f vs=>PySem.call f vs):=by
 intro w s₀ s₁ mg mb G Y fa o pm cd doc dV kV ho hd hcd hD hmg hg args vals as hpre hlay hrd hwl hlo
 obtain rfl:dV=.none:=Dflts.none hD hdf
 obtain rfl:kV=.none:=Dflts.noKw hD
 obtain⟨a,vs,ns,rfl,rfl,hobj,hints,hlen⟩:=anm hn hpre hwl
 refine enter_call (codeAny_mono (call w s₀ s₁ mg mb fa o pm cd doc a vs ns G Y ho (fd_plain hd) hcd hmg hobj hints hlen hg) fun r s' hq=>?_)
 obtain⟨rfl,h2,h3,h4⟩:=hq
 exact⟨.inl ⟨.bool true,.bool true,[],rfl,fun _=>rfl,.bool true,ano l _,fun _=>⟨List.Pairwise.nil,fun _ hm=>(nomatch hm)⟩⟩,h2,h3,h4⟩
section
variable {prog:Program} {w:World} {A:Around} {E:Value->Shared->Prop} {s:Shared} {K:Frag}
end
end Att
namespace L2
open PySem PySem.Spec PyProof.Rows
theorem ad6:∀ {vs:List Value} {ns:List Int},IntsAre vs ns->Vals (ns.map V.int) vs
 | _,_,.nil=>.nil
 | _,_,.cons n t h=>.cons ⟨t,rfl⟩ (ad6 h)
def Only (H:Hp):Prop:=∀ b,H b=none ∨ ∃ o xs,H b=some (.frz o (.lst xs))
theorem aqg {P:Program}{w:World}{K:Frag}{mg mb:Str->Option Value}{CX:CXT}{k:Nat}{fa a:Addr}{fd:FuncData}{x:Str}{sp:Sp}{s₁:Shared}{vs:List Value}{ns:List Int}
  (KX:K.In s₁.heap) (hns:s₁.heap.Ns mainGlobals mg) (hb:s₁.heap.Ns builtinsNs mb) (hbb:∀ x:Str,x ≠ "__name__"->mb x=bootBuiltins x) (hlim:s₁.heap.NoLimit) (hg:s₁.gens = #[])
  (ha:s₁.heap.get? a=some { cls:=.type "list",data:=.seq vs.toArray }) (hi:IntsAre vs ns) (hl:ns.length <= sizeLine) (hr:tU k callerA)
  (F:∀ base:Heap,K.In base->base.Ns mainGlobals mg->bU P w K mg base CX k fa fd [x] sp) (hbind:∀ (s:Shared) (u:Value),BindsTo s fd ⟨[u],[]⟩ [(x,u)])
  (hsp:∀ H:Hp,Only H->bu K H a (ns.map V.int)->sp [.ref a] H (fun v _=>v=.bl true) fun _ _ _=>False)
  (hCX:∀ H e s',CX [] H s₁ (fun _ _ _=>False) e s'->False) :
  codeAny (model P w) callerA (.call (.ref fa) ⟨[.ref a],[]⟩) (fun r s'=>r=.ok (.ret (.bool true))/\OldK s₁.heap s'.heap/\s'.os=s₁.os/\AllBare s'.gens) s₁:=by
 have rv:=ad6 hi
 have lenV:=hi.length
 have core:∀ H:Hp,Only H->bu K H a (ns.map V.int)->QS P w H s₁.heap->(∀ b,H b≠none->b=a)->(H a≠none->K.lookup a=none) ->
   codeAny (model P w) callerA (.call (.ref fa) ⟨[.ref a],[]⟩) (fun r s'=>r=.ok (.ret (.bool true))/\OldK s₁.heap s'.heap/\s'.os=s₁.os/\AllBare s'.gens) s₁:=by
  intro H hO hS hok hA hK
  have ams:∀ {b:Addr} {o:Obj},s₁.heap.get? b=some o->H b=none->(aeR s₁.heap H).get? b=some o:=fun e n=>apL e n
  have noA:∀ {b:Addr} {o:Obj} {es:Array DictEntry} {ep:Nat},s₁.heap.get? b=some o->o.data=.dict es ep->H b=none:=fun {b o es ep} e d=>by
   cases q:H b with
   | none=>rfl
   | some u =>
    have e':b=a:=hA b (by rw[q];simp)
    subst e'
    rw[ha] at e;cases e
    have d':Data.seq vs.toArray _=Data.dict es ep:=d
    cases d'
  have nsK:∀ {b:Addr} {m:Str->Option Value},s₁.heap.Ns b m->(aeR s₁.heap H).Ns b m:=fun {b m} ⟨o,es,ep,e,d,r⟩=>⟨o,es,ep,ams e (noA e d),d,r⟩
  have hKb:K.In (aeR s₁.heap H):=fun b o e=>ams (KX b o e) (by
   cases q:H b with
   | none=>rfl
   | some u =>
    have e':b=a:=hA b (by rw[q];simp)
    subst e'
    rw[hK (by rw[q];simp)] at e;cases e)
  have hM:Mod K mg (aeR s₁.heap H):=⟨hKb,nsK hns,⟨mb,nsK hb,hbb⟩,let ⟨mc,h1,h2⟩:=hlim;⟨mc,nsK h1,h2⟩⟩
  have e0:ajR P w K mg (aeR s₁.heap H) callerA [] s₁ H:=⟨rfl,hM,fun b o e=>asr e,Nat.le_of_eq (am5 _ _),trivial,fun b hb=>absurd (show b∈([]:List Addr) from hb) (by simp),hok,.of_eq hg⟩
  refine codeAny_mono ((F _ hKb (nsK hns)).run callerA [] s₁ H ⟨[.ref a],[]⟩ [.ref a] [.ref a] _ _ hr e0 (hbind s₁ (.ref a)) (.cons rfl .nil) (hsp H hO hS)) fun r s' h=>?_
  cases r with
  | error e=>exact (hCX H e s' h).elim
  | ok fl =>
   cases fl with
   | next=>exact False.elim h
   | brk=>exact False.elim h
   | cont=>exact False.elim h
   | ret u =>
    obtain⟨v,H',os,bare,un,hok',r',q⟩:=h
    have q':v=.bl true:=q
    subst q'
    obtain rfl:u=Value.bool true:=r'
    refine⟨rfl,OldK.of_keep fun b o e=>?_,os,bare⟩
    cases q:H b with
    | none=>exact un.keep b o e q (by intro z;exact absurd (show b∈([]:List Addr) from z) (by simp)) (by simp)
    | some u =>
     rcases hO b with z | ⟨ob,xs,z⟩
     ·rw[q] at z;cases z
     ·have z2:=un.acR b ob _ z
      obtain⟨e1,_⟩:=hok b _ z
      obtain⟨e2,_⟩:=hok' b _ z2
      rw[e] at e1;cases e1
      exact e2
 cases hk:K.lookup a with
 | some o =>
  have e:=KX a o hk
  rw[ha] at e
  cases e
  refine core (fun _=>none) (fun _=>.inl rfl) (.inr ⟨_,vs.toArray,_,hk,rfl,rfl,rfl,by rw[List.size_toArray,lenV];exact hl,by simpa using rv⟩) (fun b u z=>by have z':(none:Option HO)=some u:=z;cases z') (fun b z=>absurd rfl z) fun z=>absurd rfl z
 | none =>
  refine core (fun b=>if b=a then some (.frz { cls:=.type "list",data:=.seq vs.toArray } (.lst (ns.map V.int))) else none) (fun b=>?_) (.inl (.inr ⟨{ cls:=.type "list",data:=.seq vs.toArray },if_pos rfl⟩)) (fun b u z=>?_) (fun b z=>?_) fun _=>hk
  ·by_cases hb:b=a
   ·exact .inr ⟨_,_,if_pos hb⟩
   ·exact .inl (if_neg hb)
  ·by_cases hb:b=a
   ·have z':=(if_pos hb).symm.trans z
    cases z'
    subst hb
    exact⟨ha,by rw[List.length_map];exact hl,vs,_,rv,ha⟩
   ·have z':=(if_neg hb).symm.trans z
    cases z'
  ·by_cases hb:b=a
   ·exact hb
   ·exact absurd (if_neg hb) z
end L2
namespace L2
open PySem PySem.Spec PyProof.Rows
abbrev KOf {K:Frag}{h:Heap}(_:K.In h):Frag:=K
theorem asF {l:OpenLaw}{n k:Nat}{q:Program}{loose:List Str}{XP:(Str->Option Value)->Heap->Prop}{YP:World->Heap->Prop}{d:DefRec}{K:Params->Frag}{CX:World->CXT}{sp:World->Sp}{x:Str}
  (hn:l.most=some n) (hn2:n <= sizeLine) (hdf:d.params.defaults=[]) (hr:tU k callerA)
  (hY:∀ (w:World) (h:Heap),YP w h->(K w.params).In h)
  (F:∀ (w:World) (mg:Str->Option Value) (fa:Addr) (h:Heap),(K w.params).In h->h.Ns mainGlobals mg->mg d.name=some (.ref fa) ->
   ∃ fd:FuncData,(∀ (s:Shared) (u:Value),BindsTo s fd ⟨[u],[]⟩ [(x,u)]) /\
    ∀ base:Heap,(K w.params).In base->base.Ns mainGlobals mg->bU l.prog w (K w.params) mg base (CX w) k fa fd [x] (sp w))
  (hsp:∀ (w:World) (H:Hp) (a:Addr) (ns:List Int),ns.length <= n->Only H->bu (K w.params) H a (ns.map V.int)->sp w [.ref a] H (fun v _=>v=.bl true) fun _ _ _=>False)
  (hCX:∀ (w:World) (H:Hp) (s:Shared) (e:Value) (s':Shared),CX w [] H s (fun _ _ _=>False) e s'->False) :
  WalkO q loose XP YP l.row.toRowW d [] (fun f vs=>PySem.call f vs):=by
 refine Att.aib hn hdf fun w s₀ s₁ mg mb fa o pm cd doc a vs ns G Y ho hd hcd hmg hobj hints hlen hg=>?_
 have KX:=hY w _ Y
 obtain⟨fd,hb,hF⟩:=F w mg fa _ KX G.T.g hmg
 exact aqg KX G.T.g G.T.b G.T.builtins G.T.nolimit hg hobj hints (Nat.le_trans hlen hn2) hr hF hb (fun H hO hS=>hsp w H a ns hlen hO hS) fun H e s'=>hCX w H s₁ e s'
end L2
namespace L2
open PySem PySem.Spec PyProof.Rows
def inClass (s:Stmt)(j:Nat):Stmt:=match s with
 | .ClassDef _ _ _ body _ _ _ _ _ _ _=>body.getD j (.Pass ⟨0,0,0,0⟩)
 | _=>.Pass ⟨0,0,0,0⟩
def aK (s:Stmt):Arguments:=match s with
 | .FunctionDef _ a _ _ _ _ _ _ _ _=>a
 | _=>{ posonlyargs:=[],args:=[],vararg:=none,kwonlyargs:=[],kw_defaults:=[],kwarg:=none,defaults:=[] }
def aH (s:Stmt):List Stmt:=match s with
 | .FunctionDef _ _ b _ _ _ _ _ _ _=>b
 | _=>[]
def au (s:Stmt):Scope:=match s with
 | .FunctionDef _ _ _ _ _ _ sc _ _ _=>sc
 | _=>{ kind:=.function,names:=[],isGenerator:=false,isCoroutine:=false }
abbrev jt:CXT:=fun _ _ _ _ _ _=>False
abbrev E0:XK:=fun _ _ _=>False
theorem aF {X:Cx}:Passes jt X E0:=fun _ _ _ _ _ _ _ h=>h.elim
structure lQ (K:Frag)(x qual:Str)(st:Stmt)(f:Addr)(fd:FuncData):Prop where
 ex:∃ (oc:Value) (od:Option Addr) (kV doc pm:Value) (an:Option Addr) (cdv ct:Value) (osl:Array (Option Value)),
  fd=fnOf x qual (aK st) (aH st) (au st) .none kV doc pm an cdv ct/\K.lookup f=some ⟨oc,od,.func fd,osl⟩/\codeIn K cdv qual=true
 kp:keepIn K (.ref f)=true
section
variable {P:Program} {w:World} {K:Frag} {mg:Str->Option Value} {base:Heap}
theorem lQ.ok {x qual:Str}{st:Stmt}{f:Addr}{fd:FuncData}{N ps:List Str}{k:Nat}{sp:Sp}(F:lQ K x qual st f fd)(S:aP N ps (au st))(len:∀ vs H Q E,sp vs H Q E->vs.length=ps.length)
  (hbody:∀ (cdv:Value) (A:Around) (outer:List Env) (s:Shared) (H:Hp) (vs:List V) (Q:VK) (E:XK),tU k (A.deeper (envOfC qual (au st) s.heap.objs.size f cdv))->sp vs H Q E ->
   ∃ t,PSs (ajT jt P w K mg base N qual (au st) f cdv A outer s H E).nox (aH st) t/\t { nx:=fun _ H'=>Q .non H',rt:=Q } (start N vs) H):bU P w K mg base jt (k+1) f fd ps sp:=by
 obtain⟨oc,od,kV,doc,pm,an,cdv,ct,osl,rfl,lk,hcd⟩:=F.ex
 refine at4 lk hcd S len fun A outer s H vs Q E hr hsp=>?_
 obtain⟨t,h,q⟩:=hbody cdv A outer s H vs Q E hr hsp
 exact⟨t,h.nox,q⟩
theorem lQ.binds {x qual:Str}{st:Stmt}{f:Addr}{fd:FuncData}{ps:List Str}(F:lQ K x qual st f fd)
  (h:∀ (kV doc pm:Value) (an:Option Addr) (cdv ct:Value) (us:List Value),us.length=ps.length->bindArgs (fnOf x qual (aK st) (aH st) (au st) .none kV doc pm an cdv ct) ⟨us,[]⟩=pure (ps.zip us)):Binds K fd ps []:=by
 obtain⟨oc,od,kV,doc,pm,an,cdv,ct,osl,rfl,lk,hcd⟩:=F.ex
 exact .all (h kV doc pm an cdv ct)
theorem bA {x qual:Str}{st:Stmt}{f:Addr}{oc:Value}{od an:Option Addr}{osl:Array (Option Value)}{kV doc pm cdv ct:Value}(l:K.lookup f=some ⟨oc,od,.func (fnOf x qual (aK st) (aH st) (au st) .none kV doc pm an cdv ct),osl⟩)
  (c:codeIn K cdv qual=true) (k:keepIn K (.ref f)=true):lQ K x qual st f (fnOf x qual (aK st) (aH st) (au st) .none kV doc pm an cdv ct):=⟨⟨oc,od,kV,doc,pm,an,cdv,ct,osl,rfl,l,c⟩,k⟩
end
theorem Ir {A:Around}{k:Nat}(hr:tU k A):A.units+1 < cLine:=Nat.lt_of_le_of_lt (Nat.add_le_add_left (by decide:1 <= 64) _) hr.units
theorem bx {n:Nat}(h:n <= 1000):n < sizeLine:=Nat.lt_of_le_of_lt h (by decide)
section
variable {X:Cx}
theorem pv (i:Nat){x:Str}{pos:Pos}(hN:X.N[i]? = some x:=by rfl)(hv:Vis X.env.scope x:=by first | exact Or.inl rfl | exact Or.inr (Or.inl rfl) | exact Or.inr (Or.inr rfl))(hd:(x == ("__debug__":Str))=false:=by decide)
  (hcd:(x == ("__classdict__":Str))=false:=by decide):PE X (.Name x pos) (awy i):=auK hN hv hd hcd
end
theorem cZ {A B:Prop}(h:B):if false=true then A else B:=by
 rw[if_neg Bool.false_ne_true]
 exact h
theorem wF {A B:Prop}(h:A):if true=true then A else B:=by
 rw[if_pos rfl]
 exact h
theorem bJ {c A B:Prop}[Decidable c](h1:c->A)(h2:¬ c->B):if c then A else B:=by
 by_cases h:c
 ·rw[if_pos h]
  exact h1 h
 ·rw[if_neg h]
  exact h2 h
def aB (H H':Hp):Prop:=∀ b o,H b=some o->H' b=some o
theorem aB.refl (H:Hp):aB H H:=fun _ _ h=>h
theorem aB.trans {H H1 H2:Hp}(a:aB H H1)(b:aB H1 H2):aB H H2:=fun c o h=>b c o (a c o h)
theorem aB.free {H H':Hp}(e:aB H H'){l:Addr}(h:H' l=Option.none):H l=Option.none:=by
 cases q:H l with
 | none=>rfl
 | some o =>
  rw[e l o q] at h
  cases h
theorem aB.seq {K:Frag}{H H':Hp}{a:Addr}{xs:List V}(e:aB H H')(h:bu K H a xs):bu K H' a xs:=by
 rcases h with (h | ⟨o,h⟩) | h
 ·exact .inl (.inl (e _ _ h))
 ·exact .inl (.inr ⟨o,e _ _ h⟩)
 ·exact .inr h
end L2
set_option maxHeartbeats 4000000
namespace L2
open PySem PySem.Spec PyProof.Rows
def kI (env:Env):List (Str×NameKind)->List (Str×Addr)->List (Str×Addr)
 | [],acc=>acc
 | p :: l,acc=>kI env l (if p.2 == .free then (p.1,(env.cells.lookup p.1).getD 0) :: acc else acc)
theorem amt {env:Env}{scope:Scope}(h:∀ p∈scope.names,p.2=.free->∃ c,env.cells.lookup p.1=some c):closureFor scope env=pure (kI env scope.names []):=by
 have go:∀ (l:List (Str×NameKind)) (acc:List (Str×Addr)),(∀ p∈l,p.2=.free->∃ c,env.cells.lookup p.1=some c) ->
   (forIn l acc fun (p:Str×NameKind) cs=>if (p.2 == NameKind.free)=true then (cellOf env p.1 >>= fun a=>pure (ForInStep.yield ((p.1,a) :: cs))) else pure (ForInStep.yield cs))=(pure (kI env l acc):Sem (List (Str×Addr))):=by
  intro l
  induction l with
  | nil=>intro acc _;rfl
  | cons p l ih =>
   intro acc hl
   rw[List.forIn_cons]
   have hr:=fun q hq=>hl q (List.mem_cons_of_mem _ hq)
   by_cases hk:p.2=.free
   ·obtain⟨c,hc⟩:=hl p List.mem_cons_self hk
    have e1:(p.2 == NameKind.free)=true:=by rw[hk];rfl
    rw[if_pos e1]
    have e2:cellOf env p.1=pure c:=by unfold cellOf;rw[hc]
    rw[e2,pure_bind,pure_bind]
    show forIn l ((p.1,c) :: acc) _=_
    rw[ih _ hr]
    show _=pure (kI env l (if p.2 == .free then (p.1,(env.cells.lookup p.1).getD 0) :: acc else acc))
    rw[if_pos e1,hc]
    rfl
   ·have e1:¬ (p.2 == NameKind.free)=true:=by intro z;exact hk (by simpa using z)
    rw[if_neg e1,pure_bind]
    show forIn l acc _=_
    rw[ih _ hr]
    show _=pure (kI env l (if p.2 == .free then (p.1,(env.cells.lookup p.1).getD 0) :: acc else acc))
    rw[if_neg e1]
 have e:=go scope.names [] h
 unfold closureFor
 show (forIn scope.names ([]:List (Str×Addr)) _ >>= fun r=>pure r)=_
 rw[bind_pure]
 exact e
theorem ad7 {env:Env}{x:Str}:∀ (l:List (Str×NameKind)) (acc:List (Str×Addr)) {c:Addr},(kI env l acc).lookup x=some c->acc.lookup x=some c∨((x,NameKind.free)∈l/\c=(env.cells.lookup x).getD 0)
 | [],acc,c,h=>.inl h
 | p :: l,acc,c,h=>by
  rcases ad7 l _ h with z | ⟨z,e⟩
  ·by_cases hk:(p.2 == NameKind.free)=true
   ·rw[if_pos hk,List.lookup_cons] at z
    by_cases hx:(x == p.1)=true
    ·rw[hx] at z
     have e:x=p.1:=by simpa using hx
     have e2:p.2=.free:=by simpa using hk
     refine .inr ⟨?_,?_⟩
     ·rw[e,← e2];exact List.mem_cons_self
     ·rw[e];exact (Option.some.inj z).symm
    ·have hx':(x == p.1)=false:=by simpa using hx
     rw[hx'] at z
     exact .inl z
   ·rw[if_neg hk] at z
    exact .inl z
  ·exact .inr ⟨List.mem_cons_of_mem _ z,e⟩
theorem ZL {env:Env}{x:Str}:∀ (l:List (Str×NameKind)) (acc:List (Str×Addr)),((acc.lookup x).isSome=true∨(x,NameKind.free)∈l)->((kI env l acc).lookup x).isSome=true
 | [],acc,h=>by
  rcases h with h | h
  ·exact h
  ·cases h
 | p :: l,acc,h=>by
  refine ZL l _ ?_
  rcases h with h | h
  ·left
   by_cases hk:(p.2 == NameKind.free)=true
   ·rw[if_pos hk,List.lookup_cons]
    cases (x == p.1) with
    | true=>rfl
    | false=>exact h
   ·rw[if_neg hk];exact h
  ·rcases List.mem_cons.mp h with e | h
   ·left
    have e1:p.1=x:=by rw[← e]
    have e2:(p.2 == NameKind.free)=true:=by rw[← e];rfl
    rw[if_pos e2,List.lookup_cons,e1]
    simp
   ·exact .inr h
theorem yJ {env:Env}{x:Str}{k:NameKind}:∀ (l:List (Str×NameKind)),
  (l.map fun (n,k)=>if (k == NameKind.free && env.scope.kind == .function && env.kindOf n == some .cell) then (n,NameKind.cell) else (n,k)).lookup x=some k ->
   l.lookup x=some k∨(k=.cell/\l.lookup x=some .free)
 | [],h=>by cases h
 | (n,q) :: l,h=>by
  rw[List.map_cons] at h
  cases hx:(x == n) with
  | true =>
   rw[List.lookup_cons,hx]
   by_cases hc:(q == NameKind.free && env.scope.kind == .function && env.kindOf n == some .cell)=true
   ·simp only [hc,if_true,List.lookup_cons,hx] at h
    have e:q=.free:=by
     have:=(Bool.and_eq_true_iff.mp (Bool.and_eq_true_iff.mp hc).1).1
     simpa using this
    right
    exact⟨(Option.some.inj h).symm,by rw[e]⟩
   ·have hc':(q == NameKind.free && env.scope.kind == .function && env.kindOf n == some .cell)=false:=by simpa using hc
    simp only [hc',Bool.false_eq_true,if_false,List.lookup_cons,hx] at h
    exact .inl h
  | false =>
   rw[List.lookup_cons,hx]
   refine yJ (env:=env) l ?_
   by_cases hc:(q == NameKind.free && env.scope.kind == .function && env.kindOf n == some .cell)=true
   ·simp only [hc,if_true,List.lookup_cons,hx] at h
    exact h
   ·have hc':(q == NameKind.free && env.scope.kind == .function && env.kindOf n == some .cell)=false:=by simpa using hc
    simp only [hc',Bool.false_eq_true,if_false,List.lookup_cons,hx] at h
    exact h
structure Bk where
 C:Addr
 s₂:Shared
 aEA:Hp
 fp:List Addr
 xe:Value->Shared->Prop
def eG (X:Cx)(cn:List Str)(scope:Scope)(b:Bk):Cx where
 prog:=X.prog
 w:=X.w
 K:=X.K
 mg:=X.mg
 base:=X.base
 A:=X.A
 N:=cn++X.N
 s₀:=b.s₂
 H₀:=b.aEA
 env:=compEnvC scope (kI X.env scope.names []) b.C X.env
 outer:=X.stack
 stack:=X.stack
 ex:=b.fp
 fn:=fun _=>false
 calm:=X.calm
 pn:=[]
 xe:=b.xe
def aqh (sc:Scope)(N:List Str)(scope:Scope):Bool :=
 (scope.kind == .function) &&
 (scope.names.all fun p=>(p.2 != .cell) && ((p.2 != .free) || (sc.names.lookup p.1 == some .cell) || (sc.names.lookup p.1 == some .free)) && ((p.2 != .local) || (scope.names.lookup p.1 == some .local))) &&
 (N.all fun x=>scope.names.lookup x != some .local)
structure fW (sc:Scope)(N:List Str)(scope:Scope):Prop where
 kind:scope.kind=.function
 aqi:∀ p∈scope.names,p.2≠.cell
 free:∀ p∈scope.names,p.2=.free->sc.names.lookup p.1=some .cell∨sc.names.lookup p.1=some .free
 loc:∀ p∈scope.names,p.2=.local->scope.names.lookup p.1=some .local
 apart:∀ x∈N,scope.names.lookup x≠some .local
theorem fW.of {sc:Scope}{N:List Str}{scope:Scope}(h:aqh sc N scope=true):fW sc N scope:=by
 unfold aqh at h
 rw[Bool.and_eq_true,Bool.and_eq_true] at h
 obtain⟨⟨h1,h2⟩,h3⟩:=h
 rw[List.all_eq_true] at h2 h3
 refine⟨by simpa using h1,fun p hp=>?_,fun p hp e=>?_,fun p hp e=>?_,fun x hx=>?_⟩
 ·have:=h2 p hp
  rw[Bool.and_eq_true,Bool.and_eq_true] at this
  simpa using this.1.1
 ·have:=h2 p hp
  rw[Bool.and_eq_true,Bool.and_eq_true] at this
  have q:=this.1.2
  rw[e] at q
  rw[Bool.or_eq_true,Bool.or_eq_true] at q
  rcases q with (q | q) | q
  ·exact absurd q (by decide)
  ·exact .inl (by simpa using q)
  ·exact .inr (by simpa using q)
 ·have:=h2 p hp
  rw[Bool.and_eq_true,Bool.and_eq_true] at this
  have q:=this.2
  rw[e] at q
  rw[Bool.or_eq_true] at q
  rcases q with q | q
  ·exact absurd q (by decide)
  ·simpa using q
 ·have:=h3 x hx
  simpa using this
section
variable {X:Cx} {pins:List (Addr×Obj)} {σ:St} {H:Hp}
theorem Iu {l:List (Str×NameKind)}{x:Str}{k:NameKind}(h:l.lookup x=some k):(x,k)∈l:=PySem.mem_of_lookup h
theorem Inv.block {s₂:Shared}{h₁:Heap}{tk:Nat}{cn:List Str}{scope:Scope}{fp:List Addr}{xe:Value->Shared->Prop}{C D:Addr}{m:Str->Option Value}
  (I:Inv X pins σ H s₂) (F:fW X.env.scope X.N scope) (hc:X.calm=true) (hf:∀ b∈fp,tX X pins H b) (hfl:∀ b∈fp,b < s₂.heap.objs.size)
  (hC:s₂.heap.objs.size <= C) (hD:s₂.heap.objs.size <= D) (hDC:D≠C) (hn:h₁.Ns C m) (old:∀ b o,s₂.heap.get? b=some o->h₁.get? b=some o)
  (hacc:h₁.get? D=some { cls:=.type "list",data:=.seq ([]:List Value).toArray 0 }) :
  Inv (eG X cn scope ⟨C,s₂,H,fp,xe⟩) [] (List.replicate cn.length none++σ) (upd H D (.lst [])) { s₂ with heap:=h₁,toks:=tk }:=by
 have aeX:∀ x,((eG X cn scope ⟨C,s₂,H,fp,xe⟩).env.kindOf x=some .cell∨(eG X cn scope ⟨C,s₂,H,fp,xe⟩).env.kindOf x=some .free)->(x,NameKind.free)∈scope.names:=by
  intro x hx
  have hx':(relabel scope X.env).names.lookup x=some .cell∨(relabel scope X.env).names.lookup x=some .free:=hx
  rcases hx' with z | z
  ·rcases yJ scope.names z with z | ⟨_,z⟩
   ·exact absurd rfl (F.aqi _ (Iu z))
   ·exact Iu z
  ·rcases yJ scope.names z with z | ⟨e,_⟩
   ·exact Iu z
   ·cases e
 have amu:∀ x,(x,NameKind.free)∈scope.names->X.env.kindOf x=some .cell∨X.env.kindOf x=some .free:=fun x hx=>F.free _ hx rfl
 have Fb:∀ x c,(kI X.env scope.names []).lookup x=some c->X.env.cells.lookup x=some c:=by
  intro x c e
  rcases ad7 _ _ e with z | ⟨z,e2⟩
  ·cases z
  ·obtain⟨c',hc'⟩:=I.ok.has x (amu x z)
   rw[hc'] at e2 ⊢
   rw[e2]
   rfl
 have aBJ:(eG X cn scope ⟨C,s₂,H,fp,xe⟩).fs=frs X.stack:=rfl
 have ay7:∀ b∈fp,b ∉ frs X.stack:=by
  intro b hb z
  obtain⟨_,f1,f2,_⟩:=hf b hb
  rcases List.mem_cons.mp (I.ajK b z) with e | e
  ·exact f1 e
  ·exact f2 e
 have auZ:∀ x c,X.env.cells.lookup x=some c->c < s₂.heap.objs.size:=by
  intro x c e
  obtain⟨v,o,ho,_⟩:=I.cell x c e
  exact Heap.lt_size ho
 have ok:(eG X cn scope ⟨C,s₂,H,fp,xe⟩).Ok:=by
  refine⟨I.ok.mod,?_,I.ok.glob,I.ok.blt,hC,fun x y c h1 h2=>I.ok.inj x y c (Fb x c h1) (Fb y c h2),fun x hx=>?_,fun x c z=>?_,fun _=>I.ok.hd hc,I.ok.frames,.inl rfl,fun b hb=>⟨?_,fun x c e=>?_⟩,
   fun b o e=>I.bs b o e,Nat.le_trans I.ok.bsz I.sz,fun b o e hb=>?_,fun b hb=>?_,I.stack,I.ame⟩
  ·show (relabel scope X.env).kind=.function
   exact F.kind
  ·have:=ZL (env:=X.env) (x:=x) scope.names [] (.inr (aeX x hx))
   exact Option.isSome_iff_exists.mp this
  ·cases z
  ·exact Nat.ne_of_lt (Nat.lt_of_lt_of_le (hfl b hb) hC)
  ·exact (hf b hb).2.2.2.2.1 x c (Fb x c e)
  ·have:X.base.objs.size <= X.s₀.heap.objs.size:=I.ok.bsz
   rcases (hf b hb).2.2.2.1 with z | z
   ·exact I.ok.ajI b o e z
   ·exact absurd (Nat.lt_of_lt_of_le (Heap.lt_size e) (Nat.le_trans I.ok.bsz z)) (Nat.lt_irrefl _)
  ·exact ay7 b hb
 have hDn:H D=none:=I.hok.fresh hD
 have ay8:QS X.prog X.w (upd H D (.lst [])) h₁:=I.hok.laid old hD ⟨Nat.zero_le _,[],0,.nil,hacc⟩
 refine⟨ok,rfl,I.bare,Un.laid old hD hDn,⟨m,hn,fun i x v e1 e2 e3=>?_⟩,fun x c e=>?_,?_,fun x c e=>?_,fun p hp=>absurd (show p∈([]:List (Addr×Obj)) from hp) (by simp),ay8,?_⟩
 ·have hi:¬ i < cn.length:=by
   intro hi
   rw[List.getElem?_append_left (by simpa using hi),List.getElem?_replicate] at e2
   split at e2 <;> cases e2
  rw[List.getElem?_append_right (by simpa using hi),List.length_replicate] at e2
  have e1':(cn++X.N)[i]? = some x:=e1
  rw[List.getElem?_append_right (by omega)] at e1'
  obtain⟨m0,hm0,hl⟩:=I.loc
  have hxN:x∈X.N:=List.mem_of_getElem? e1'
  have hfr:(x,NameKind.free)∈scope.names:=by
   have e3':(relabel scope X.env).names.lookup x=some .local∨(relabel scope X.env).names.lookup x=some .cell∨(relabel scope X.env).names.lookup x=some .free:=e3
   rcases e3' with z | z | z
   ·rcases yJ scope.names z with z | ⟨e,_⟩
    ·exact absurd z (F.apart x hxN)
    ·cases e
   ·exact aeX x (.inl z)
   ·exact aeX x (.inr z)
  have hk:=amu x hfr
  have vis:Vis X.env.scope x:=by
   rcases hk with z | z
   ·exact .inr (.inl z)
   ·exact .inr (.inr z)
  obtain⟨u,r,lk⟩:=hl (i - cn.length) x v e1' e2 vis
  refine⟨u,r,?_⟩
  rcases lk with ⟨z,_⟩ | ⟨_,c,ec,z⟩
  ·rcases hk with q | q
   ·rw[z] at q;cases q
   ·rw[z] at q;cases q
  ·have hcl:(kI X.env scope.names []).lookup x=some c:=by
    obtain⟨c',e'⟩:=Option.isSome_iff_exists.mp (ZL (env:=X.env) (x:=x) scope.names [] (.inr hfr))
    rw[e']
    have:=Fb x c' e'
    rw[ec] at this
    exact this.symm
   refine .inr ⟨?_,c,hcl,?_⟩
   ·have e3':(relabel scope X.env).names.lookup x=some .local∨(relabel scope X.env).names.lookup x=some .cell∨(relabel scope X.env).names.lookup x=some .free:=e3
    rcases e3' with y | y | y
    ·rcases yJ scope.names y with y | ⟨e,_⟩
     ·exact absurd y (F.apart x hxN)
     ·cases e
    ·exact .inl y
    ·exact .inr y
   ·obtain⟨o,ho,hd⟩:=z
    exact⟨o,old c o ho,hd⟩
 ·obtain⟨v,o,ho,hd⟩:=I.cell x c (Fb x c e)
  exact⟨v,o,old c o ho,hd⟩
 ·show upd H D (.lst []) C=none
  rw[aA (Ne.symm hDC)]
  exact I.hok.fresh hC
 ·rw[aA (Nat.ne_of_lt (Nat.lt_of_lt_of_le (auZ x c (Fb x c e)) hD))]
  exact I.HB x c (Fb x c e)
 ·show (List.replicate cn.length none++σ).length=(cn++X.N).length
  rw[List.length_append,List.length_replicate,List.length_append,I.len]
theorem Inv.amv {s₂ s':Shared}{h':Heap}{cn:List Str}{scope:Scope}{fp:List Addr}{xe:Value->Shared->Prop}{C:Addr}{H':Hp}{σ':St}{pl:List (Addr×Obj)}
  (I:Inv X pins σ H s₂) (hf:∀ b∈fp,tX X pins H b) (hC:s₂.heap.objs.size <= C) (J:Inv (eG X cn scope ⟨C,s₂,H,fp,xe⟩) pl σ' H' s') (sb:Heap.SameBut C s'.heap h') :
  Inv X pins σ H' { s' with heap:=h' }:=by
 have neC:∀ b o,s₂.heap.get? b=some o->b≠C:=fun b o e=>Nat.ne_of_lt (Nat.lt_of_lt_of_le (Heap.lt_size e) hC)
 have u:Un (frs X.stack) fp H H' s₂.heap s'.heap:=J.base
 have un:Un (frs X.stack) fp H H' s₂.heap h' :=
  ⟨fun b o e n hb hx=>(sb.2 b (neC b o e)).trans (u.keep b o e n hb hx),
   fun b o e n hb hx=>by
   obtain⟨sl,q⟩:=u.slot b o e n hb hx
   exact⟨sl,(sb.2 b (neC b o e)).trans q⟩,
   u.free,fun b o e hx=>by
   obtain⟨o',q⟩:=u.there b o e hx
   exact⟨o',(sb.2 b (neC b o e)).trans q⟩,u.tups,u.acR,u.aeQ⟩
 have fC:H' C=none:=J.free
 have hok:QS X.prog X.w H' h':=fun b o e=>by
  refine (J.hok b o e).stay (fun c v hc q=>(sb.2 c ?_).trans q) (fun _ q=>q) fun _ _ q=>q
  rintro rfl
  rcases hc with z | z
  ·rw[← z,fC] at e;cases e
  ·rw[fC] at z;cases z
 have os:s'.os=s₂.os:=J.os
 refine I.call' (s':={ s' with heap:=h' }) os un hok J.bare fun b hb=>?_
 obtain⟨_,f1,_,f3,f4,f5⟩:=hf b hb
 exact⟨f3,f1,f4,f5⟩
end
end L2
set_option maxHeartbeats 4000000
namespace L2
open PySem PySem.Spec PyProof.Rows
theorem anp {prog:Program}{w:World}{A:Around}{R:Result->Shared->Prop}{s:Shared}{elt tg iter:Expr}{ifs:List Expr}{scope:Scope}{pos:Pos}{it acc:Value}{env:Env}(J:Nat->Shared->Prop)
  (turn:∀ n s,J n s->wpAny (model prog w) A (pyNext it) (fun r s₁=>(r=none/\R (.ok .next) s₁) ∨ ∃ v,r=some v /\
   wpAny (model prog w) A (letOwnedTupleGo tg it v) (fun _ s₂=>wpAny (model prog w) A (assign tg env v) (fun _ s₃ =>
    wpAny (model prog w) A (forIn ifs true fun c r=>if r=true then do let ok ← isTrue c env (eval c env);pure (ForInStep.yield ok) else pure (ForInStep.yield r)) (fun ok s₄ =>
     if ok=true then wpAny (model prog w) A (eval elt env) (fun x s₅=>wpAny (model prog w) A (call (.builtin "list.append") [acc,x]) (fun _ s₆=>∃ m,m < n/\J m s₆) (notedBy (model prog w) A env fun e s'=>R (.error e) s') s₅)
      (notedBy (model prog w) A env fun e s'=>R (.error e) s') s₄
     else ∃ m,m < n/\J m s₄) (notedBy (model prog w) A env fun e s'=>R (.error e) s') s₃) (notedBy (model prog w) A env fun e s'=>R (.error e) s') s₂) (notedBy (model prog w) A env fun e s'=>R (.error e) s') s₁)
   (notedBy (model prog w) A env fun e s'=>R (.error e) s') s)
  (n:Nat) (h:J n s):codeAny (model prog w) A (.compLoop (.ListComp elt [⟨tg,iter,ifs,0⟩] scope pos) 0 it acc env) R s:=by
 refine codeAny_loop rfl J (fun n s hJ=>?_) n h
 refine wpAny_noted (A:=A) (m:=compTurn (.ListComp elt [⟨tg,iter,ifs,0⟩] scope pos) 0 it acc env) (env:=env) ?_
 rw[compTurn_list]
 refine wpAny_bind (wpAny_standAt (wpAny_bind (eX (turn n s hJ) fun r s₁ h₁=>?_)))
 rcases h₁ with ⟨e,h₁⟩ | ⟨v,e,h₁⟩
 ·subst e
  exact wpAny_pure h₁
 ·subst e
  refine wpAny_bind (eX h₁ fun _ s₂ h₂=>wpAny_bind (eX h₂ fun _ s₃ h₃=>wpAny_bind (eX h₃ fun ok s₄ h₄=>?_)))
  cases ok with
  | false=>exact wpAny_pure ⟨rfl,h₄⟩
  | true=>exact wpAny_bind (wpAny_bind (eX h₄ fun x s₅ h₅=>wpAny_bind (eX h₅ fun _ s₆ h₆=>wpAny_pure (wpAny_pure ⟨rfl,h₆⟩))))
def PF (X:Cx)(ifs:List Expr)(t:TT):Prop :=
 ∀ (pins:List (Addr×Obj)) (s:Shared) (σ:St) (H:Hp) (Q:Bool->Hp->Prop),Inv X pins σ H s->t σ H Q ->
  wpAny (model X.prog X.w) X.A (forIn ifs true fun c r=>if r=true then do let ok ← isTrue c X.env (eval c X.env);pure (ForInStep.yield ok) else pure (ForInStep.yield r)) (TP X pins σ Q) X.xe s
def au0:TT:=fun _ H Q=>Q true H
theorem yK {X:Cx}:PF X [] au0:=by
 intro pins s σ H Q I h
 rw[List.forIn_nil]
 exact wpAny_pure ⟨H,I,h⟩
theorem au1 {X:Cx}{c:Expr}{t:TT}(hc:PT X c t):PF X [c] t:=by
 intro pins s σ H Q I h
 rw[List.forIn_cons]
 refine wpAny_bind ?_
 rw[if_pos rfl]
 refine wpAny_bind (eX (hc pins s σ H Q I h) fun ok s1 q=>wpAny_pure ?_)
 show wpAny _ _ (forIn [] ok _) _ _ _
 rw[List.forIn_nil]
 exact wpAny_pure q
def aj1 (X:Cx)(C:Addr)(e:Value)(s':Shared):Prop :=
 ∃ m,s'.heap.Ns C m/\∀ h',Heap.SameBut C s'.heap h'->∀ cenv:Env,cenv.locals=C->wpAny (model X.prog X.w) X.A (passOn "comprehension.variables-let-go" e cenv:Sem Value) (fun _ _=>False) X.xe { s' with heap:=h' }
def Dq (X:Cx)(scope:Scope)(C:Addr):Value->Shared->Prop :=
 notedBy (model X.prog X.w) X.A (compEnvC scope (kI X.env scope.names []) C X.env) (aj1 X C)
def aqj (n:Nat)(wi:TI)(g:Bk->TG)(tc:Bk->TT)(te:Bk->TE):TE:=fun σ H Q=>wi σ H fun J H1=>∀ (D:Addr) (b:Bk),H1 D=none->∃ W:Nat->Nat->List V->St->Hp->Prop,
 (∃ m,W 0 m [] (List.replicate n none++σ) (upd H1 D (.lst [])))/\∀ i m ys σ H,W i m ys σ H ->
  (J.stop i H/\Q (.ref D) H)∨(J.go i H/\∀ x H',J.yld i H x H'->g b x σ H' fun σ2 H2=>tc b σ2 H2 fun ok H3 =>
   if ok=true then te b σ2 H3 fun y H4=>H4 D=some (.lst ys)/\ys.length < sizeLine/\∃ m',m' < m/\W (i+1) m' (ys++[y]) σ2 (upd H4 D (.lst (ys++[y])))
   else ∃ m',m' < m/\W (i+1) m' ys σ2 H3)
section
variable {X:Cx} {tg iter elt:Expr} {ifs:List Expr} {scope:Scope} {pos:Pos} {cn:List Str} {wi:TI} {g:Bk->TG} {tc:Bk->TT} {te:Bk->TE} {TH:Bk->Prop}
theorem aic {pins:List (Addr×Obj)}{σ:St}{H:Hp}{s₂:Shared}{it:Addr}{fp:List Addr}{tn:Nat->Heap->Prop}{J:It}{RR:Value->Addr->Result->Shared->Prop}{QQ:Addr->Hp->Prop}{EE:Value->Shared->Prop}
  (hcalm:X.calm=true) (F:fW X.env.scope X.N scope) (hg:∀ b,TH b->PG (eG X cn scope b) tg (g b)) (ht:∀ b,TH b->PF (eG X cn scope b) ifs (tc b)) (he:∀ b,TH b->PE (eG X cn scope b) elt (te b))
  (hTH:∀ C,s₂.heap.objs.size <= C->TH ⟨C,s₂,H,fp,Dq X scope C⟩)
  (I:Inv X pins σ H s₂) (T:Turn X.prog X.w X.K tg J fp it tn) (st:tn 0 s₂.heap) (hf:∀ b∈fp,tX X pins H b)
  (h:∀ (D:Addr) (b:Bk),H D=none->∃ W:Nat->Nat->List V->St->Hp->Prop,(∃ m,W 0 m [] (List.replicate cn.length none++σ) (upd H D (.lst [])))/\∀ i m ys σ H,W i m ys σ H ->
   (J.stop i H/\QQ D H)∨(J.go i H/\∀ x H',J.yld i H x H'->g b x σ H' fun σ2 H2=>tc b σ2 H2 fun ok H3 =>
    if ok=true then te b σ2 H3 fun y H4=>H4 D=some (.lst ys)/\ys.length < sizeLine/\∃ m',m' < m/\W (i+1) m' (ys++[y]) σ2 (upd H4 D (.lst (ys++[y])))
    else ∃ m',m' < m/\W (i+1) m' ys σ2 H3))
  (hR:∀ C D σ' H' s',s₂.heap.objs.size <= C->Inv (eG X cn scope ⟨C,s₂,H,fp,Dq X scope C⟩) [] σ' H' s'->QQ D H'->RR (.ref D) C (.ok .next) s')
  (hE:∀ C D e s',aj1 X C e s'->RR (.ref D) C (.error e) s') :
  wpAny (model X.prog X.w) X.A (newList []) (fun acc s₃=>wpAny (model X.prog X.w) X.A (newFunctionEnv scope X.env.globals (kI X.env scope.names []) [] X.env.qual none .none (some X.env)) (fun cenv s₄ =>
   codeAny (model X.prog X.w) X.A (.compStart (.ListComp elt [⟨tg,iter,ifs,0⟩] scope pos) 0 (.ref it) acc { cenv with scope:=relabel scope X.env }) (RR acc cenv.locals) s₄) EE s₃) EE s₂:=by
 refine wpAny_newObj_type (wpAny_newFunctionEnv F.aqi (by intro y hy;simp at hy) (fun h₁ hns₁ hsb₁=>?_) F.kind)
 dsimp only at hns₁ hsb₁ ⊢
 generalize hH2:s₂.heap.push { cls:=.type "list",dict:=none,data:=.seq ([]:List Value).toArray } = H2 at hns₁ hsb₁ ⊢
 have hC:H2.objs.size=s₂.heap.objs.size+1:=by rw[← hH2,Heap.size_push]
 have hDC:s₂.heap.objs.size≠H2.objs.size:=by omega
 have hCle:s₂.heap.objs.size <= H2.objs.size:=by omega
 have hfl:∀ b∈fp,b < s₂.heap.objs.size:=fun b hb=>by
  obtain⟨o,e,_⟩:=T.obj 0 _ st b hb
  exact Heap.lt_size e
 have aza:∀ b o,s₂.heap.get? b=some o->H2.get? b=some o:=fun b o e=>hH2 ▸ Heap.get?_push_of_some _ e
 have old:∀ b o,s₂.heap.get? b=some o->h₁.get? b=some o:=fun b o e=>by
  have hb:=Heap.lt_size e
  refine hsb₁.extBut b o (Nat.ne_of_lt (Nat.lt_of_lt_of_le hb hCle)) (Heap.get?_push_of_some _ (aza b o e))
 have hacc:h₁.get? s₂.heap.objs.size=some { cls:=.type "list",data:=.seq ([]:List Value).toArray 0 } :=
  hsb₁.extBut _ _ hDC (Heap.get?_push_of_some _ (hH2 ▸ Heap.get?_push_size _ rfl))
 have I0:=Inv.block (cn:=cn) (xe:=Dq X scope H2.objs.size) (tk:=s₂.toks+([]:List (Str×Value)).length) I F hcalm hf hfl hCle (Nat.le_refl _) hDC hns₁ old hacc
 have th:=hTH _ hCle
 obtain⟨W,⟨m0,w0⟩,turn⟩:=h s₂.heap.objs.size ⟨H2.objs.size,s₂,H,fp,Dq X scope H2.objs.size⟩ (I.hok.fresh (Nat.le_refl _))
 have fpx:∀ {H':Hp},(∀ b∈fp,H' b=none)->∀ b∈fp,tX (eG X cn scope ⟨H2.objs.size,s₂,H,fp,Dq X scope H2.objs.size⟩) [] H' b:=fun {H'} hn b hb=>by
  refine⟨hn b hb,(I0.ok.exf b hb).1,I0.ok.ajJ b hb,.inl hb,(I0.ok.exf b hb).2,fun p hp=>absurd (show p∈([]:List (Addr×Obj)) from hp) (by simp)⟩
 have aud:(eG X cn scope ⟨H2.objs.size,s₂,H,fp,Dq X scope H2.objs.size⟩).calm=true:=hcalm
 have loop:∀ s₃:Shared,s₃ = { s₂ with heap:=h₁,toks:=s₂.toks+([]:List (Str×Value)).length } ->
   codeAny (model X.prog X.w) X.A (.compLoop (.ListComp elt [⟨tg,iter,ifs,0⟩] scope pos) 0 (.ref it) (.ref s₂.heap.objs.size) (compEnvC scope (kI X.env scope.names []) H2.objs.size X.env))
    (RR (.ref s₂.heap.objs.size) H2.objs.size) s₃:=by
  rintro s₃ rfl
  have toE:∀ e s',(eG X cn scope ⟨H2.objs.size,s₂,H,fp,Dq X scope H2.objs.size⟩).xe e s' ->
    notedBy (model X.prog X.w) X.A (compEnvC scope (kI X.env scope.names []) H2.objs.size X.env) (fun e s'=>RR (.ref s₂.heap.objs.size) H2.objs.size (.error e) s') e s':=fun e s' z =>
   wpAny_mono (show notedBy (model X.prog X.w) X.A (compEnvC scope (kI X.env scope.names []) H2.objs.size X.env) (aj1 X H2.objs.size) e s' from z) (fun _ _ q=>hE _ _ _ _ q) fun _ _ q=>hE _ _ _ _ q
  refine anp (env:=compEnvC scope (kI X.env scope.names []) H2.objs.size X.env)
   (fun n s'=>∃ i ys σ' H',Inv (eG X cn scope ⟨H2.objs.size,s₂,H,fp,Dq X scope H2.objs.size⟩) [] σ' H' s'/\tn i s'.heap/\(∀ b∈fp,H' b=none)/\W i n ys σ' H') ?_ m0
   ⟨0,[],_,_,I0,T.keep _ _ _ st fun b _ o e=>old b o e,fun b hb=>?_,w0⟩
  ·rintro n s' ⟨i,ys,σ',H',I',st',fr',w'⟩
   rcases turn i n ys σ' H' w' with ⟨stop,qn⟩ | ⟨go,step⟩
   ·refine wpAny_mono (T.done (eG X cn scope ⟨H2.objs.size,s₂,H,fp,Dq X scope H2.objs.size⟩) rfl rfl rfl aud i [] s' σ' H' (fun _ _=>False) I' (fpx fr') st' stop) (fun r s4 ⟨hr,I4⟩=>?_) fun _ _ z=>z.elim
    exact .inl ⟨hr,hR _ _ _ _ _ hCle I4 qn⟩
   ·refine wpAny_mono (T.item (eG X cn scope ⟨H2.objs.size,s₂,H,fp,Dq X scope H2.objs.size⟩) rfl rfl rfl aud i [] s' σ' H' (fun _ _=>False) I' (fpx fr') st' go) (fun r s4 ⟨u,hr,h4⟩=>?_) fun _ _ z=>z.elim
    refine .inr ⟨u,hr,wpAny_mono h4 (fun _ s5 ⟨x,H5,I5,r5,y5,st5,fr5⟩=>?_) fun _ _ z=>z.elim⟩
    have I5':=I5.pinned (fpx fr5) (T.obj _ _ st5)
    refine wpAny_mono (hg _ th _ s5 σ' H5 x u _ I5' r5 (step x H5 y5)) (fun _ s6 ⟨σ6,H6,I6,q6⟩=>?_) toE
    refine wpAny_mono (ht _ th _ s6 σ6 H6 _ I6 q6) (fun ok s7 ⟨H7,I7,q7⟩=>?_) toE
    have back:∀ {σ8:St} {H8:Hp} {s8:Shared},Inv (eG X cn scope ⟨H2.objs.size,s₂,H,fp,Dq X scope H2.objs.size⟩) ([]++ZD fp s5.heap) σ8 H8 s8->tn (i+1) s8.heap/\∀ b∈fp,H8 b=none:=fun {σ8 H8 s8} I8=>by
     refine⟨T.keep _ _ _ st5 fun b hb o e=>(I8.pin (b,o) (List.mem_append_right _ (List.mem_append_right _ (EY hb e)))).1,fun b hb=>?_⟩
     obtain⟨o,e,d⟩:=T.obj _ _ st5 b hb
     exact (I8.pin (b,o) (List.mem_append_right _ (List.mem_append_right _ (EY hb e)))).2.1
    cases ok with
    | false =>
     rw[if_neg Bool.false_ne_true] at q7 ⊢
     obtain⟨m',hm,w7⟩:=q7
     obtain⟨t8,f8⟩:=back I7
     exact⟨m',hm,i+1,ys,σ6,H7,I7.Ik,t8,f8,w7⟩
    | true =>
     rw[if_pos rfl] at q7 ⊢
     refine wpAny_mono (he _ th _ s7 σ6 H7 _ I7 q7) (fun v s8 ⟨y,H8,I8,r8,hl,hz,m',hm,w8⟩=>?_) toE
     refine wpAny_mono (bK (X:=eG X cn scope ⟨H2.objs.size,s₂,H,fp,Dq X scope H2.objs.size⟩) _ s8 σ6 H8 (.ref s₂.heap.objs.size) [y] (.ref s₂.heap.objs.size) [v] (fun _ H9=>W (i+1) m' (ys++[y]) σ6 H9) I8 rfl (.cons r8 .nil) ⟨_,ys,y,rfl,rfl,hl,hz,w8⟩)
      (fun _ s9 ⟨_,H9,I9,_,w9⟩=>?_) toE
     obtain⟨t9,f9⟩:=back I9
     exact⟨m',hm,i+1,_,σ6,H9,I9.Ik,t9,f9,w9⟩
  ·rw[aA (Nat.ne_of_lt (hfl b hb))]
   exact (hf b hb).1
 exact codeAny_compStart_list (loop _ rfl) (T.self _ 0 _ _ _ (T.keep _ _ _ st fun b _ o e=>old b o e) (loop _ rfl))
theorem aqk (hcalm:X.calm=true)(F:fW X.env.scope X.N scope)(hi:PI X tg iter wi)(hg:∀ b,TH b->PG (eG X cn scope b) tg (g b))(ht:∀ b,TH b->PF (eG X cn scope b) ifs (tc b))
  (he:∀ b,TH b->PE (eG X cn scope b) elt (te b))
  (hTH:∀ pins σ H s₂ fp C,Inv X pins σ H s₂->(∀ b∈fp,tX X pins H b)->s₂.heap.objs.size <= C->TH ⟨C,s₂,H,fp,Dq X scope C⟩)
  (hs:∀ x,foldedSetIterable iter X.env x=pure x:=by intro _;rfl):PE X (.ListComp elt [⟨tg,iter,ifs,0⟩] scope pos) (aqj cn.length wi g tc te):=by
 intro pins s σ H Q I h
 rw[eval_ListComp]
 have hcl:closureFor scope X.env=pure (kI X.env scope.names []):=amt fun p hp e=>I.ok.has p.1 (F.free p hp e)
 refine wpAny_comprehension_free (use:=none) rfl hs hcl F.kind F.loc (eX (hi pins s σ H _ I h) fun xv s₁ h₁=>eX h₁ fun itv s₂ h₂=>?_)
 obtain⟨it,fp,tn,J,H2,rfl,I2,T,st,f2,R⟩:=h₂
 refine aic (QQ:=fun D H'=>Q (.ref D) H') (RR:=fun acc C=>compPost (model X.prog X.w) X.A X.xe none (EP X pins σ Q) acc C) hcalm F hg ht he (fun C hC=>hTH pins σ H2 s₂ fp C I2 f2 hC) I2 T st f2 R ?_ ?_
 ·intro C D σ' H' s' hC I' q
  obtain⟨m,hm,_⟩:=I'.loc
  exact⟨m,hm,fun h' sb=>⟨.ref D,H',I2.amv f2 hC I' sb,rfl,q⟩⟩
 ·intro C D e s' z
  exact z
theorem vC (hcalm:X.calm=true)(F:fW X.env.scope X.N scope)(hi:PI X tg iter wi)(hg:∀ b,PG (eG X cn scope b) tg (g b))(ht:∀ b,PF (eG X cn scope b) ifs (tc b))(he:∀ b,PE (eG X cn scope b) elt (te b))
  (hs:∀ x,foldedSetIterable iter X.env x=pure x:=by intro _;rfl):PE X (.ListComp elt [⟨tg,iter,ifs,0⟩] scope pos) (aqj cn.length wi g tc te) :=
 aqk (TH:=fun _=>True) hcalm F hi (fun b _=>hg b) (fun b _=>ht b) (fun b _=>he b) (fun _ _ _ _ _ _ _ _ _=>trivial) hs
end
end L2
set_option maxHeartbeats 4000000
namespace L2
open PySem PySem.Spec PyProof.Rows
section
variable {X:Cx} {e:Expr} {es:List Expr} {te:TE} {pos:Pos}
abbrev TP1:=St->Hp->(Str->Hp->Prop)->Prop
abbrev TPs:=Str->St->Hp->(Str->Hp->Prop)->Prop
theorem j0:qI X (.type "int") (fun xs H Q=>∃ z n,xs=[.str z]/\PySem.intText? z=some n/\z.length <= 640/\Q (.int n) H):=by
 intro pins s σ H xs us Q I r h
 obtain⟨z,n,rfl,hn,hl,q⟩:=h
 obtain⟨u,rfl,t,rfl⟩:=r.one
 exact PySem.W.KIN.call_text hn hl ⟨.int n,H,I.tok _,⟨_,rfl⟩,q⟩
def azc:V->Option Int->Option Int->Hp->VK->Prop:=fun x lo hi H Q=>∃ z,x=.str z/\z.length <= sizeLine/\Q (.str (Txt.slice z lo hi)) H
theorem ad8 {v:Value}{o:Option Int}(p:IsPart v o):∃ l:Option (Int×Tok),v=partValue l/\l.map (·.1)=o:=by
 cases p with
 | none=>exact⟨none,rfl,rfl⟩
 | int i t=>exact⟨some (i,t),rfl,rfl⟩
theorem BZ:SlR X azc:=by
 intro pins s σ H x v vl vu lo hi sl Q I rx hs pl pu h
 obtain⟨z,rfl,hz,q⟩:=h
 obtain⟨t,rfl⟩:=rx
 obtain⟨l,rfl,el⟩:=ad8 pl
 obtain⟨u,rfl,eu⟩:=ad8 pu
 subst el eu
 refine⟨"str",_,F.slot_str_getitem.lookup,typeIs_str _ _ _,?_⟩
 obtain⟨o,ho,hc,hd⟩:=hs
 refine wpAny_getItem_str_slice (l:=l) (u:=u) (st:=none) ⟨o,ho,hc,hd⟩ rfl ?_
 exact post_val_or_str ⟨Nat.le_trans (Txt.slice_le z _ _) hz,fun t' k=>⟨.str _,H,I.tok _,⟨t',rfl⟩,q⟩⟩
def Its (z:Str):It:=⟨fun i _=>i < z.cps.size,fun i H x H'=>H'=H/\∃ c,z.cps[i]? = some c/\x=.str ⟨#[c]⟩,fun i _=>z.cps.size <= i⟩
def aze (tl:TE):TI:=fun σ H R=>tl σ H fun x H1=>∃ z,x=.str z/\R (Its z) H1
theorem aid {P:Program}{w:World}{K:Frag}{tg:Expr}{z:Str}{it:Addr}{T:String}{t:Tok}(hT:["enumerate","zip","dict_itemiterator","dict_reverseitemiterator","odict_iterator","itertools.zip_longest","itertools.pairwise"].contains T=false)
  (W:∀ A:Around,A.handled=none->Walks P w A it [it] [it] z.cps.size (SignAt z) (fun i h=>h.IsStrIter it T z t i)) 
  (S:∀ (A:Around) (i:Nat) (s:Shared) (Q:Value->Shared->Prop) (E:Value->Shared->Prop),s.heap.IsStrIter it T z t i->Q (.ref it) s->wpAny (model P w) A (pyIter (.ref it)) Q E s) :
  Turn P w K tg (Its z) [it] it (fun i h=>h.IsStrIter it T z t i/\i <= z.cps.size) where
 mem:=by simp
 obj:=fun i h st b hb=>by
  have e:b=it:=by simpa using hb
  subst e
  obtain⟨⟨o,e,c,d⟩,_⟩:=st
  exact⟨o,e,fun v q=>by rw[d] at q;cases q⟩
 keep:=fun i h h' st k=>⟨by
  obtain⟨⟨o,e,c,d⟩,_⟩:=st
  exact⟨o,k it (by simp) o e,c,d⟩,st.2⟩
 item:=by
  intro X hP hw hK hc i pins s σ H E I hf st hg
  subst hP hw hK
  obtain⟨f0,f1,f2,f3,f4,f5⟩:=hf it (by simp)
  have hgi:i < z.cps.size:=hg
  refine (W X.A (I.ok.hd hc)).item i s _ _ hgi st.1 fun v h' tk hv st' kk=>?_
  obtain⟨c,u,hc',rfl⟩:=hv
  have I1:Inv X pins σ H { s with heap:=h',toks:=tk }:=I.turned (fun b o hb e=>kk b o (by simpa using hb) e) f0 f1 f3 f4 f5
  obtain⟨o,e,cc,d⟩:=id st'
  exact⟨_,rfl,amg (s:={ s with heap:=h',toks:=tk }) e cc d hT ⟨.str ⟨#[c]⟩,H,I1,⟨u,rfl⟩,⟨rfl,c,hc',rfl⟩,⟨st',hgi⟩,fun b hb=>(hf b hb).1⟩⟩
 done:=by
  intro X hP hw hK hc i pins s σ H E I hf st hg
  subst hP hw hK
  obtain⟨f0,f1,f2,f3,f4,f5⟩:=hf it (by simp)
  have hge:z.cps.size <= i:=hg
  have e:i=z.cps.size:=Nat.le_antisymm st.2 hge
  subst e
  exact (W X.A (I.ok.hd hc)).done s _ _ st.1 fun h' tk kk=>⟨rfl,I.turned (fun b o hb e=>kk b o (by simpa using hb) e) f0 f1 f3 f4 f5⟩
 self:=fun A i s Q E st h=>S A i s Q E st.1 h
theorem au2 {tg l:Expr}{tl:TE}(hl:PE X l tl):PI X tg l (aze tl):=by
 intro pins s σ H R I h
 refine eX (hl pins s σ H _ I h) fun v s1 ⟨x,H1,I1,r1,q1⟩=>?_
 obtain⟨z,rfl,q⟩:=q1
 obtain⟨t,rfl⟩:=r1
 have fp:∀ b∈[s1.heap.objs.size],tX X pins H1 b:=fun b hb=>by
  have e:b=s1.heap.objs.size:=by simpa using hb
  subst e
  exact I1.acS (Nat.le_refl _) (I1.hok.fresh (Nat.le_refl _))
 cases ha:z.cps.all (· < 128)
 ·refine wpAny_pyIter_wide ha ?_
  refine⟨s1.heap.objs.size,[s1.heap.objs.size],_,_,H1,rfl,I1.kept (t':=s1.toks) fun b o e=>Heap.get?_push_of_some _ e,aid (T:="str_iterator") (t:=t) (by decide) (fun A hA=>Walks.strWide hA _ z t)
   (fun A i s Q E st hq=>wpAny_pyIter_striter_wide st hq),⟨⟨_,Heap.get?_push_size _ rfl,rfl,rfl⟩,Nat.zero_le _⟩,fp,q⟩
 ·refine wpAny_pyIter_ascii ha ?_
  refine⟨s1.heap.objs.size,[s1.heap.objs.size],_,_,H1,rfl,I1.kept (t':=s1.toks) fun b o e=>Heap.get?_push_of_some _ e,aid (T:="str_ascii_iterator") (t:=t) (by decide) (fun A hA=>Walks.strAscii hA _ z t)
   (fun A i s Q E st hq=>wpAny_pyIter_striter_ascii st hq),⟨⟨_,Heap.get?_push_size _ rfl,rfl,rfl⟩,Nat.zero_le _⟩,fp,q⟩
theorem any_range:∀ bs:List Bool,(List.range bs.length).any (fun i=>bs.getD i false)=bs.any id
 | []=>rfl
 | b :: bs=>by
  rw[List.length_cons,List.range_succ_eq_map,List.any_cons,List.any_map,List.any_cons]
  have:((fun i=>(b :: bs).getD i false) ∘ Nat.succ)=fun i=>bs.getD i false:=by
   funext i
   rfl
  rw[this,any_range bs]
  rfl
theorem aql:qI X (.builtin "any") (fun xs H Q=>X.calm=true/\∃ (a:Addr) (bs:List Bool),xs=[.ref a]/\bu X.K H a (bs.map V.bl)/\Q (.bl (bs.any id)) H):=by
 intro pins s σ H xs us Q I r h
 obtain⟨hc,a,bs,rfl,hq,q⟩:=h
 obtain⟨u,rfl,rfl⟩:=r.one
 obtain⟨its,rv,p,hz⟩:=I.list hq
 have hl:=rv.length
 rw[List.length_map] at hl
 have au3:∀ (i:Nat) (v:Value),its.toArray[i]? = some v->v=Value.bool (bs.getD i false):=by
  intro i v hv
  have hv':its[i]? = some v:=by simpa using hv
  have hi:i < its.length:=(List.getElem?_eq_some_iff.mp hv').1
  have hb:i < bs.length:=by omega
  obtain⟨u,hu,ru⟩:=rv.get (i:=i) (x:=.bl (bs[i])) (by rw[List.getElem?_map,List.getElem?_eq_getElem hb];rfl)
  rw[hv'] at hu;cases hu
  have:v=.bool bs[i]:=ru
  rw[this,List.getD_eq_getElem?_getD,List.getElem?_eq_getElem hb]
  rfl
 refine call_any_walk (wpAny_pyIter_list p.isList ?_)
 have ane:a≠s.heap.objs.size:=by
  obtain⟨o,ho,_⟩:=p.isList
  exact Nat.ne_of_lt (Heap.lt_size ho)
 have hd:X.A.in1.handled=none:=I.ok.hd hc
 refine⟨s.heap.objs.size,_,_,_,_,_,fun i=>bs.getD i false,rfl,Walks.list hd s.heap.objs.size a ane its.toArray,⟨⟨_,Heap.get?_push_size _ rfl,rfl,rfl⟩,p.isList.push _⟩,?_,?_⟩
 ·intro i v s' Q' E' hP hQ'
  rw[au3 i v hP]
  exact wpAny_truthy_bool hQ'
 ·intro h' tk kk
  have e:(List.range its.toArray.size).any (fun i=>bs.getD i false)=bs.any id:=by
   rw[List.size_toArray,← hl]
   exact any_range bs
  rw[e]
  refine⟨.bl _,H,I.kept (t':=tk) fun b o e=>kk b o (fun z=>?_) (Heap.get?_push_of_some _ e),rfl,q⟩
  have:b=s.heap.objs.size:=by simpa using z
  exact absurd (Heap.lt_size e) (by rw[this];exact Nat.lt_irrefl _)
end
end L2
set_option maxHeartbeats 4000000
namespace L2
open PySem PySem.Spec PyProof.Rows PySem.SeqAt
inductive Deq (K:Frag)(H:Hp):Nat->V->V->Prop where
 | flat {n:Nat} {x:V} (f:HD x=true):Deq K H n x x
 | tup {n:Nat} {a b:Addr} {xs ys:List V} (ha:pP K H a xs) (hb:pP K H b ys) (hl:xs.length=ys.length) (h:∀ (i:Nat) x y,xs[i]? = some x->ys[i]? = some y->Deq K H n x y):Deq K H (n+1) (.ref a) (.ref b)
 | lst {n:Nat} {a b:Addr} {xs ys:List V} (ha:bu K H a xs) (hb:bu K H b ys) (hl:xs.length=ys.length) (h:∀ (i:Nat) x y,xs[i]? = some x->ys[i]? = some y->Deq K H n x y):Deq K H (n+1) (.ref a) (.ref b)
section
variable {X:Cx} {pins:List (Addr×Obj)} {σ:St} {H:Hp} {s:Shared}
theorem aqn:∀ {x:V},HD x=true->eqV x x=true:=by
 intro x f
 cases x <;> first | (simp[eqV];done) | (cases f)
theorem Iv (n:Nat):(List.range n).all (fun _=>true)=true:=by simp
theorem Deq.at {n:Nat}{x y:V}(d:Deq X.K H n x y)(I:Inv X pins σ H s):∀ {A:Around} {u v:Value},A.units+n < cLine->RelV x u->RelV y v ->
  EqAt A s u v true/\(∀ a b,x=.ref a->y=.ref b->RcAt A s u v true/\RcNeAt A s u v false):=by
 induction d with
 | @flat n x f =>
  intro A u v hu ru rv
  refine⟨?_,fun a b e _=>?_⟩
  ·have:=ap9 (A:=A) (s:=s) ru rv f f
   rw[aqn f] at this
   exact this
  ·subst e;cases f
 | @tup n a b xs ys ha hb hl h ih =>
  intro A u v hu ru rv
  cases ru
  cases rv
  obtain⟨its,r,p,_⟩:=I.tuple ha
  obtain⟨its',r',p',_⟩:=I.tuple hb
  have e1:=r.length
  have e2:=r'.length
  have he:∀ j (h1:j < its.toArray.size) (h2:j < its'.toArray.size),EqAt A.in1 s its.toArray[j] its'.toArray[j] true:=by
   intro j h1 h2
   have h1':j < its.length:=by simpa using h1
   have h2':j < its'.length:=by simpa using h2
   have g1:xs[j]? = some xs[j]:=List.getElem?_eq_getElem (by omega)
   have g2:ys[j]? = some ys[j]:=List.getElem?_eq_getElem (by omega)
   obtain⟨u1,q1,k1⟩:=r.get g1
   obtain⟨u2,q2,k2⟩:=r'.get g2
   have z1:its.toArray[j]=u1:=by
    rw[List.getElem?_eq_getElem h1'] at q1
    simpa using q1
   have z2:its'.toArray[j]=u2:=by
    rw[List.getElem?_eq_getElem h2'] at q2
    simpa using q2
   rw[z1,z2]
   exact (ih j _ _ g1 g2 (by show A.units+1+n < cLine;omega) k1 k2).1
  have bt:((List.range (min its.toArray.size its'.toArray.size)).all (fun _=>true) && its.toArray.size == its'.toArray.size)=true:=by
   rw[Iv]
   simp
   omega
  have rc:RcAt A s (.ref a) (.ref b) true:=by
   have:=RcAt.tuples (A:=A) (e:=fun _=>true) (show s.heap.IsTuple a its.toArray from p) (show s.heap.IsTuple b its'.toArray from p') (by omega) he
   rw[bt] at this
   exact this
  have rn:RcNeAt A s (.ref a) (.ref b) false:=by
   have:=RcNeAt.tuples (A:=A) (e:=fun _=>true) (show s.heap.IsTuple a its.toArray from p) (show s.heap.IsTuple b its'.toArray from p') (by omega) he
   rw[bt] at this
   exact this
  refine⟨?_,fun _ _ _ _=>⟨rc,rn⟩⟩
  by_cases e:a=b
  ·subst e;exact EqAt.same _
  ·exact EqAt.of_refs e rc
 | @lst n a b xs ys ha hb hl h ih =>
  intro A u v hu ru rv
  cases ru
  cases rv
  obtain⟨its,r,p,_⟩:=I.list ha
  obtain⟨its',r',p',_⟩:=I.list hb
  have e1:=r.length
  have e2:=r'.length
  have he:∀ j (h1:j < its.toArray.size) (h2:j < its'.toArray.size),EqAt A.in1 s its.toArray[j] its'.toArray[j] true:=by
   intro j h1 h2
   have h1':j < its.length:=by simpa using h1
   have h2':j < its'.length:=by simpa using h2
   have g1:xs[j]? = some xs[j]:=List.getElem?_eq_getElem (by omega)
   have g2:ys[j]? = some ys[j]:=List.getElem?_eq_getElem (by omega)
   obtain⟨u1,q1,k1⟩:=r.get g1
   obtain⟨u2,q2,k2⟩:=r'.get g2
   have z1:its.toArray[j]=u1:=by
    rw[List.getElem?_eq_getElem h1'] at q1
    simpa using q1
   have z2:its'.toArray[j]=u2:=by
    rw[List.getElem?_eq_getElem h2'] at q2
    simpa using q2
   rw[z1,z2]
   exact (ih j _ _ g1 g2 (by show A.units+1+n < cLine;omega) k1 k2).1
  have bt:(List.range its.toArray.size).all (fun _=>true)=true:=Iv _
  have rc:RcAt A s (.ref a) (.ref b) true:=by
   have:=RcAt.lists (A:=A) (e:=fun _=>true) p.isList p'.isList (by simp;omega) (by omega) he
   rw[bt] at this
   exact this
  have rn:RcNeAt A s (.ref a) (.ref b) false:=by
   have:=RcNeAt.lists (A:=A) (e:=fun _=>true) p.isList p'.isList (by simp;omega) (by omega) he
   rw[bt] at this
   exact this
  refine⟨?_,fun _ _ _ _=>⟨rc,rn⟩⟩
  by_cases e:a=b
  ·subst e;exact EqAt.same _
  ·exact EqAt.of_refs e rc
inductive aue (K:Frag)(b:Bool)(x:V)(y:V)(H:Hp)(Q:VK):Prop
 | mk (a:_) (c:_) (fU:x=.ref a) (fV:y=.ref c) (iQ:Deq K H 60 x y/\Q (.bl b) H):aue K b x y H Q
def awX (K:Frag)(b:Bool):R2:=fun x y H Q=>aue K b x y H Q
theorem bV (hu:X.A.units+64 < cLine):Ez X (compareOp .Eq) (awX X.K true):=by
 intro pins s σ H x y v u Q I r1 r2 h
 obtain⟨a,c,rfl,rfl,d,q⟩:=h
 exact (((d.at I (A:=X.A) (by omega) r1 r2).2 a c rfl rfl).1) X.prog X.w X.xe _ ⟨.bl true,H,I,rfl,q⟩
theorem tZ (hu:X.A.units+64 < cLine):Ez X (compareOp .NotEq) (awX X.K false):=by
 intro pins s σ H x y v u Q I r1 r2 h
 obtain⟨a,c,rfl,rfl,d,q⟩:=h
 exact (((d.at I (A:=X.A) (by omega) r1 r2).2 a c rfl rfl).2) X.prog X.w X.xe _ ⟨.bl false,H,I,rfl,q⟩
theorem cQ:qI X (.builtin "isinstance") (fun xs H Q=>∃ x T t b,xs=[x,.ty T]/\gQ X.K H x t/\kitOne X.K t (.type T)=some b/\Q (.bl b) H):=by
 intro pins s σ H xs us Q I r h
 obtain⟨x,T,t,b,rfl,ty,e,q⟩:=h
 obtain⟨u,v,rfl,r1,r2⟩:=r.two
 cases r2
 exact ani I r1 ty e fun tk=>⟨.bl b,H,I.tok _,rfl,q⟩
def Ite (K:Frag)(a:Addr):It :=
 ⟨fun i H=>∃ xs x,bu K H a xs/\xs[i]? = some x,fun i H x H'=>∃ y t,x=.ref t/\H t=none/\(∀ xs,bu K H a xs->xs[i]? = some y)/\H'=upd H t (.tup [.int i,y]),fun i H=>∃ xs,bu K H a xs/\xs.length <= i⟩
def Itz (K:Frag)(a b:Addr):It :=
 ⟨fun i H=>∃ xs ys x y,bu K H a xs/\bu K H b ys/\xs[i]? = some x/\ys[i]? = some y,
  fun i H p H'=>∃ x y t,p=.ref t/\H t=none/\(∀ xs,bu K H a xs->xs[i]? = some x)/\(∀ ys,bu K H b ys->ys[i]? = some y)/\H'=upd H t (.tup [x,y]),
  fun i H=>∃ xs ys,bu K H a xs/\bu K H b ys/\min xs.length ys.length=i⟩
theorem dC {a:Addr}{K:Frag}{X:Cx}{pins:List (Addr×Obj)}{σ:St}{H:Hp}{s:Shared}{xs:List V}{b:Addr}{o:Obj}(I:Inv X pins σ H s)(hq:bu X.K H a xs)(e:s.heap.get? b=some o)(hc:o.cls≠.type "list"):a≠b:=by
 rintro rfl
 obtain⟨its,_,p,_⟩:=I.list hq
 obtain⟨o',e',c',_⟩:=p.isList
 rw[e] at e';cases e'
 exact hc c'
theorem Inv.ZM {tk:Nat}{h':Heap}{wr:List Addr}{T:Addr}{xs:List V}{vals:List Value}(I:Inv X pins σ H s)(hw:∀ b∈wr,tX X pins H b)(hT:s.heap.objs.size <= T)(ht:h'.IsTuple T vals.toArray)(rv:Vals xs vals)(hz:xs.length <= sizeLine)
  (kk:∀ b o,b ∉ wr->s.heap.get? b=some o->h'.get? b=some o) (there:∀ b∈wr,∃ o,h'.get? b=some o):Inv X pins σ (upd H T (.tup xs)) { s with heap:=h',toks:=tk }:=by
 have hTn:H T=none:=I.hok.fresh hT
 have nT:∀ b o,s.heap.get? b=some o->b≠T:=fun b o e=>Nat.ne_of_lt (Nat.lt_of_lt_of_le (Heap.lt_size e) hT)
 refine I.step (g':=s.gens) (d':=s.drawn) (ch:=wr) (fun b hb=>?_) (fun b o _ _ hc e _=>kk b o hc e) (fun b o _ _ hc e _=>⟨o.slots,kk b o hc e⟩) (fun b o _ e n=>by rw[aA (nT b o e)];exact n)
  (fun b o hc e=>⟨o,kk b o hc e⟩) (fun b ys e=>by rw[aA (aD e hTn)];exact e) (fun b o u e=>by rw[aA (aD e hTn)];exact e) (fun b ps e=>⟨#[],by rw[aA (aD e hTn),e];simp⟩) (fun m hm=>?_) (fun b u e=>?_) I.bare
 ·obtain⟨_,f1,_,f3,f4,f5⟩:=hw b hb
  exact⟨f3,f1,f4,f5⟩
 ·obtain⟨o,es,ep,ho,r⟩:=hm
  exact⟨o,es,ep,kk _ o (fun z=>(hw _ z).2.1 rfl) ho,r⟩
 ·by_cases hb:b=T
  ·subst hb
   rw[ao] at e
   cases e
   exact⟨hz,vals,rv,ht⟩
  ·rw[aA hb] at e
   refine (I.hok b u e).stay (fun c v hc q=>kk c v (fun z=>?_) q) (fun c q=>by rw[aA (aD q hTn)];exact q) fun c ys q=>by rw[aA (aD q hTn)];exact q
   have hn:=(hw c z).1
   rcases hc with hc | hc
   ·rw[hc,e] at hn;cases hn
   ·rw[hc] at hn;cases hn
theorem Inv.jE {tk:Nat}{h':Heap}{wr:List Addr}(I:Inv X pins σ H s)(hw:∀ b∈wr,tX X pins H b)(kk:∀ b o,b ∉ wr->s.heap.get? b=some o->h'.get? b=some o):Inv X pins σ H { s with heap:=h',toks:=tk }:=by
 refine I.step (g':=s.gens) (d':=s.drawn) (ch:=wr) (fun b hb=>?_) (fun b o _ _ hc e _=>kk b o hc e) (fun b o _ _ hc e _=>⟨o.slots,kk b o hc e⟩) (fun b o _ e n=>n)
  (fun b o hc e=>⟨o,kk b o hc e⟩) (fun b ys e=>e) (fun b o u e=>e) (fun b ps e=>⟨#[],by rw[e];simp⟩) (fun m hm=>?_) (fun b u e=>?_) I.bare
 ·obtain⟨_,f1,_,f3,f4,f5⟩:=hw b hb
  exact⟨f3,f1,f4,f5⟩
 ·obtain⟨o,es,ep,ho,r⟩:=hm
  exact⟨o,es,ep,kk _ o (fun z=>(hw _ z).2.1 rfl) ho,r⟩
 ·refine (I.hok b u e).stay (fun c v hc q=>kk c v (fun z=>?_) q) (fun c q=>q) fun c ys q=>q
  have hn:=(hw c z).1
  rcases hc with hc | hc
  ·rw[hc,e] at hn;cases hn
  ·rw[hc] at hn;cases hn
end
end L2
set_option maxHeartbeats 4000000
namespace L2
open PySem PySem.Spec PyProof.Rows PySem.SeqAt
section
variable {X:Cx}
theorem aZ {k:Nat}{A:Around}(hr:tU k A):A.units+64 < cLine:=hr.units
theorem cA:bootBuiltins "len" = some (.builtin "len"):=by decide +kernel
theorem au4:bootBuiltins "min" = some (.builtin "min"):=by decide +kernel
theorem au5:bootBuiltins "max" = some (.builtin "max"):=by decide +kernel
theorem Q7:bootBuiltins "enumerate" = some (.type "enumerate"):=by decide +kernel
theorem aj2:bootBuiltins "zip" = some (.type "zip"):=by decide +kernel
theorem bF:bootBuiltins "isinstance" = some (.builtin "isinstance"):=by decide +kernel
theorem Nk:bootBuiltins "int" = some (.type "int"):=by decide +kernel
theorem amw:bootBuiltins "bool" = some (.type "bool"):=by decide +kernel
theorem aeY:bootBuiltins "str" = some (.type "str"):=by decide +kernel
theorem iu:bootBuiltins "list" = some (.type "list"):=by decide +kernel
theorem Q8:bootBuiltins "tuple" = some (.type "tuple"):=by decide +kernel
theorem au6:bootBuiltins "any" = some (.builtin "any"):=by decide +kernel
theorem aqo:bootBuiltins "sum" = some (.builtin "sum"):=by decide +kernel
theorem au7:bootBuiltins "all" = some (.builtin "all"):=by decide +kernel
theorem xR:bootBuiltins "dict" = some (.type "dict"):=by decide +kernel
end
end L2
namespace L2
open PySem PySem.Spec PyProof.Rows
end L2
namespace L2
open PySem
theorem lD {K:Frag}{H:Hp}{a l:Addr}{o:HO}{xs:List V}(h:bu K H a xs)(hn:H l=none):bu K (upd H l o) a xs:=by
 have ne:∀ {u},H a=some u->a≠l:=fun e=>aD e hn
 rcases h with (h | ⟨u,h⟩) | h
 ·exact .inl (.inl (by rw[aA (ne h)];exact h))
 ·exact .inl (.inr ⟨u,by rw[aA (ne h)];exact h⟩)
 ·exact .inr h
theorem aB.upd {H:Hp}{l:Addr}{o:HO}(hn:H l=none):aB H (upd H l o):=fun b u e=>by
 rw[aA (aD e hn)]
 exact e
end L2
namespace L2
theorem bj {X:Cx}{b:List PySem.Stmt}{t:TS}{D:Ends}{σ:St}{H:Hp}(h:PSs X b t)(q:t D σ H):∃ t,PSs X b t/\t D σ H:=⟨t,h,q⟩
theorem ji (i j:Int):decide (V.int i=V.int j)=decide (i=j):=by
 by_cases h:i=j
 ·subst h;simp
 ·rw[decide_eq_false h]
  exact decide_eq_false fun e=>h (V.int.inj e)
end L2
namespace L2
open PySem
theorem auf {X:Cx}:∀ cs:List (Str×Pos),PA X (cs.map fun c=>Expr.Constant (.str c.1) 0 c.2) (fun _ H Q=>Q (cs.map fun c=>V.str c.1) H)
 | []=>aj
 | c :: cs=>aa cF (auf cs)
end L2
namespace L2
open PySem
theorem aqp {X:Cx}{i:Nat}{x:Str}{pos pos' p:Pos}(cs:List (Str×Pos))(hN:X.N.Nodup)(hi:X.N[i]? = some x)(hx:Loc X.env.scope x)(hf:X.fn x=true∨X.env.scope.names.lookup x=some .local:=by first | exact .inl rfl | exact .inr rfl | assumption) :
  PS X (.Assign [.Name x pos'] (.List (cs.map fun c=>Expr.Constant (.str c.1) 0 c.2) p) pos) (asw (awO (fun _ H Q=>Q (cs.map fun c=>V.str c.1) H)) (ad0 i)):=aU hN hi hx (bZ (auf cs)) rfl hf
end L2
set_option maxHeartbeats 4000000
namespace L2
open PySem PySem.Spec PyProof.Rows
section
variable {X:Cx} {tg:Expr}
theorem Dr {pins:List (Addr×Obj)}{σ:St}{H:Hp}{s:Shared}{a:Addr}{xs:List V}{i:Nat}{y:V}(I:Inv X pins σ H s)(hq:bu X.K H a xs)(hy:xs[i]? = some y):∀ ys,bu X.K H a ys->ys[i]? = some y:=fun ys h=>by
 rw[I.ah1 h hq]
 exact hy
theorem anr {P:Program}{w:World}{K:Frag}{es:List Expr}{k:Nat}{tp:Pos}(a e it:Addr)(hei:e≠it) :
  Turn P w K (.Tuple es k tp) (Ite K a) [e,it] e (fun i h=>(∃ old,IsEnum h e it i old)/\h.IsListIter it a i) where
 mem:=by simp
 obj:=fun i h st b hb=>by
  obtain⟨⟨old,he⟩,o,e2,c,d⟩:=st
  rcases List.mem_cons.mp hb with rfl | hb
  ·exact⟨_,he,fun v z=>by
    have z':Data.fields _=Data.cell v:=z
    cases z'⟩
  ·have:b=it:=by simpa using hb
   subst this
   exact⟨o,e2,fun v z=>by rw[d] at z;cases z⟩
 keep:=fun i h h' st kp=>by
  obtain⟨⟨old,he⟩,hit⟩:=st
  exact⟨⟨old,kp e (by simp) _ he⟩,hit.at fun o x=>kp it (by simp) o x⟩
 item:=by
  intro X hP hw hK hc i pins s σ H E I hf st hg
  subst hP hw hK
  obtain⟨xs,x,hq,hx⟩:=hg
  obtain⟨its,rv,p,hz⟩:=I.list hq
  obtain⟨u,hu,ru⟩:=rv.get hx
  obtain⟨⟨old,he⟩,hit⟩:=st
  have hle:a≠e:=dC (K:=X.K) I hq he (by intro z;injection z with z;exact absurd z (by decide))
  have hli:a≠it:=by
   obtain⟨o,e2,c,_⟩:=hit
   exact dC (K:=X.K) I hq e2 (by rw[c];intro z;injection z with z;exact absurd z (by decide))
  have hiu:i < its.toArray.size:=by
   have:=(List.getElem?_eq_some_iff.mp hu).1
   simpa using this
  have W:=WalksT.enumerate (prog:=X.prog) (w:=X.w) (I.ok.hd hc) e it a hei hle hli its.toArray
  refine W.item i s _ _ hiu ⟨⟨old,he⟩,hit,p.isList⟩ fun T vals h' tk hv hT ht mid kk=>?_
  refine⟨_,rfl,?_⟩
  obtain⟨t,x',hx',rfl⟩:=hv
  have ex:x'=u:=by
   have:its[i]? = some x':=by simpa using hx'
   rw[hu] at this
   exact (Option.some.inj this).symm
  subst ex
  have fw:∀ b∈[e,it],tX X pins H b:=hf
  have I1:Inv X pins σ (upd H T (.tup [.int i,x])) { s with heap:=h',toks:=tk }:=by
   refine I.ZM (vals:=[.int i t,x']) fw hT (by simpa using ht) (.cons ⟨t,rfl⟩ (.cons ru .nil)) (by show 2 <= sizeLine;decide) kk fun b hb=>?_
   obtain⟨⟨xx,ho⟩,⟨o,e2,_⟩,_⟩:=mid
   rcases List.mem_cons.mp hb with rfl | hb
   ·exact⟨_,ho⟩
   ·have:b=it:=by simpa using hb
    subst this
    exact⟨o,e2⟩
  have hTn:H T=none:=I.hok.fresh hT
  have neT:∀ b∈[e,it],b≠T:=fun b hb z=>by
   subst z
   exact W.apart i b _ mid hb
  refine W.go es k tp i T _ _ _ mid fun h'' st'' au8=>?_
  have hf2:∀ b∈[e,it],tX X pins (upd H T (.tup [.int i,x])) b:=fun b hb=>by
   obtain⟨f0,fr⟩:=hf b hb
   exact⟨by rw[aA (neT b hb)];exact f0,fr⟩
  refine⟨.ref T,upd H T (.tup [.int i,x]),I1.jE (tk:=tk) hf2 au8,rfl,⟨x,T,rfl,hTn,Dr I hq hx,rfl⟩,⟨st''.1,st''.2.1⟩,fun b hb=>(hf2 b hb).1⟩
 done:=by
  intro X hP hw hK hc i pins s σ H E I hf st hg
  subst hP hw hK
  obtain⟨xs,hq,hx⟩:=hg
  obtain⟨its,rv,p,hz⟩:=I.list hq
  obtain⟨⟨old,he⟩,hit⟩:=st
  have hl:=rv.length
  refine wpAny_pyNext_enum_end (I.ok.hd hc) he hit p.isList (Array.getElem?_eq_none (by simp;omega)) fun h' hx'=>?_
  exact⟨rfl,I.jE (tk:=s.toks) hf fun b o hb q=>hx' b o (fun z=>hb (by simp[z])) q⟩
 self:=fun _ _ _ _ _ st h=>by
  obtain⟨⟨old,he⟩,_⟩:=st
  exact wpAny_pyIter_enum he h
theorem au9 {l:Expr}{tl:TE}(hl:PE X l tl)(hs:starEach [l] X.env=[(false,eval l X.env)])(pos:Pos)(pins:List (Addr×Obj))(s:Shared)(σ:St)(H:Hp){Q:VK}(I:Inv X pins σ H s)(h:tl σ H Q) :
  wpAny (model X.prog X.w) X.A (spliced (backTo pos (starEach [l] X.env))) (fun us s1=>∃ v u H1,Inv X pins σ H1 s1/\us=[u]/\RelV v u/\Q v H1) X.xe s:=by
 have ha:PA X [l] (fun σ H Q=>tl σ H fun x H1=>Q [x] H1):=aa hl aj hs
 have mono:wpAny (model X.prog X.w) X.A (spliced (backTo pos (starEach [l] X.env))) (AP X pins σ fun vs H1=>∃ v,vs=[v]/\Q v H1) X.xe s:=by
  have he:PE X l (fun σ' H' Q'=>σ'=σ/\H'=H/\∀ v H1,Q v H1->Q' v H1):=by
   intro pins s σ' H' Q' I' hw
   obtain⟨rfl,rfl,hm⟩:=hw
   exact eX (hl pins s σ' H' Q I' h) fun u s1 ⟨v,H1,I1,r,q⟩=>⟨v,H1,I1,r,hm v H1 q⟩
  exact aa he aj hs pos pins s σ H _ I ⟨rfl,rfl,fun v H1 q=>⟨v,rfl,q⟩⟩
 refine eX mono fun us s1 ⟨vs,H1,I1,r,v,e,q⟩=>?_
 subst e
 obtain⟨u,rfl,ru⟩:=r.one
 exact⟨v,u,H1,I1,rfl,ru,q⟩
inductive aqq (K:Frag)(R:(It->Hp->Prop))(x:V)(H1:Hp):Prop
 | mk (a:_) (fU:x=.ref a) (fV:(∃ xs,bu K H1 a xs)/\R (Ite K a) H1):aqq K R x H1
def aw0 (K:Frag)(tl:TE):TI:=fun σ H R=>tl σ H fun x H1=>aqq K R x H1
theorem amx {l:Expr}{tl:TE}{p pos tp:Pos}{es:List Expr}{k:Nat}(hg:Gl X "enumerate")(hm:X.mg "enumerate" = none)(hl:PE X l tl)(hs:starEach [l] X.env=[(false,eval l X.env)]:=by rfl) :
  PI X (.Tuple es k tp) (.Call (.Name "enumerate" p) [l] [] pos) (aw0 X.K tl):=by
 intro pins s σ H R I h
 refine Call_ (yI I hg hm Q7 (PyProof.Rows.callWith_type1 (eX (au9 hl hs pos pins s σ H I h) fun us s1 ⟨v,u,H1,I1,e1,r1,q1⟩=>?_) (by rw[hs];rfl) (by rfl)))
 ·obtain⟨a,rfl,⟨xs,hq⟩,q⟩:=q1
  subst e1
  cases r1
  obtain⟨its,rv,pl,hz⟩:=I1.list hq
  refine call_enumerate_list pl.isList fun h' he hit hsz kk=>?_
  have hee:s1.heap.objs.size+1≠s1.heap.objs.size:=Nat.succ_ne_self _
  refine wpAny_pyIter_enum he ?_
  refine⟨s1.heap.objs.size+1,[s1.heap.objs.size+1,s1.heap.objs.size],_,_,H1,rfl,I1.kept (t':=s1.toks) kk,anr a _ _ hee,⟨⟨.none,he⟩,hit⟩,fun b hb=>?_,q⟩
  have hb':s1.heap.objs.size <= b:=by
   rcases List.mem_cons.mp hb with rfl | hb
   ·exact Nat.le_succ _
   ·have:b=s1.heap.objs.size:=by simpa using hb
    rw[this]
    exact Nat.le_refl _
  exact I1.acS hb' (I1.hok.fresh hb')
end
end L2
set_option maxHeartbeats 4000000
namespace L2
open PySem PySem.Spec PyProof.Rows
structure Ca (z TI TO i1 i2:Addr):Prop where
 TIz:TI≠z
 TOz:TO≠z
 i1z:i1≠z
 i2z:i2≠z
 TITO:TI≠TO
 TIi1:TI≠i1
 TIi2:TI≠i2
 TOi1:TO≠i1
 TOi2:TO≠i2
 i12:i1≠i2
section
variable {X:Cx}
def amy (z TI TO i1 i2 a b:Addr)(i:Nat)(h:Heap):Prop:=IsZip h z TI TO .none/\IsPair h TI (.ref i1) (.ref i2)/\(∃ x y,IsPair h TO x y)/\h.IsListIter i1 a i/\h.IsListIter i2 b i
theorem ad9 {pins:List (Addr×Obj)}{σ:St}{H:Hp}{s:Shared}{z TI TO i1 i2 a b:Addr}{i:Nat}{xs ys:List V}(I:Inv X pins σ H s)(O:Ca z TI TO i1 i2)(st:amy z TI TO i1 i2 a b i s.heap)(ha:bu X.K H a xs)(hb:bu X.K H b ys) :
  ZipApart z TI TO i1 i2 a b:=by
 obtain⟨hz,hTI,⟨x,y,hTO⟩,⟨o1,e1,c1,_⟩,⟨o2,e2,c2,_⟩⟩:=st
 have nz:∀ {c:Addr} {zs:List V},bu X.K H c zs->c≠z:=fun h=>dC (K:=X.K) I h hz (by intro q;injection q with q;exact absurd q (by decide))
 have nT:∀ {c:Addr} {zs:List V},bu X.K H c zs->c≠TO:=fun h=>dC (K:=X.K) I h hTO (by intro q;injection q with q;exact absurd q (by decide))
 have n1:∀ {c:Addr} {zs:List V},bu X.K H c zs->c≠i1:=fun h=>dC (K:=X.K) I h e1 (by rw[c1];intro q;injection q with q;exact absurd q (by decide))
 have n2:∀ {c:Addr} {zs:List V},bu X.K H c zs->c≠i2:=fun h=>dC (K:=X.K) I h e2 (by rw[c2];intro q;injection q with q;exact absurd q (by decide))
 exact⟨O.TIz,O.TOz,O.i1z,O.i2z,O.TITO,O.TIi1,O.TIi2,O.TOi1,O.TOi2,O.i12,nz ha,nT ha,n1 ha,n2 ha,nz hb,nT hb,n1 hb,n2 hb⟩
theorem aqr {P:Program}{w:World}{K:Frag}{es:List Expr}{k:Nat}{tp:Pos}{z TI TO i1 i2:Addr}(a b:Addr)(O:Ca z TI TO i1 i2) :
  Turn P w K (.Tuple es k tp) (Itz K a b) [z,TI,TO,i1,i2] z (amy z TI TO i1 i2 a b) where
 mem:=by simp
 obj:=fun i h st c hc=>by
  obtain⟨hz,hTI,⟨x,y,hTO⟩,⟨o1,e1,_,d1⟩,⟨o2,e2,_,d2⟩⟩:=st
  have hc':c=z∨c=TI∨c=TO∨c=i1∨c=i2:=by simpa using hc
  rcases hc' with rfl | rfl | rfl | rfl | rfl
  ·exact⟨_,hz,fun v q=>by
    have q':Data.fields _=Data.cell v:=q
    cases q'⟩
  ·exact⟨_,hTI,fun v q=>by
    have q':Data.seq _ _=Data.cell v:=q
    cases q'⟩
  ·exact⟨_,hTO,fun v q=>by
    have q':Data.seq _ _=Data.cell v:=q
    cases q'⟩
  ·exact⟨o1,e1,fun v q=>by rw[d1] at q;cases q⟩
  ·exact⟨o2,e2,fun v q=>by rw[d2] at q;cases q⟩
 keep:=fun i h h' st kp=>by
  obtain⟨hz,hTI,⟨x,y,hTO⟩,h1,h2⟩:=st
  exact⟨kp z (by simp) _ hz,kp TI (by simp) _ hTI,⟨x,y,kp TO (by simp) _ hTO⟩,h1.at fun o q=>kp i1 (by simp) o q,h2.at fun o q=>kp i2 (by simp) o q⟩
 item:=by
  intro X hP hw hK hc i pins s σ H E I hf st hg
  subst hP hw hK
  obtain⟨xs,ys,x,y,hq,hq2,hx,hy⟩:=hg
  have D:=ad9 I O st hq hq2
  obtain⟨its,rv,p,_⟩:=I.list hq
  obtain⟨its2,rv2,p2,_⟩:=I.list hq2
  obtain⟨u,hu,ru⟩:=rv.get hx
  obtain⟨u2,hu2,ru2⟩:=rv2.get hy
  have h1:i < its.length:=(List.getElem?_eq_some_iff.mp hu).1
  have h2:i < its2.length:=(List.getElem?_eq_some_iff.mp hu2).1
  have W:=WalksT.zip2 (prog:=X.prog) (w:=X.w) (I.ok.hd hc) z TI TO i1 i2 a b D its.toArray its2.toArray
  obtain⟨hz,hTI,hTO,g1,g2⟩:=st
  refine W.item i s _ _ (by simp;omega) ⟨hz,hTI,hTO,g1,g2,p.isList,p2.isList⟩ fun T vals h' tk hv hT ht mid kk=>?_
  refine⟨_,rfl,?_⟩
  obtain⟨x',y',hx',hy',rfl⟩:=hv
  have ex:x'=u:=by
   have:its[i]? = some x':=by simpa using hx'
   rw[hu] at this
   exact (Option.some.inj this).symm
  have ey:y'=u2:=by
   have:its2[i]? = some y':=by simpa using hy'
   rw[hu2] at this
   exact (Option.some.inj this).symm
  subst ex ey
  have sub:∀ c∈[z,TO,i1,i2],c∈[z,TI,TO,i1,i2]:=fun c hc=>by
   have:c=z∨c=TO∨c=i1∨c=i2:=by simpa using hc
   simp
   rcases this with r | r | r | r <;> simp[r]
  have fw:∀ c∈[z,TO,i1,i2],tX X pins H c:=fun c hc=>hf c (sub c hc)
  have I1:Inv X pins σ (upd H T (.tup [x,y])) { s with heap:=h',toks:=tk }:=by
   refine I.ZM (vals:=[x',y']) fw hT (by simpa using ht) (.cons ru (.cons ru2 .nil)) (by show 2 <= sizeLine;decide) kk fun c hc=>?_
   obtain⟨m1,_,⟨_,_,m2⟩,⟨o1,m3,_⟩,⟨o2,m4,_⟩,_⟩:=mid
   have:c=z∨c=TO∨c=i1∨c=i2:=by simpa using hc
   rcases this with rfl | rfl | rfl | rfl
   ·exact⟨_,m1⟩
   ·exact⟨_,m2⟩
   ·exact⟨_,m3⟩
   ·exact⟨_,m4⟩
  have hTn:H T=none:=I.hok.fresh hT
  have neT:∀ c∈[z,TI,TO,i1,i2],c≠T:=fun c hc q=>by
   subst q
   have:c=TI∨c∈[z,TO,i1,i2]:=by
    have:c=z∨c=TI∨c=TO∨c=i1∨c=i2:=by simpa using hc
    simp
    rcases this with r | r | r | r | r <;> simp[r]
   rcases this with r | r
   ·subst r
    exact absurd (Nat.lt_of_lt_of_le (Heap.lt_size hTI) hT) (Nat.lt_irrefl _)
   ·exact W.apart i c _ mid r
  refine W.go es k tp i T _ _ _ mid fun h'' st'' au8=>?_
  have hf2:∀ c∈[z,TI,TO,i1,i2],tX X pins (upd H T (.tup [x,y])) c:=fun c hc=>by
   obtain⟨f0,fr⟩:=hf c hc
   exact⟨by rw[aA (neT c hc)];exact f0,fr⟩
  obtain⟨s1,s2,s3,s4,s5,_⟩:=st''
  refine⟨.ref T,upd H T (.tup [x,y]),I1.jE (tk:=tk) (fun c hc=>hf2 c (sub c hc)) au8,rfl,⟨x,y,T,rfl,hTn,Dr I hq hx,Dr I hq2 hy,rfl⟩,⟨s1,s2,s3,s4,s5⟩,fun c hc=>(hf2 c hc).1⟩
 done:=by
  intro X hP hw hK hc i pins s σ H E I hf st hg
  subst hP hw hK
  obtain⟨xs,ys,hq,hq2,hx⟩:=hg
  have D:=ad9 I O st hq hq2
  obtain⟨its,rv,p,_⟩:=I.list hq
  obtain⟨its2,rv2,p2,_⟩:=I.list hq2
  have W:=WalksT.zip2 (prog:=X.prog) (w:=X.w) (I.ok.hd hc) z TI TO i1 i2 a b D its.toArray its2.toArray
  obtain⟨hz,hTI,hTO,g1,g2⟩:=st
  have e:min its.toArray.size its2.toArray.size=i:=by
   rw[List.size_toArray,List.size_toArray,← rv.length,← rv2.length]
   exact hx
  refine W.done s _ _ (by rw[e];exact⟨hz,hTI,hTO,g1,g2,p.isList,p2.isList⟩) fun h' tk kk=>?_
  refine⟨rfl,I.jE (tk:=tk) (wr:=[z,TO,i1,i2]) (fun c hc=>hf c ?_) kk⟩
  have:c=z∨c=TO∨c=i1∨c=i2:=by simpa using hc
  simp
  rcases this with r | r | r | r <;> simp[r]
 self:=fun _ i s _ _ st h=>by
  obtain⟨hz,_⟩:=st
  exact wpAny_pyIter_zip hz h
inductive auh (K:Frag)(R:(It->Hp->Prop))(x:V)(y:V)(H2:Hp):Prop
 | mk (a:_) (b:_) (fU:x=.ref a) (fV:y=.ref b) (iQ:(∃ xs,bu K H2 a xs)/\(∃ ys,bu K H2 b ys)/\R (Itz K a b) H2):auh K R x y H2
def azf (K:Frag)(tl tm:TE):TI:=fun σ H R=>tl σ H fun x H1=>tm σ H1 fun y H2=>auh K R x y H2
theorem aj3 {l m:Expr}{tl tm:TE}(hl:PE X l tl)(hm:PE X m tm)(hs:starEach [l,m] X.env=[(false,eval l X.env),(false,eval m X.env)])(hs2:starEach [m] X.env=[(false,eval m X.env)])(pos:Pos)(pins:List (Addr×Obj))(s:Shared)(σ:St)(H:Hp){Q:V->V->Hp->Prop}(I:Inv X pins σ H s)(h:tl σ H fun x H1=>tm σ H1 fun y H2=>Q x y H2) :
  wpAny (model X.prog X.w) X.A (spliced (backTo pos (starEach [l,m] X.env))) (fun us s1=>∃ x y u v H1,Inv X pins σ H1 s1/\us=[u,v]/\RelV x u/\RelV y v/\Q x y H1) X.xe s:=by
 have he:PE X l (fun σ' H' Q'=>σ'=σ/\H'=H/\∀ x H1,(tm σ H1 fun y H2=>Q x y H2)->Q' x H1):=by
  intro pins s σ' H' Q' I' hw
  obtain⟨rfl,rfl,k⟩:=hw
  exact eX (hl pins s σ' H' _ I' h) fun u s1 ⟨v,H1,I1,r,q⟩=>⟨v,H1,I1,r,k v H1 q⟩
 have hf:PE X m (fun σ' H' Q'=>∃ x,σ'=σ/\(tm σ H' fun y H2=>Q x y H2)/\∀ y H2,Q x y H2->Q' y H2):=by
  intro pins s σ' H' Q' I' hw
  obtain⟨x,rfl,hh,k⟩:=hw
  exact eX (hm pins s σ' H' _ I' hh) fun u s1 ⟨v,H1,I1,r,q⟩=>⟨v,H1,I1,r,k v H1 q⟩
 have main:=aa he (aa hf aj hs2) (by rw[hs,hs2]) pos pins s σ H (fun vs H2=>∃ x y,vs=[x,y]/\Q x y H2) I ⟨rfl,rfl,fun x H1 q=>⟨x,rfl,q,fun y H2 q2=>⟨x,y,rfl,q2⟩⟩⟩
 refine eX main fun us s1 ⟨vs,H1,I1,r,x,y,e,q⟩=>?_
 subst e
 obtain⟨u,v,rfl,r1,r2⟩:=r.two
 exact⟨x,y,u,v,H1,I1,rfl,r1,r2,q⟩
theorem aeZ {l m:Expr}{tl tm:TE}{p pos tp:Pos}{es:List Expr}{k:Nat}(hg:Gl X "zip")(hz:X.mg "zip" = none)(hl:PE X l tl)(hm:PE X m tm)(hs:starEach [l,m] X.env=[(false,eval l X.env),(false,eval m X.env)]:=by rfl)(hs2:starEach [m] X.env=[(false,eval m X.env)]:=by rfl) :
  PI X (.Tuple es k tp) (.Call (.Name "zip" p) [l,m] [] pos) (azf X.K tl tm):=by
 intro pins s σ H R I h
 refine Call_ (yI I hg hz aj2 (PyProof.Rows.callWith_type1 (eX (aj3 hl hm hs hs2 pos pins s σ H I h) fun us s1 ⟨x,y,u,v,H1,I1,e1,r1,r2,q1⟩=>?_) (by rw[hs,hs2]) (by rw[hs2];rfl)))
 obtain⟨a,b,rfl,rfl,⟨xs,hq⟩,⟨ys,hq2⟩,q⟩:=q1
 subst e1
 cases r1
 cases r2
 obtain⟨its,rv,pl,_⟩:=I1.list hq
 obtain⟨its2,rv2,pl2,_⟩:=I1.list hq2
 refine call_zip_2 pl.isList pl2.isList fun h' z1 z2 z3 z4 z5 hsz kk=>?_
 refine wpAny_pyIter_zip z1 ?_
 have O:Ca (s1.heap.objs.size+4) (s1.heap.objs.size+2) (s1.heap.objs.size+3) s1.heap.objs.size (s1.heap.objs.size+1):=by
  constructor <;> exact (by intro q;have q':(_:Nat)=_:=q;omega)
 refine⟨_,[s1.heap.objs.size+4,s1.heap.objs.size+2,s1.heap.objs.size+3,s1.heap.objs.size,s1.heap.objs.size+1],_,_,H1,rfl,I1.kept (t':=s1.toks) kk,aqr a b O,⟨z1,z2,⟨_,_,z3⟩,z4,z5⟩,fun c hc=>?_,q⟩
 have hc':s1.heap.objs.size <= c:=by
  have:c=s1.heap.objs.size+4∨c=s1.heap.objs.size+2∨c=s1.heap.objs.size+3∨c=s1.heap.objs.size∨c=s1.heap.objs.size+1:=by simpa using hc
  rcases this with r | r | r | r | r <;> (rw[r];first | exact Nat.le_add_right _ _ | exact Nat.le_refl _)
 exact I1.acS hc' (I1.hok.fresh hc')
end
end L2
set_option maxHeartbeats 4000000
namespace L2
open PySem
abbrev aqs (J:It)(g:TG)(tc:TT)(te:TE)(D:Addr)(R:Hp->Prop)(σ:St)(H:Hp):Prop:=∃ W:Nat->Nat->List V->St->Hp->Prop,(∃ m,W 0 m [] σ H)/\∀ i m ys σ H,W i m ys σ H ->
  (J.stop i H/\R H)∨(J.go i H/\∀ x H',J.yld i H x H'->g x σ H' fun σ2 H2=>tc σ2 H2 fun ok H3 =>
   if ok=true then te σ2 H3 fun y H4=>H4 D=some (.lst ys)/\ys.length < sizeLine/\∃ m',m' < m/\W (i+1) m' (ys++[y]) σ2 (upd H4 D (.lst (ys++[y])))
   else ∃ m',m' < m/\W (i+1) m' ys σ2 H3)
abbrev ZP (g:TG)(tc:TT)(te:TE)(D:Addr)(ys:List V)(x:V)(σ:St)(H:Hp)(N:List V->St->Hp->Prop):Prop :=
 g x σ H fun σ2 H2=>tc σ2 H2 fun ok H3=>if ok=true then te σ2 H3 fun y H4=>H4 D=some (.lst ys)/\ys.length < sizeLine/\N (ys++[y]) σ2 (upd H4 D (.lst (ys++[y]))) else N ys σ2 H3
theorem ZQ {lo:Int}{n:Nat}{g:TG}{tc:TT}{te:TE}{D:Addr}{R:Hp->Prop}{σ:St}{H:Hp}(Pv:Nat->List V->St->Hp->Prop)(h0:Pv 0 [] σ H)
  (hs:∀ i ys σ H,i < n->Pv i ys σ H->∀ N:List V->St->Hp->Prop,(∀ ys σ H,Pv (i+1) ys σ H->N ys σ H)->ZP g tc te D ys (.int (lo+i)) σ H N) (hd:∀ ys σ H,Pv n ys σ H->R H):aqs (Itr lo n) g tc te D R σ H:=by
 refine⟨fun i m ys σ H=>m=n - i/\i <= n/\Pv i ys σ H,⟨n,by simp,Nat.zero_le _,h0⟩,?_⟩
 rintro i m ys σ H ⟨rfl,hi,p⟩
 by_cases hlt:i < n
 ·refine .inr ⟨hlt,fun x H' y=>?_⟩
  obtain⟨e,y⟩:=y
  subst e y
  exact hs i ys σ _ hlt p (fun ys' σ' H'=>∃ m',m' < n - i/\m'=n - (i+1)/\i+1 <= n/\Pv (i+1) ys' σ' H') fun ys' σ' H' q=>⟨n - (i+1),by omega,rfl,hlt,q⟩
 ·have e:i=n:=by omega
  subst e
  exact .inl ⟨Nat.le_refl _,hd ys σ H p⟩
theorem mY {K:Frag}{a:Addr}{xs:List V}{g:TG}{tc:TT}{te:TE}{D:Addr}{R:Hp->Prop}{σ:St}{H:Hp}(Pv:Nat->List V->St->Hp->Prop)(h0:Pv 0 [] σ H)(hl:∀ i ys σ H,Pv i ys σ H->bu K H a xs)
  (hs:∀ i ys x σ H,xs[i]? = some x->Pv i ys σ H->∀ N:List V->St->Hp->Prop,(∀ ys σ H,Pv (i+1) ys σ H->N ys σ H)->ZP g tc te D ys x σ H N) (hd:∀ ys σ H,Pv xs.length ys σ H->R H):aqs (Itl K a) g tc te D R σ H:=by
 refine⟨fun i m ys σ H=>m=xs.length - i/\i <= xs.length/\Pv i ys σ H,⟨xs.length,by simp,Nat.zero_le _,h0⟩,?_⟩
 rintro i m ys σ H ⟨rfl,hi,p⟩
 have q:=hl i ys σ H p
 by_cases hlt:i < xs.length
 ·refine .inr ⟨⟨xs,xs[i],q,by simp[hlt]⟩,fun x H' y=>?_⟩
  obtain⟨e,y⟩:=y
  subst e
  exact hs i ys x σ _ (y xs q) p (fun ys' σ' H'=>∃ m',m' < xs.length - i/\m'=xs.length - (i+1)/\i+1 <= xs.length/\Pv (i+1) ys' σ' H') fun ys' σ' H' q=>⟨xs.length - (i+1),by omega,rfl,hlt,q⟩
 ·have e:i=xs.length:=by omega
  subst e
  exact .inl ⟨⟨xs,q,Nat.le_refl _⟩,hd ys σ H p⟩
theorem aqt {z:Str}{g:TG}{tc:TT}{te:TE}{D:Addr}{R:Hp->Prop}{σ:St}{H:Hp}(Pv:Nat->List V->St->Hp->Prop)(h0:Pv 0 [] σ H)
  (hs:∀ i ys c σ H,z.cps[i]? = some c->Pv i ys σ H->∀ N:List V->St->Hp->Prop,(∀ ys σ H,Pv (i+1) ys σ H->N ys σ H)->ZP g tc te D ys (.str ⟨#[c]⟩) σ H N) (hd:∀ ys σ H,Pv z.cps.size ys σ H->R H):aqs (Its z) g tc te D R σ H:=by
 refine⟨fun i m ys σ H=>m=z.cps.size - i/\i <= z.cps.size/\Pv i ys σ H,⟨z.cps.size,by simp,Nat.zero_le _,h0⟩,?_⟩
 rintro i m ys σ H ⟨rfl,hi,p⟩
 by_cases hlt:i < z.cps.size
 ·refine .inr ⟨hlt,fun x H' y=>?_⟩
  obtain⟨e,c,hc,y⟩:=y
  subst e y
  exact hs i ys c σ _ hc p (fun ys' σ' H'=>∃ m',m' < z.cps.size - i/\m'=z.cps.size - (i+1)/\i+1 <= z.cps.size/\Pv (i+1) ys' σ' H') fun ys' σ' H' q=>⟨z.cps.size - (i+1),by omega,rfl,hlt,q⟩
 ·have e:i=z.cps.size:=by omega
  subst e
  exact .inl ⟨Nat.le_refl _,hd ys σ H p⟩
theorem aie {K:Frag}{a:Addr}{xs:List V}{g:TG}{tb:TS}{D:Ends}{σ:St}{H:Hp}(Pv:Nat->St->Hp->Prop)(h0:Pv 0 σ H)(hl:∀ i σ H,Pv i σ H->bu K H a xs)
  (hs:∀ i x t σ H,xs[i]? = some x->Pv i σ H->H t=none->g (.ref t) σ (upd H t (.tup [.int i,x])) fun σ2 H2=>tb { D with nx:=Pv (i+1),ct:=Pv (i+1),bk:=D.nx } σ2 H2) (hd:∀ σ H,Pv xs.length σ H->D.nx σ H) :
  ∃ W:Nat->Nat->St->Hp->Prop,(∃ m,W 0 m σ H)/\∀ i m σ H,W i m σ H ->
   ((Ite K a).stop i H/\D.nx σ H)∨((Ite K a).go i H/\∃ N:St->Hp->Prop,(∀ σ' H',N σ' H'->∃ m',m' < m/\W (i+1) m' σ' H')/\∀ x H',(Ite K a).yld i H x H'->g x σ H' fun σ2 H2=>tb { D with nx:=N,ct:=N,bk:=D.nx } σ2 H2):=by
 refine⟨fun i m σ H=>m=xs.length - i/\i <= xs.length/\Pv i σ H,⟨xs.length,by simp,Nat.zero_le _,h0⟩,?_⟩
 rintro i m σ H ⟨rfl,hi,p⟩
 have q:=hl i σ H p
 by_cases hlt:i < xs.length
 ·refine .inr ⟨⟨xs,xs[i],q,by simp[hlt]⟩,Pv (i+1),fun σ' H' p'=>⟨xs.length - (i+1),by omega,rfl,hlt,p'⟩,fun x H' y=>?_⟩
  obtain⟨y0,t,rfl,hn,hy,rfl⟩:=y
  exact hs i y0 t σ H (hy xs q) p hn
 ·have e:i=xs.length:=by omega
  subst e
  exact .inl ⟨⟨xs,q,Nat.le_refl _⟩,hd σ H p⟩
theorem Zi {K:Frag}{a b:Addr}{xs ys:List V}{g:TG}{tb:TS}{D:Ends}{σ:St}{H:Hp}(Pv:Nat->St->Hp->Prop)(he:xs.length=ys.length)(h0:Pv 0 σ H)(hl:∀ i σ H,Pv i σ H->bu K H a xs/\bu K H b ys)
  (hs:∀ i x y t σ H,xs[i]? = some x->ys[i]? = some y->Pv i σ H->H t=none->g (.ref t) σ (upd H t (.tup [x,y])) fun σ2 H2=>tb { D with nx:=Pv (i+1),ct:=Pv (i+1),bk:=D.nx } σ2 H2) (hd:∀ σ H,Pv xs.length σ H->D.nx σ H) :
  ∃ W:Nat->Nat->St->Hp->Prop,(∃ m,W 0 m σ H)/\∀ i m σ H,W i m σ H ->
   ((Itz K a b).stop i H/\D.nx σ H)∨((Itz K a b).go i H/\∃ N:St->Hp->Prop,(∀ σ' H',N σ' H'->∃ m',m' < m/\W (i+1) m' σ' H')/\∀ x H',(Itz K a b).yld i H x H'->g x σ H' fun σ2 H2=>tb { D with nx:=N,ct:=N,bk:=D.nx } σ2 H2):=by
 refine⟨fun i m σ H=>m=xs.length - i/\i <= xs.length/\Pv i σ H,⟨xs.length,by simp,Nat.zero_le _,h0⟩,?_⟩
 rintro i m σ H ⟨rfl,hi,p⟩
 obtain⟨q,q2⟩:=hl i σ H p
 by_cases hlt:i < xs.length
 ·have hlt2:i < ys.length:=by omega
  refine .inr ⟨⟨xs,ys,xs[i],ys[i],q,q2,by simp[hlt],by simp[hlt2]⟩,Pv (i+1),fun σ' H' p'=>⟨xs.length - (i+1),by omega,rfl,hlt,p'⟩,fun x H' y=>?_⟩
  obtain⟨x0,y0,t,rfl,hn,hx,hy,rfl⟩:=y
  exact hs i x0 y0 t σ H (hx xs q) (hy ys q2) p hn
 ·have e:i=xs.length:=by omega
  subst e
  exact .inl ⟨⟨xs,ys,q,q2,by omega⟩,hd σ H p⟩
end L2
namespace L2
open PySem
theorem jF {j:Nat}{te:TE}{D:Addr}{ys:List V}{x:V}{σ:St}{H:Hp}{N:List V->St->Hp->Prop}
  (h:te (σ.set j (some x)) H fun y H4=>H4 D=some (.lst ys)/\ys.length < sizeLine/\N (ys++[y]) (σ.set j (some x)) (upd H4 D (.lst (ys++[y])))):ZP (ad0 j) au0 te D ys x σ H N:=by
 unfold ZP ad0 au0
 exact (if_pos (rfl:true=true)).mpr h
end L2
set_option maxHeartbeats 4000000
namespace L2
open PySem PySem.Spec PyProof.Rows
open Sem (wp)
abbrev Nm (h:Heap)(z TI TO:Addr)(f0 f1:Value):Prop :=
 h.get? z=some { cls:=.type "zip",dict:=none,data:=.fields #[f0,f1,.bool false,.ref TI,.ref TO],slots:=#[] }
def Loose (f0 f1:Value):Prop:=(f0=.none ∨ ∃ a:Nat,f0=rawInt (a:Int))/\∃ b,f1=.bool b
section
variable {prog:Program} {w:World} {A:Around} {E:Value->Shared->Prop} {s:Shared}
theorem ant {a:Addr}{Q:Option Obj->Shared->Prop}(h:∀ o,Q o s):wpAny (model prog w) A (loadIfAlive a) Q E s:=fun _ _ _=>h _
theorem aif {z TI TO:Addr}{f0 f1:Value}{Q:Bool->Shared->Prop}(hz:Nm s.heap z TI TO f0 f1)(hf:Loose f0 f1)
  (hQ:∀ (r:Bool) (h':Heap) (g1:Value),Nm h' z TI TO f0 g1->Loose f0 g1->Heap.SameBut z s.heap h'->Q r { s with heap:=h' }) :
  wpAny (model prog w) A (Builtin.SmallTypes.ownedTupleIsFree (.ref z)) Q E s:=by
 unfold Builtin.SmallTypes.ownedTupleIsFree
 refine wpAny_bind (wpAny_field hz rfl (x:=f0) rfl ?_)
 obtain⟨hf0,b,rfl⟩:=hf
 rcases hf0 with rfl | ⟨a,rfl⟩
 ·exact wpAny_pure (hQ true s.heap _ hz ⟨.inl rfl,b,rfl⟩ ⟨rfl,fun _ _=>rfl⟩)
 ·show wpAny _ _ (loadIfAlive ((a:Int).toNat) >>= _) _ _ _
  refine wpAny_bind (ant fun o=>?_)
  cases o with
  | none =>
   simp only [Option.isNone_none,if_true]
   exact wpAny_pure (hQ true s.heap _ hz ⟨.inr ⟨a,rfl⟩,b,rfl⟩ ⟨rfl,fun _ _=>rfl⟩)
  | some o =>
   simp only [Option.isNone_some,Bool.false_eq_true,if_false]
   refine wpAny_bind (wpAny_field hz rfl (x:=.bool b) rfl ?_)
   cases b with
   | true =>
    exact wpAny_pure (hQ false s.heap _ hz ⟨.inr ⟨a,rfl⟩,true,rfl⟩ ⟨rfl,fun _ _=>rfl⟩)
   | false =>
    show wpAny _ _ (setField (.ref z) 1 (.bool true) >>= _) _ _ _
    refine wpAny_bind (wpAny_setField_rec hz (by simp) fun h₁ hz₁ hs₁=>?_)
    exact wpAny_pure (hQ false h₁ _ hz₁ ⟨.inr ⟨a,rfl⟩,true,rfl⟩ hs₁)
theorem anu {z TI TO i1 i2 l1 l2:Addr}{k1 k2:Nat}{xs ys:Array Value}{x y a b f0 f1:Value}{Q:Value->Shared->Prop}(D:ZipApart z TI TO i1 i2 l1 l2)
  (hz:Nm s.heap z TI TO f0 f1) (hf:Loose f0 f1) (hTI:IsPair s.heap TI (.ref i1) (.ref i2)) (hTO:IsPair s.heap TO a b)
  (h1:s.heap.IsListIter i1 l1 k1) (h2:s.heap.IsListIter i2 l2 k2) (hl1:s.heap.IsList l1 xs) (hl2:s.heap.IsList l2 ys) (hx:xs[k1]? = some x) (hy:ys[k2]? = some y)
  (hQ:∀ h',(∃ g0 g1,Nm h' z TI TO g0 g1/\Loose g0 g1)->(∃ a b,IsPair h' TO a b)->h'.IsListIter i1 l1 (k1+1)->h'.IsListIter i2 l2 (k2+1)->IsPair h' s.heap.objs.size x y->h'.objs.size=s.heap.objs.size+1 ->
   (∀ c o,c≠z->c≠TO->c≠i1->c≠i2->s.heap.get? c=some o->h'.get? c=some o)->Q (.ref s.heap.objs.size) { s with heap:=h' }) :
  wpAny (model prog w) A (Builtin.«zip.__next__» ⟨[.ref z],[]⟩) (fun fin s'=>∃ v,fin=.done (.ret v)/\Q v s') E s:=by
 show wpAny _ _ (field (.ref z) 2 >>= _) _ _ _
 refine wpAny_bind (wpAny_field hz rfl (x:=.bool false) rfl ?_)
 show wpAny _ _ (field (.ref z) 3 >>= _) _ _ _
 refine wpAny_bind (wpAny_field hz rfl (x:=.ref TI) rfl ?_)
 refine wpAny_bind (wpAny_seqItems hTI rfl ?_)
 show wpAny _ _ (Builtin.SmallTypes.ownedTupleIsFree (.ref z) >>= _) _ _ _
 refine wpAny_bind (aif hz hf fun r h₀ g1 awe hl₀ hs₀=>?_)
 cases r with
 | true =>
  simp only [if_true]
  refine wpAny_bind (wpAny_rule ?_)
  refine wpAny_bind (wpAny_field awe rfl (x:=.ref TO) rfl ?_)
  refine wpAny_bind (wpAny_setField_rec awe (by simp) fun h₁ hz₁ aqu=>?_)
  replace hz₁:Nm h₁ z TI TO .ellipsis g1:=hz₁
  have hs₁:Heap.SameBut z s.heap h₁:=⟨aqu.1.trans hs₀.1,fun c hc=>(aqu.2 c hc).trans (hs₀.2 c hc)⟩
  refine wpAny_bind ?_
  simp only [List.zipIdx_cons,List.zipIdx_nil,List.forIn_cons,List.forIn_nil]
  refine wpAny_bind (wpAny_bind (wpAny_onRaise ?_))
  show wpAny _ _ (Builtin.SmallTypes.nextOf (.ref i1) >>= _) _ _ _
  refine wpAny_bind (wpAny_nextOf_list_item (h1.extBut hs₁.extBut D.i1z) (hl1.extBut hs₁.extBut D.l1z) hx fun h₂ h1₂ hs₂=>wpAny_pure ?_)
  have hTO₂:IsPair h₂ TO a b:=hs₂.extBut _ _ D.TOi1 (hs₁.extBut _ _ D.TOz hTO)
  refine wpAny_bind (wpAny_seqItems hTO₂ rfl ?_)
  refine wpAny_bind (wpAny_updateSeq_pair hTO₂ fun h₃ hTO₃ hs₃=>?_)
  replace hTO₃:IsPair h₃ TO x b:=hTO₃
  refine wpAny_bind (wpAny_letGo (wpAny_pure ?_))
  refine wpAny_bind (wpAny_bind (wpAny_onRaise ?_))
  show wpAny _ _ (Builtin.SmallTypes.nextOf (.ref i2) >>= _) _ _ _
  refine wpAny_bind (wpAny_nextOf_list_item (((h2.extBut hs₁.extBut D.i2z).extBut hs₂.extBut D.i12.symm).extBut hs₃.extBut D.TOi2.symm)
   (((hl2.extBut hs₁.extBut D.l2z).extBut hs₂.extBut D.l2i1).extBut hs₃.extBut D.l2TO) hy fun h₄ h2₄ hs₄=>wpAny_pure ?_)
  have hTO₄:IsPair h₄ TO x b:=hs₄.extBut _ _ D.TOi2 hTO₃
  refine wpAny_bind (wpAny_seqItems hTO₄ rfl ?_)
  refine wpAny_bind (wpAny_updateSeq_pair hTO₄ fun h₅ hTO₅ hs₅=>?_)
  replace hTO₅:IsPair h₅ TO x y:=hTO₅
  refine wpAny_bind (wpAny_letGo (wpAny_pure (wpAny_pure ?_)))
  refine wpAny_bind (wpAny_seqItems hTO₅ rfl ?_)
  refine wpAny_bind (wpAny_newTuple ?_)
  have hsz:h₅.objs.size=s.heap.objs.size:=by rw[hs₅.1,hs₄.1,hs₃.1,hs₂.1,hs₁.1]
  have hz₅:Nm h₅ z TI TO .ellipsis g1:=hs₅.extBut _ _ D.TOz.symm (hs₄.extBut _ _ D.i2z.symm (hs₃.extBut _ _ D.TOz.symm (hs₂.extBut _ _ D.i1z.symm hz₁)))
  have hk₅:∀ c o,c≠z->c≠TO->c≠i1->c≠i2->s.heap.get? c=some o->h₅.get? c=some o:=fun c o c1 c2 c3 c4 e =>
   hs₅.extBut _ _ c2 (hs₄.extBut _ _ c4 (hs₃.extBut _ _ c2 (hs₂.extBut _ _ c3 (hs₁.extBut _ _ c1 e))))
  have h1₅:h₅.IsListIter i1 l1 (k1+1):=((h1₂.extBut hs₃.extBut D.TOi1.symm).extBut hs₄.extBut D.i12).extBut hs₅.extBut D.TOi1.symm
  have h2₅:h₅.IsListIter i2 l2 (k2+1):=h2₄.extBut hs₅.extBut D.TOi2.symm
  have hzlt:z < h₅.objs.size:=Heap.lt_size hz₅
  show wpAny _ _ (Builtin.SmallTypes.ownedTupleHandOut (.ref z) (.ref h₅.objs.size) >>= _) _ _ _
  refine wpAny_bind ?_
  unfold Builtin.SmallTypes.ownedTupleHandOut
  have hz₆:Nm (h₅.push { cls:=.type "tuple",data:=.seq #[x,y] }) z TI TO .ellipsis g1:=Heap.get?_push_of_some _ hz₅
  refine wpAny_bind (wpAny_setField_rec hz₆ (by simp) fun h₇ hz₇ hs₇=>?_)
  replace hz₇:Nm h₇ z TI TO (rawInt h₅.objs.size) g1:=hz₇
  refine wpAny_setField_rec hz₇ (by simp) fun h₈ hz₈ hs₈=>?_
  replace hz₈:Nm h₈ z TI TO (rawInt h₅.objs.size) (.bool false):=hz₈
  have up:∀ c o,c≠z->h₅.get? c=some o->h₈.get? c=some o:=fun c o c1 e=>hs₈.extBut _ _ c1 (hs₇.extBut _ _ c1 (Heap.get?_push_of_some _ e))
  have hT₈:IsPair h₈ h₅.objs.size x y:=hs₈.extBut _ _ (Nat.ne_of_gt hzlt) (hs₇.extBut _ _ (Nat.ne_of_gt hzlt) (Heap.get?_push_size _ rfl))
  have hz8:h₈.objs.size=h₅.objs.size+1:=by rw[hs₈.1,hs₇.1,Heap.size_push]
  have hloose:∃ g0 g1,Nm h₈ z TI TO g0 g1/\Loose g0 g1:=⟨_,_,hz₈,.inr ⟨_,rfl⟩,_,rfl⟩
  rw[hsz] at hT₈ hz8
  refine wpAny_pure ⟨_,rfl,?_⟩
  show Q (.ref h₅.objs.size) _
  rw[hsz]
  exact hQ h₈ hloose ⟨_,_,up _ _ D.TOz hTO₅⟩ (h1₅.at fun o e=>up _ o D.i1z e) (h2₅.at fun o e=>up _ o D.i2z e) hT₈ hz8 fun c o c1 c2 c3 c4 e=>up c o c1 (hk₅ c o c1 c2 c3 c4 e)
 | false =>
  simp only [Bool.false_eq_true,if_false]
  have hs₁:=hs₀
  refine wpAny_bind ?_
  rw[← Array.forIn_toList]
  simp only [List.forIn_cons,List.forIn_nil]
  refine wpAny_bind (wpAny_bind (wpAny_holding ?_))
  show wpAny _ _ (Builtin.SmallTypes.nextOf (.ref i1) >>= _) _ _ _
  refine wpAny_bind (wpAny_nextOf_list_item (h1.extBut hs₁.extBut D.i1z) (hl1.extBut hs₁.extBut D.l1z) hx fun h₂ h1₂ hs₂=>wpAny_pure (wpAny_pure ?_))
  refine wpAny_bind (wpAny_bind (wpAny_holding ?_))
  show wpAny _ _ (Builtin.SmallTypes.nextOf (.ref i2) >>= _) _ _ _
  refine wpAny_bind (wpAny_nextOf_list_item ((h2.extBut hs₁.extBut D.i2z).extBut hs₂.extBut D.i12.symm)
   ((hl2.extBut hs₁.extBut D.l2z).extBut hs₂.extBut D.l2i1) hy fun h₄ h2₄ hs₄=>wpAny_pure (wpAny_pure (wpAny_pure ?_)))
  have hsz:h₄.objs.size=s.heap.objs.size:=by rw[hs₄.1,hs₂.1,hs₁.1]
  refine wpAny_bind (wpAny_newTuple (hsz:=by show 2 <= sizeLine;decide) ?_)
  have up:∀ c o,c≠z->c≠i1->c≠i2->s.heap.get? c=some o->(h₄.push { cls:=.type "tuple",data:=.seq #[x,y] }).get? c=some o:=fun c o c1 c3 c4 e =>
   Heap.get?_push_of_some _ (hs₄.extBut _ _ c4 (hs₂.extBut _ _ c3 (hs₁.extBut _ _ c1 e)))
  have hz₄:Nm (h₄.push { cls:=.type "tuple",data:=.seq #[x,y] }) z TI TO f0 g1:=Heap.get?_push_of_some _ (hs₄.extBut _ _ D.i2z.symm (hs₂.extBut _ _ D.i1z.symm awe))
  have hT₈:IsPair (h₄.push { cls:=.type "tuple",data:=.seq #[x,y] }) h₄.objs.size x y:=Heap.get?_push_size _ rfl
  have hz8:(h₄.push { cls:=.type "tuple",data:=.seq #[x,y] }).objs.size=h₄.objs.size+1:=Heap.size_push ..
  refine wpAny_pure ⟨_,rfl,?_⟩
  show Q (.ref h₄.objs.size) { s with heap:=h₄.push { cls:=.type "tuple",data:=.seq #[x,y] } }
  rw[hsz] at hT₈ hz8 ⊢
  exact hQ _ ⟨_,_,hz₄,hl₀⟩ ⟨a,b,up _ _ D.TOz D.TOi1 D.TOi2 hTO⟩ ((h1₂.extBut hs₄.extBut D.i12).at fun o e=>Heap.get?_push_of_some _ e) (h2₄.at fun o e=>Heap.get?_push_of_some _ e) hT₈ hz8 fun c o c1 _ c3 c4 e=>up c o c1 c3 c4 e
theorem aqv {z TI TO i1 i2 l1 l2:Addr}{k1:Nat}{xs:Array Value}{a b f0 f1:Value}{Q:Fin->Shared->Prop}(hh:A.handled=none)(D:ZipApart z TI TO i1 i2 l1 l2)
  (hz:Nm s.heap z TI TO f0 f1) (hf:Loose f0 f1) (hTI:IsPair s.heap TI (.ref i1) (.ref i2)) (hTO:IsPair s.heap TO a b)
  (h1:s.heap.IsListIter i1 l1 k1) (hl1:s.heap.IsList l1 xs) (hend:xs[k1]? = none)
  (hE:∀ h' e,(∀ c o,c≠z->c≠TO->c≠i1->c≠i2->s.heap.get? c=some o->h'.get? c=some o)->(∃ o,h'.get? e=some o/\o.cls=.type "StopIteration")->E (.ref e) { s with heap:=h' }) :
  wpAny (model prog w) A (Builtin.«zip.__next__» ⟨[.ref z],[]⟩) Q E s:=by
 show wpAny _ _ (field (.ref z) 2 >>= _) _ _ _
 refine wpAny_bind (wpAny_field hz rfl (x:=.bool false) rfl ?_)
 show wpAny _ _ (field (.ref z) 3 >>= _) _ _ _
 refine wpAny_bind (wpAny_field hz rfl (x:=.ref TI) rfl ?_)
 refine wpAny_bind (wpAny_seqItems hTI rfl ?_)
 show wpAny _ _ (Builtin.SmallTypes.ownedTupleIsFree (.ref z) >>= _) _ _ _
 refine wpAny_bind (aif hz hf fun r h₀ g1 awe hl₀ hs₀=>?_)
 cases r with
 | true =>
  simp only [if_true]
  refine wpAny_bind (wpAny_rule ?_)
  refine wpAny_bind (wpAny_field awe rfl (x:=.ref TO) rfl ?_)
  refine wpAny_bind (wpAny_setField_rec awe (by simp) fun h₁ hz₁ aqu=>?_)
  replace hz₁:Nm h₁ z TI TO .ellipsis g1:=hz₁
  have hs₁:Heap.SameBut z s.heap h₁:=⟨aqu.1.trans hs₀.1,fun c hc=>(aqu.2 c hc).trans (hs₀.2 c hc)⟩
  refine wpAny_bind ?_
  simp only [List.zipIdx_cons,List.zipIdx_nil,List.forIn_cons,List.forIn_nil]
  refine wpAny_bind (wpAny_bind (wpAny_onRaise ?_))
  show wpAny _ _ (Builtin.SmallTypes.nextOf (.ref i1) >>= _) _ _ _
  refine wpAny_bind (wpAny_nextOf_list_end hh (h1.extBut hs₁.extBut D.i1z) (hl1.extBut hs₁.extBut D.l1z) hend fun h₂ e hs₂ he=>?_)
  obtain⟨oe,hoe,hce⟩:=he
  have hz₂:Nm h₂ z TI TO .ellipsis g1:=hs₂ _ _ D.i1z.symm hz₁
  have hez:e≠z:=fun x=>by subst x;rw[hz₂] at hoe;cases hoe;simp at hce
  refine wpAny_setField_rec hz₂ (by simp) fun h₃ _ hs₃=>hE h₃ e (fun c o c1 _ c3 _ x=>hs₃.extBut _ _ c1 (hs₂ _ _ c3 (hs₁.extBut _ _ c1 x))) ⟨oe,hs₃.extBut _ _ hez hoe,hce⟩
 | false =>
  simp only [Bool.false_eq_true,if_false]
  refine wpAny_bind ?_
  rw[← Array.forIn_toList]
  simp only [List.forIn_cons,List.forIn_nil]
  refine wpAny_bind (wpAny_bind (wpAny_holding ?_))
  show wpAny _ _ (Builtin.SmallTypes.nextOf (.ref i1) >>= _) _ _ _
  exact wpAny_bind (wpAny_nextOf_list_end hh (h1.extBut hs₀.extBut D.i1z) (hl1.extBut hs₀.extBut D.l1z) hend fun h₂ e hs₂ he=>hE h₂ e (fun c o c1 _ c3 _ x=>hs₂ _ _ c3 (hs₀.extBut _ _ c1 x)) he)
def aqw (z TI TO i1 i2 a b:Addr)(i:Nat)(h:Heap):Prop:=(∃ f0 f1,Nm h z TI TO f0 f1/\Loose f0 f1)/\IsPair h TI (.ref i1) (.ref i2)/\(∃ x y,IsPair h TO x y)/\h.IsListIter i1 a i/\h.IsListIter i2 b i
theorem asG {e z TI TO i1 i2 l1 l2:Addr}{i:Nat}{xs ys:Array Value}{x y old:Value}{Q:Option Value->Shared->Prop}(D:ZipApart z TI TO i1 i2 l1 l2)(hne:∀ c∈[z,TI,TO,i1,i2],e≠c)
  (he:IsEnum s.heap e z i old) (hst:aqw z TI TO i1 i2 l1 l2 i s.heap) (hl1:s.heap.IsList l1 xs) (hl2:s.heap.IsList l2 ys) (hx:xs[i]? = some x) (hy:ys[i]? = some y)
  (hQ:∀ h' tk,IsEnumOut h' e z ((i:Int)+1) (.ref s.heap.objs.size) (s.heap.objs.size+1)->aqw z TI TO i1 i2 l1 l2 (i+1) h'->IsPair h' s.heap.objs.size x y ->
   h'.get? (s.heap.objs.size+1)=some { cls:=.type "tuple",data:=.seq #[.int i tk,.ref s.heap.objs.size] } ->
   (∀ c o,c ∉ [e,z,TO,i1,i2]->s.heap.get? c=some o->h'.get? c=some o)->Q (some (.ref (s.heap.objs.size+1))) { s with heap:=h',toks:=tk+1 }) :
  wpAny (model prog w) A (pyNext (.ref e)) Q E s:=by
 have hT:s.TypeIs (.ref e) "enumerate":=⟨_,he,rfl⟩
 unfold pyNext
 refine wpAny_bind (wpAny_attempt (wpAny_callSpecial?_slot (name:=Str.ofString "__next__") hT PySem.F.slot_enumerate_next
  (wpAny_call_entry PySem.F.slot_enumerate_next hT PySem.F.entry_enumerate_next ?_ (PySem.F.args_enumerate_next_1 _))))
 obtain⟨hp,g,d,tk,os⟩:=s
 obtain⟨⟨f0,f1,hz,hlo⟩,hTI,⟨ta,tb,hTO⟩,g1,g2⟩:=hst
 have ne:=fun c hc=>(hne c hc)
 have ez:e≠z:=hne z (by simp)
 have eTI:e≠TI:=hne TI (by simp)
 have eTO:e≠TO:=hne TO (by simp)
 have ei1:e≠i1:=hne i1 (by simp)
 have ei2:e≠i2:=hne i2 (by simp)
 show wpAny _ _ (field (.ref e) 2 >>= _) _ _ _
 refine wpAny_bind (wpAny_field he rfl (x:=.ref z) rfl ?_)
 refine wpAny_bind ?_
 have hTz:Shared.TypeIs ⟨hp,g,d,tk,os⟩ (.ref z) "zip":=⟨_,hz,rfl⟩
 unfold Builtin.SmallTypes.nextOf
 refine wpAny_bind (wpAny_callSpecial?_slot (name:=Str.ofString "__next__") hTz PySem.F.slot_zip_next
  (wpAny_call_entry PySem.F.slot_zip_next hTz PySem.F.entry_zip_next (anu D hz hlo hTI hTO g1 g2 hl1 hl2 hx hy fun h₁ q1 q2 q3 q4 q5 q6 q7=>wpAny_pure ?_) (PySem.F.args_zip_next_1 _)))
 replace q5:IsPair h₁ hp.objs.size x y:=q5
 replace q6:h₁.objs.size=hp.objs.size+1:=q6
 replace q7:∀ c o,c≠z->c≠TO->c≠i1->c≠i2->hp.get? c=some o->h₁.get? c=some o:=q7
 have he₁:IsEnum h₁ e z i old:=q7 e _ ez eTO ei1 ei2 he
 have st₁:aqw z TI TO i1 i2 l1 l2 (i+1) h₁:=⟨q1,q7 TI _ D.TIz D.TITO D.TIi1 D.TIi2 hTI,q2,q3,q4⟩
 show wpAny _ _ (field (.ref e) 3 >>= _) _ _ ⟨h₁,g,d,tk,os⟩
 refine wpAny_bind (wpAny_field he₁ rfl (x:=rawInt i) rfl ?_)
 show wpAny _ _ (field (.ref e) 4 >>= _) _ _ ⟨h₁,g,d,tk,os⟩
 refine wpAny_bind (wpAny_field he₁ rfl (x:=.none) rfl ?_)
 show wpAny _ _ (mkInt i >>= _) _ _ ⟨h₁,g,d,tk,os⟩
 refine wpAny_bind (wpAny_mkInt ?_)
 show wpAny _ _ (setField (.ref e) 3 (rawInt ((i:Int)+1)) >>= _) _ _ ⟨h₁,g,d,tk+1,os⟩
 refine wpAny_bind (wpAny_setField_rec he₁ (by simp) fun h₂ he₂ hs₂=>?_)
 replace hs₂:Heap.SameBut e h₁ h₂:=hs₂
 replace he₂:IsEnum h₂ e z ((i:Int)+1) old:=he₂
 show wpAny _ _ (setField (.ref e) 4 .none >>= _) _ _ ⟨h₂,g,d,tk+1,os⟩
 refine wpAny_bind (wpAny_setField_rec he₂ (by simp) fun h₃ he₃ hs₃=>?_)
 replace hs₃:Heap.SameBut e h₂ h₃:=hs₃
 replace he₃:IsEnum h₃ e z ((i:Int)+1) old:=he₃
 show wpAny _ _ (newTuple [.int i tk,.ref hp.objs.size] >>= _) _ _ ⟨h₃,g,d,tk+1,os⟩
 refine wpAny_bind (wpAny_newTuple ?_)
 have he₄:IsEnum (h₃.push { cls:=.type "tuple",data:=.seq #[.int i tk,.ref hp.objs.size] }) e z ((i:Int)+1) old:=Heap.get?_push_of_some _ he₃
 have hsz:h₃.objs.size=hp.objs.size+1:=by rw[hs₃.1,hs₂.1,q6]
 have hel:e < hp.objs.size:=Heap.lt_size he
 have ht₄:(h₃.push { cls:=.type "tuple",data:=.seq #[.int i tk,.ref hp.objs.size] }).get? (hp.objs.size+1)=some { cls:=.type "tuple",data:=.seq #[.int i tk,.ref hp.objs.size] }:=by rw[← hsz];exact Heap.get?_push_size _ rfl
 have aAQ:∀ c o,c≠e->h₁.get? c=some o->(h₃.push { cls:=.type "tuple",data:=.seq #[.int i tk,.ref hp.objs.size] }).get? c=some o:=fun c o hc q =>
  Heap.get?_push_of_some _ (hs₃.extBut c o hc (hs₂.extBut c o hc q))
 generalize h₃.push { cls:=.type "tuple",data:=.seq #[.int i tk,.ref hp.objs.size] } = h₄ at he₄ ht₄ aAQ
 show wpAny _ _ (Builtin.SmallTypes.ownedTupleIsFree (.ref e) >>= _) _ _ ⟨h₄,g,d,tk+1,os⟩
 rw[hsz]
 refine wpAny_bind ?_
 unfold Builtin.SmallTypes.ownedTupleIsFree
 refine wpAny_bind (wpAny_field he₄ rfl (x:=.none) rfl (wpAny_pure ?_))
 simp only [if_true]
 refine wpAny_bind (wpAny_rule ?_)
 refine wpAny_bind (wpAny_field he₄ rfl (x:=old) rfl ?_)
 refine wpAny_bind (wpAny_setField_rec he₄ (by simp) fun h₅ he₅ hs₅=>?_)
 replace hs₅:Heap.SameBut e h₄ h₅:=hs₅
 replace he₅:IsEnum h₅ e z ((i:Int)+1) (.ref hp.objs.size):=he₅
 show wpAny _ _ (Builtin.SmallTypes.ownedTupleHandOut (.ref e) (.ref (hp.objs.size+1)) >>= _) _ _ ⟨h₅,g,d,tk+1,os⟩
 refine wpAny_bind ?_
 unfold Builtin.SmallTypes.ownedTupleHandOut
 refine wpAny_bind (wpAny_setField_rec he₅ (by simp) fun h₆ he₆ hs₆=>?_)
 replace hs₆:Heap.SameBut e h₅ h₆:=hs₆
 replace he₆:IsEnumOut h₆ e z ((i:Int)+1) (.ref hp.objs.size) (hp.objs.size+1):=he₆
 refine wpAny_setField_rec he₆ (by simp) fun h₇ he₇ hs₇=>?_
 replace hs₇:Heap.SameBut e h₆ h₇:=hs₇
 replace he₇:IsEnumOut h₇ e z ((i:Int)+1) (.ref hp.objs.size) (hp.objs.size+1):=he₇
 have up:∀ c o,c≠e->h₁.get? c=some o->h₇.get? c=some o:=fun c o hc q=>hs₇.extBut c o hc (hs₆.extBut c o hc (hs₅.extBut c o hc (aAQ c o hc q)))
 have nT:(hp.objs.size:Nat)≠e:=Nat.ne_of_gt hel
 have nT1:(hp.objs.size+1:Nat)≠e:=Nat.ne_of_gt (Nat.lt_succ_of_lt hel)
 refine wpAny_bind (wpAny_letGo (wpAny_pure ⟨_,rfl,wpAny_pure (hQ h₇ tk he₇ ?_ (up _ _ nT q5) ?_ ?_)⟩))
 ·obtain⟨⟨u0,u1,u2,u3⟩,u4,⟨u5,u6,u7⟩,u8,u9⟩:=st₁
  exact⟨⟨u0,u1,up _ _ ez.symm u2,u3⟩,up _ _ eTI.symm u4,⟨u5,u6,up _ _ eTO.symm u7⟩,u8.at fun o q=>up _ o ei1.symm q,u9.at fun o q=>up _ o ei2.symm q⟩
 ·exact hs₇.extBut _ _ nT1 (hs₆.extBut _ _ nT1 (hs₅.extBut _ _ nT1 ht₄))
 ·intro c o hc q
  have hc':c≠e/\c≠z/\c≠TO/\c≠i1/\c≠i2:=by simpa using hc
  exact up c o hc'.1 (q7 c o hc'.2.1 hc'.2.2.1 hc'.2.2.2.1 hc'.2.2.2.2 q)
theorem avb {e z TI TO i1 i2 l1 l2:Addr}{i:Nat}{xs:Array Value}{old:Value}{Q:Option Value->Shared->Prop}(hh:A.handled=none)(D:ZipApart z TI TO i1 i2 l1 l2)
  (he:IsEnum s.heap e z i old) (hst:aqw z TI TO i1 i2 l1 l2 i s.heap) (hl1:s.heap.IsList l1 xs) (hx:xs[i]? = none)
  (hQ:∀ h',(∀ c o,c ∉ [e,z,TO,i1,i2]->s.heap.get? c=some o->h'.get? c=some o)->Q none { s with heap:=h' }):wpAny (model prog w) A (pyNext (.ref e)) Q E s:=by
 have hT:s.TypeIs (.ref e) "enumerate":=⟨_,he,rfl⟩
 obtain⟨⟨f0,f1,hz,hlo⟩,hTI,⟨ta,tb,hTO⟩,g1,g2⟩:=hst
 unfold pyNext
 refine wpAny_bind (wpAny_attempt (wpAny_callSpecial?_slot (name:=Str.ofString "__next__") hT PySem.F.slot_enumerate_next
  (wpAny_call_entry PySem.F.slot_enumerate_next hT PySem.F.entry_enumerate_next ?_ (PySem.F.args_enumerate_next_1 _))))
 show wpAny _ _ (field (.ref e) 2 >>= _) _ _ _
 refine wpAny_bind (wpAny_field he rfl (x:=.ref z) rfl ?_)
 refine wpAny_bind ?_
 have hTz:s.TypeIs (.ref z) "zip":=⟨_,hz,rfl⟩
 unfold Builtin.SmallTypes.nextOf
 refine wpAny_bind (wpAny_callSpecial?_slot (name:=Str.ofString "__next__") hTz PySem.F.slot_zip_next
  (wpAny_call_entry PySem.F.slot_zip_next hTz PySem.F.entry_zip_next (aqv hh D hz hlo hTI hTO g1 hl1 hx fun h' x hk hx'=>?_) (PySem.F.args_zip_next_1 _)))
 obtain⟨o,ho,hc⟩:=hx'
 refine wpAny_bind (wpAny_isInstance (T:="StopIteration") (b:=true) ⟨o,ho,hc⟩ isSubtype_stop ?_)
 refine wpAny_pure (hQ _ fun c o hc q=>?_)
 have hc':c≠e/\c≠z/\c≠TO/\c≠i1/\c≠i2:=by simpa using hc
 exact hk c o hc'.2.1 hc'.2.2.1 hc'.2.2.2.1 hc'.2.2.2.2 q
theorem Iw (z TI TO:Addr) :
  Meets (Builtin.«enumerate.__new__» ⟨[.type "enumerate",.ref z],[]⟩) (fun _ R s=>IsZip s.heap z TI TO .none /\
   R (.ok (.ret (.ref s.heap.objs.size)))
    { s with heap:=s.heap.push { cls:=.type "enumerate",data:=.fields #[.none,.bool false,.ref z,rawInt 0,.none,.none] } }) :=
 .of_wp fun prog w A R s h=>by
  obtain⟨hp,g,d,tk,os⟩:=s;obtain⟨hl,h⟩:=h
  have hsub:=sub_enumerate
  have hL:IsZip (Shared.heap ⟨hp,g,d,tk,os⟩) z TI TO .none:=hl
  wp_walk using wpAny_loadPart' hl
  refine wpAny_stack_any fun st=>wpAny_pure ?_
  split
  ·rename_i c _ _ _ _ _
   cases (c == Value.type "enumerate")
   ·wp_walk using wpAny_loadPart' hl,wpAny_pyIter_zip hL
    exact⟨_,rfl,h⟩
   ·wp_walk using wpAny_loadPart' hl,wpAny_pyIter_zip hL
    exact⟨_,rfl,h⟩
  ·wp_walk using wpAny_loadPart' hl,wpAny_pyIter_zip hL
   exact⟨_,rfl,h⟩
theorem Np {z TI TO:Addr}{Q:Value->Shared->Prop}(hz:IsZip s.heap z TI TO .none)
  (h:∀ h',IsEnum h' s.heap.objs.size z 0 .none->(∀ b o,s.heap.get? b=some o->h'.get? b=some o)->Q (.ref s.heap.objs.size) { s with heap:=h' }) :
  wpAny (model prog w) A (call (.type "enumerate") [.ref z]) Q E s:=by
 refine callType_new PySem.F.called_enumerate (by decide) (PySem.F.typeCall_enumerate_1 _) (PySem.F.newCall_enumerate_1 _) (fun obj=>PySem.F.args_object_init_2 obj _) PySem.F.entry_enumerate_new
  (Iw z TI TO) ⟨hz,?_⟩
 show _/\_
 have he:IsEnum (s.heap.push { cls:=.type "enumerate",data:=.fields #[.none,.bool false,.ref z,rawInt 0,.none,.none] }) s.heap.objs.size z 0 .none:=Heap.get?_push_size _ rfl
 exact⟨⟨_,he,rfl⟩,h _ he fun b o x=>Heap.get?_push_of_some _ x⟩
end
end L2
set_option maxHeartbeats 4000000
namespace L2
open PySem PySem.Spec PyProof.Rows
section
variable {X:Cx} {pins:List (Addr×Obj)} {σ:St} {H:Hp} {s:Shared}
theorem Inv.asH {tk:Nat}{h':Heap}{wr:List Addr}{T U:Addr}{xs ys:List V}{vals vals2:List Value}(I:Inv X pins σ H s)(hw:∀ b∈wr,tX X pins H b)(hT:s.heap.objs.size <= T)(hU:s.heap.objs.size <= U)(hTU:T≠U)
  (ht:h'.IsTuple T vals.toArray) (rv:Vals xs vals) (hz:xs.length <= sizeLine) (hu:h'.IsTuple U vals2.toArray) (rv2:Vals ys vals2) (hz2:ys.length <= sizeLine)
  (kk:∀ b o,b ∉ wr->s.heap.get? b=some o->h'.get? b=some o) (there:∀ b∈wr,∃ o,h'.get? b=some o):Inv X pins σ (upd (upd H T (.tup xs)) U (.tup ys)) { s with heap:=h',toks:=tk }:=by
 have hTn:H T=none:=I.hok.fresh hT
 have hUn:H U=none:=I.hok.fresh hU
 have nT:∀ b o,s.heap.get? b=some o->b≠T:=fun b o e=>Nat.ne_of_lt (Nat.lt_of_lt_of_le (Heap.lt_size e) hT)
 have nU:∀ b o,s.heap.get? b=some o->b≠U:=fun b o e=>Nat.ne_of_lt (Nat.lt_of_lt_of_le (Heap.lt_size e) hU)
 have up:∀ {b:Addr} {o:HO},H b=some o->upd (upd H T (.tup xs)) U (.tup ys) b=some o:=fun e=>by
  rw[aA (aD e hUn),aA (aD e hTn)];exact e
 refine I.step (g':=s.gens) (d':=s.drawn) (ch:=wr) (fun b hb=>?_) (fun b o _ _ hc e _=>kk b o hc e) (fun b o _ _ hc e _=>⟨o.slots,kk b o hc e⟩) (fun b o _ e n=>by rw[aA (nU b o e),aA (nT b o e)];exact n)
  (fun b o hc e=>⟨o,kk b o hc e⟩) (fun b ys e=>up e) (fun b o u e=>up e) (fun b ps e=>⟨#[],by rw[up e];simp⟩) (fun m hm=>?_) (fun b u e=>?_) I.bare
 ·obtain⟨_,f1,_,f3,f4,f5⟩:=hw b hb
  exact⟨f3,f1,f4,f5⟩
 ·obtain⟨o,es,ep,ho,r⟩:=hm
  exact⟨o,es,ep,kk _ o (fun z=>(hw _ z).2.1 rfl) ho,r⟩
 ·by_cases hb:b=U
  ·subst hb
   rw[ao] at e
   cases e
   exact⟨hz2,vals2,rv2,hu⟩
  ·rw[aA hb] at e
   by_cases hb2:b=T
   ·subst hb2
    rw[ao] at e
    cases e
    exact⟨hz,vals,rv,ht⟩
   ·rw[aA hb2] at e
    refine (I.hok b u e).stay (fun c v hc q=>kk c v (fun z=>?_) q) (fun c q=>up q) fun c ys q=>up q
    have hn:=(hw c z).1
    rcases hc with hc | hc
    ·rw[hc,e] at hn;cases hn
    ·rw[hc] at hn;cases hn
def anv (K:Frag)(a b:Addr):It :=
 ⟨fun i H=>∃ xs ys x y,bu K H a xs/\bu K H b ys/\xs[i]? = some x/\ys[i]? = some y,
  fun i H p H'=>∃ x y t0 t1,p=.ref t1/\H t0=none/\H t1=none/\t0≠t1/\(∀ xs,bu K H a xs->xs[i]? = some x)/\(∀ ys,bu K H b ys->ys[i]? = some y)/\H'=upd (upd H t0 (.tup [x,y])) t1 (.tup [.int i,.ref t0]),
  fun i H=>∃ xs ys,bu K H a xs/\bu K H b ys/\xs.length <= i⟩
theorem asI {P:Program}{w:World}{K:Frag}{es:List Expr}{k:Nat}{tp:Pos}{e z TI TO i1 i2:Addr}(a b:Addr)(O:Ca z TI TO i1 i2)(hne:∀ c∈[z,TI,TO,i1,i2],e≠c) :
  Turn P w K (.Tuple es k tp) (anv K a b) [e,z,TI,TO,i1,i2] e (fun i h=>(∃ old,IsEnum h e z i old)/\aqw z TI TO i1 i2 a b i h) where
 mem:=by simp
 obj:=fun i h st c hc=>by
  obtain⟨⟨old,he⟩,⟨f0,f1,hz,_⟩,hTI,⟨x,y,hTO⟩,⟨o1,e1,_,d1⟩,⟨o2,e2,_,d2⟩⟩:=st
  have hc':c=e∨c=z∨c=TI∨c=TO∨c=i1∨c=i2:=by simpa using hc
  rcases hc' with rfl | rfl | rfl | rfl | rfl | rfl
  ·exact⟨_,he,fun v q=>by
    have q':Data.fields _=Data.cell v:=q
    cases q'⟩
  ·exact⟨_,hz,fun v q=>by
    have q':Data.fields _=Data.cell v:=q
    cases q'⟩
  ·exact⟨_,hTI,fun v q=>by
    have q':Data.seq _ _=Data.cell v:=q
    cases q'⟩
  ·exact⟨_,hTO,fun v q=>by
    have q':Data.seq _ _=Data.cell v:=q
    cases q'⟩
  ·exact⟨o1,e1,fun v q=>by rw[d1] at q;cases q⟩
  ·exact⟨o2,e2,fun v q=>by rw[d2] at q;cases q⟩
 keep:=fun i h h' st kp=>by
  obtain⟨⟨old,he⟩,⟨f0,f1,hz,hl⟩,hTI,⟨x,y,hTO⟩,h1,h2⟩:=st
  exact⟨⟨old,kp e (by simp) _ he⟩,⟨f0,f1,kp z (by simp) _ hz,hl⟩,kp TI (by simp) _ hTI,⟨x,y,kp TO (by simp) _ hTO⟩,h1.at fun o q=>kp i1 (by simp) o q,h2.at fun o q=>kp i2 (by simp) o q⟩
 item:=by
  intro X hP hw hK hc i pins s σ H E I hf st hg
  subst hP hw hK
  obtain⟨xs,ys,x,y,hq,hq2,hx,hy⟩:=hg
  obtain⟨⟨old,he⟩,stz⟩:=st
  have D:ZipApart z TI TO i1 i2 a b:=by
   obtain⟨⟨f0,f1,hz,_⟩,hTI,⟨x,y,hTO⟩,⟨o1,e1,c1,_⟩,⟨o2,e2,c2,_⟩⟩:=stz
   have nz:∀ {c:Addr} {zs:List V},bu X.K H c zs->c≠z:=fun h=>dC (K:=X.K) I h hz (by intro q;injection q with q;exact absurd q (by decide))
   have nT:∀ {c:Addr} {zs:List V},bu X.K H c zs->c≠TO:=fun h=>dC (K:=X.K) I h hTO (by intro q;injection q with q;exact absurd q (by decide))
   have n1:∀ {c:Addr} {zs:List V},bu X.K H c zs->c≠i1:=fun h=>dC (K:=X.K) I h e1 (by rw[c1];intro q;injection q with q;exact absurd q (by decide))
   have n2:∀ {c:Addr} {zs:List V},bu X.K H c zs->c≠i2:=fun h=>dC (K:=X.K) I h e2 (by rw[c2];intro q;injection q with q;exact absurd q (by decide))
   exact⟨O.TIz,O.TOz,O.i1z,O.i2z,O.TITO,O.TIi1,O.TIi2,O.TOi1,O.TOi2,O.i12,nz hq,nT hq,n1 hq,n2 hq,nz hq2,nT hq2,n1 hq2,n2 hq2⟩
  obtain⟨its,rv,p,_⟩:=I.list hq
  obtain⟨its2,rv2,p2,_⟩:=I.list hq2
  obtain⟨u,hu,ru⟩:=rv.get hx
  obtain⟨u2,hu2,ru2⟩:=rv2.get hy
  refine asG D hne he stz p.isList p2.isList (x:=u) (y:=u2) (by simpa using hu) (by simpa using hu2) fun h' tk q1 q2 q3 q4 kk=>?_
  refine⟨_,rfl,?_⟩
  have sub:∀ c∈[e,z,TO,i1,i2],c∈[e,z,TI,TO,i1,i2]:=fun c hc=>by
   have:c=e∨c=z∨c=TO∨c=i1∨c=i2:=by simpa using hc
   simp
   rcases this with r | r | r | r | r <;> simp[r]
  have fw:∀ c∈[e,z,TO,i1,i2],tX X pins H c:=fun c hc=>hf c (sub c hc)
  have I1:Inv X pins σ (upd (upd H s.heap.objs.size (.tup [x,y])) (s.heap.objs.size+1) (.tup [.int i,.ref s.heap.objs.size])) { s with heap:=h',toks:=tk+1 }:=by
   refine I.asH (vals:=[u,u2]) (vals2:=[.int i tk,.ref s.heap.objs.size]) fw (Nat.le_refl _) (Nat.le_succ _) (Nat.ne_of_lt (Nat.lt_succ_self _)) ⟨_,q3,rfl,_,rfl⟩ (.cons ru (.cons ru2 .nil)) (by show 2 <= sizeLine;decide)
    ⟨_,q4,rfl,_,rfl⟩ (.cons ⟨tk,rfl⟩ (.cons rfl .nil)) (by show 2 <= sizeLine;decide) kk fun c hc=>?_
   obtain⟨⟨f0,f1,m1,_⟩,_,⟨_,_,m2⟩,⟨o1,m3,_⟩,⟨o2,m4,_⟩⟩:=q2
   have:c=e∨c=z∨c=TO∨c=i1∨c=i2:=by simpa using hc
   rcases this with rfl | rfl | rfl | rfl | rfl
   ·exact⟨_,q1⟩
   ·exact⟨_,m1⟩
   ·exact⟨_,m2⟩
   ·exact⟨_,m3⟩
   ·exact⟨_,m4⟩
  have hT0:H s.heap.objs.size=none:=I.hok.fresh (Nat.le_refl _)
  have hT1:H (s.heap.objs.size+1)=none:=I.hok.fresh (Nat.le_succ _)
  have lt:∀ c∈[e,z,TI,TO,i1,i2],c < s.heap.objs.size:=fun c hc=>by
   obtain⟨⟨f0,f1,m1,_⟩,m5,⟨_,_,m2⟩,⟨o1,m3,_⟩,⟨o2,m4,_⟩⟩:=stz
   have hc':c=e∨c=z∨c=TI∨c=TO∨c=i1∨c=i2:=by simpa using hc
   rcases hc' with rfl | rfl | rfl | rfl | rfl | rfl
   ·exact Heap.lt_size he
   ·exact Heap.lt_size m1
   ·exact Heap.lt_size m5
   ·exact Heap.lt_size m2
   ·exact Heap.lt_size m3
   ·exact Heap.lt_size m4
  refine wpAny_letOwnedTupleGo_enum q1 fun h'' azh hs''=>?_
  have hf2:∀ c∈[e,z,TI,TO,i1,i2],tX X pins (upd (upd H s.heap.objs.size (.tup [x,y])) (s.heap.objs.size+1) (.tup [.int i,.ref s.heap.objs.size])) c:=fun c hc=>by
   obtain⟨f0,fr⟩:=hf c hc
   have l:=lt c hc
   exact⟨by rw[aA (Nat.ne_of_lt (Nat.lt_succ_of_lt l)),aA (Nat.ne_of_lt l)];exact f0,fr⟩
  have kk2:∀ c o,c ∉ [e]->h'.get? c=some o->h''.get? c=some o:=fun c o hc q=>hs''.extBut c o (fun r=>hc (by simp[r])) q
  have up:∀ {c:Addr} {o:Obj},c∈[z,TI,TO,i1,i2]->h'.get? c=some o->h''.get? c=some o:=fun hc q=>hs''.extBut _ _ (hne _ hc).symm q
  have fe:∀ c∈[e],tX X pins (upd (upd H s.heap.objs.size (.tup [x,y])) (s.heap.objs.size+1) (.tup [.int i,.ref s.heap.objs.size])) c:=fun c hc=>by
   have:c=e:=by simpa using hc
   exact hf2 c (by simp[this])
  refine⟨.ref (s.heap.objs.size+1),_,I1.jE (tk:=tk+1) (wr:=[e]) fe kk2,rfl,⟨x,y,s.heap.objs.size,s.heap.objs.size+1,rfl,hT0,hT1,Nat.ne_of_lt (Nat.lt_succ_self _),Dr I hq hx,Dr I hq2 hy,rfl⟩,?_,fun c hc=>(hf2 c hc).1⟩
  obtain⟨⟨f0,f1,m1,m1'⟩,m5,⟨_,_,m2⟩,m3,m4⟩:=q2
  exact⟨⟨_,by simpa using azh⟩,⟨f0,f1,up (by simp) m1,m1'⟩,up (by simp) m5,⟨_,_,up (by simp) m2⟩,m3.at fun o q=>up (by simp) q,m4.at fun o q=>up (by simp) q⟩
 done:=by
  intro X hP hw hK hc i pins s σ H E I hf st hg
  subst hP hw hK
  obtain⟨xs,ys,hq,hq2,hx⟩:=hg
  obtain⟨⟨old,he⟩,stz⟩:=st
  have D:ZipApart z TI TO i1 i2 a b:=by
   obtain⟨⟨f0,f1,hz,_⟩,hTI,⟨x,y,hTO⟩,⟨o1,e1,c1,_⟩,⟨o2,e2,c2,_⟩⟩:=stz
   have nz:∀ {c:Addr} {zs:List V},bu X.K H c zs->c≠z:=fun h=>dC (K:=X.K) I h hz (by intro q;injection q with q;exact absurd q (by decide))
   have nT:∀ {c:Addr} {zs:List V},bu X.K H c zs->c≠TO:=fun h=>dC (K:=X.K) I h hTO (by intro q;injection q with q;exact absurd q (by decide))
   have n1:∀ {c:Addr} {zs:List V},bu X.K H c zs->c≠i1:=fun h=>dC (K:=X.K) I h e1 (by rw[c1];intro q;injection q with q;exact absurd q (by decide))
   have n2:∀ {c:Addr} {zs:List V},bu X.K H c zs->c≠i2:=fun h=>dC (K:=X.K) I h e2 (by rw[c2];intro q;injection q with q;exact absurd q (by decide))
   exact⟨O.TIz,O.TOz,O.i1z,O.i2z,O.TITO,O.TIi1,O.TIi2,O.TOi1,O.TOi2,O.i12,nz hq,nT hq,n1 hq,n2 hq,nz hq2,nT hq2,n1 hq2,n2 hq2⟩
  obtain⟨its,rv,p,_⟩:=I.list hq
  have hl:=rv.length
  refine avb (I.ok.hd hc) D he stz p.isList (Array.getElem?_eq_none (by simp;omega)) fun h' kk=>?_
  refine⟨rfl,I.jE (tk:=s.toks) (wr:=[e,z,TO,i1,i2]) (fun c hc=>hf c ?_) kk⟩
  have:c=e∨c=z∨c=TO∨c=i1∨c=i2:=by simpa using hc
  simp
  rcases this with r | r | r | r | r <;> simp[r]
 self:=fun _ _ _ _ _ st h=>by
  obtain⟨⟨old,he⟩,_⟩:=st
  exact wpAny_pyIter_enum he h
inductive aw3 (K:Frag)(R:(It->Hp->Prop))(x:V)(y:V)(H2:Hp):Prop
 | mk (a:_) (b:_) (fU:x=.ref a) (fV:y=.ref b) (iQ:(∃ xs,bu K H2 a xs)/\(∃ ys,bu K H2 b ys)/\R (anv K a b) H2):aw3 K R x y H2
def iEz (K:Frag)(tl tm:TE):TI:=fun σ H R=>tl σ H fun x H1=>tm σ H1 fun y H2=>aw3 K R x y H2
theorem asJ {l m:Expr}{tl tm:TE}{p pos:Pos}(hg:Gl X "zip")(hz:X.mg "zip" = none)(hl:PE X l tl)(hm:PE X m tm)(hs:starEach [l,m] X.env=[(false,eval l X.env),(false,eval m X.env)])(hs2:starEach [m] X.env=[(false,eval m X.env)])
  {R:V->V->Hp->Prop} (I:Inv X pins σ H s) (h:tl σ H fun x H1=>tm σ H1 fun y H2=>R x y H2) (hR:∀ x y H1,R x y H1->∃ a b,x=.ref a/\y=.ref b/\(∃ xs,bu X.K H1 a xs)/\∃ ys,bu X.K H1 b ys) :
  wpAny (model X.prog X.w) X.A (eval (.Call (.Name "zip" p) [l,m] [] pos) X.env) (fun v s1=>∃ a b z TI TO i1 i2 H1,R (.ref a) (.ref b) H1/\v=.ref z/\Inv X pins σ H1 s1/\Ca z TI TO i1 i2/\IsZip s1.heap z TI TO .none/\amy z TI TO i1 i2 a b 0 s1.heap/\∀ c∈[z,TI,TO,i1,i2],tX X pins H1 c) X.xe s:=by
 refine Call_ (yI I hg hz aj2 (PyProof.Rows.callWith_type1 (eX (aj3 hl hm hs hs2 pos pins s σ H I h) fun us s1 ⟨x,y,u,v,H1,I1,e1,r1,r2,q1⟩=>?_) (by rw[hs,hs2]) (by rw[hs2];rfl)))
 obtain⟨a,b,rfl,rfl,⟨xs,hq⟩,⟨ys,hq2⟩⟩:=hR _ _ _ q1
 subst e1
 cases r1
 cases r2
 obtain⟨its,rv,pl,_⟩:=I1.list hq
 obtain⟨its2,rv2,pl2,_⟩:=I1.list hq2
 refine call_zip_2 pl.isList pl2.isList fun h' z1 z2 z3 z4 z5 hsz kk=>?_
 have O:Ca (s1.heap.objs.size+4) (s1.heap.objs.size+2) (s1.heap.objs.size+3) s1.heap.objs.size (s1.heap.objs.size+1):=by
  constructor <;> exact (by intro q;have q':(_:Nat)=_:=q;omega)
 refine⟨a,b,_,_,_,_,_,H1,q1,rfl,I1.kept (t':=s1.toks) kk,O,z1,⟨z1,z2,⟨_,_,z3⟩,z4,z5⟩,fun c hc=>?_⟩
 have hc':s1.heap.objs.size <= c:=by
  have:c=s1.heap.objs.size+4∨c=s1.heap.objs.size+2∨c=s1.heap.objs.size+3∨c=s1.heap.objs.size∨c=s1.heap.objs.size+1:=by simpa using hc
  rcases this with r | r | r | r | r <;> (rw[r];first | exact Nat.le_add_right _ _ | exact Nat.le_refl _)
 exact I1.acS hc' (I1.hok.fresh hc')
theorem aw4 {l m:Expr}{tl tm:TE}{p p2 pos pos2 tp:Pos}{es:List Expr}{k:Nat}(hg:Gl X "zip")(hz:X.mg "zip" = none)(hg2:Gl X "enumerate")(hm2:X.mg "enumerate" = none)(hl:PE X l tl)(hm:PE X m tm)
  (hs:starEach [l,m] X.env=[(false,eval l X.env),(false,eval m X.env)]:=by rfl) (hs2:starEach [m] X.env=[(false,eval m X.env)]:=by rfl)
  (hs3:starEach [Expr.Call (.Name "zip" p) [l,m] [] pos] X.env=[(false,eval (.Call (.Name "zip" p) [l,m] [] pos) X.env)]:=by rfl) :
  PI X (.Tuple es k tp) (.Call (.Name "enumerate" p2) [.Call (.Name "zip" p) [l,m] [] pos] [] pos2) (iEz X.K tl tm):=by
 intro pins s σ H R I h
 have hev:wpAny (model X.prog X.w) X.A (spliced (backTo pos2 (starEach [Expr.Call (.Name "zip" p) [l,m] [] pos] X.env))) (fun us s1=>∃ a b z TI TO i1 i2 H1,R (anv X.K a b) H1/\us=[.ref z]/\Inv X pins σ H1 s1/\Ca z TI TO i1 i2/\IsZip s1.heap z TI TO .none/\amy z TI TO i1 i2 a b 0 s1.heap/\∀ c∈[z,TI,TO,i1,i2],tX X pins H1 c) X.xe s:=by
  rw[hs3]
  refine Calls.spliced_cons (eX (asJ hg hz hl hm hs hs2 I h fun x y H1 ⟨a,b,e1,e2,q1,q2,_⟩=>⟨a,b,e1,e2,q1,q2⟩) fun v s1 ⟨a,b,z,TI,TO,i1,i2,H1,q,e,I1,O,g1,g2,g3⟩=>Calls.spliced_nil ?_)
  obtain⟨a',b',e1,e2,_,_,q⟩:=q
  cases e1
  cases e2
  exact⟨a,b,z,TI,TO,i1,i2,H1,q,by rw[e],I1,O,g1,g2,g3⟩
 refine Call_ (yI I hg2 hm2 Q7 (PyProof.Rows.callWith_type1 (eX hev fun us s1 ⟨a,b,z,TI,TO,i1,i2,H1,q,e,I1,O,g1,g2,g3⟩=>?_) (by rw[hs3];rfl) (by rfl)))
 subst e
 refine Np g1 fun h' he kk=>?_
 refine wpAny_pyIter_enum he ?_
 obtain⟨y1,y2,⟨y3,y4,y5⟩,y6,y7⟩:=g2
 have hne:∀ c∈[z,TI,TO,i1,i2],s1.heap.objs.size≠c:=fun c hc=>by
  have hc':c=z∨c=TI∨c=TO∨c=i1∨c=i2:=by simpa using hc
  rcases hc' with rfl | rfl | rfl | rfl | rfl
  ·exact Nat.ne_of_gt (Heap.lt_size y1)
  ·exact Nat.ne_of_gt (Heap.lt_size y2)
  ·exact Nat.ne_of_gt (Heap.lt_size y5)
  ·obtain⟨_,y,_⟩:=y6;exact Nat.ne_of_gt (Heap.lt_size y)
  ·obtain⟨_,y,_⟩:=y7;exact Nat.ne_of_gt (Heap.lt_size y)
 refine⟨s1.heap.objs.size,[s1.heap.objs.size,z,TI,TO,i1,i2],_,_,H1,rfl,I1.kept (t':=s1.toks) kk,asI a b O hne,⟨⟨.none,he⟩,⟨.none,.bool false,kk _ _ y1,.inl rfl,false,rfl⟩,kk _ _ y2,⟨y3,y4,kk _ _ y5⟩,y6.at fun o q=>kk _ _ q,y7.at fun o q=>kk _ _ q⟩,fun c hc=>?_,q⟩
 rcases List.mem_cons.mp hc with rfl | hc
 ·exact I1.acS (Nat.le_refl _) (I1.hok.fresh (Nat.le_refl _))
 ·exact g3 c hc
end
theorem avc {K:Frag}{a b:Addr}{xs ys:List V}{g:TG}{tb:TS}{D:Ends}{σ:St}{H:Hp}(Pv:Nat->St->Hp->Prop)(he:xs.length=ys.length)(h0:Pv 0 σ H)(hl:∀ i σ H,Pv i σ H->bu K H a xs/\bu K H b ys)
  (hs:∀ i x y t u σ H,xs[i]? = some x->ys[i]? = some y->Pv i σ H->H t=none->H u=none->t≠u->g (.ref u) σ (upd (upd H t (.tup [x,y])) u (.tup [.int i,.ref t])) fun σ2 H2=>tb { D with nx:=Pv (i+1),ct:=Pv (i+1),bk:=D.nx } σ2 H2) (hd:∀ σ H,Pv xs.length σ H->D.nx σ H) :
  ∃ W:Nat->Nat->St->Hp->Prop,(∃ m,W 0 m σ H)/\∀ i m σ H,W i m σ H ->
   ((anv K a b).stop i H/\D.nx σ H)∨((anv K a b).go i H/\∃ N:St->Hp->Prop,(∀ σ' H',N σ' H'->∃ m',m' < m/\W (i+1) m' σ' H')/\∀ x H',(anv K a b).yld i H x H'->g x σ H' fun σ2 H2=>tb { D with nx:=N,ct:=N,bk:=D.nx } σ2 H2):=by
 refine⟨fun i m σ H=>m=xs.length - i/\i <= xs.length/\Pv i σ H,⟨xs.length,by simp,Nat.zero_le _,h0⟩,?_⟩
 rintro i m σ H ⟨rfl,hi,p⟩
 obtain⟨q,q2⟩:=hl i σ H p
 by_cases hlt:i < xs.length
 ·have hlt2:i < ys.length:=by omega
  refine .inr ⟨⟨xs,ys,xs[i],ys[i],q,q2,by simp[hlt],by simp[hlt2]⟩,Pv (i+1),fun σ' H' p'=>⟨xs.length - (i+1),by omega,rfl,hlt,p'⟩,fun x H' y=>?_⟩
  obtain⟨x0,y0,t,u,rfl,hn,hn2,tu,hx,hy,rfl⟩:=y
  exact hs i x0 y0 t u σ H (hx xs q) (hy ys q2) p hn hn2 tu
 ·have e:i=xs.length:=by omega
  subst e
  exact .inl ⟨⟨xs,ys,q,q2,Nat.le_refl _⟩,hd σ H p⟩
end L2
set_option maxHeartbeats 4000000
namespace L2
open PySem PySem.Spec PyProof.Rows
structure ae0 (K:Frag)(x qual:Str)(st:Stmt)(f:Addr)(fd:FuncData)(dV:Value):Prop where
 ex:∃ (oc:Value) (od:Option Addr) (kV doc pm:Value) (an:Option Addr) (cdv ct:Value) (osl:Array (Option Value)),
  fd=fnOf x qual (aK st) (aH st) (au st) dV kV doc pm an cdv ct/\K.lookup f=some ⟨oc,od,.func fd,osl⟩/\codeIn K cdv qual=true
 kp:keepIn K (.ref f)=true
section
variable {P:Program} {w:World} {K:Frag} {mg:Str->Option Value} {base:Heap}
theorem ae0.ok {x qual:Str}{st:Stmt}{f:Addr}{fd:FuncData}{dV:Value}{N ps:List Str}{k:Nat}{sp:Sp}(F:ae0 K x qual st f fd dV)(S:aP N ps (au st))(len:∀ vs H Q E,sp vs H Q E->vs.length=ps.length)
  (hbody:∀ (cdv:Value) (A:Around) (outer:List Env) (s:Shared) (H:Hp) (vs:List V) (Q:VK) (E:XK),tU k (A.deeper (envOfC qual (au st) s.heap.objs.size f cdv))->sp vs H Q E ->
   ∃ t,PSs (ajT jt P w K mg base N qual (au st) f cdv A outer s H E).nox (aH st) t/\t { nx:=fun _ H'=>Q .non H',rt:=Q } (start N vs) H):bU P w K mg base jt (k+1) f fd ps sp:=by
 obtain⟨oc,od,kV,doc,pm,an,cdv,ct,osl,rfl,lk,hcd⟩:=F.ex
 refine at4 lk hcd S len fun A outer s H vs Q E hr hsp=>?_
 obtain⟨t,h,q⟩:=hbody cdv A outer s H vs Q E hr hsp
 exact⟨t,h.nox,q⟩
theorem ae0.binds {x qual:Str}{st:Stmt}{f:Addr}{fd:FuncData}{T:Addr}{o:Obj}{items:Array Value}{n:Nat}{ps:List Str}{ds:List Value}(F:ae0 K x qual st f fd (.ref T))(lk:K.lookup T=some o)(hs:o.data=.seq items n)
  (h:∀ (kV doc pm:Value) (an:Option Addr) (cdv ct:Value) (us:List Value),(us++ds).length=ps.length->∃ k,bindArgs (fnOf x qual (aK st) (aH st) (au st) (.ref T) kV doc pm an cdv ct) ⟨us,[]⟩=seqItems? (.ref T) >>= k/\k (some items)=pure (ps.zip (us++ds))):Binds K fd ps ds:=by
 obtain⟨oc,od,kV,doc,pm,an,cdv,ct,osl,rfl,lkf,hcd⟩:=F.ex
 intro s us KI hl
 obtain⟨k,h1,h2⟩:=h kV doc pm an cdv ct us hl
 exact BindsTo.of_defaults rfl (KI _ _ lk) hs h1 h2
theorem Zj {x qual:Str}{st:Stmt}{f:Addr}{oc:Value}{od an:Option Addr}{osl:Array (Option Value)}{dV kV doc pm cdv ct:Value}(l:K.lookup f=some ⟨oc,od,.func (fnOf x qual (aK st) (aH st) (au st) dV kV doc pm an cdv ct),osl⟩)
  (c:codeIn K cdv qual=true) (k:keepIn K (.ref f)=true):ae0 K x qual st f (fnOf x qual (aK st) (aH st) (au st) dV kV doc pm an cdv ct) dV:=⟨⟨oc,od,kV,doc,pm,an,cdv,ct,osl,rfl,l,c⟩,k⟩
end
inductive aj4 (w:World):List DictEntry->List (Str×V)->Prop
 | nil:aj4 w [] []
 | cons {x:Str} {t:Tok} {u:Value} {v:V} {es:List DictEntry} {kvs:List (Str×V)}:RelV v u->aj4 w es kvs->aj4 w (⟨PyData.keyHash w.params x,.str x t,u⟩ :: es) ((x,v) :: kvs)
structure KD (K:Frag)(w:World)(a:Addr)(kvs:List (Str×V)):Prop where
 sys:(a == sysModules)=false
 ok:∃ es n,K.lookup a=some ⟨.type "dict",none,.dict es n,#[]⟩/\aj4 w es.toList kvs/\(kvs.map (·.1)).Nodup
theorem aj4.vs (P:Program){w:World}:∀ {es:List DictEntry} {kvs:List (Str×V)},aj4 w es kvs->∃ vs:List (Key×Value),Pairs (dw P w) es vs/\vs.map (·.1)=kvs.map (fun p=>(Sum.inr p.1:Key)) /\
  (∀ e∈es,∃ k,(dw P w).is k e.key=true/\e.hash=(dw P w).hash k)/\∀ x,Dm (kvs.lookup x) (valueAt vs (Sum.inr x))
 | _,_,.nil=>⟨[],.nil,rfl,fun e h=>by simp at h,fun x=>True.intro⟩
 | _,_,.cons (x:=x) (t:=t) (u:=u) (v:=v) r q=>by
  obtain⟨vs,h1,h2,h3,h4⟩:=aj4.vs P q
  refine⟨(Sum.inr x,u) :: vs,.cons (pO P w x t) rfl h1,by rw[List.map_cons,List.map_cons,h2],fun e he=>?_,fun y=>?_⟩
  ·rcases List.mem_cons.mp he with rfl | he
   ·exact⟨Sum.inr x,pO P w x t,rfl⟩
   ·exact h3 e he
  ·by_cases hy:y=x
   ·subst hy
    unfold valueAt
    simp only [List.lookup_cons,List.find?_cons]
    simp
    exact r
   ·unfold valueAt
    have h5:=h4 y
    unfold valueAt at h5
    have e1:(y == x)=false:=by simpa using hy
    have e2:decide ((Sum.inr x:Key)=Sum.inr y)=false:=decide_eq_false fun e=>hy (Sum.inr.inj e).symm
    simp only [List.lookup_cons,e1,List.find?_cons,e2]
    exact h5
theorem Uv:∀ {l:List Str},l.Nodup->(l.map (fun p=>(Sum.inr p:Key))).Nodup
 | [],_=>.nil
 | x :: l,h=>by
  rw[List.map_cons,List.nodup_cons]
  obtain⟨h1,h2⟩:=List.nodup_cons.mp h
  refine⟨fun z=>?_,Uv h2⟩
  obtain⟨y,hy,e⟩:=List.mem_map.mp z
  cases e
  exact h1 hy
theorem KD.dict (P:Program){K:Frag}{w:World}{a:Addr}{kvs:List (Str×V)}{h:Heap}(d:KD K w a kvs)(hi:K.In h):∃ vs,h.DictOf (dw P w) a vs/\∀ x,Dm (kvs.lookup x) (valueAt vs (Sum.inr x)):=by
 obtain⟨es,n,lk,ok,nd⟩:=d.ok
 obtain⟨vs,h1,h2,h3,h4⟩:=ok.vs P
 refine⟨vs,⟨_,es,n,hi _ _ lk,⟨rfl,rfl,rfl⟩,rfl,fun e he=>h3 e (by simpa using he),h1,?_⟩,h4⟩
 rw[h2]
 have:=Uv nd
 rw[List.map_map] at this
 exact this
theorem Dm.asK {o:Option V}{u:Option Value}(r:Dm o u):o.isSome=u.isSome:=by
 cases o <;> cases u <;> first | rfl | exact False.elim r
theorem Dm.aw5 {o:Option V}{u:Option Value}{d:V}{d':Value}(r:Dm o u)(rd:RelV d d'):RelV (o.getD d) (u.getD d'):=by
 cases o with
 | none=>cases u with
  | none=>exact rd
  | some _=>exact False.elim r
 | some v=>cases u with
  | none=>exact False.elim r
  | some _=>exact r
section
variable {X:Cx}
theorem aqx:Ez X (compareOp .In) (fun x y H Q=>∃ a z kvs,x=.str z/\y=.ref a/\KD X.K X.w a kvs/\Q (.bl (kvs.lookup z).isSome) H):=by
 intro pins s σ H x y v u Q I rx ry h
 obtain⟨a,z,kvs,rfl,rfl,d,q⟩:=h
 obtain⟨t,rfl⟩:=rx
 cases ry
 obtain⟨vs,dd,rel⟩:=d.dict X.prog I.QT
 refine wpAny_in_of (knd:=dw X.prog X.w) (k:=Sum.inr z) (pO _ _ z t) d.sys dd.mapOf ?_
 rw[← (rel z).asK]
 exact⟨.bl _,H,I.tok _,rfl,q⟩
theorem aui:IxR X (fun x y H Q=>∃ a z kvs r,x=.ref a/\y=.str z/\KD X.K X.w a kvs/\kvs.lookup z=some r/\Q r H):=by
 intro value slice pins s σ H x y v u Q I rx ry h hs
 obtain⟨a,z,kvs,r,rfl,rfl,d,l,q⟩:=h
 cases rx
 obtain⟨t,rfl⟩:=ry
 obtain⟨vs,dd,rel⟩:=d.dict X.prog I.QT
 have hr:=rel z
 rw[l] at hr
 cases hv:valueAt vs (Sum.inr z) with
 | none=>rw[hv] at hr;exact False.elim hr
 | some rv =>
  rw[hv] at hr
  exact subscriptTail_builtinR (x:=rv) dd.typeIs PySem.F.slot_dict_getitem.lookup
   (wpAny_getItem_of (knd:=dw X.prog X.w) (k:=Sum.inr z) (pO _ _ z t) dd.mapOf hv ⟨rfl,⟨r,H,I.tok _,hr,q⟩⟩) hs
def avd (K:Frag)(w:World)(td ty tx:TE):TE:=fun σ H Q=>td σ H fun x H1=>∃ a kvs,x=.ref a/\KD K w a kvs/\ty σ H1 fun y H2=>tx σ H2 fun z H3=>∃ k,y=.str k/\Q ((kvs.lookup k).getD z) H3
theorem aqy {o e f:Expr}{apos cpos:Pos}{td ty tx:TE}(ho:PE X o td)(he:PE X e ty)(hf:PE X f tx)
  (base:attributeBase o "get" X.env (eval o X.env)=eval o X.env:=by rfl)
  (few:((backTo cpos (starEach [e,f] X.env)).all (fun x=>!x.1) && (backToKw cpos (keywordEach [] X.env)).all (fun x=>x.1.isSome)
   && decide (([e,f]:List Expr).length+([]:List Keyword).length+(if ([]:List Keyword).isEmpty then 0 else 1) < 30))=true:=by rfl)
  (line:(apos.endLine == cpos.line)=true:=by rfl) (trees:backTo cpos (starEach [e,f] X.env)=[(false,eval e X.env),(false,eval f X.env)]:=by rfl) :
  PE X (.Call (.Attribute o "get" apos) [e,f] [] cpos) (avd X.K X.w td ty tx):=by
 intro pins s σ H Q I h
 refine wpAny_Call_method base few line PySem.F.plainAttrs_dict PySem.F.slot_dict_get PySem.F.type_dict_get (eX (ho pins s σ H _ I h) fun u s1 ⟨x,H1,I1,rx,a,kvs,ex,d,q1⟩=>?_)
 subst ex
 obtain rfl:u=Value.ref a:=rx
 obtain⟨vs,dd,rel⟩:=d.dict X.prog I1.QT
 refine⟨dd.typeIs,fun b q=>?_,?_⟩
 ·cases q
  obtain⟨ob,_,_,h1,h2,_⟩:=dd
  exact⟨ob,h1,h2.2.1⟩
 rw[trees]
 refine Calls.callWith_builtin rfl (Calls.evalArgs_plain (Calls.spliced_cons (eX (he pins s1 σ H1 _ I1 q1) fun iv s2 ⟨y,H2,I2,ry,q2⟩ =>
  Calls.spliced_cons (eX (hf pins s2 σ H2 _ I2 q2) fun fv s3 ⟨z,H3,I3,rz,k,ek,q3⟩=>Calls.spliced_nil ?_))))
 subst ek
 obtain⟨t,rfl⟩:=ry
 obtain⟨vs3,dd3,azi⟩:=d.dict X.prog I3.QT
 exact call_meetsIn PySem.F.slot_dict_get dd3.typeIs PySem.F.entry_dict_get (PySem.F.args_dict_get_3 _ _ _) (meets_dict_get_default (dw X.prog X.w) a (pO _ _ k t) d.sys fv) ⟨_,dd3.mapOf,_,H3,I3.tok _,(azi k).aw5 rz,q3⟩
def Nq:List Int->Int
 | []=>0
 | x :: l=>x+Nq l
theorem anw (l:List Int)(x:Int):Nq (l++[x])=Nq l+x:=by
 induction l with
 | nil=>simp[Nq]
 | cons y l ih=>simp only [List.cons_append,Nq,ih];omega
theorem Iz (ns:List Int):∀ k,k <= ns.length->preSum (fun i=>ns.getD i 0) k=Nq (ns.take k)
 | 0,_=>by simp[preSum,Nq]
 | k+1,h=>by
  have e:ns.take (k+1)=ns.take k++[ns.getD k 0]:=by
   rw[List.take_succ_eq_append_getElem (by omega)]
   rw[List.getD_eq_getElem?_getD,List.getElem?_eq_getElem (by omega)]
   rfl
  rw[e,anw,preSum,Iz ns k (by omega)]
theorem ZR:∀ (ns:List Int),(∀ x∈ns,0 <= x/\x <= 1000)->0 <= Nq ns/\Nq ns <= 1000 * ns.length
 | [],_=>by simp[Nq]
 | x :: l,h=>by
  have h1:=h x List.mem_cons_self
  have h2:=ZR l fun y hy=>h y (List.mem_cons_of_mem _ hy)
  simp only [Nq,List.length_cons]
  omega
theorem aih:qI X (.builtin "sum") (fun xs H Q=>X.calm=true/\∃ (a:Addr) (ns:List Int),xs=[.ref a]/\bu X.K H a (ns.map V.int)/\(∀ x∈ns,0 <= x/\x <= 1000)/\ns.length <= 1000/\Q (.int (Nq ns)) H):=by
 intro pins s σ H xs us Q I r h
 obtain⟨hc,a,ns,rfl,hq,hb,hlen,q⟩:=h
 obtain⟨u,rfl,rfl⟩:=r.one
 obtain⟨its,rv,p,hz⟩:=I.list hq
 have hl:=rv.length
 rw[List.length_map] at hl
 have at_:∀ (i:Nat) (v:Value),its.toArray[i]? = some v->∃ t,v=Value.int (ns.getD i 0) t:=by
  intro i v hv
  have hv':its[i]? = some v:=by simpa using hv
  have hi:i < its.length:=(List.getElem?_eq_some_iff.mp hv').1
  have hn:i < ns.length:=by omega
  obtain⟨u,hu,ru⟩:=rv.get (i:=i) (x:=.int (ns[i])) (by rw[List.getElem?_map,List.getElem?_eq_getElem hn];rfl)
  rw[hv'] at hu;cases hu
  obtain⟨t,rfl⟩:=ru
  refine⟨t,?_⟩
  rw[List.getD_eq_getElem?_getD,List.getElem?_eq_getElem hn]
  rfl
 have ane:a≠s.heap.objs.size:=by
  obtain⟨o,ho,_⟩:=p.isList
  exact Nat.ne_of_lt (Heap.lt_size ho)
 have hd:X.A.in1.handled=none:=I.ok.hd hc
 refine call_sum_walk (wpAny_pyIter_list p.isList ?_)
 refine⟨s.heap.objs.size,_,_,_,_,_,fun i=>ns.getD i 0,rfl,Walks.list hd s.heap.objs.size a ane its.toArray,⟨⟨_,Heap.get?_push_size _ rfl,rfl,rfl⟩,p.isList.push _⟩,?_,?_,?_,?_⟩
 ·intro b hb
  obtain⟨o,ho,_⟩:=p.isList
  have e:b=s.heap.objs.size∨b=a:=by simpa using hb
  have z:(s.heap.push { cls:=.type "list_iterator",data:=.fields #[.ref a,.int 0 0] }).objs.size=s.heap.objs.size+1:=Heap.size_push ..
  show b < (s.heap.push _).objs.size
  rw[z]
  rcases e with rfl | rfl
  ·exact Nat.lt_succ_self _
  ·exact Nat.lt_succ_of_lt (Heap.lt_size ho)
 ·intro i v hP
  exact at_ i v hP
 ·intro j hj
  have hj':j < ns.length:=by rw[List.size_toArray] at hj;omega
  have b1:0 <= ns.getD j 0/\ns.getD j 0 <= 1000:=by
   rw[List.getD_eq_getElem?_getD,List.getElem?_eq_getElem hj']
   exact hb _ (List.getElem_mem hj')
  have b2:=ZR (ns.take (j+1)) fun x hx=>hb x (List.mem_of_mem_take hx)
  have b3:(ns.take (j+1)).length <= 1000:=by rw[List.length_take];omega
  rw[Iz ns (j+1) hj']
  show InLong (ns.getD j 0)/\_
  constructor
  ·constructor <;> (have:(2:Int) ^ 63=9223372036854775808:=by decide) <;> (try rw[this]) <;> omega
  ·constructor <;> (have:(2:Int) ^ 63=9223372036854775808:=by decide) <;> (try rw[this]) <;> omega
 ·intro h' tk t' kk
  have e:preSum (fun i=>ns.getD i 0) its.toArray.size=Nq ns:=by
   rw[List.size_toArray,← hl,Iz ns _ (Nat.le_refl _),List.take_length]
  rw[e]
  refine⟨.int _,H,I.kept (t':=tk) fun b o e=>kk b o (fun z=>?_) (Heap.get?_push_of_some _ e),⟨t',rfl⟩,q⟩
  have:b=s.heap.objs.size:=by simpa using z
  exact absurd (Heap.lt_size e) (by rw[this];exact Nat.lt_irrefl _)
end
end L2
set_option maxHeartbeats 4000000
namespace L2
open PySem PySem.Spec PyProof.Rows
def aw6 (t:TE):TE:=fun σ H Q=>∃ R:V->Hp->Prop,t σ H R/\∀ v H',R v H'->Q v H'
def aw7 (t:TT):TT:=fun σ H Q=>∃ R:Bool->Hp->Prop,t σ H R/\∀ v H',R v H'->Q v H'
def aw8 (t:TS):TS:=fun D σ H=>∃ R:St->Hp->Prop,t { D with nx:=R } σ H/\∀ σ' H',R σ' H'->D.nx σ' H'
section
variable {X:Cx}
theorem fM {e:Expr}{t:TE}(h:PE X e t):PE X e (aw6 t):=by
 intro pins s σ H Q I ⟨R,hR,hQ⟩
 exact eX (h pins s σ H R I hR) fun u s1 ⟨v,H1,I1,r,q⟩=>⟨v,H1,I1,r,hQ v H1 q⟩
theorem cG {e:Expr}{t:TT}(h:PT X e t):PT X e (aw7 t):=by
 intro pins s σ H Q I ⟨R,hR,hQ⟩
 exact eX (h pins s σ H R I hR) fun u s1 ⟨H1,I1,q⟩=>⟨H1,I1,hQ u H1 q⟩
theorem qJ {st:Stmt}{t:TS}(h:PS X st t):PS X st (aw8 t):=by
 intro pins s σ H D I ⟨R,hR,hQ⟩
 refine eX (h pins s σ H _ I hR) fun f s1 q=>?_
 cases f with
 | next=>exact let ⟨σ',H',I',q'⟩:=q;⟨σ',H',I',hQ _ _ q'⟩
 | brk=>exact q
 | cont=>exact q
 | ret u=>exact q
end
theorem ZS {t:TE}{σ:St}{H:Hp}{Q:VK}(v:V)(h:t σ H fun x H1=>x=v/\H1=H)(q:Q v H):∃ R:V->Hp->Prop,t σ H R/\∀ v H',R v H'->Q v H':=⟨_,h,by rintro _ _ ⟨rfl,rfl⟩;exact q⟩
theorem oH {t:TT}{σ:St}{H:Hp}{Q:Bool->Hp->Prop}(b:Bool)(h:t σ H fun x H1=>x=b/\H1=H)(q:Q b H):∃ R:Bool->Hp->Prop,t σ H R/\∀ v H',R v H'->Q v H':=⟨_,h,by rintro _ _ ⟨rfl,rfl⟩;exact q⟩
theorem aqz {t:TS}{σ:St}{H:Hp}{D:Ends}(σ':St)(H':Hp)(h:t { D with nx:=fun σ1 H1=>σ1=σ'/\H1=H' } σ H)(q:D.nx σ' H'):∃ R:St->Hp->Prop,t { D with nx:=R } σ H/\∀ σ' H',R σ' H'->D.nx σ' H' :=
 ⟨_,h,by rintro _ _ ⟨rfl,rfl⟩;exact q⟩
theorem xV {x v:V}{H:Hp}(e:x=v):x=v/\H=H:=⟨e,rfl⟩
theorem eY {x v:Bool}{H:Hp}(e:x=v):x=v/\H=H:=⟨e,rfl⟩
end L2
set_option maxHeartbeats 4000000
namespace L2
open PySem PySem.Spec PyProof.Rows
abbrev Cx.names (X:Cx)(N:List Str):Cx:={ X with N:=N }
section
variable {X:Cx} {pins:List (Addr×Obj)} {σ:St} {H:Hp} {s:Shared}
theorem Cx.Ok.names {N:List Str}(o:X.Ok):(X.names N).Ok:=⟨o.mod,o.kind,o.glob,o.blt,o.above,o.inj,o.has,o.cab,o.hd,o.frames,o.stk,o.exf,o.bs,o.bsz,o.ajI,o.ajJ,o.QW,o.frf⟩
theorem Cx.Ok.ae1 {N:List Str}(o:(X.names N).Ok):X.Ok:=⟨o.mod,o.kind,o.glob,o.blt,o.above,o.inj,o.has,o.cab,o.hd,o.frames,o.stk,o.exf,o.bs,o.bsz,o.ajI,o.ajJ,o.QW,o.frf⟩
theorem Inv.names {N:List Str}(I:Inv X pins σ H s)(hl:N.length=X.N.length)(h:∀ (j:Nat) x v,N[j]? = some x->σ[j]? = some (some v)->X.N[j]? = some x):Inv (X.names N) pins σ H s:=by
 obtain⟨m,hm,hq⟩:=I.loc
 exact⟨I.ok.names,I.os,I.bare,I.base,⟨m,hm,fun i x v e1 e2 e3=>hq i x v (h i x v e1 e2) e2 e3⟩,I.cell,I.free,I.HB,I.pin,I.hok,by rw[I.len];exact hl.symm⟩
theorem Inv.ae1 {N:List Str}(I:Inv (X.names N) pins σ H s)(hl:N.length=X.N.length)(h:∀ (j:Nat) x v,X.N[j]? = some x->σ[j]? = some (some v)->N[j]? = some x):Inv X pins σ H s:=by
 obtain⟨m,hm,hq⟩:=I.loc
 exact⟨I.ok.ae1,I.os,I.bare,I.base,⟨m,hm,fun i x v e1 e2 e3=>hq i x v (h i x v e1 e2) e2 e3⟩,I.cell,I.free,I.HB,I.pin,I.hok,by rw[I.len];exact hl⟩
end
end L2
set_option maxHeartbeats 4000000
namespace L2
open PySem PySem.Spec PyProof.Rows
section
variable {X:Cx} {tg iter elt:Expr} {ifs:List Expr} {scope:Scope} {pos:Pos} {cn:List Str} {wi:TI} {g:Bk->TG} {tc:Bk->TT} {te:Bk->TE}
theorem ZV {i:Nat}{x:Str}{pos' spos:Pos}(hN:X.N.Nodup)(hix:X.N[i]? = some x)(hx:X.env.scope.names.lookup x=some .local)(hcalm:X.calm=true)(F:fW X.env.scope X.N scope)(hi:PI X tg iter wi)
  (hg:∀ b,PG (eG X cn scope b) tg (g b)) (ht:∀ b,PF (eG X cn scope b) ifs (tc b)) (he:∀ b,PE (eG X cn scope b) elt (te b))
  (hsw:swapsWith (.ListComp elt [⟨tg,iter,ifs,0⟩] scope pos) (some (.Name x pos')) spos.line X.env=pure true:=by rfl)
  (hs:∀ x,foldedSetIterable iter X.env x=pure x:=by intro _;rfl):PS X (.Assign [.Name x pos'] (.ListComp elt [⟨tg,iter,ifs,0⟩] scope pos) spos) (asw (aqj cn.length wi g tc te) (ad0 i)):=by
 intro pins s σ H D I h
 rw[exec_Assign_Name_used _ _ _ _ hsw]
 refine wpAny_bind (wpAny_standAt (wpAny_bind ?_))
 rw[arm_evalThenUse_ListComp]
 refine wpAny_bind ?_
 have hcl:closureFor scope X.env=pure (kI X.env scope.names []):=amt fun p hp e=>I.ok.has p.1 (F.free p hp e)
 refine wpAny_comprehension_free (use:=some (assign (.Name x pos') X.env)) rfl hs hcl F.kind F.loc (eX (hi pins s σ H _ I h) fun xv s₁ h₁=>eX h₁ fun itv s₂ h₂=>?_)
 obtain⟨it,fp,tn,J,H2,rfl,I2,T,st,f2,R⟩:=h₂
 refine aic (TH:=fun _=>True) (QQ:=fun D' H'=>D.nx (σ.set i (some (.ref D'))) H') (RR:=fun acc C=>compPost (model X.prog X.w) X.A X.xe (some (assign (.Name x pos') X.env)) _ acc C) hcalm F (fun b _=>hg b) (fun b _=>ht b) (fun b _=>he b) (fun _ _=>trivial) I2 T st f2 R ?_ ?_
 ·intro C D' σ' H' s' hC I' q
  obtain⟨m,hm,_⟩:=I'.loc
  have hCn:H' C=none:=I'.free
  have fC:tX X pins H' C:=I2.acS hC hCn
  have I3:Inv X pins σ H' s':=I2.amv f2 hC I' ⟨rfl,fun _ _=>rfl⟩
  show wpAny (model X.prog X.w) X.A (assign (.Name x pos') X.env (.ref D')) _ X.xe s'
  refine wpAny_assign_Name (adZ I3 hN hix (.inl hx) (v:=.ref D') rfl (fun s'' I4 ⟨a,sa,ha⟩=>?_) (.inr hx))
  have hne:C≠a:=by
   rcases ha with e | e
   ·rw[e];exact fC.2.1
   ·exact fun z=>fC.2.2.2.2.1 _ _ e z.symm
  obtain⟨o,es,ep,ho,r⟩:=hm
  refine⟨m,⟨o,es,ep,(sa.2 C hne).trans ho,r⟩,fun h' sb=>?_⟩
  refine wpAny_pure (wpAny_pure ⟨_,H',?_,q⟩)
  exact I4.jE (tk:=s''.toks) (wr:=[C]) (fun b hb=>by
   have:b=C:=by simpa using hb
   rw[this];exact fC) fun b o hb e=>(sb.2 b (fun z=>hb (by simp[z]))).trans e
 ·intro C D' e s' z
  exact z
end
theorem asL {X:Cx}{st:Stmt}{t:TS}(k:Nat)(N:List Str)(h:PS (X.names N) st t)(hN:N=X.N.set k "":=by rfl):PS X st (fun D σ H=>σ[k]? = some none/\t { nx:=fun σ' H'=>σ'[k]? = some none/\D.nx σ' H',rt:=fun _ _=>False } σ H):=by
 intro pins s σ H D I ⟨hk,hw⟩
 have hl:N.length=X.N.length:=by rw[hN,List.length_set]
 have a1:∀ (σ:St),σ[k]? = some none->∀ (j:Nat) (x:Str) (v:V),σ[j]? = some (some v)->N[j]? = X.N[j]?:=fun σ hk j x v e2=>by
  have hj:k≠j:=fun z=>by rw[← z,hk] at e2;cases e2
  rw[hN,List.getElem?_set_ne hj]
 refine eX (h pins s σ H _ (I.names hl fun j x v e1 e2=>by rw[← a1 σ hk j x v e2];exact e1) hw) fun f s1 q=>?_
 cases f with
 | next =>
  obtain⟨σ',H',I',hk',q'⟩:=q
  exact⟨σ',H',I'.ae1 hl fun j x v e1 e2=>by rw[a1 σ' hk' j x v e2];exact e1,q'⟩
 | brk=>exact (let ⟨_,_,_,z⟩:=q;z.elim)
 | cont=>exact (let ⟨_,_,_,z⟩:=q;z.elim)
 | ret u=>exact (let ⟨_,_,_,_,_,z⟩:=q;z.elim)
end L2
set_option maxHeartbeats 4000000
namespace L2
open PySem PySem.Spec PyProof.Rows PySem.SeqAt
section
variable {X:Cx}
inductive auj (K:Frag)(neg:Bool)(x:V)(y:V)(H:Hp)(Q:VK):Prop
 | mk (a:_) (c:_) (xs:_) (fU:x=.ref a) (fV:y=.ref c) (iQ:bu K H a xs) (nZ:bu K H c []) (xM:Q (.bl (if neg then !xs.isEmpty else xs.isEmpty)) H):auj K neg x y H Q
def aw9 (K:Frag)(neg:Bool):R2:=fun x y H Q=>auj K neg x y H Q
theorem aqA {pins:List (Addr×Obj)}{σ:St}{H:Hp}{s:Shared}{a c:Addr}{xs:List V}(hu:X.A.units+64 < cLine)(I:Inv X pins σ H s)(ha:bu X.K H a xs)(hc:bu X.K H c []):RcAt X.A s (.ref a) (.ref c) xs.isEmpty/\RcNeAt X.A s (.ref a) (.ref c) (!xs.isEmpty):=by
 obtain⟨its,r,p,_⟩:=I.list ha
 obtain⟨its',r',p',_⟩:=I.list hc
 have e1:=r.length
 have e2:=r'.length
 simp at e2
 cases xs with
 | nil =>
  simp at e1
  have z1:its=[]:=by simpa using e1.symm
  have z2:its'=[]:=by simpa using e2.symm
  subst z1 z2
  constructor
  ·have:=RcAt.lists (A:=X.A) (e:=fun _=>true) p.isList p'.isList rfl (by omega) (fun j h1 _=>absurd h1 (by simp))
   simpa using this
  ·have:=RcNeAt.lists (A:=X.A) (e:=fun _=>true) p.isList p'.isList rfl (by omega) (fun j h1 _=>absurd h1 (by simp))
   simpa using this
 | cons x t =>
  have hne:(its.toArray.size != its'.toArray.size)=true:=by
   simp at e1
   have z2:its'=[]:=by simpa using e2.symm
   subst z2
   have:its.length≠0:=by omega
   simpa using this
  exact⟨RcAt.lists_lengths p.isList p'.isList hne (by omega),RcNeAt.lists_lengths p.isList p'.isList hne (by omega)⟩
theorem Uw (hu:X.A.units+64 < cLine):Ez X (compareOp .Eq) (aw9 X.K false):=by
 intro pins s σ H x y v u Q I r1 r2 h
 obtain⟨a,c,xs,rfl,rfl,ha,hc,q⟩:=h
 cases r1
 cases r2
 exact (aqA hu I ha hc).1 X.prog X.w X.xe _ ⟨.bl _,H,I,rfl,q⟩
theorem ave (hu:X.A.units+64 < cLine):Ez X (compareOp .NotEq) (aw9 X.K true):=by
 intro pins s σ H x y v u Q I r1 r2 h
 obtain⟨a,c,xs,rfl,rfl,ha,hc,q⟩:=h
 cases r1
 cases r2
 exact (aqA hu I ha hc).2 X.prog X.w X.xe _ ⟨.bl _,H,I,rfl,q⟩
end
end L2
set_option maxHeartbeats 4000000
namespace L2
open PySem PySem.Spec PyProof.Rows
structure PEw (X:Cx)(e:Expr)(t:TE):Prop where
 out:PE X e t
structure PAw (X:Cx)(es:List Expr)(t:TA):Prop where
 out:PA X es t
end L2
set_option maxHeartbeats 4000000
namespace L2
open PySem PySem.Spec PyProof.Rows
abbrev XSt:=St->Value->Hp->Prop
section
variable {X:Cx} {pins:List (Addr×Obj)} {σ:St} {H H':Hp} {s s':Shared}
end
section
variable {P:Program} {w:World} {K:Frag} {mg:Str->Option Value} {base:Heap}
end
inductive asM (C:Addr)(m:Str)(sp:Sp)(QV:List V)(XS:XSt)(t:TA)(σ:St)(Q:VK)(x:V)(H1:Hp):Prop
 | mk (a:_) (dx:_) (fs:_) (fU:x=.ref a) (fV:H1 a=some (.ins C dx fs)) (iQ:fs.lookup m=none) (nZ:t σ H1 fun vs H2=>sp (x :: (vs++QV)) H2 Q fun cls _ H'=>XS σ cls H'):asM C m sp QV XS t σ Q x H1
section
variable {X:Cx} {W:Value->Shared->Prop} {XS:XSt} {k:Nat} {f C:Addr} {fd:FuncData} {ps:List Str} {sp:Sp} {QV:List V} {ds:List Value} {x m:Str} {p pos apos:Pos} {e o:Expr} {es:List Expr} {ta:TE} {t:TA}
end
abbrev axa:List Value:=[.type "ValueError",.type "Exception",.type "BaseException",.type "object"]
def ExC (K:Frag)(C:Addr):Prop:=excIn K C axa "ValueError.__new__" = true
abbrev Cx.pnd (X:Cx)(pn:List (Addr×Obj)):Cx:={ X with pn:=pn }
abbrev Cx.hand (X:Cx)(a:Addr):Cx:={ X with A:=X.A.mark (some (.ref a)),calm:=false,xe:=fun _ _=>False }
section
variable {X:Cx} {pins apM:List (Addr×Obj)} {σ:St} {H H':Hp} {s:Shared}
end
end L2
set_option maxHeartbeats 4000000
namespace L2
open PySem PySem.Spec PyProof.Rows
structure ExA (K:Frag)(C:Addr):Prop where
 exc:ExC K C
 ga:findIn K (.ref C) "__getattribute__" = some (some (.builtin "BaseException.__getattribute__"))
 aBU:findIn K (.ref C) "__getattr__" = some none
 cl:findIn K (.ref C) "__class__" = some (some (.builtin "object.__class__"))
section
variable {prog:Program} {w:World} {A:Around} {E:Value->Shared->Prop} {h:Heap} {g:Array GenState} {d:Drawn} {t:Nat} {os:OsState} {a:Addr} {o:Obj} {vs:Array Value} {K:Frag}
 {nm q:Str} {C N:Addr} {bs bm:List Value} {hdct:Bool} {sn:List Str} {sub:List Value} {ab:Bool} {col:Option Bool} {dd:Option Addr} {k0 k1 k2 k3 k5:Option Value} {newId:String}
end
section
variable {X:Cx}
end
end L2
set_option maxHeartbeats 4000000
namespace L2
open PySem PySem.Spec PyProof.Rows
section
variable {P:Program} {w:World} {K:Frag} {mg:Str->Option Value} {base:Heap}
end
section
variable {X:Cx} {tg iter elt:Expr} {ifs:List Expr} {scope:Scope} {pos:Pos} {cn:List Str} {wi:TI} {g:Bk->TG} {tc:Bk->TT} {te:Bk->TE} {TH:Bk->Prop}
end
end L2
set_option maxHeartbeats 4000000
namespace L2
open PySem PySem.Spec PyProof.Rows
def avf (to:TE)(tl th:St->Hp->(Option Int->Hp->Prop)->Prop):TG:=fun v σ H Q=>to σ H fun x H1=>tl σ H1 fun l H2=>th σ H2 fun u H3 =>
 ∃ (p b:Addr) (xs ys:List V) (a c:Int),x=.ref p/\v=.ref b/\l=some a/\u=some c/\H3 p=some (.lst xs)/\H3 b=some (.lst ys)/\p≠b/\0 <= a/\a <= c/\c <= xs.length/\xs.length+ys.length <= sizeLine/\Q σ (upd H3 p (.lst (xs.take a.toNat++ys++xs.drop c.toNat)))
theorem aii {X:Cx}{o:Expr}{lo hi:Option Expr}{p2 pos:Pos}{to:TE}{tl th:St->Hp->(Option Int->Hp->Prop)->Prop}(ho:PE X o to)(hl:PO X lo tl)(hu:PO X hi th)
  (ha:∀ v,assign (.Subscript o (.Slice lo hi none p2) pos) X.env v=(do
   let ov ← holding [v] (eval o X.env)
   let iv ← holding [v,ov] (eval (.Slice lo hi none p2) X.env)
   standAt pos
   holding [v,ov,iv] (setItem ov iv v)
   release [iv,v,ov] []):=by intro _;rfl):PG X (.Subscript o (.Slice lo hi none p2) pos) (avf to tl th):=by
 intro pins s σ H v u Q I r h
 rw[ha]
 refine wpAny_bind (wpAny_holding (eX (ho pins s σ H _ I h) fun ov s1 ⟨x,H1,I1,r1,q1⟩=>?_))
 refine wpAny_bind (wpAny_holding ?_)
 refine wpAny_Slice (eX (hl pins s1 σ H1 _ I1 q1) fun vl s2 ⟨l,H2,I2,pl,q2⟩=>eX (hu pins s2 σ H2 _ I2 q2) fun vu s3 ⟨uu,H3,I3,pu,q3⟩=>?_)
 rw[evalPart_none]
 refine wpAny_pure ?_
 have I4:Inv X pins σ H3 { s3 with heap:=s3.heap.push { cls:=.type "slice",data:=.fields #[vl,vu,.none] } }:=I3.kept (t':=s3.toks) fun b ob q=>Heap.get?_push_of_some _ q
 obtain⟨p,b,xs,ys,a,c,rfl,rfl,rfl,rfl,hp,hb,hne,h0,hac,hc,hz,q4⟩:=q3
 cases r1
 cases r
 refine wpAny_bind (wpAny_standAt (wpAny_bind (wpAny_holding ?_)))
 refine anl I4 hp hb hne (Heap.IsSliceOf.new ..) (by cases pl;exact⟨_,rfl⟩) (by cases pu;exact⟨_,rfl⟩) h0 hac hc hz fun s5 I5=>?_
 exact wpAny_release ⟨σ,_,I5,q4⟩
end L2
namespace L2
open PySem PySem.Spec PyProof.Rows
section
variable {X:Cx}
theorem all_range:∀ bs:List Bool,(List.range bs.length).all (fun i=>bs.getD i false)=bs.all id
 | []=>rfl
 | b :: bs=>by
  rw[List.length_cons,List.range_succ_eq_map,List.all_cons,List.all_map,List.all_cons]
  have:((fun i=>(b :: bs).getD i false) ∘ Nat.succ)=fun i=>bs.getD i false:=by
   funext i
   rfl
  rw[this,all_range bs]
  rfl
theorem aqB:qI X (.builtin "all") (fun xs H Q=>X.calm=true/\∃ (a:Addr) (bs:List Bool),xs=[.ref a]/\bu X.K H a (bs.map V.bl)/\Q (.bl (bs.all id)) H):=by
 intro pins s σ H xs us Q I r h
 obtain⟨hc,a,bs,rfl,hq,q⟩:=h
 obtain⟨u,rfl,rfl⟩:=r.one
 obtain⟨its,rv,p,hz⟩:=I.list hq
 have hl:=rv.length
 rw[List.length_map] at hl
 have au3:∀ (i:Nat) (v:Value),its.toArray[i]? = some v->v=Value.bool (bs.getD i false):=by
  intro i v hv
  have hv':its[i]? = some v:=by simpa using hv
  have hi:i < its.length:=(List.getElem?_eq_some_iff.mp hv').1
  have hb:i < bs.length:=by omega
  obtain⟨u,hu,ru⟩:=rv.get (i:=i) (x:=.bl (bs[i])) (by rw[List.getElem?_map,List.getElem?_eq_getElem hb];rfl)
  rw[hv'] at hu;cases hu
  have:v=.bool bs[i]:=ru
  rw[this,List.getD_eq_getElem?_getD,List.getElem?_eq_getElem hb]
  rfl
 refine call_all_walk (wpAny_pyIter_list p.isList ?_)
 have ane:a≠s.heap.objs.size:=by
  obtain⟨o,ho,_⟩:=p.isList
  exact Nat.ne_of_lt (Heap.lt_size ho)
 have hd:X.A.in1.handled=none:=I.ok.hd hc
 refine⟨s.heap.objs.size,_,_,_,_,_,fun i=>bs.getD i false,rfl,Walks.list hd s.heap.objs.size a ane its.toArray,⟨⟨_,Heap.get?_push_size _ rfl,rfl,rfl⟩,p.isList.push _⟩,?_,?_⟩
 ·intro i v s' Q' E' hP hQ'
  rw[au3 i v hP]
  exact wpAny_truthy_bool hQ'
 ·intro h' tk kk
  have e:(List.range its.toArray.size).all (fun i=>bs.getD i false)=bs.all id:=by
   rw[List.size_toArray,← hl]
   exact all_range bs
  rw[e]
  refine⟨.bl _,H,I.kept (t':=tk) fun b o e=>kk b o (fun z=>?_) (Heap.get?_push_of_some _ e),rfl,q⟩
  have:b=s.heap.objs.size:=by simpa using z
  exact absurd (Heap.lt_size e) (by rw[this];exact Nat.lt_irrefl _)
def Itd (lo:Int)(n:Nat):It:={ go:=fun i _=>i < n,yld:=fun i H x H'=>H'=H/\x=V.int (lo - (i:Int)),stop:=fun i _=>n <= i }
theorem anx {P:Program}{w:World}{K:Frag}{tg:Expr}(it:Addr)(lo:Int)(n:Nat):Turn P w K tg (Itd lo n) [it] it (fun i h=>IsRangeIter h it (lo+(i:Nat) * (-1)) ((n:Int) - (i:Nat)) (-1)) where
 mem:=by simp
 obj:=fun i h st b hb=>by
  have e:b=it:=by simpa using hb
  subst e
  exact⟨_,st,fun v z=>by
   have z':Data.fields _=Data.cell v:=z
   cases z'⟩
 keep:=fun i h h' st k=>k it (by simp) _ st
 item:=by
  intro X hP hw hK hc i pins s σ H E I hf st hg
  subst hP hw hK
  obtain⟨f0,f1,f2,f3,f4,f5⟩:=hf it (by simp)
  have W:=Walks.range (prog:=X.prog) (w:=X.w) (I.ok.hd hc) it lo (-1) n
  refine W.item i s _ _ hg st fun v h' tk hv st' kk=>?_
  obtain⟨t,rfl⟩:=hv
  have I1:Inv X pins σ H { s with heap:=h',toks:=tk }:=I.turned (fun b o hb e=>kk b o (by simpa using hb) e) f0 f1 f3 f4 f5
  refine⟨_,rfl,amg (s:={ s with heap:=h',toks:=tk }) (n:="range_iterator") st' rfl rfl (by decide) ⟨.int (lo - i),H,I1,⟨t,?_⟩,⟨rfl,rfl⟩,st',fun b hb=>(hf b hb).1⟩⟩
  have:lo+(i:Int) * (-1)=lo - i:=by omega
  rw[this]
 done:=by
  intro X hP hw hK hc i pins s σ H E I hf st hg
  subst hP hw hK
  obtain⟨f0,f1,f2,f3,f4,f5⟩:=hf it (by simp)
  exact wpAny_pyNext_range_end (I.ok.hd hc) st (by have:n <= i:=hg;omega) fun h' eb=>⟨rfl,I.turned (t':=s.toks) (fun b o hb e=>eb b o hb e) f0 f1 f3 f4 f5⟩
 self:=fun _ _ _ _ _ st h=>wpAny_pyIter_rangeiter st h
theorem rangeSize_down (a b:Int):Builtin.Range.rangeSize a b (-1)=if b < a then a - b else 0:=by
 unfold Builtin.Range.rangeSize
 rw[if_neg (by decide)]
 by_cases h:a > b
 ·rw[if_pos h,if_pos h]
  show (a - b - 1) / 1+1=a - b
  omega
 ·rw[if_neg h,if_neg h]
theorem small_down {a b:Int}(h1:-(2 ^ 62) <= a)(h2:a < 2 ^ 62)(h3:-(2 ^ 62) <= b)(h4:b < 2 ^ 62):Builtin.Range.small a b (-1)=true:=by
 unfold Builtin.Range.small
 rw[rangeSize_down]
 have f:∀ x:Int,-(2 ^ 63) <= x->x < 2 ^ 63->Builtin.Range.rangeFitsLong x=true:=fun x p q=>by
  unfold Builtin.Range.rangeFitsLong
  simp
  omega
 rw[f a (by omega) (by omega),f b (by omega) (by omega),f (-1) (by omega) (by omega),f _ (by split <;> omega) (by split <;> omega),if_neg (show ¬ ((-1:Int) > 0) by decide),f (b+(-1+1)) (by omega) (by omega)]
 simp
theorem asN {tg:Expr}{pins:List (Addr×Obj)}{σ:St}{H:Hp}{s:Shared}{R:It->Hp->Prop}{E:Value->Shared->Prop}{lo hi:Int}{t u v:Tok}{tk:Nat}(I:Inv X pins σ H s)(h1:-(2 ^ 62) <= lo)(h2:lo < 2 ^ 62)(h3:-(2 ^ 62) <= hi)(h4:hi < 2 ^ 62)
  (q:R (Itd lo (lo - hi).toNat) H):wpAny (model X.prog X.w) X.A (pyIter (.ref s.heap.objs.size)) (PIE X pins σ tg R) E { s with heap:=s.heap.push { cls:=.type "range",data:=.fields #[.int lo t,.int hi u,.int (-1) v] },toks:=tk }:=by
 refine wpAny_pyIter_range (IsRange.new ..) (small_down h1 h2 h3 h4) ?_
 have I1:Inv X pins σ H { s with heap:=s.heap.push { cls:=.type "range",data:=.fields #[.int lo t,.int hi u,.int (-1) v] },toks:=tk }:=I.kept fun b o e=>Heap.get?_push_of_some _ e
 refine⟨(s.heap.push { cls:=.type "range",data:=.fields #[.int lo t,.int hi u,.int (-1) v] }).objs.size,[(s.heap.push { cls:=.type "range",data:=.fields #[.int lo t,.int hi u,.int (-1) v] }).objs.size],_,_,H,rfl,
  I1.kept (t':=tk) fun b o e=>Heap.get?_push_of_some _ e,anx _ lo (lo - hi).toNat,?_,fun b hb=>?_,q⟩
 ·have e1:lo+((0:Nat):Int) * (-1)=lo:=by simp
  have e2:(((lo - hi).toNat:Nat):Int) - ((0:Nat):Int)=Builtin.Range.rangeSize lo hi (-1):=by rw[rangeSize_down];split <;> omega
  show IsRangeIter _ _ (lo+((0:Nat):Int) * (-1)) ((((lo - hi).toNat:Nat):Int) - ((0:Nat):Int)) (-1)
  rw[e1,e2]
  exact Heap.get?_push_size _ rfl
 ·have e:b=(s.heap.push { cls:=.type "range",data:=.fields #[.int lo t,.int hi u,.int (-1) v] }).objs.size:=by simpa using hb
  subst e
  exact I1.acS (Nat.le_refl _) (I1.hok.fresh (Nat.le_refl _))
def axb (ta:TA):TI:=fun σ H R=>ta σ H fun vs H1=>∃ i j:Int,vs=[.int i,.int j,.int (-1)]/\(-(2 ^ 62) <= i/\i < 2 ^ 62/\-(2 ^ 62) <= j/\j < 2 ^ 62)/\R (Itd i (i - j).toNat) H1
theorem anz {tg:Expr}{a b c:Expr}{ta:TA}{p pos:Pos}(hg:Gl X "range")(hm:X.mg "range" = none)(ha:PA X [a,b,c] ta)(hs:starEach [a,b,c] X.env=[(false,eval a X.env),(false,eval b X.env),(false,eval c X.env)]:=by rfl)(hs2:starEach [b,c] X.env=[(false,eval b X.env),(false,eval c X.env)]:=by rfl) :
  PI X tg (.Call (.Name "range" p) [a,b,c] [] pos) (axb ta):=by
 intro pins s σ H R I h
 refine Call_ (yI I hg hm boot_range (PyProof.Rows.callWith_type1 (eX (ha pos pins s σ H _ I h) fun us s1 ⟨vs,H1,I1,r1,q1⟩=>?_) (by rw[hs,hs2]) (by rw[hs2];rfl)))
 obtain⟨i,j,e,⟨q1,q2,q3,q4⟩,q⟩:=q1
 subst e
 cases r1 with
 | cons r rr =>
  cases rr with
  | cons r' rr =>
   cases rr with
   | cons r'' rr =>
    cases rr
    obtain⟨t,rfl⟩:=r
    obtain⟨t',rfl⟩:=r'
    obtain⟨t'',rfl⟩:=r''
    exact call_range_3 (by decide) (asN I1 q1 q2 q3 q4 q) (.inl rfl)
theorem aqC {lo:Int}{n:Nat}{g:TG}{tb:TS}{D:Ends}{σ:St}{H:Hp}(Pv:Nat->St->Hp->Prop)(h0:Pv 0 σ H)
  (hs:∀ i σ H,i < n->Pv i σ H->g (.int (lo - i)) σ H fun σ2 H2=>tb { D with nx:=Pv (i+1),ct:=Pv (i+1),bk:=D.nx } σ2 H2) (hd:∀ σ H,Pv n σ H->D.nx σ H) :
  ∃ W:Nat->Nat->St->Hp->Prop,(∃ m,W 0 m σ H)/\∀ i m σ H,W i m σ H ->
   ((Itd lo n).stop i H/\D.nx σ H)∨((Itd lo n).go i H/\∃ N:St->Hp->Prop,(∀ σ' H',N σ' H'->∃ m',m' < m/\W (i+1) m' σ' H')/\∀ x H',(Itd lo n).yld i H x H'->g x σ H' fun σ2 H2=>tb { D with nx:=N,ct:=N,bk:=D.nx } σ2 H2):=by
 refine⟨fun i m σ H=>m=n - i/\i <= n/\Pv i σ H,⟨n,by simp,Nat.zero_le _,h0⟩,?_⟩
 rintro i m σ H ⟨rfl,hi,p⟩
 by_cases hlt:i < n
 ·refine .inr ⟨hlt,Pv (i+1),fun σ' H' p'=>⟨n - (i+1),by omega,rfl,hlt,p'⟩,fun x H' y=>?_⟩
  obtain⟨e,y⟩:=y
  subst e y
  exact hs i σ _ hlt p
 ·have e:i=n:=by omega
  subst e
  exact .inl ⟨Nat.le_refl _,hd _ _ p⟩
def asO:TE:=fun _ _ _=>False
theorem aqD {e:Expr}:PE X e asO:=fun _ _ _ _ _ _ h=>h.elim
end
end L2
namespace L2
open PySem PySem.Spec PyProof.Rows
section
variable {κ:Type} [DecidableEq κ]
def Ie (kvs:List (κ×V))(k:κ):Option V:=(kvs.find? fun kv=>decide (kv.1=k)).map (·.2)
def putK (kvs:List (κ×V))(k:κ)(v:V):List (κ×V) :=
 if (kvs.any fun kv=>decide (kv.1=k))=true then kvs.map (fun kv=>if kv.1=k then (kv.1,v) else kv) else kvs++[(k,v)]
theorem ZW {p:κ×V}{r:List (κ×V)}{k:κ}(e:p.1=k):Ie (p :: r) k=some p.2:=by simp[Ie,List.find?_cons,e]
theorem ZX {p:κ×V}{r:List (κ×V)}{k:κ}(e:¬ p.1=k):Ie (p :: r) k=Ie r k:=by simp[Ie,List.find?_cons,e]
theorem ZZ (k:κ):∀ kvs:List (κ×V),(kvs.any fun kv=>decide (kv.1=k))=(Ie kvs k).isSome
 | []=>rfl
 | p :: r=>by
  rw[List.any_cons]
  by_cases e:p.1=k
  ·simp only [ZW e,decide_eq_true e,Bool.true_or,Option.isSome_some]
  ·rw[ZX e,decide_eq_false e,Bool.false_or];exact ZZ k r
theorem aij (kvs:List (κ×V))(k:κ)(v:V):(putK kvs k v).length <= kvs.length+1:=by
 unfold putK
 split
 ·rw[List.length_map];omega
 ·rw[List.length_append,List.length_cons,List.length_nil];omega
theorem aqE {kvs:List (κ×V)}{k:κ}(v:V)(h:Ie kvs k=none):putK kvs k v=kvs++[(k,v)]:=by
 unfold putK
 rw[ZZ,h]
 exact if_neg (by decide)
theorem KV.val {kvs:List (κ×V)}{vs:List (κ×Value)}(r:KV kvs vs)(k:κ):Dm (Ie kvs k) (valueAt vs k):=by
 unfold KV at r
 induction r with
 | nil=>exact True.intro
 | @cons p q ps qs h t ih =>
  obtain⟨h1,h2⟩:=h
  by_cases e:p.1=k
  ·have e':q.1=k:=h1.symm.trans e
   have b:valueAt (q :: qs) k=some q.2:=by simp[valueAt,List.find?_cons,e']
   rw[ZW e,b];exact h2
  ·have e':¬ q.1=k:=fun z=>e (h1.trans z)
   have b:valueAt (q :: qs) k=valueAt qs k:=by simp[valueAt,List.find?_cons,e']
   rw[ZX e,b];exact ih
theorem KV.any {kvs:List (κ×V)}{vs:List (κ×Value)}(r:KV kvs vs)(k:κ):(kvs.any fun kv=>decide (kv.1=k))=vs.any fun kv=>decide (kv.1=k):=by
 unfold KV at r
 induction r with
 | nil=>rfl
 | cons h t ih=>rw[List.any_cons,List.any_cons,ih,h.1]
theorem KV.repl {kvs:List (κ×V)}{vs:List (κ×Value)}(r:KV kvs vs)(k:κ){y:V}{u:Value}(ry:RelV y u) :
  KV (kvs.map fun kv=>if kv.1=k then (kv.1,y) else kv) (vs.map fun kv=>if kv.1=k then (kv.1,u) else kv):=by
 unfold KV at r ⊢
 induction r with
 | nil=>exact .nil
 | @cons p q ps qs h t ih =>
  rw[List.map_cons,List.map_cons]
  refine .cons ?_ ih
  obtain⟨h1,h2⟩:=h
  by_cases e:p.1=k
  ·rw[if_pos e,if_pos (h1.symm.trans e)];exact⟨h1,ry⟩
  ·rw[if_neg e,if_neg (fun z=>e (h1.trans z))];exact⟨h1,h2⟩
theorem KV.put {kvs:List (κ×V)}{vs:List (κ×Value)}(r:KV kvs vs)(k:κ){y:V}{u:Value}(ry:RelV y u):KV (putK kvs k y) (stored vs k u):=by
 unfold putK stored
 rw[r.any k]
 by_cases e:(vs.any fun kv=>decide (kv.1=k))=true
 ·rw[if_pos e,if_pos e];exact r.repl k ry
 ·rw[if_neg e,if_neg e];exact Paired.snoc r ⟨rfl,ry⟩
theorem KV.keys {kvs:List (κ×V)}{vs:List (κ×Value)}(r:KV kvs vs):kvs.map (·.1)=vs.map (·.1):=by
 unfold KV at r
 induction r with
 | nil=>rfl
 | cons h t ih=>rw[List.map_cons,List.map_cons,ih,h.1]
theorem KV.length {kvs:List (κ×V)}{vs:List (κ×Value)}(r:KV kvs vs):kvs.length=vs.length:=Paired.length r
end
theorem aqF {P:Program}{w:World}{k:Key}{u:Value}(r:RelV (kV k) u):(dw P w).is k u=true:=by
 cases k with
 | inl i=>obtain⟨t,e⟩:=(show ∃ t,u=Value.int i t from r);subst e;exact ahZ P w i t
 | inr x=>obtain⟨t,e⟩:=(show ∃ t,u=Value.str x t from r);subst e;exact pO P w x t
theorem aea {P:Program}{w:World}:∀ {ks:List Key} {us:List Value},Vals (ks.map kV) us->ItemsAre (dw P w) ks us
 | [],_,r=>by rw[List.map_nil] at r;cases r;exact .nil
 | k :: ks,_,r=>by
  rw[List.map_cons] at r
  cases r with
  | cons h t=>exact .cons (aqF h) (aea t)
abbrev KT (H:Hp):List (List Key×V)->List (List Key×Addr×Value)->Prop:=Paired fun p q=>p.1=q.1/\H q.2.1=some (.tup (p.1.map kV))/\RelV p.2 q.2.2
theorem KT.val {H:Hp}{kvs:List (List Key×V)}{xs:List (List Key×Addr×Value)}(r:KT H kvs xs)(k:List Key):Dm (Ie kvs k) ((atKey xs k).map (·.2)):=by
 induction r with
 | nil=>exact True.intro
 | @cons p q ps qs h t ih =>
  obtain⟨h1,_,h2⟩:=h
  by_cases e:p.1=k
  ·have e':q.1=k:=h1.symm.trans e
   have b:atKey (q :: qs) k=some q.2:=by simp[atKey,List.find?_cons,e']
   rw[ZW e,b];exact h2
  ·have e':¬ q.1=k:=fun z=>e (h1.trans z)
   have b:atKey (q :: qs) k=atKey qs k:=by simp[atKey,List.find?_cons,e']
   rw[ZX e,b];exact ih
section
variable {P:Program} {w:World} {H:Hp} {h:Heap} {a:Addr}
theorem auk {u:HO}(ok:QS P w H h)(e:Rd H a u):jY P w H h a u:=e.ok ok
theorem aqG {kvs:List (Key×V)}(ok:QS P w H h)(e:Rd H a (.dK kvs)):kvs.length <= sizeLine/\(a == sysModules)=false/\∃ vs,KV kvs vs/\h.DictOf (dw P w) a vs :=
 show jY P w H h a (.dK kvs) from auk ok e
theorem aqH {ks:List Key}(ok:QS P w H h)(e:H a=some (.tup (ks.map kV))):(tupleKind (dw P w)).is h ks a:=by
 obtain⟨_,its,r,o,h1,h2,n,h3⟩:=(show jY P w H h a (.tup (ks.map kV)) from ok a _ e)
 exact⟨o,its.toArray,n,h1,h2,h3,by simpa using aea r⟩
theorem aul {kvs:List (List Key×V)}(ok:QS P w H h)(e:Rd H a (.dT kvs)):kvs.length <= sizeLine/\(a == sysModules)=false /\
  ∃ xs,KT H kvs xs/\h.DictOfH (tupleKind (dw P w)) a xs:=by
 obtain⟨z,y,xs,r,o,es,ep,h1,h2,h3,h4,h5⟩:=(show jY P w H h a (.dT kvs) from auk ok e)
 refine⟨z,y,xs,r,o,es,ep,h1,h2,h3,h4,fun x hx=>?_,h5⟩
 have all:∀ {l:List (List Key×V)} {m:List (List Key×Addr×Value)},KT H l m->∀ x∈m,(tupleKind (dw P w)).is h x.1 x.2.1:=by
  intro l m q
  induction q with
  | nil=>intro x hx;exact nomatch hx
  | @cons p q ps qs hq t ih =>
   intro x hx
   rcases List.mem_cons.mp hx with e | hx
   ·subst e
    exact aqH ok (by rw[← hq.1];exact hq.2.1)
   ·exact ih x hx
 exact all r x hx
end
def Z0 (H:Hp)(a:Addr)(y:V)(r:Option V):Prop :=
 (∃ kvs k,Rd H a (.dK kvs)/\y=kV k/\r=Ie kvs k) ∨ ∃ kvs k b,Rd H a (.dT kvs)/\y=.ref b/\H b=some (.tup (k.map kV))/\r=Ie kvs k
theorem Z0.k {H:Hp}{a:Addr}{kvs:List (Key×V)}{k:Key}(e:H a=some (.dK kvs)):Z0 H a (kV k) (Ie kvs k):=.inl ⟨kvs,k,.inl e,rfl,rfl⟩
section
variable {X:Cx} {pins:List (Addr×Obj)} {σ:St} {H:Hp} {s:Shared} {a:Addr} {y v:V} {u r:Value} {o:Option V} {A:Around} {E:Value->Shared->Prop}
theorem Inv.big (I:Inv X pins σ H s):sysModules < s.heap.objs.size:=by
 have h:mainGlobals < s.heap.objs.size:=(I.mod.glob.keeps I.bk).lt
 exact Nat.lt_trans (by decide) h
theorem anA {Q:Value->Shared->Prop}(hu:A.units+1 < cLine)(I:Inv X pins σ H s)(g:Z0 H a y (some v))(ry:RelV y u)(h:∀ w' s',Inv X pins σ H s'->RelV v w'->Q w' s') :
  wpAny (model X.prog X.w) A (getItem (.ref a) u) Q E s:=by
 rcases g with ⟨kvs,k,e,ey,l⟩ | ⟨kvs,k,b,e,ey,eb,l⟩
 ·subst ey
  obtain⟨z,hd,vs,rel,dd⟩:=aqG I.hok e
  obtain⟨w',hw,rw'⟩:=Dm.some_of (v:=v) (o:=valueAt vs k) (by rw[l];exact rel.val k)
  exact wpAny_getItem_of (aqF ry) dd.mapOf hw (h w' _ (I.tok _) rw')
 ·subst ey
  cases (show u=Value.ref b from ry)
  obtain⟨z,hd,xs,rel,dd⟩:=aul I.hok e
  obtain⟨w',hw,rw'⟩:=Dm.some_of (v:=v) (o:=(atKey xs k).map (·.2)) (by rw[l];exact rel.val k)
  obtain⟨p,hp,hp2⟩:=Option.map_eq_some_iff.mp hw
  refine wpAny_getItem_heap (tupleKind_room_in1 hu) (aqH I.hok eb) dd hp ?_
  rw[hp2]
  exact h w' _ (I.tok _) rw'
theorem avh {P:Program}{w:World}{H':Hp}{h':Heap}{kvs:List (Key×V)}{vs:List (Key×Value)}(z:kvs.length <= sizeLine)(hd:(a == sysModules)=false)(rel:KV kvs vs)(dd:h'.DictOf (dw P w) a vs) :
  jY P w H' h' a (.dK kvs):=⟨z,hd,vs,rel,dd⟩
end
section
variable {X:Cx} {pins:List (Addr×Obj)} {σ:St} {H:Hp} {s:Shared} {a:Addr} {kvs:List (Key×V)} {k:Key} {u:Value} {A:Around} {E:Value->Shared->Prop}
end
def axc (i:Expr):Prop:=∀ ov iv,subscripted i false ov iv=operate [ov,iv] (getItem ov iv)
theorem asQ {prog:Program}{w:World}{A:Around}{E:Value->Shared->Prop}{s:Shared}{env:Env}{value slice:Expr}{pos:Pos}{T id:String}{Q:Value->Shared->Prop}
  (hl:typeLookup (.type T) "__getitem__" = pure (some (.builtin id))) (hs:axc slice)
  (h:wpAny (model prog w) A (eval value env) (fun o s₁=>wpAny (model prog w) A (eval slice env) (fun i s₂=>s₂.TypeIs o T/\wpAny (model prog w) A (getItem o i) Q E s₂) E s₁) E s) :
  wpAny (model prog w) A (eval (.Subscript value slice pos) env) Q E s:=by
 refine Subscript_ (wpAny_mono h (fun o s₁ h₁=>wpAny_mono h₁ (fun i s₂ h₂=>?_) fun _ _ x=>x) fun _ _ x=>x)
 obtain⟨hT,h₂⟩:=h₂
 unfold subscriptTail
 refine wpAny_bind ?_
 rw[getitemInPython_of_ne hT.not_modules]
 refine wpAny_bind (wpAny_specialOf hT hl ?_)
 have fin:wpAny (model prog w) A (subscripted slice false o i) (fun r s₃=>wpAny (model prog w) A (letTemporaryGo value o r >>= fun _=>pure r) Q E s₃) E s₂:=by
  rw[hs o i]
  exact wpAny_operating (wpAny_mono h₂ (fun r s₃ h₃=>wpAny_bind (wpAny_letTemporaryGo (wpAny_pure h₃))) fun _ _ x=>x)
 first
  | exact wpAny_pure (wpAny_bind fin)
  | exact wpAny_bind (wpAny_pure (wpAny_bind fin))
  | exact wpAny_bind fin
theorem aik {X:Cx}{pins:List (Addr×Obj)}{σ:St}{H:Hp}{s:Shared}{a:Addr}{y:V}{o:Option V}(I:Inv X pins σ H s)(g:Z0 H a y o):s.TypeIs (.ref a) "dict":=by
 rcases g with ⟨kvs,k,e,_,_⟩ | ⟨kvs,k,b,e,_,_,_⟩
 ·obtain⟨_,_,vs,_,dd⟩:=aqG I.hok e
  exact dd.typeIs
 ·obtain⟨_,_,xs,_,dd⟩:=aul I.hok e
  exact dd.typeIs
def axd (td ty:TE):TE:=fun σ H Q=>td σ H fun x H1=>ty σ H1 fun y H2=>∃ a v,x=.ref a/\Z0 H2 a y (some v)/\Q v H2
section
variable {X:Cx} {o i e value:Expr} {pos pos' tpos:Pos} {td ty tv:TE}
theorem qK (hu:X.A.units+1 < cLine)(ho:PE X o td)(hi:PE X i ty)(hs:axc i):PE X (.Subscript o i pos) (axd td ty):=by
 intro pins s σ H Q I h
 refine asQ PySem.F.slot_dict_getitem.lookup hs (eX (ho pins s σ H _ I h) fun u s1 ⟨x,H1,I1,rx,q1⟩=>eX (hi pins s1 σ H1 _ I1 q1) fun iv s2 ⟨y,H2,I2,ry,a,v,ex,g,q2⟩=>?_)
 subst ex
 obtain rfl:u=Value.ref a:=rx
 exact⟨aik I2 g,anA hu I2 g ry fun w' s3 I3 rw'=>⟨v,H2,I3,rw',q2⟩⟩
end
section
variable {X:Cx} {pos:Pos}
end
abbrev VV:List (V×V)->List (Value×Value)->Prop:=Paired fun p q=>RelV p.1 q.1/\RelV p.2 q.2
def lW (kvs more:List (Key×V)):List (Key×V):=more.foldl (fun acc kv=>putK acc kv.1 kv.2) kvs
theorem KV.merge:∀ {more:List (Key×V)} {rs:List (Key×Value)} {kvs:List (Key×V)} {vs:List (Key×Value)},KV more rs->KV kvs vs->KV (lW kvs more) (merged vs rs):=by
 intro more rs kvs vs r
 unfold KV at r
 induction r generalizing kvs vs with
 | nil=>intro q;exact q
 | @cons p q ps qs h t ih =>
  intro r0
  have e:KV (putK kvs p.1 p.2) (stored vs q.1 q.2):=by
   have:=r0.put p.1 h.2
   rw[← h.1];exact this
  exact ih e
theorem MF:∀ (more kvs:List (Key×V)),(lW kvs more).length <= kvs.length+more.length
 | [],kvs=>by show kvs.length <= kvs.length+0;omega
 | p :: r,kvs=>by
  have h1:=MF r (putK kvs p.1 p.2)
  have h2:=aij kvs p.1 p.2
  show (lW (putK kvs p.1 p.2) r).length <= _
  rw[List.length_cons];omega
structure M1 (X:Cx)(o:Expr)(m:Str)(apos:Pos)(e:Expr)(cpos:Pos):Prop where
 base:attributeBase o m X.env (eval o X.env)=eval o X.env
 few:((backTo cpos (starEach [e] X.env)).all (fun x=>!x.1) && (backToKw cpos (keywordEach [] X.env)).all (fun x=>x.1.isSome)
  && decide (([e]:List Expr).length+([]:List Keyword).length+(if ([]:List Keyword).isEmpty then 0 else 1) < 30))=true
 line:(apos.endLine == cpos.line)=true
 trees:backTo cpos (starEach [e] X.env)=[(false,eval e X.env)]
structure M2 (X:Cx)(o:Expr)(m:Str)(apos:Pos)(e f:Expr)(cpos:Pos):Prop where
 base:attributeBase o m X.env (eval o X.env)=eval o X.env
 few:((backTo cpos (starEach [e,f] X.env)).all (fun x=>!x.1) && (backToKw cpos (keywordEach [] X.env)).all (fun x=>x.1.isSome)
  && decide (([e,f]:List Expr).length+([]:List Keyword).length+(if ([]:List Keyword).isEmpty then 0 else 1) < 30))=true
 line:(apos.endLine == cpos.line)=true
 trees:backTo cpos (starEach [e,f] X.env)=[(false,eval e X.env),(false,eval f X.env)]
section
variable {X:Cx} {pins:List (Addr×Obj)} {σ:St} {H:Hp} {s:Shared} {a:Addr} {y d:V} {u r:Value} {o:Option V} {A:Around} {E:Value->Shared->Prop}
end
section
variable {X:Cx} {o e f:Expr} {apos cpos:Pos} {td ty tx:TE}
end
section
variable {X:Cx} {pins:List (Addr×Obj)} {σ:St} {H:Hp} {s:Shared} {a:Addr} {kvs:List (Key×V)} {A:Around} {E:Value->Shared->Prop}
end
section
variable {X:Cx} {pins:List (Addr×Obj)} {σ:St} {H:Hp} {s:Shared} {a:Addr} {y:V} {u:Value} {A:Around} {E:Value->Shared->Prop}
end
end L2
namespace L2
open PySem PySem.Spec PyProof.Rows
section
variable {X:Cx}
end
section
variable {κ:Type} [DecidableEq κ]
theorem asR {kvs:List (κ×V)}{k:κ}{v:V}(h:Ie kvs k=some v):k∈kvs.map (·.1):=by
 have q:(kvs.any fun kv=>decide (kv.1=k))=true:=by
  rw[ZZ,h]
  all_goals rfl
 obtain⟨p,hp,e⟩:=List.any_eq_true.mp q
 exact List.mem_map.mpr ⟨p,hp,of_decide_eq_true e⟩
end
end L2
set_option maxHeartbeats 4000000
namespace L2
open PySem PySem.Spec PyProof.Rows
theorem axe {P:Program}{w:World}{k:Key}{u:Value}(h:(dw P w).is k u=true):RelV (kV k) u:=by
 rcases gb (show Zy k u=true from h) with ⟨i,t,rfl,rfl⟩ | ⟨x,t,rfl,rfl⟩
 ·exact⟨t,rfl⟩
 ·exact⟨t,rfl⟩
theorem aum:∀ {xs:List V} {us:List Value},xs.length=us.length->(∀ (i:Nat) (x:V) (u:Value),xs[i]? = some x->us[i]? = some u->RelV x u)->Vals xs us
 | [],[],_,_=>.nil
 | x :: xs,u :: us,hl,h=>.cons (h 0 x u rfl rfl) (aum (by simpa using hl) fun i y v e1 e2=>h (i+1) y v (by simpa using e1) (by simpa using e2))
 | [],_ :: _,hl,_=>by simp at hl
 | _ :: _,[],hl,_=>by simp at hl
section
variable {X:Cx}
theorem Fd:qI X (.type "list") (fun xs H Q=>X.calm=true/\∃ p kvs,xs=[.ref p]/\Rd H p (.dK kvs)/\∀ l,H l=none->Q (.ref l) (upd H l (.lst (kvs.map fun kv=>kV kv.1)))):=by
 intro pins s σ H xs us Q I r h
 obtain⟨hc,p,kvs,rfl,hp,q⟩:=h
 obtain⟨u,rfl,rx⟩:=vals1 r
 cases rx
 obtain⟨z,hd,vs,rel,dd⟩:=aqG I.hok hp
 obtain⟨ep,da⟩:=dd.dictAt
 have hl:=rel.length
 refine PySem.W.kdl_call (PySem.W.kdl_dict (knd:=dw X.prog X.w) (kvs:=vs) (ep:=ep) hd) (I.ok.hd hc) da (by omega) fun h' tk acc' c' kp e it=>?_
 refine⟨.ref s.heap.objs.size,_,I.laid (t':=tk) kp (Nat.le_refl _) (show jY X.prog X.w _ h' _ (.lst (kvs.map fun kv=>kV kv.1)) from ⟨by rw[List.length_map];exact z,acc'.toList,c',?_,by rw[Array.toArray_toList];exact e⟩),rfl,q _ (I.hok.fresh (Nat.le_refl _))⟩
 have hk:=rel.keys
 have h1:acc'.toList.length=vs.length:=by rw[Array.length_toList];exact it.1
 refine aum (by rw[List.length_map,h1,hl]) fun i x u e1 e2=>?_
 obtain⟨k,y,e3,e4⟩:=it.2 i u (by rw[← Array.getElem?_toList];exact e2)
 have e5:(kvs.map (·.1))[i]? = some k:=by rw[hk,List.getElem?_map,e3];rfl
 have e6:(kvs.map fun kv=>kV kv.1)[i]? = some (kV k):=by
  rw[List.getElem?_map] at e5 ⊢
  cases e7:kvs[i]? with
  | none=>rw[e7] at e5;cases e5
  | some w=>rw[e7] at e5;cases e5;rfl
 rw[e6] at e1
 cases e1
 exact axe e4
end
section
variable {P:Program} {w:World} {K:Frag} {mg:Str->Option Value} {base:Heap}
end
end L2
set_option maxHeartbeats 4000000
namespace L2
open PySem PySem.Spec PyProof.Rows
theorem ae2:typeLookup (.type "list") "keys" = pure none:=by rw[typeLookup_type,builtinLookup_eq_fast];kernel_rfl
theorem XR:entryFor table "dict.update.loop" = some Builtin.«dict.update.loop»:=entryFor_of_tree (by kernel_rfl)
theorem Ag:plainId "dict.update.loop" = true:=by decide +kernel
theorem avi {α:Type}{xs:List α}{i:Nat}{y:α}(h:xs[i]? = some y):xs.drop i=y :: xs.drop (i+1):=by
 obtain⟨h1,h2⟩:=List.getElem?_eq_some_iff.mp h
 rw[List.drop_eq_getElem_cons h1,h2]
theorem acV {K:Type}[DecidableEq K](kvs:List (K×Value))(k:K)(v:Value):(stored kvs k v).length <= kvs.length+1:=by
 unfold stored
 split
 ·simp
 ·simp
section
variable {prog:Program} {w:World} {A:Around} {E:Value->Shared->Prop} {s:Shared}
theorem avj {a:Addr}{o:Obj}{xs:Array Value}{k:Nat}{Q:Option Value->Shared->Prop}(hx:s.heap.get? a=some o)(hc:o.cls=.type "list")(hdat:o.data=.seq xs k)(hd:o.dict=none)(hA:A.handled=none)
  (h:∀ h' tk,(∀ b ob,s.heap.get? b=some ob->h'.get? b=some ob)->Q none { s with heap:=h',toks:=tk }):wpAny (model prog w) A (getAttr? (.ref a) "keys") Q E s:=by
 obtain⟨oc,od,dt,sl⟩:=o
 simp only at hc hdat hd
 subst hc hdat hd
 obtain⟨hp,g,d,tk,os⟩:=s
 have hT:∀ tk',(⟨hp,g,d,tk',os⟩:Shared).TypeIs (.ref a) "list":=fun _=>⟨_,hx,rfl⟩
 have f1:=sub_AttributeError
 have f3:=F.slot_list_getattribute.lookup
 have f4:=F.slot_list_getattribute.bind (.ref a)
 have f5:=am_list_getattr_none
 unfold getAttr? getAttrBy? getAttrBy
 repeat (any_goals (first | assumption | exact hT _ | ((with_reducible show wpAny _ _ (call (Value.builtin "list.__getattribute__") _ _) _ _ _);refine call_meets F.slot_list_getattribute (hT _) am_entry_list_getattribute (F.args_list_getattribute_2 _ _) (meets_getattribute_miss_list a xs k sl "keys" _ ae2 (by decide +kernel) (by size_fits)) ⟨hx,hA,fun h' tk' e hx'=>?_⟩) | wp_step))
 obtain⟨t',u',he⟩:=hx'.there
 show wpAny _ _ (getattributeRaised _ _ _ _ _ _ _) _ _ _
 unfold getattributeRaised
 repeat (any_goals (first | assumption | wp_step))
 exact h _ _ hx'.keeps
theorem axf {K:Type}[DecidableEq K]{knd:KeyKind prog w K}{I d:Addr}{fp wr:List Addr}{n:Nat}{P:Nat->Value->Prop}{St:Nat->Heap->Prop}(W:Walks prog w A.in1 I fp wr n P St)(hdf:d ∉ fp)(hn:n <= 1000)(h0:Heap)(ps:List (K×Value))(hl:ps.length=n){R:Result->Shared->Prop}
  (hP:∀ i v,i < n->P i v->∃ p o k key u m,ps[i]? = some (k,u)/\v=.ref p/\h0.get? p=some o/\o.cls=.type "tuple"/\o.data=.seq #[key,u] m/\knd.is k key=true/\p≠d/\p ∉ wr) :
  ∀ (j i:Nat) (s:Shared) (kvs:List (K×Value)),n - i=j->i <= n->St i s.heap->s.heap.DictOf knd d kvs->kvs.length <= i->(∀ b o,b≠d->b ∉ wr->h0.get? b=some o->s.heap.get? b=some o) ->
  (∀ h' tk,h'.DictOf knd d ((ps.drop i).foldl (fun acc q=>stored acc q.1 q.2) kvs)->(∀ b o,b≠d->b ∉ wr->h0.get? b=some o->h'.get? b=some o)->R (.ok (.ret .none)) { s with heap:=h',toks:=tk }) ->
  codeAny (model prog w) A (.builtin "dict.update.loop" ⟨[.ref d,.ref I,rawInt i,.none],[]⟩) R s:=by
 have hdw:d ∉ wr:=fun h=>hdf (W.sub _ h)
 intro j
 induction j with
 | zero =>
  intro i s kvs hk hi hst hD hlen hkp hR
  have hin:i=n:=by omega
  subst hin
  refine codeAny_builtin XR ?_
  rw[Around.under_plainId Ag _]
  show wpAny _ A.in1 (pyNext (.ref I) >>= _) _ _ s
  refine wpAny_bind (W.done s _ _ hst fun h' tk hm=>?_)
  show wpAny _ _ (Builtin.Dict.addKeywords d [] >>= _) _ _ _
  refine wpAny_bind (wpAny_pure (wpAny_pure ?_))
  refine hR h' tk ?_ fun b o hb hb' e=>hm b o hb' (hkp b o hb hb' e)
  rw[List.drop_eq_nil_of_le (by omega)]
  obtain⟨o,es,ep,e,r⟩:=hD
  exact⟨o,es,ep,hm d o hdw e,r⟩
 | succ j ih =>
  intro i s kvs hk hi hst hD hlen hkp hR
  have hlt:i < n:=by omega
  refine codeAny_builtin XR ?_
  rw[Around.under_plainId Ag _]
  show wpAny _ A.in1 (pyNext (.ref I) >>= _) _ _ s
  refine wpAny_bind (W.item i s _ _ hlt hst fun v h' tk hPv hst' hm=>?_)
  obtain⟨p,o,k,key,u,m,hps,rfl,hp,hc,hdt,hkey,hpd,hpw⟩:=hP i v hlt hPv
  have hp':h'.get? p=some o:=hm p o hpw (hkp p o hpd hpw hp)
  have hD':h'.DictOf knd d kvs:=by
   obtain⟨o,es,ep,e,r⟩:=hD
   exact⟨o,es,ep,hm d o hdw e,r⟩
  refine wpAny_bind (wpAny_holding (wpAny_bind (wpAny_tryCatch ?_)))
  unfold Builtin.Dict.pairItems
  refine wpAny_bind (wpAny_typeOf (T:="tuple") ⟨o,hp',hc⟩ ?_)
  rw[if_pos (by decide)]
  refine wpAny_bind (wpAny_seqItems hp' hdt ?_)
  refine wpAny_pure ?_
  show wpAny _ _ (holding [key,u] (dictSet d key u)) _ _ _
  refine wpAny_holding (wpAny_dictSet_pairs (knd:=knd) hkey hD' (fun h'' hd'' hs''=>?_) (by rw[sizeLine_eq];omega))
  refine wpAny_pure ⟨plainId_quiet Ag _,?_⟩
  have axg:St (i+1) h'':=W.frame _ _ _ hst' fun b hb o e=>(hs''.2 b fun z=>hdf (z ▸ hb)).trans e
  refine ih (i+1) { s with heap:=h'',toks:=tk+1 } (stored kvs k u) (by omega) hlt axg hd'' (by have:=acV kvs k u;omega) (fun b o hb hb' e=>(hs''.2 b hb).trans (hm b o hb' (hkp b o hb hb' e))) fun h3 tk3 hd3 hk3=>?_
  refine hR h3 tk3 ?_ hk3
  rw[avi hps]
  exact hd3
end
section
variable {X:Cx}
theorem jG:qI X (.type "dict") (fun xs H Q=>X.calm=true/\∃ (p:Addr) (ys:List V) (kvs:List (Key×V)),xs=[.ref p]/\bu X.K H p ys/\Paired (fun y kv=>∃ q,y=.ref q/\H q=some (.tup [kV kv.1,kv.2])) ys kvs/\kvs.length <= 900/\∀ l,H l=none->Q (.ref l) (upd H l (.dK (lW [] kvs)))):=by
 intro pins s σ H xs us Q I r h
 obtain⟨hcalm,p,ys,kvs,rfl,hp,hy,hz,q⟩:=h
 obtain⟨u,rfl,rx⟩:=vals1 r
 cases rx
 obtain⟨its,ri,⟨ol,nl,hol,hcl,hdl,hdat⟩,hsz⟩:=I.list hp
 have aBV:=hy.length
 have aBW:=ri.length
 have build:∀ {ys:List V} {kvs:List (Key×V)} {its:List Value},Paired (fun y kv=>∃ q,y=.ref q/\H q=some (.tup [kV kv.1,kv.2])) ys kvs->Vals ys its->∃ ps:List (Key×Value),KV kvs ps/\ps.length=its.length /\
   ∀ (i:Nat) v,its[i]? = some v->∃ p o k key u m,ps[i]? = some (k,u)/\v=.ref p/\s.heap.get? p=some o/\o.cls=.type "tuple"/\o.data=.seq #[key,u] m/\(dw X.prog X.w).is k key=true:=by
  intro ys kvs its h1
  induction h1 generalizing its with
  | nil =>
   intro h2
   cases h2
   exact⟨[],.nil,rfl,fun i v e=>by simp at e⟩
  | @cons y kv ys kvs r _ ih =>
   intro h2
   cases h2 with
   | @cons _ u _ us ry rt =>
    obtain⟨q,rfl,hq⟩:=r
    obtain rfl:u=Value.ref q:=ry
    obtain⟨tv,rv,⟨o,ho,hc,m,hd⟩,_⟩:=I.tuple (pP.of hq)
    obtain⟨k1,hk1⟩:∃ a b,tv=[a,b]:=by
     have:=rv.length
     match tv,this with
     | [a,b],_=>exact⟨a,b,rfl⟩
    obtain⟨u1,rfl⟩:=hk1
    cases rv with
    | cons r1 rv2 =>
     cases rv2 with
     | cons r2 _ =>
      obtain⟨ps,h3,h4,h5⟩:=ih rt
      refine⟨(kv.1,u1) :: ps,.cons ⟨rfl,r2⟩ h3,by simp[h4],fun i v e=>?_⟩
      match i,e with
      | 0,e =>
       simp at e
       subst e
       exact⟨q,o,kv.1,k1,u1,m,rfl,rfl,ho,hc,hd,aqF r1⟩
      | i+1,e =>
       simp at e
       obtain⟨p,o,k,key,u,m,z1,z2⟩:=h5 i v e
       exact⟨p,o,k,key,u,m,by simpa using z1,z2⟩
 obtain⟨ps,rel,lps,hps⟩:=build hy ri
 refine callType_codes (Q₁:=fun obj s₁=>obj=.ref s.heap.objs.size/\s₁ = { s with heap:=s.heap.push { cls:=.type "dict",data:=.dict #[] } }) PySem.F.kt_called_dict (PySem.F.kt_typeCall_dict_1 _) PySem.F.entry_dict_init (kt_code_dict_new _ ⟨rfl,rfl⟩) ?_
 rintro obj s₁ ⟨rfl,rfl⟩
 have hnew:(s.heap.push { cls:=.type "dict",data:=.dict #[] }).DictOf (dw X.prog X.w) s.heap.objs.size []:=Heap.DictOf.new s.heap
 have up:∀ b o,s.heap.get? b=some o->(s.heap.push { cls:=.type "dict",data:=.dict #[] }).get? b=some o:=fun b o e=>Heap.get?_push_of_some _ e
 refine⟨hnew.typeIs,PySem.F.args_dict_init_2 _ _,?_⟩
 unfold Builtin.«dict.__init__»
 refine wpAny_bind ?_
 unfold Builtin.Dict.selfAndRest
 refine wpAny_bind (wpAny_notOrdered_dict hnew.typeIs ?_)
 show wpAny _ _ (pure (s.heap.objs.size,[Value.ref p])) _ _ _
 refine wpAny_pure ?_
 show wpAny _ _ (Builtin.Dict.updateFrom "dict.__init__" s.heap.objs.size (.ref p) [] .none) _ _ _
 unfold Builtin.Dict.updateFrom
 refine wpAny_bind (wpAny_typeOf (T:="list") ⟨ol,up _ _ hol,hcl⟩ ?_)
 rw[if_pos (by decide)]
 have hA:X.A.handled=none:=I.ok.hd hcalm
 refine wpAny_bind (avj (up _ _ hol) hcl hdat hdl hA fun h1 tk1 kp1=>?_)
 rw[if_pos (show (none:Option Value).isNone=true from rfl)]
 refine wpAny_bind (wpAny_rule ?_)
 have up1:∀ b o,s.heap.get? b=some o->h1.get? b=some o:=fun b o e=>kp1 b o (up b o e)
 have il:h1.IsList p its.toArray:=⟨ol,up1 _ _ hol,hcl,nl,hdat⟩
 refine wpAny_bind (wpAny_pyIter_list il ?_)
 have hsz1:s.heap.objs.size < h1.objs.size:=Heap.lt_size (kp1 _ _ (Heap.get?_push_size _ rfl))
 have hpI:p≠h1.objs.size:=Nat.ne_of_lt (Heap.lt_size (up1 _ _ hol))
 have hD1:h1.DictOf (dw X.prog X.w) s.heap.objs.size []:=by
  obtain⟨o,es,ep,e,r⟩:=hnew
  exact⟨o,es,ep,kp1 _ _ e,r⟩
 have lt0:∀ {b o},s.heap.get? b=some o->b < s.heap.objs.size:=fun e=>Heap.lt_size e
 refine wpAny_pure ⟨plainId_quiet Ag _,?_⟩
 have W:Walks X.prog X.w X.A.in1.in1 h1.objs.size [h1.objs.size,p] [h1.objs.size] its.toArray.size (fun i v=>its.toArray[i]? = some v) (fun i h=>h.IsListIter h1.objs.size p i/\h.IsList p its.toArray):=Walks.list (show X.A.in1.in1.handled=none from hA) h1.objs.size p hpI its.toArray
 have hn:its.toArray.size <= 1000:=by rw[List.size_toArray];omega
 refine axf (knd:=dw X.prog X.w) W (d:=s.heap.objs.size) ?_ hn s.heap ps (by rw[List.size_toArray];exact lps) ?_ _ 0 _ [] rfl (Nat.zero_le _) ⟨⟨_,Heap.get?_push_size _ rfl,rfl,rfl⟩,?_⟩ ?_ (Nat.zero_le _) ?_ ?_
 ·intro z
  rcases List.mem_cons.mp z with z | z
  ·exact absurd z (Nat.ne_of_lt hsz1)
  ·exact absurd (List.mem_singleton.mp z) (Nat.ne_of_gt (lt0 hol))
 ·intro i v hi e
  obtain⟨p',o,k,key,u,m,z1,z2,z3,z4,z5,z6⟩:=hps i v (by simpa using e)
  exact⟨p',o,k,key,u,m,z1,z2,z3,z4,z5,z6,Nat.ne_of_lt (lt0 z3),fun z=>absurd (List.mem_singleton.mp z) (Nat.ne_of_lt (Nat.lt_trans (lt0 z3) hsz1))⟩
 ·exact il.push _
 ·obtain⟨o,es,ep,e,r⟩:=hD1
  exact⟨o,es,ep,Heap.get?_push_of_some _ e,r⟩
 ·exact fun b o hb hb' e=>Heap.get?_push_of_some _ (up1 b o e)
 ·intro h' tk hd' hk'
  refine⟨rfl,.ref s.heap.objs.size,_,I.laid (a:=s.heap.objs.size) (o:=.dK (lW [] kvs)) (t':=tk) (fun b o e=>?_) (Nat.le_refl _) (avh ?_ (beq_eq_false_iff_ne.mpr (Ne.symm (Nat.ne_of_lt I.big))) (rel.merge .nil) hd'),rfl,q _ (I.hok.fresh (Nat.le_refl _))⟩
  ·exact hk' b o (Nat.ne_of_lt (lt0 e)) (fun z=>absurd (List.mem_singleton.mp z) (Nat.ne_of_lt (Nat.lt_trans (lt0 e) hsz1))) e
  ·have h1:=MF kvs []
   rw[List.length_nil] at h1
   rw[sizeLine_eq];omega
end
end L2
set_option maxHeartbeats 4000000
namespace L2
open PySem PySem.Spec PyProof.Rows
section
variable {prog:Program} {w:World} {A:Around} {E:Value->Shared->Prop} {s:Shared}
theorem asS {it l:Addr}{i:Nat}{items:Array Value}{R:Value->Shared->Prop}{E:Value->Shared->Prop}(hh:A.handled=none)(hne:l≠it)(st:s.heap.IsTupleIter it l i/\s.heap.IsTuple l items)
  (some_:∀ x,items[i]? = some x->∀ h',(h'.IsTupleIter it l (i+1)/\h'.IsTuple l items)->Heap.SameBut it s.heap h'->R x { s with heap:=h' })
  (none_:items[i]? = none->∀ h' e,Heap.ExtBut it s.heap h'->(∃ o,h'.get? e=some o/\o.cls=.type "StopIteration")->E (.ref e) { s with heap:=h' }) :
  wpAny (model prog w) A (Builtin.«tuple_iterator.__next__» ⟨[.ref it],[]⟩) (fun fin s'=>∃ v,fin=.done (.ret v)/\R v s') E s:=by
 have ti:=st.1
 obtain⟨⟨o,ho,hc,hd⟩,tl⟩:=st
 obtain⟨ol,hol,hcl,nl,hdl⟩:=id tl
 show wpAny _ _ (field (.ref it) 0 >>= _) _ _ s
 refine wpAny_bind (wpAny_field ho hd (x:=.ref l) rfl ?_)
 show wpAny _ _ (ite _ _ _) _ _ s
 rw[if_neg (by exact Bool.false_ne_true)]
 show wpAny _ _ (field (.ref it) 1 >>= _) _ _ s
 refine wpAny_bind (wpAny_field ho hd (x:=.int i 0) rfl (wpAny_bind (wpAny_seqItems hol hdl ?_)))
 rw[Int.toNat_natCast]
 cases hx:items[i]? with
 | some x =>
  simp only [hx]
  refine wpAny_bind (wpAny_setField ho hd (by simp) (wpAny_pure ⟨x,rfl,some_ x hx _ ⟨⟨_,Heap.get?_update_self _ ho (Obj.isFreed_of_fields (Obj.data_mapFields hd _)),(Obj.cls_mapFields ..).trans hc,?_⟩,tl.extBut (Heap.SameBut.update ..).extBut hne⟩ (Heap.SameBut.update ..)⟩))
  rw[Obj.data_mapFields hd]
  simp[rawInt]
 | none =>
  simp only [hx]
  refine wpAny_bind (wpAny_rule (wpAny_bind (wpAny_setField ho hd (by simp) ?_)))
  refine wpAny_bind (m:=newExc (.type "StopIteration") []) ?_
  unfold newExc newTuple
  refine wpAny_bind (wpAny_newObj_type ?_ (by size_fits))
  refine wpAny_bind (m:=firstArgMember _ _) (wpAny_of_eq (a:=Value.none) (by rfl) (wpAny_newObj_type ?_ (by size_fits)))
  unfold raiseNew
  refine wpAny_bind (wpAny_handled ?_)
  rw[hh]
  refine wpAny_bind (wpAny_pure (wpAny_throw ?_))
  exact none_ hx _ _ (((Heap.SameBut.update ..).extBut.push _).push _) ⟨_,Heap.get?_push_size _ rfl,rfl⟩
theorem amz {it l:Addr}{i:Nat}{items:Array Value}{R:Value->Shared->Prop}{E:Value->Shared->Prop}(hh:A.handled=none)(hne:l≠it)(st:s.heap.IsTupleIter it l i/\s.heap.IsTuple l items)
  (some_:∀ x,items[i]? = some x->∀ h',(h'.IsTupleIter it l (i+1)/\h'.IsTuple l items)->Heap.SameBut it s.heap h'->R x { s with heap:=h' })
  (none_:items[i]? = none->∀ h' e,Heap.ExtBut it s.heap h'->(∃ o,h'.get? e=some o/\o.cls=.type "StopIteration")->E (.ref e) { s with heap:=h' }) :
  wpAny (model prog w) A (Builtin.SmallTypes.nextOf (.ref it)) R E s:=by
 unfold Builtin.SmallTypes.nextOf
 refine wpAny_bind (wpAny_callSpecial?_slot (name:=Str.ofString "__next__") st.1.typeIs F.slot_tuple_iterator_next (wpAny_call_entry F.slot_tuple_iterator_next st.1.typeIs F.entry_tuple_iterator_next ?_ (F.args_tuple_iterator_next_1 _)))
 exact asS (A:=A.in1) hh hne st (fun x hx h' a b=>wpAny_pure (some_ x hx h' a b)) none_
theorem Lw (hh:A.handled=none)(it l:Addr)(hne:l≠it)(items:Array Value) :
  Draws prog w A it [it,l] items.size (fun i v=>items[i]? = some v) (fun i h=>h.IsTupleIter it l i/\h.IsTuple l items) where
 live:=fun _ _ st=>let ⟨o,ho,_⟩:=st.1;⟨o,ho⟩
 frame:=fun _ _ _ st hk=>⟨st.1.at fun o e=>hk it (by simp) o e,st.2.at fun o e=>hk l (by simp) o e⟩
 item:=fun i s Q E hi st hQ=>amz hh hne st (fun x hx h' a b=>hQ x h' s.toks hx a b) fun e=>by rw[Array.getElem?_eq_getElem hi] at e;cases e
 done:=fun s Q E st hE=>amz hh hne st (fun x hx=>by rw[Array.getElem?_eq_none (Nat.le_refl _)] at hx;cases hx) fun _=>hE
structure Zap (z TI TO i1 i2:Addr)(f1 f2:List Addr):Prop where
 zt:TI≠z/\TO≠z/\TI≠TO
 m1:i1∈f1
 m2:i2∈f2
 o1:∀ c∈f1,c≠z/\c≠TI/\c≠TO/\c≠i2
 o2:∀ c∈f2,c≠z/\c≠TI/\c≠TO/\c≠i1
variable {z TI TO i1 i2:Addr} {f1 f2:List Addr} {n1 n2:Nat} {P1 P2:Nat->Value->Prop} {S1 S2:Nat->Heap->Prop} {i j:Nat} {a b:Value}
theorem asT {R:Value->Shared->Prop}(Z:Zap z TI TO i1 i2 f1 f2)(D1:Draws prog w A i1 f1 n1 P1 S1)(D2:Draws prog w A i2 f2 n2 P2 S2)
  (hz:IsZip s.heap z TI TO .none) (hTI:IsPair s.heap TI (.ref i1) (.ref i2)) (hTO:IsPair s.heap TO a b) (h1:S1 i s.heap) (h2:S2 j s.heap) (l1:i <= n1) (l2:j <= n2)
  (both:i < n1->j < n2->∀ x y h' tk T,P1 i x->P2 j y->s.heap.objs.size <= T->IsZip h' z TI TO (rawInt T)->IsPair h' TO x y->S1 (i+1) h'->S2 (j+1) h'->IsPair h' T x y ->
   (∀ c o,c ∉ [z,TO,i1,i2]->s.heap.get? c=some o->h'.get? c=some o)->R (.ref T) { s with heap:=h',toks:=tk })
  (stop:i=n1∨j=n2->∀ h' tk e,(∀ c o,c ∉ [z,TO,i1,i2]->s.heap.get? c=some o->h'.get? c=some o)->(∃ o,h'.get? e=some o/\o.cls=.type "StopIteration")->E (.ref e) { s with heap:=h',toks:=tk }) :
  wpAny (model prog w) A (Builtin.«zip.__next__» ⟨[.ref z],[]⟩) (fun fin s'=>∃ v,fin=.done (.ret v)/\R v s') E s:=by
 obtain⟨tz,oz,tt⟩:=Z.zt
 have a1:=Z.o1 i1 Z.m1
 have a2:=Z.o2 i2 Z.m2
 show wpAny _ _ (field (.ref z) 2 >>= _) _ _ _
 refine wpAny_bind (wpAny_field hz rfl (x:=.bool false) rfl ?_)
 refine wpAny_bind (m:=field (.ref z) 3) (wpAny_field hz rfl (x:=.ref TI) rfl (wpAny_bind (wpAny_seqItems hTI rfl ?_)))
 refine wpAny_bind (m:=Builtin.SmallTypes.ownedTupleIsFree (.ref z)) ?_
 unfold Builtin.SmallTypes.ownedTupleIsFree
 refine wpAny_bind (wpAny_field hz rfl (x:=.none) rfl (wpAny_pure ?_))
 simp only [if_true]
 refine wpAny_bind (wpAny_rule (wpAny_bind (wpAny_field hz rfl (x:=.ref TO) rfl (wpAny_bind (wpAny_setField_rec hz (by simp) fun g1 z1 b1=>?_)))))
 replace z1:IsZip g1 z TI TO .ellipsis:=z1
 have s1:S1 i g1:=D1.frame _ _ _ h1 fun c hc o e=>b1.extBut _ _ (Z.o1 c hc).1 e
 have s2:S2 j g1:=D2.frame _ _ _ h2 fun c hc o e=>b1.extBut _ _ (Z.o2 c hc).1 e
 have o1:IsPair g1 TO a b:=b1.extBut _ _ oz hTO
 refine wpAny_bind ?_
 simp only [List.zipIdx_cons,List.zipIdx_nil,List.forIn_cons,List.forIn_nil]
 refine wpAny_bind (wpAny_bind (wpAny_onRaise ?_))
 refine wpAny_bind (m:=Builtin.SmallTypes.nextOf (.ref i1)) ?_
 by_cases e1:i < n1
 ·refine D1.item i _ _ _ e1 s1 fun x g2 t2 px s1' b2=>wpAny_pure ?_
  have z2:IsZip g2 z TI TO .ellipsis:=b2.extBut _ _ (Ne.symm a1.1) z1
  have o2:IsPair g2 TO a b:=b2.extBut _ _ (Ne.symm a1.2.2.1) o1
  have s2':S2 j g2:=D2.frame _ _ _ s2 fun c hc o e=>b2.extBut _ _ (Z.o2 c hc).2.2.2 e
  refine wpAny_bind (wpAny_seqItems o2 rfl (wpAny_bind (wpAny_updateSeq_pair o2 fun g3 o3 b3=>wpAny_bind (wpAny_letGo (wpAny_pure ?_)))))
  replace o3:IsPair g3 TO x b:=o3
  have z3:IsZip g3 z TI TO .ellipsis:=b3.extBut _ _ (Ne.symm oz) z2
  have s13:S1 (i+1) g3:=D1.frame _ _ _ s1' fun c hc o e=>b3.extBut _ _ (Z.o1 c hc).2.2.1 e
  have s23:S2 j g3:=D2.frame _ _ _ s2' fun c hc o e=>b3.extBut _ _ (Z.o2 c hc).2.2.1 e
  refine wpAny_bind (wpAny_bind (wpAny_onRaise ?_))
  refine wpAny_bind (m:=Builtin.SmallTypes.nextOf (.ref i2)) ?_
  by_cases e2:j < n2
  ·refine D2.item j _ _ _ e2 s23 fun y g4 t4 py s24 b4=>wpAny_pure ?_
   have z4:IsZip g4 z TI TO .ellipsis:=b4.extBut _ _ (Ne.symm a2.1) z3
   have o4:IsPair g4 TO x b:=b4.extBut _ _ (Ne.symm a2.2.2.1) o3
   have s14:S1 (i+1) g4:=D1.frame _ _ _ s13 fun c hc o e=>b4.extBut _ _ (Z.o1 c hc).2.2.2 e
   refine wpAny_bind (wpAny_seqItems o4 rfl (wpAny_bind (wpAny_updateSeq_pair o4 fun g5 o5 b5=>wpAny_bind (wpAny_letGo (wpAny_pure (wpAny_pure ?_))))))
   replace o5:IsPair g5 TO x y:=o5
   have z5:IsZip g5 z TI TO .ellipsis:=b5.extBut _ _ (Ne.symm oz) z4
   have s15:S1 (i+1) g5:=D1.frame _ _ _ s14 fun c hc o e=>b5.extBut _ _ (Z.o1 c hc).2.2.1 e
   have s25:S2 (j+1) g5:=D2.frame _ _ _ s24 fun c hc o e=>b5.extBut _ _ (Z.o2 c hc).2.2.1 e
   have sz:g5.objs.size=s.heap.objs.size:=by rw[b5.1,b4.1,b3.1,b2.1,b1.1]
   refine wpAny_bind (wpAny_seqItems o5 rfl (wpAny_bind (wpAny_newTuple ?_)))
   refine wpAny_bind (m:=Builtin.SmallTypes.ownedTupleHandOut (.ref z) (.ref g5.objs.size)) ?_
   unfold Builtin.SmallTypes.ownedTupleHandOut
   have z6:IsZip (g5.push { cls:=.type "tuple",data:=.seq #[x,y] }) z TI TO .ellipsis:=Heap.get?_push_of_some _ z5
   refine wpAny_bind (wpAny_setField_rec z6 (by simp) fun g7 z7 b7=>?_)
   replace z7:IsZip g7 z TI TO (rawInt g5.objs.size):=z7
   refine wpAny_setField_rec z7 (by simp) fun g8 z8 b8=>wpAny_pure ⟨_,rfl,?_⟩
   have up:∀ c o,c≠z->g5.get? c=some o->g8.get? c=some o:=fun c o hc e=>b8.extBut _ _ hc (b7.extBut _ _ hc (Heap.get?_push_of_some _ e))
   refine both e1 e2 x y g8 _ g5.objs.size px py (by rw[sz];exact Nat.le_refl _) z8 (up _ _ oz o5) (D1.frame _ _ _ s15 fun c hc o e=>up _ _ (Z.o1 c hc).1 e) (D2.frame _ _ _ s25 fun c hc o e=>up _ _ (Z.o2 c hc).1 e)
    (b8.extBut _ _ (Nat.ne_of_gt (Heap.lt_size z5)) (b7.extBut _ _ (Nat.ne_of_gt (Heap.lt_size z5)) (Heap.get?_push_size _ rfl))) fun c o hc e=>?_
   simp only [List.mem_cons,List.not_mem_nil,or_false,not_or] at hc
   obtain⟨c1,c2,c3,c4⟩:=hc
   exact up _ _ c1 (b5.extBut _ _ c2 (b4.extBut _ _ c4 (b3.extBut _ _ c2 (b2.extBut _ _ c3 (b1.extBut _ _ c1 e)))))
  ·have ej:j=n2:=by omega
   refine D2.done _ _ _ (ej ▸ s23) fun g4 e b4 he=>?_
   obtain⟨oe,hoe,hce⟩:=he
   have z4:IsZip g4 z TI TO .ellipsis:=b4 _ _ (Ne.symm a2.1) z3
   have hez:e≠z:=fun q=>by subst q;rw[z4] at hoe;cases hoe;simp at hce
   refine wpAny_setField_rec z4 (by simp) fun g5 _ b5=>stop (.inr ej) g5 _ e (fun c o hc q=>?_) ⟨oe,b5.extBut _ _ hez hoe,hce⟩
   simp only [List.mem_cons,List.not_mem_nil,or_false,not_or] at hc
   obtain⟨c1,c2,c3,c4⟩:=hc
   exact b5.extBut _ _ c1 (b4 _ _ c4 (b3.extBut _ _ c2 (b2.extBut _ _ c3 (b1.extBut _ _ c1 q))))
 ·have ei:i=n1:=by omega
  refine D1.done _ _ _ (ei ▸ s1) fun g2 e b2 he=>?_
  obtain⟨oe,hoe,hce⟩:=he
  have z2:IsZip g2 z TI TO .ellipsis:=b2 _ _ (Ne.symm a1.1) z1
  have hez:e≠z:=fun q=>by subst q;rw[z2] at hoe;cases hoe;simp at hce
  refine wpAny_setField_rec z2 (by simp) fun g3 _ b3=>stop (.inl ei) g3 _ e (fun c o hc q=>?_) ⟨oe,b3.extBut _ _ hez hoe,hce⟩
  simp only [List.mem_cons,List.not_mem_nil,or_false,not_or] at hc
  obtain⟨c1,c2,c3,c4⟩:=hc
  exact b3.extBut _ _ c1 (b2 _ _ c3 (b1.extBut _ _ c1 q))
theorem amA {R:Option Value->Shared->Prop}(Z:Zap z TI TO i1 i2 f1 f2)(D1:Draws prog w A.in1 i1 f1 n1 P1 S1)(D2:Draws prog w A.in1 i2 f2 n2 P2 S2)
  (hz:IsZip s.heap z TI TO .none) (hTI:IsPair s.heap TI (.ref i1) (.ref i2)) (hTO:IsPair s.heap TO a b) (h1:S1 i s.heap) (h2:S2 j s.heap) (l1:i <= n1) (l2:j <= n2)
  (both:i < n1->j < n2->∀ x y h' tk T,P1 i x->P2 j y->s.heap.objs.size <= T->IsZip h' z TI TO (rawInt T)->IsPair h' TO x y->S1 (i+1) h'->S2 (j+1) h'->IsPair h' T x y ->
   (∀ c o,c ∉ [z,TO,i1,i2]->s.heap.get? c=some o->h'.get? c=some o)->R (some (.ref T)) { s with heap:=h',toks:=tk })
  (stop:i=n1∨j=n2->∀ h' tk,(∀ c o,c ∉ [z,TO,i1,i2]->s.heap.get? c=some o->h'.get? c=some o)->R none { s with heap:=h',toks:=tk }) :
  wpAny (model prog w) A (pyNext (.ref z)) R E s:=by
 have hT:s.TypeIs (.ref z) "zip":=⟨_,hz,rfl⟩
 unfold pyNext
 refine wpAny_bind (wpAny_attempt (wpAny_callSpecial?_slot (name:=Str.ofString "__next__") hT F.slot_zip_next (wpAny_call_entry F.slot_zip_next hT F.entry_zip_next ?_ (F.args_zip_next_1 _))))
 refine asT Z D1 D2 hz hTI hTO h1 h2 l1 l2 (fun e1 e2 x y h' tk T px py hT z' o' s1 s2 p k=>wpAny_pure (both e1 e2 x y h' tk T px py hT z' o' s1 s2 p k)) fun e h' tk ex k ⟨o,ho,hc⟩=>?_
 exact wpAny_bind (wpAny_isInstance (T:="StopIteration") (b:=true) ⟨o,ho,hc⟩ isSubtype_stop (wpAny_pure (stop e h' tk k)))
def ae3 (n:Nat)(l1 l2:Addr)(h h':Heap):Prop:=IsZip h' (n+4) (n+2) (n+3) .none/\IsPair h' (n+2) (.ref n) (.ref (n+1))/\IsPair h' (n+3) .none .none/\h'.IsTupleIter n l1 0/\h'.IsTupleIter (n+1) l2 0/\∀ c o,h.get? c=some o->h'.get? c=some o
theorem aj5 (h:Heap)(l1 l2:Addr):∀ g1 g2 g3 g4 g5:Heap,g1=h.push { cls:=.type "tuple_iterator",data:=.fields #[.ref l1,.int 0 0] }->g2=g1.push { cls:=.type "tuple_iterator",data:=.fields #[.ref l2,.int 0 0] } ->
  g3=g2.push { cls:=.type "tuple",data:=.seq #[.ref h.objs.size,.ref g1.objs.size] }->g4=g3.push { cls:=.type "tuple",data:=.seq #[.none,.none] } ->
  g5=g4.push { cls:=.type "zip",data:=.fields #[.none,.bool false,.bool false,.ref g2.objs.size,.ref g3.objs.size] }->g4.objs.size=h.objs.size+4/\ae3 h.objs.size l1 l2 h g5:=by
 rintro g1 g2 g3 g4 g5 e1 e2 e3 e4 e5
 have n1:g1.objs.size=h.objs.size+1:=by rw[e1,Heap.size_push]
 have n2:g2.objs.size=h.objs.size+2:=by rw[e2,Heap.size_push,n1]
 have n3:g3.objs.size=h.objs.size+3:=by rw[e3,Heap.size_push,n2]
 have n4:g4.objs.size=h.objs.size+4:=by rw[e4,Heap.size_push,n3]
 have k1:∀ c o,h.get? c=some o->g1.get? c=some o:=fun c o q=>by rw[e1];exact Heap.get?_push_of_some _ q
 have k2:∀ c o,g1.get? c=some o->g2.get? c=some o:=fun c o q=>by rw[e2];exact Heap.get?_push_of_some _ q
 have k3:∀ c o,g2.get? c=some o->g3.get? c=some o:=fun c o q=>by rw[e3];exact Heap.get?_push_of_some _ q
 have k4:∀ c o,g3.get? c=some o->g4.get? c=some o:=fun c o q=>by rw[e4];exact Heap.get?_push_of_some _ q
 have k5:∀ c o,g4.get? c=some o->g5.get? c=some o:=fun c o q=>by rw[e5];exact Heap.get?_push_of_some _ q
 have a1:g1.get? h.objs.size=some { cls:=.type "tuple_iterator",data:=.fields #[.ref l1,.int 0 0] }:=by rw[e1];exact Heap.get?_push_size _ rfl
 have a2:g2.get? (h.objs.size+1)=some { cls:=.type "tuple_iterator",data:=.fields #[.ref l2,.int 0 0] }:=by rw[e2,← n1];exact Heap.get?_push_size _ rfl
 have a3:g3.get? (h.objs.size+2)=some { cls:=.type "tuple",data:=.seq #[.ref h.objs.size,.ref (h.objs.size+1)] }:=by rw[e3,← n1,← n2];exact Heap.get?_push_size _ rfl
 have a4:g4.get? (h.objs.size+3)=some { cls:=.type "tuple",data:=.seq #[.none,.none] }:=by rw[e4,← n3];exact Heap.get?_push_size _ rfl
 have a5:g5.get? (h.objs.size+4)=some { cls:=.type "zip",data:=.fields #[.none,.bool false,.bool false,.ref (h.objs.size+2),.ref (h.objs.size+3)] }:=by rw[e5,← n2,← n3,← n4];exact Heap.get?_push_size _ rfl
 exact⟨n4,a5,k5 _ _ (k4 _ _ a3),k5 _ _ a4,⟨_,k5 _ _ (k4 _ _ (k3 _ _ (k2 _ _ a1))),rfl,rfl⟩,⟨_,k5 _ _ (k4 _ _ (k3 _ _ a2)),rfl,rfl⟩,fun c o q=>k5 _ _ (k4 _ _ (k3 _ _ (k2 _ _ (k1 _ _ q))))⟩
theorem avm (l1 l2:Addr)(xs ys:Array Value):Meets (Builtin.«zip.__new__» ⟨[.type "zip",.ref l1,.ref l2],[]⟩)
  (fun _ R s=>s.heap.IsTuple l1 xs/\s.heap.IsTuple l2 ys/\∀ h',ae3 s.heap.objs.size l1 l2 s.heap h'->R (.ok (.ret (.ref (s.heap.objs.size+4)))) { s with heap:=h' }) :=
 .of_wp fun prog w A R s q=>by
  obtain⟨hp,g,d,tk,os⟩:=s
  obtain⟨t1,t2,q⟩:=q
  have hsub:=sub_zip
  have w1:Heap.IsTuple (Shared.heap ⟨hp,g,d,tk,os⟩) l1 xs:=t1
  have w2:Heap.IsTuple (Shared.heap ⟨hp.push { cls:=.type "tuple_iterator",data:=.fields #[.ref l1,.int 0 0] },g,d,tk,os⟩) l2 ys:=Heap.IsTuple.push t2 _
  wp_walk using wpAny_pyIter_tuple w1,wpAny_pyIter_tuple w2
  refine⟨_,rfl,?_⟩
  obtain⟨e,m⟩:=aj5 hp l1 l2 _ _ _ _ _ rfl rfl rfl rfl rfl
  have q':=q _ m
  rw[show (Shared.heap ⟨hp,g,d,tk,os⟩).objs.size+4=_ from e.symm] at q'
  exact q'
theorem asU {l1 l2:Addr}{xs ys:Array Value}{Q:Value->Shared->Prop}(t1:s.heap.IsTuple l1 xs)(t2:s.heap.IsTuple l2 ys)
  (q:∀ h',ae3 s.heap.objs.size l1 l2 s.heap h'->Q (.ref (s.heap.objs.size+4)) { s with heap:=h' }):wpAny (model prog w) A (call (.type "zip") [.ref l1,.ref l2]) Q E s:=by
 refine callType_new F.called_zip (by decide) (F.typeCall_zip_2 _ _) (F.newCall_zip_2 _ _) (fun obj=>F.args_object_init_3 obj _ _) F.entry_zip_new (avm l1 l2 xs ys) ⟨t1,t2,fun h' m=>?_⟩
 exact⟨⟨_,m.1,rfl⟩,q h' m⟩
end
def aqJ (a b:Addr):It :=
 ⟨fun i H=>∃ xs ys x y,H a=some (.tup xs)/\H b=some (.tup ys)/\xs[i]? = some x/\ys[i]? = some y,
  fun i H p H'=>∃ x y t,p=.ref t/\H t=none/\(∀ xs,H a=some (.tup xs)->xs[i]? = some x)/\(∀ ys,H b=some (.tup ys)->ys[i]? = some y)/\H'=upd H t (.tup [x,y]),
  fun i H=>∃ xs ys,H a=some (.tup xs)/\H b=some (.tup ys)/\min xs.length ys.length=i⟩
section
variable {X:Cx}
theorem aim {H:Hp}{a:Addr}{xs:List V}{i:Nat}{y:V}(hq:H a=some (.tup xs))(hy:xs[i]? = some y):∀ ys,H a=some (.tup ys)->ys[i]? = some y:=fun ys h=>by
 rw[hq] at h
 cases h
 exact hy
def avn (z TI TO i1 i2 a b:Addr)(i:Nat)(h:Heap):Prop:=IsZip h z TI TO .none/\IsPair h TI (.ref i1) (.ref i2)/\(∃ x y,IsPair h TO x y)/\h.IsTupleIter i1 a i/\h.IsTupleIter i2 b i
theorem Z1 {pins:List (Addr×Obj)}{H:Hp}{z TI TO i1 i2 a b:Addr}{xs ys:List V}(O:Ca z TI TO i1 i2)(hf:∀ c∈[z,TI,TO,i1,i2],tX X pins H c)(ha:H a=some (.tup xs))(hb:H b=some (.tup ys)) :
  Zap z TI TO i1 i2 [i1,a] [i2,b]/\a≠i1/\b≠i2:=by
 have n:∀ {c:Addr} {zs:List V},H c=some (.tup zs)->∀ d∈[z,TI,TO,i1,i2],c≠d:=fun h d hd q=>by
  rw[q,(hf d hd).1] at h
  cases h
 refine⟨⟨⟨O.TIz,O.TOz,O.TITO⟩,by simp,by simp,fun c hc=>?_,fun c hc=>?_⟩,n ha _ (by simp),n hb _ (by simp)⟩
 ·rcases List.mem_cons.mp hc with rfl | hc
  ·exact⟨O.i1z,Ne.symm O.TIi1,Ne.symm O.TOi1,O.i12⟩
  ·rw[List.mem_singleton.mp hc]
   exact⟨n ha _ (by simp),n ha _ (by simp),n ha _ (by simp),n ha _ (by simp)⟩
 ·rcases List.mem_cons.mp hc with rfl | hc
  ·exact⟨O.i2z,Ne.symm O.TIi2,Ne.symm O.TOi2,Ne.symm O.i12⟩
  ·rw[List.mem_singleton.mp hc]
   exact⟨n hb _ (by simp),n hb _ (by simp),n hb _ (by simp),n hb _ (by simp)⟩
theorem anB {P:Program}{w:World}{K:Frag}{es:List Expr}{k:Nat}{tp:Pos}{z TI TO i1 i2:Addr}(a b:Addr)(O:Ca z TI TO i1 i2) :
  Turn P w K (.Tuple es k tp) (aqJ a b) [z,TI,TO,i1,i2] z (avn z TI TO i1 i2 a b) where
 mem:=by simp
 obj:=fun i h st c hc=>by
  obtain⟨hz,hTI,⟨x,y,hTO⟩,⟨o1,e1,_,d1⟩,⟨o2,e2,_,d2⟩⟩:=st
  have hc':c=z∨c=TI∨c=TO∨c=i1∨c=i2:=by simpa using hc
  rcases hc' with rfl | rfl | rfl | rfl | rfl
  ·exact⟨_,hz,fun v q=>by
    have q':Data.fields _=Data.cell v:=q
    cases q'⟩
  ·exact⟨_,hTI,fun v q=>by
    have q':Data.seq _ _=Data.cell v:=q
    cases q'⟩
  ·exact⟨_,hTO,fun v q=>by
    have q':Data.seq _ _=Data.cell v:=q
    cases q'⟩
  ·exact⟨o1,e1,fun v q=>by rw[d1] at q;cases q⟩
  ·exact⟨o2,e2,fun v q=>by rw[d2] at q;cases q⟩
 keep:=fun i h h' st kp=>by
  obtain⟨hz,hTI,⟨x,y,hTO⟩,h1,h2⟩:=st
  exact⟨kp z (by simp) _ hz,kp TI (by simp) _ hTI,⟨x,y,kp TO (by simp) _ hTO⟩,h1.at fun o q=>kp i1 (by simp) o q,h2.at fun o q=>kp i2 (by simp) o q⟩
 item:=by
  intro X hP hw hK hc i pins s σ H E I hf st hg
  subst hP hw hK
  obtain⟨xs,ys,x,y,hq,hq2,hx,hy⟩:=hg
  obtain⟨Z,ne1,ne2⟩:=Z1 O hf hq hq2
  obtain⟨its,rv,p,_⟩:=I.tuple (pP.of hq)
  obtain⟨its2,rv2,p2,_⟩:=I.tuple (pP.of hq2)
  obtain⟨u,hu,ru⟩:=rv.get hx
  obtain⟨u2,hu2,ru2⟩:=rv2.get hy
  have h1:i < its.toArray.size:=by rw[List.size_toArray];exact (List.getElem?_eq_some_iff.mp hu).1
  have h2:i < its2.toArray.size:=by rw[List.size_toArray];exact (List.getElem?_eq_some_iff.mp hu2).1
  obtain⟨hz,hTI,⟨a0,b0,hTO⟩,g1,g2⟩:=st
  refine amA Z (Lw (A:=X.A.in1) (I.ok.hd hc) i1 a ne1 its.toArray) (Lw (A:=X.A.in1) (I.ok.hd hc) i2 b ne2 its2.toArray) hz hTI hTO ⟨g1,p⟩ ⟨g2,p2⟩ (Nat.le_of_lt h1) (Nat.le_of_lt h2) ?_ ?_
  ·intro _ _ x' y' h' tk T px py hT zz oo s1 s2 pr kk
   refine⟨_,rfl,?_⟩
   have ex:x'=u:=by
    have:its[i]? = some x':=by simpa using px
    rw[hu] at this
    exact (Option.some.inj this).symm
   have ey:y'=u2:=by
    have:its2[i]? = some y':=by simpa using py
    rw[hu2] at this
    exact (Option.some.inj this).symm
   subst ex ey
   have sub:∀ c∈[z,TO,i1,i2],c∈[z,TI,TO,i1,i2]:=fun c hc=>by
    have:c=z∨c=TO∨c=i1∨c=i2:=by simpa using hc
    simp
    rcases this with r | r | r | r <;> simp[r]
   have lt:∀ c∈[z,TI,TO,i1,i2],c < s.heap.objs.size:=fun c hc=>by
    have:c=z∨c=TI∨c=TO∨c=i1∨c=i2:=by simpa using hc
    rcases this with rfl | rfl | rfl | rfl | rfl
    ·exact Heap.lt_size hz
    ·exact Heap.lt_size hTI
    ·exact Heap.lt_size hTO
    ·obtain⟨_,e,_⟩:=g1;exact Heap.lt_size e
    ·obtain⟨_,e,_⟩:=g2;exact Heap.lt_size e
   have neT:∀ c∈[z,TI,TO,i1,i2],c≠T:=fun c hc q=>by
    have:=lt c hc
    rw[q] at this
    exact absurd (Nat.lt_of_lt_of_le this hT) (Nat.lt_irrefl _)
   have I1:Inv X pins σ (upd H T (.tup [x,y])) { s with heap:=h',toks:=tk }:=by
    refine I.ZM (vals:=[x',y']) (fun c hc=>hf c (sub c hc)) hT ⟨_,pr,rfl,0,rfl⟩ (.cons ru (.cons ru2 .nil)) (by show 2 <= sizeLine;decide) kk fun c hc=>?_
    have:c=z∨c=TO∨c=i1∨c=i2:=by simpa using hc
    rcases this with rfl | rfl | rfl | rfl
    ·exact⟨_,zz⟩
    ·exact⟨_,oo⟩
    ·obtain⟨o,e,_⟩:=s1.1;exact⟨o,e⟩
    ·obtain⟨o,e,_⟩:=s2.1;exact⟨o,e⟩
   have hTn:H T=none:=I.hok.fresh hT
   have hf2:∀ c∈[z,TI,TO,i1,i2],tX X pins (upd H T (.tup [x,y])) c:=fun c hc=>by
    obtain⟨f0,fr⟩:=hf c hc
    exact⟨by rw[aA (neT c hc)];exact f0,fr⟩
   refine wpAny_letOwnedTupleGo_zip zz fun h'' zz' sb=>?_
   have azl:IsPair h' TI (.ref i1) (.ref i2):=kk _ _ (by simp;exact⟨O.TIz,O.TITO,O.TIi1,O.TIi2⟩) hTI
   refine⟨.ref T,upd H T (.tup [x,y]),I1.jE (tk:=tk) (wr:=[z]) (fun c hc=>hf2 c (by rw[List.mem_singleton.mp hc];simp)) (fun c o hc e=>sb.extBut _ _ (fun q=>hc (by rw[q];simp)) e),rfl,⟨x,y,T,rfl,hTn,aim hq hx,aim hq2 hy,rfl⟩,?_,fun c hc=>(hf2 c hc).1⟩
   exact⟨zz',sb.extBut _ _ O.TIz azl,⟨_,_,sb.extBut _ _ O.TOz oo⟩,s1.1.extBut sb.extBut O.i1z,s2.1.extBut sb.extBut O.i2z⟩
  ·intro e
   exfalso
   rcases e with e | e <;> omega
 done:=by
  intro X hP hw hK hc i pins s σ H E I hf st hg
  subst hP hw hK
  obtain⟨xs,ys,hq,hq2,hx⟩:=hg
  obtain⟨Z,ne1,ne2⟩:=Z1 O hf hq hq2
  obtain⟨its,rv,p,_⟩:=I.tuple (pP.of hq)
  obtain⟨its2,rv2,p2,_⟩:=I.tuple (pP.of hq2)
  obtain⟨hz,hTI,⟨a0,b0,hTO⟩,g1,g2⟩:=st
  have e1:its.toArray.size=xs.length:=by rw[List.size_toArray,rv.length]
  have e2:its2.toArray.size=ys.length:=by rw[List.size_toArray,rv2.length]
  refine amA Z (Lw (A:=X.A.in1) (I.ok.hd hc) i1 a ne1 its.toArray) (Lw (A:=X.A.in1) (I.ok.hd hc) i2 b ne2 its2.toArray) hz hTI hTO ⟨g1,p⟩ ⟨g2,p2⟩ (by omega) (by omega) ?_ ?_
  ·intro l1 l2
   exfalso
   omega
  ·intro _ h' tk kk
   refine⟨rfl,I.jE (tk:=tk) (wr:=[z,TO,i1,i2]) (fun c hc=>hf c ?_) kk⟩
   have:c=z∨c=TO∨c=i1∨c=i2:=by simpa using hc
   simp
   rcases this with r | r | r | r <;> simp[r]
 self:=fun _ i s _ _ st h=>by
  obtain⟨hz,_⟩:=st
  exact wpAny_pyIter_zip hz h
inductive aqK (R:(It->Hp->Prop))(x:V)(y:V)(H2:Hp):Prop
 | mk (a:_) (b:_) (xs:_) (ys:_) (fU:x=.ref a) (fV:y=.ref b) (iQ:H2 a=some (.tup xs)) (nZ:H2 b=some (.tup ys)) (xM:R (aqJ a b) H2):aqK R x y H2
def axh (tl tm:TE):TI:=fun σ H R=>tl σ H fun x H1=>tm σ H1 fun y H2=>aqK R x y H2
theorem asV {l m:Expr}{tl tm:TE}{p pos tp:Pos}{es:List Expr}{k:Nat}(hg:Gl X "zip")(hz:X.mg "zip" = none)(hl:PE X l tl)(hm:PE X m tm)(hs:starEach [l,m] X.env=[(false,eval l X.env),(false,eval m X.env)]:=by rfl)(hs2:starEach [m] X.env=[(false,eval m X.env)]:=by rfl) :
  PI X (.Tuple es k tp) (.Call (.Name "zip" p) [l,m] [] pos) (axh tl tm):=by
 intro pins s σ H R I h
 refine Call_ (yI I hg hz aj2 (PyProof.Rows.callWith_type1 (eX (aj3 hl hm hs hs2 pos pins s σ H I h) fun us s1 ⟨x,y,u,v,H1,I1,e1,r1,r2,q1⟩=>?_) (by rw[hs,hs2]) (by rw[hs2];rfl)))
 obtain⟨a,b,xs,ys,rfl,rfl,hq,hq2,q⟩:=q1
 subst e1
 cases r1
 cases r2
 obtain⟨its,rv,pl,_⟩:=I1.tuple (pP.of hq)
 obtain⟨its2,rv2,pl2,_⟩:=I1.tuple (pP.of hq2)
 refine asU pl pl2 fun h' ⟨z1,z2,z3,z4,z5,kk⟩=>?_
 refine wpAny_pyIter_zip z1 ?_
 have O:Ca (s1.heap.objs.size+4) (s1.heap.objs.size+2) (s1.heap.objs.size+3) s1.heap.objs.size (s1.heap.objs.size+1):=by
  constructor <;> exact (by intro q;have q':(_:Nat)=_:=q;omega)
 refine⟨_,[s1.heap.objs.size+4,s1.heap.objs.size+2,s1.heap.objs.size+3,s1.heap.objs.size,s1.heap.objs.size+1],_,_,H1,rfl,I1.kept (t':=s1.toks) kk,anB a b O,⟨z1,z2,⟨_,_,z3⟩,z4,z5⟩,fun c hc=>?_,q⟩
 have hc':s1.heap.objs.size <= c:=by
  have:c=s1.heap.objs.size+4∨c=s1.heap.objs.size+2∨c=s1.heap.objs.size+3∨c=s1.heap.objs.size∨c=s1.heap.objs.size+1:=by simpa using hc
  rcases this with r | r | r | r | r <;> (rw[r];first | exact Nat.le_add_right _ _ | exact Nat.le_refl _)
 exact I1.acS hc' (I1.hok.fresh hc')
end
theorem aqL {a b:Addr}{xs ys:List V}{g:TG}{tb:TS}{D:Ends}{σ:St}{H:Hp}(Pv:Nat->St->Hp->Prop)(he:xs.length=ys.length)(h0:Pv 0 σ H)(hl:∀ i σ H,Pv i σ H->H a=some (.tup xs)/\H b=some (.tup ys))
  (hs:∀ i x y t σ H,xs[i]? = some x->ys[i]? = some y->Pv i σ H->H t=none->g (.ref t) σ (upd H t (.tup [x,y])) fun σ2 H2=>tb { D with nx:=Pv (i+1),ct:=Pv (i+1),bk:=D.nx } σ2 H2) (hd:∀ σ H,Pv xs.length σ H->D.nx σ H) :
  ∃ W:Nat->Nat->St->Hp->Prop,(∃ m,W 0 m σ H)/\∀ i m σ H,W i m σ H ->
   ((aqJ a b).stop i H/\D.nx σ H)∨((aqJ a b).go i H/\∃ N:St->Hp->Prop,(∀ σ' H',N σ' H'->∃ m',m' < m/\W (i+1) m' σ' H')/\∀ x H',(aqJ a b).yld i H x H'->g x σ H' fun σ2 H2=>tb { D with nx:=N,ct:=N,bk:=D.nx } σ2 H2):=by
 refine⟨fun i m σ H=>m=xs.length - i/\i <= xs.length/\Pv i σ H,⟨xs.length,by simp,Nat.zero_le _,h0⟩,?_⟩
 rintro i m σ H ⟨rfl,hi,p⟩
 obtain⟨q,q2⟩:=hl i σ H p
 by_cases hlt:i < xs.length
 ·have hlt2:i < ys.length:=by omega
  refine .inr ⟨⟨xs,ys,xs[i],ys[i],q,q2,by simp[hlt],by simp[hlt2]⟩,Pv (i+1),fun σ' H' p'=>⟨xs.length - (i+1),by omega,rfl,hlt,p'⟩,fun x H' y=>?_⟩
  obtain⟨x0,y0,t,rfl,hn,hx,hy,rfl⟩:=y
  exact hs i x0 y0 t σ H (hx xs q) (hy ys q2) p hn
 ·have e:i=xs.length:=by omega
  subst e
  exact .inl ⟨⟨xs,ys,q,q2,by omega⟩,hd σ H p⟩
end L2
set_option maxHeartbeats 1000000
namespace ae4
open PySem L2
inductive Kd where
 | G | D | R | s | d | r | dot | three | two
 deriving DecidableEq,Repr
def Kd.str:Kd->Str
 | .G=>"G" | .D=>"D" | .R=>"R" | .s=>"s" | .d=>"d" | .r=>"r" | .dot=>"." | .three=>"3" | .two=>"2"
def Kd.cp:Kd->Nat
 | .G=>71 | .D=>68 | .R=>82 | .s=>115 | .d=>100 | .r=>114 | .dot=>46 | .three=>51 | .two=>50
def Kd.great:Kd->Bool
 | .G=>true | .D=>true | .R=>true | _=>false
def Kd.small:Kd->Bool
 | .s=>true | .d=>true | .r=>true | _=>false
def Kd.parting:Kd->Bool
 | .dot=>true | .three=>true | .two=>true | _=>false
def Kd.meas:Kd->Bool
 | .three=>true | .two=>true | _=>false
def Kd.lX:Kd->Bool
 | .G=>true | .D=>true | .s=>true | .d=>true | _=>false
def Ah:Option Kd->Str
 | some k=>k.str
 | none=>""
abbrev Sg:=Kd×Int
def inS (x y:Str):Bool:=!(Builtin.Str.occurrences y x 0 y.length 1).isEmpty
theorem axi (k:Kd):k.str=⟨#[k.cp]⟩:=by cases k <;> decide +kernel
theorem str_inj {a b:Kd}:a.str=b.str ↔ a=b:=by
 constructor
 ·revert a b
  have:∀ a b:Kd,a.str=b.str->a=b:=by
   intro a b
   cases a <;> cases b <;> first | (intro _;rfl) | (intro h;exact absurd h (by decide +kernel))
  exact fun {a b}=>this a b
 ·exact fun h=>by rw[h]
theorem ain {a b:Option Kd}:Ah a=Ah b ↔ a=b:=by
 constructor
 ·have:∀ a b:Option Kd,Ah a=Ah b->a=b:=by
   intro a b
   cases a with
   | none=>cases b with
    | none=>intro _;rfl
    | some b=>cases b <;> (intro h;exact absurd h (by decide +kernel))
   | some a=>cases b with
    | none=>cases a <;> (intro h;exact absurd h (by decide +kernel))
    | some b=>intro h;exact congrArg some (str_inj.mp h)
  exact fun h=>this a b h
 ·exact fun h=>by rw[h]
theorem asY (a b:Str):decide (V.str a=V.str b)=decide (a=b):=by
 by_cases h:a=b
 ·rw[h];simp
 ·rw[decide_eq_false h];exact decide_eq_false fun e=>h (V.str.inj e)
theorem anC (a b:Kd):decide (V.str a.str=V.str b.str)=decide (a=b):=by
 rw[asY];exact decide_eq_decide.mpr str_inj
theorem axj (a b:Option Kd):decide (V.str (Ah a)=V.str (Ah b))=decide (a=b):=by
 rw[asY];exact decide_eq_decide.mpr ain
theorem o_G (o:Option Kd):decide (V.str (Ah o)=V.str "G")=decide (o=some .G):=axj o (some .G)
theorem k_G (k:Kd):decide (V.str k.str=V.str "G")=decide (k=.G):=anC k .G
theorem k_D (k:Kd):decide (V.str k.str=V.str "D")=decide (k=.D):=anC k .D
theorem o_s (o:Option Kd):decide (V.str (Ah o)=V.str "s")=decide (o=some .s):=axj o (some .s)
theorem k_s (k:Kd):decide (V.str k.str=V.str "s")=decide (k=.s):=anC k .s
theorem axk (k:Kd):decide (V.str k.str=V.str ".")=decide (k=.dot):=anC k .dot
theorem ae5 (k:Kd):decide (V.str k.str=V.str "3")=decide (k=.three):=anC k .three
theorem aqM (k:Kd):decide (V.str k.str=V.str "2")=decide (k=.two):=anC k .two
def aj6 (H:Hp)(v:V)(s:Sg):Prop:=∃ p,v=.ref p/\H p=some (.tup [.str s.1.str,.int s.2])
theorem aj6.same {H H':Hp}{v:V}{s:Sg}(e:aB H H')(h:aj6 H v s):aj6 H' v s:=by
 obtain⟨p,rfl,q⟩:=h
 exact⟨p,rfl,e _ _ q⟩
abbrev lY (H:Hp):List V->List Sg->Prop:=Paired (aj6 H)
theorem lY.same {H H':Hp}(e:aB H H'):∀ {xs:List V} {ss:List Sg},lY H xs ss->lY H' xs ss
 | _,_,.nil=>.nil
 | _,_,.cons a b=>.cons (a.same e) (lY.same e b)
theorem Cd {α β:Type}{F:α->β->Prop}:∀ {xs:List α} {ys:List β} {i:Nat} {x:α},Paired F xs ys->xs[i]? = some x->∃ y,ys[i]? = some y/\F x y
 | _,_,_,_,.nil,e=>by simp at e
 | _,_,0,_,.cons r _,e=>by simp at e;subst e;exact⟨_,rfl,r⟩
 | _,_,i+1,x,.cons _ t,e=>by
  obtain⟨u,h1,h2⟩:=Cd (i:=i) (x:=x) t (by simpa using e)
  exact⟨u,by simpa using h1,h2⟩
theorem HF {α β:Type}{F:α->β->Prop}:∀ {xs:List α} {ys:List β} {i:Nat} {y:β},Paired F xs ys->ys[i]? = some y->∃ x,xs[i]? = some x/\F x y
 | _,_,_,_,.nil,e=>by simp at e
 | _,_,0,_,.cons r _,e=>by simp at e;subst e;exact⟨_,rfl,r⟩
 | _,_,i+1,x,.cons _ t,e=>by
  obtain⟨u,h1,h2⟩:=HF (i:=i) t (by simpa using e)
  exact⟨u,by simpa using h1,h2⟩
theorem cj {α β:Type}{F:α->β->Prop}{xs:List α}{ys:List β}(h:Paired F xs ys):xs.length=ys.length:=Paired.length h
theorem pQ {α β:Type}{F:α->β->Prop}:∀ {xs:List α} {ys:List β} {x:α} {y:β},Paired F xs ys->F x y->Paired F (xs++[x]) (ys++[y])
 | _,_,_,_,.nil,h=>.cons h .nil
 | _,_,_,_,.cons a b,h=>.cons a (pQ b h)
theorem Nr {α β:Type}{F:α->β->Prop}:∀ {xs:List α} {ys:List β} {xs':List α} {ys':List β},Paired F xs ys->Paired F xs' ys'->Paired F (xs++xs') (ys++ys')
 | _,_,_,_,.nil,h=>h
 | _,_,_,_,.cons a b,h=>.cons a (Nr b h)
theorem Z2 {α β:Type}{F:α->β->Prop}:∀ {xs:List α} {ys:List β} (n:Nat),Paired F xs ys->Paired F (xs.drop n) (ys.drop n)
 | _,_,0,h=>h
 | _,_,n+1,.nil=>.nil
 | _,_,n+1,.cons a b=>Z2 n b
theorem XX {α β:Type}{F:α->β->Prop}:∀ {xs:List α} {ys:List β} (n:Nat),Paired F xs ys->Paired F (xs.take n) (ys.take n)
 | _,_,0,h=>.nil
 | _,_,n+1,.nil=>.nil
 | _,_,n+1,.cons a b=>.cons a (XX n b)
theorem cu {α β:Type}{F G:α->β->Prop}(h:∀ x y,F x y->G x y):∀ {xs:List α} {ys:List β},Paired F xs ys->Paired G xs ys
 | _,_,.nil=>.nil
 | _,_,.cons a b=>.cons (h _ _ a) (cu h b)
theorem gO {H0 H:Hp}{l:Addr}{o:HO}(s:aB H0 H)(hl:H0 l=none):aB H0 (upd H l o):=fun b u e=>by
 rw[aA (aD e hl)]
 exact s b u e
theorem aio {H:Hp}{D:Addr}{o:HO}{zs:List V}{v:V}{s:Sg}(hD:H D=some (.lst zs))(h:aj6 H v s):aj6 (upd H D o) v s:=by
 obtain⟨p,e,q⟩:=h
 exact⟨p,e,by rw[aA (vL q hD (by intro z;cases z))];exact q⟩
theorem ae6 {H:Hp}{D:Addr}{o:HO}{zs:List V}{xs:List V}{ss:List Sg}(hD:H D=some (.lst zs))(h:lY H xs ss):lY (upd H D o) xs ss:=cu (fun _ _ q=>aio hD q) h
theorem IK {ms:List Int}{i:Nat}{x:V}(h:(ms.map V.int)[i]? = some x):∃ z,ms[i]? = some z/\x=V.int z:=by
 rw[List.getElem?_map] at h
 cases e:ms[i]? with
 | none=>rw[e] at h;cases h
 | some z=>rw[e] at h;exact⟨z,rfl,(Option.some.inj h).symm⟩
section
variable {K:Frag} {H:Hp} {p:Addr} {Q:VK}
theorem ix0 {a b:V}(h:H p=some (.tup [a,b]))(q:Q a H):ah7 K (.ref p) (.int 0) H Q∨ah8 K (.ref p) (.int 0) H Q∨ah9 (.ref p) (.int 0) H Q:=.inr (.inl ⟨p,_,0,a,rfl,rfl,pP.of h,rfl,q⟩)
theorem ix1 {a b:V}(h:H p=some (.tup [a,b]))(q:Q b H):ah7 K (.ref p) (.int 1) H Q∨ah8 K (.ref p) (.int 1) H Q∨ah9 (.ref p) (.int 1) H Q:=.inr (.inl ⟨p,_,1,b,rfl,rfl,pP.of h,rfl,q⟩)
theorem ixL {xs:List V}{i:Int}{n:Nat}{v:V}(h:bu K H p xs)(hn:i=n)(e:xs[n]? = some v)(q:Q v H):ah7 K (.ref p) (.int i) H Q∨ah8 K (.ref p) (.int i) H Q∨ah9 (.ref p) (.int i) H Q:=.inl ⟨p,xs,i,v,rfl,rfl,h,by rw[hn];exact Q0 e,q⟩
theorem acW {xs:List V}{ss:List Sg}{i:Int}{n:Nat}{s:Sg}(h:bu K H p xs)(g:lY H xs ss)(hn:i=n)(e:ss[n]? = some s)(q:∀ b,H b=some (.tup [.str s.1.str,.int s.2])->Q (.ref b) H) :
  ah7 K (.ref p) (.int i) H Q∨ah8 K (.ref p) (.int i) H Q∨ah9 (.ref p) (.int i) H Q:=by
 obtain⟨x,hx,b,rfl,hb⟩:=HF g e
 exact ixL h hn hx (q b hb)
theorem aqN {ns:List Int}{i:Int}{n:Nat}{z:Int}(h:bu K H p (ns.map V.int))(hn:i=n)(e:ns[n]? = some z)(q:Q (.int z) H):ah7 K (.ref p) (.int i) H Q∨ah8 K (.ref p) (.int i) H Q∨ah9 (.ref p) (.int i) H Q :=
 ixL h hn (by rw[List.getElem?_map,e];rfl) q
end
set_option maxHeartbeats 1000000
def nm (m:Int):Kd->Int
 | .three=>3
 | .two=>2
 | _=>m
def Ms (m:Int):Prop:=m=3∨m=2
theorem Ms.nm {m:Int}(h:Ms m)(k:Kd):Ms (nm m k):=by
 cases k <;> first | exact h | exact .inl rfl | exact .inr rfl
def lE (m:Int):List Kd->List Int
 | []=>[]
 | k :: t=>nm m k :: lE (nm m k) t
theorem Ux (m:Int)(ks:List Kd):(lE m ks).length=ks.length:=by
 induction ks generalizing m with
 | nil=>rfl
 | cons k t ih=>simp[lE,ih]
def pw:Kd->Int->Int
 | .G,m=>if m=2 then 2 else 3
 | .R,m=>if m=2 then 2 else 3
 | .D,_=>2
 | .s,_=>1
 | .d,_=>1
 | .r,_=>1
 | _,_=>0
def bw (m:Int)(k:Kd)(n:Option Kd):Int:=if m=2/\k=.G/\n=some .dot then 3 else pw k m
def lF (m:Int):List Kd->List Int
 | []=>[]
 | k :: t=>bw (nm m k) k t.head? :: lF (nm m k) t
def Nt:List Kd->List Int->List Int
 | k :: t,m :: ms=>bw m k t.head? :: Nt t ms
 | _,_=>[]
theorem aip (m:Int)(ks:List Kd):Nt ks (lE m ks)=lF m ks:=by
 induction ks generalizing m with
 | nil=>rfl
 | cons k t ih=>simp[lE,Nt,lF,ih]
theorem Ds (m:Int)(ks:List Kd):(lF m ks).length=ks.length:=by
 induction ks generalizing m with
 | nil=>rfl
 | cons k t ih=>simp[lF,ih]
def inR (m:Int)(k:Kd):Bool:=decide (m≠2) && k.small
def oJ (m:Int):List Kd->List Bool
 | []=>[]
 | k :: t=>inR (nm m k) k :: oJ (nm m k) t
theorem yL (m:Int)(ks:List Kd):(oJ m ks).length=ks.length:=by
 induction ks generalizing m with
 | nil=>rfl
 | cons k t ih=>simp[oJ,ih]
def aiq:List Kd->List Int->List Bool
 | k :: t,m :: ms=>inR m k :: aiq t ms
 | _,_=>[]
theorem aj7 (m:Int)(ks:List Kd):aiq ks (lE m ks)=oJ m ks:=by
 induction ks generalizing m with
 | nil=>rfl
 | cons k t ih=>simp[lE,aiq,oJ,ih]
def gP (at' first:Nat):List Bool->List (Nat×Nat)
 | []=>if first < at' then [(first,at')] else []
 | true :: t=>gP (at'+1) first t
 | false :: t=>(if first < at' then [(first,at')] else [])++gP (at'+1) (at'+1) t
def HH (m:Int)(ks:List Kd):List (Nat×Nat):=gP 0 0 (oJ m ks)
def kAt (ks:List Kd)(i:Int):Option Kd:=if 0 <= i then ks[i.toNat]? else none
theorem Ai (ks:List Kd)(n:Nat):kAt ks (n:Int)=ks[n]?:=by
 unfold kAt
 rw[if_pos (by omega)]
 rfl
def Ce:Option Kd->Bool
 | some k=>k.great
 | none=>false
def oK (ks:List Kd)(f:List Int)(a:Nat):Bool:=decide (kAt ks ((a:Int) - 1)=some .G) && decide (f.getD (a - 1) 0=3)
def jH (ks:List Kd)(z:Nat):Bool:=decide (ks[z]? = some .G) && !Ce ks[z+1]?
def Lx (ks:List Kd)(f:List Int)(a z:Nat):Bool×List Int:=if oK ks f a then (true,f.set (a - 1) 2) else if jH ks z then (true,f.set z 2) else (false,f)
def Ly (ks:List Kd)(f:List Int)(a z:Nat):Bool×List Int:=if Ce ks[z]? && decide (ks[z - 1]? = some .s) then (true,f.set (z - 1) 2) else if oK ks f a && jH ks z then (true,(f.set (a - 1) 2).set z 2) else (false,f)
def settle (ks:List Kd)(f:List Int)(a z:Nat):Bool×List Int:=if (z - a) % 3=1 then Lx ks f a z else if (z - a) % 3=2 then Ly ks f a z else (true,f)
theorem Nu (ks:List Kd)(f:List Int)(a z:Nat):(settle ks f a z).2.length=f.length:=by
 unfold settle Lx Ly
 repeat' split
 all_goals simp
abbrev RdS:=List Int×List (Nat×Nat)
def yM (ks:List Kd)(c:RdS)(p:Nat×Nat):RdS:=((settle ks c.1 p.1 p.2).2,if (settle ks c.1 p.1 p.2).1 then c.2 else c.2++[p])
def oM (m:Int)(ks:List Kd):RdS:=(HH m ks).foldl (yM ks) (lF m ks,[])
theorem aqO (ks:List Kd)(rs:List (Nat×Nat))(c:RdS):(rs.foldl (yM ks) c).1.length=c.1.length:=by
 induction rs generalizing c with
 | nil=>rfl
 | cons p t ih=>rw[List.foldl_cons,ih];exact Nu ..
theorem yr (m:Int)(ks:List Kd):(oM m ks).1.length=ks.length:=by
 unfold oM
 rw[aqO,Ds]
theorem Z3:∀ (bs:List Bool) (at' first:Nat),first <= at'->∀ p∈gP at' first bs,first <= p.1/\p.1 < p.2/\p.2 <= at'+bs.length
 | [],at',first,h,p,hp=>by
  unfold gP at hp
  split at hp
  ·have:p=(first,at'):=by simpa using hp
   subst this
   exact⟨Nat.le_refl _,by assumption,by simp⟩
  ·cases hp
 | true :: t,at',first,h,p,hp=>by
  have:=Z3 t (at'+1) first (by omega) p hp
  simp only [List.length_cons]
  omega
 | false :: t,at',first,h,p,hp=>by
  unfold gP at hp
  simp only [List.length_cons]
  rcases List.mem_append.mp hp with hp | hp
  ·split at hp
   ·have:p=(first,at'):=by simpa using hp
    subst this
    exact⟨Nat.le_refl _,by assumption,by simp⟩
   ·cases hp
  ·have:=Z3 t (at'+1) (at'+1) (Nat.le_refl _) p hp
   omega
theorem aqP (m:Int)(ks:List Kd):∀ p∈HH m ks,p.1 < p.2/\p.2 <= ks.length:=by
 intro p hp
 have:=Z3 (oJ m ks) 0 0 (Nat.le_refl _) p hp
 rw[yL] at this
 omega
theorem vN:∀ (bs:List Bool) (at' first:Nat),(gP at' first bs).length <= bs.length+1
 | [],at',first=>by unfold gP;split <;> simp
 | true :: t,at',first=>by
  unfold gP
  have:=vN t (at'+1) first
  simp only [List.length_cons];omega
 | false :: t,at',first=>by
  unfold gP
  have:=vN t (at'+1) (at'+1)
  simp only [List.length_cons,List.length_append]
  split <;> simp <;> omega
def anD (H:Hp)(v:V)(q:Nat×Nat):Prop:=∃ p,v=.ref p/\H p=some (.tup [.int (q.1:Int),.int (q.2:Int)])
abbrev Prs (H:Hp):List V->List (Nat×Nat)->Prop:=Paired (anD H)
theorem anD.same {H H':Hp}{v:V}{q:Nat×Nat}(e:aB H H')(h:anD H v q):anD H' v q:=by
 obtain⟨p,rfl,z⟩:=h
 exact⟨p,rfl,e _ _ z⟩
theorem Aj {H H':Hp}(e:aB H H'){xs:List V}{qs:List (Nat×Nat)}(h:Prs H xs qs):Prs H' xs qs:=cu (fun _ _ z=>z.same e) h
theorem air {H:Hp}{D:Addr}{o:HO}{zs:List V}{v:V}{q:Nat×Nat}(hD:H D=some (.lst zs))(h:anD H v q):anD (upd H D o) v q:=by
 obtain⟨p,e,z⟩:=h
 exact⟨p,e,by rw[aA (vL z hD (by intro z;cases z))];exact z⟩
theorem yN {H:Hp}{D:Addr}{o:HO}{zs:List V}{xs:List V}{qs:List (Nat×Nat)}(hD:H D=some (.lst zs))(h:Prs H xs qs):Prs (upd H D o) xs qs:=cu (fun _ _ q=>air hD q) h
theorem Q9 {H:Hp}{a:Addr}{o:HO}(h:H a=some o):upd H a o=H:=by
 funext b
 unfold upd
 split
 ·rename_i e;rw[e,h]
 ·rfl
theorem Uy {ks:List Kd}{f:List Int}{a:Nat}(h:oK ks f a=true):1 <= a/\a - 1 < ks.length:=by
 unfold oK at h
 have h1:=of_decide_eq_true (Bool.and_eq_true_iff.mp h).1
 unfold kAt at h1
 split at h1
 ·have:=(List.getElem?_eq_some_iff.mp h1).1
  omega
 ·cases h1
theorem Nv {ks:List Kd}{z:Nat}(h:jH ks z=true):z < ks.length:=by
 unfold jH at h
 have h1:=of_decide_eq_true (Bool.and_eq_true_iff.mp h).1
 exact (List.getElem?_eq_some_iff.mp h1).1
theorem Ak {n:Nat}{i:Int}{j:Nat}(e:i=j)(h:j < n):ixN n i=some j:=by
 unfold ixN
 subst e
 rw[if_pos (by omega),if_pos (by omega)]
 rfl
theorem qL {α:Type}{l:List α}{i:Nat}{x:α}(h:l[i]? = some x):l.drop i=x :: l.drop (i+1):=by
 obtain⟨hi,e⟩:=List.getElem?_eq_some_iff.mp h
 rw[List.drop_eq_getElem_cons hi,e]
theorem IV {α β:Type}{l:List α}{f:α->β}{i:Nat}{x:α}(h:l[i]? = some x):(l.map f)[i]? = some (f x):=by rw[List.getElem?_map,h];rfl
abbrev cg (ss:List Sg):List Kd:=ss.map Prod.fst
theorem vz {fs:List Int}{j:Nat}{v:Int}:(fs.map V.int).set j (V.int v)=(fs.set j v).map V.int:=by rw[List.map_set]
theorem big {n:Nat}(h:n <= 1000):n <= sizeLine:=Nat.le_of_lt (bx h)
theorem head_drop {α:Type}(l:List α)(i:Nat):(l.drop i).head? = l[i]?:=by
 rw[List.head?_drop]
def pB (m:Int):List Kd->List Bool
 | []=>[]
 | k :: t=>decide (nm m k=3) :: pB (nm m k) t
theorem aj9 (m:Int)(ks:List Kd):(pB m ks).length=ks.length:=by
 induction ks generalizing m with
 | nil=>rfl
 | cons k t ih=>simp[pB,ih]
def lead:List Bool->Nat
 | true :: t=>lead t+1
 | _=>0
theorem amB:∀ bs:List Bool,lead bs <= bs.length
 | []=>Nat.le_refl _
 | true :: t=>by simp only [lead,List.length_cons];have:=amB t;omega
 | false :: t=>Nat.zero_le _
theorem Z4:∀ (bs:List Bool) (at' first:Nat),first < at'+lead bs∨lead bs=0->first <= at'->gP at' first bs=(if first < at'+lead bs then [(first,at'+lead bs)] else [])++gP (at'+lead bs) (at'+lead bs) (bs.drop (lead bs))
 | [],at',first,_,h=>by
  show (if first < at' then [(first,at')] else [])=(if first < at' then [(first,at')] else [])++gP at' at' []
  rw[show gP at' at' []=[] by unfold gP;rw[if_neg (Nat.lt_irrefl _)],List.append_nil]
 | true :: t,at',first,h0,h=>by
  have ih:=Z4 t (at'+1) first (.inl (by omega)) (by omega)
  have e:at'+1+lead t=at'+(lead t+1):=by omega
  rw[e] at ih
  simp only [gP,lead,List.drop_succ_cons]
  exact ih
 | false :: t,at',first,_,h=>by
  show (if first < at' then [(first,at')] else [])++gP (at'+1) (at'+1) t=(if first < at' then [(first,at')] else [])++((if at' < at' then [(at',at')] else [])++gP (at'+1) (at'+1) t)
  rw[if_neg (Nat.lt_irrefl at'),List.nil_append]
theorem amC {m:Int}(h:Ms m):∀ (ks:List Kd) (i:Nat) (k:Kd),ks[i]? = some k->∃ b,(pB m ks)[i]? = some b/\(oJ m ks)[i]? = some (k.small && b)
 | [],i,k,e=>by simp at e
 | c :: t,0,k,e=>by
  have:c=k:=by simpa using e
  subst this
  refine⟨decide (nm m c=3),rfl,?_⟩
  simp only [oJ,List.getElem?_cons_zero,inR]
  have hm:=h.nm c
  rcases hm with e | e <;> rw[e] <;> cases c <;> rfl
 | c :: t,i+1,k,e=>by
  obtain⟨b,h1,h2⟩:=amC (h.nm c) t i k (by simpa using e)
  exact⟨b,by simpa [pB] using h1,by simpa [oJ] using h2⟩
theorem amD:∀ (bs:List Bool) (j:Nat),j <= lead bs->(j < lead bs ↔ bs[j]? = some true)
 | [],j,h=>by simp[lead]
 | true :: t,0,h=>by simp[lead]
 | true :: t,j+1,h=>by
  have:=amD t j (by simp only [lead] at h;omega)
  simp only [lead,List.getElem?_cons_succ]
  rw[← this]
  omega
 | false :: t,j,h=>by
  have:j=0:=by simp only [lead] at h;omega
  subst this
  simp[lead]
theorem avo {m:Int}{ks:List Kd}{low j:Nat}:((oJ m ks).drop low)[j]? = (oJ m ks)[low+j]?:=by rw[List.getElem?_drop]
set_option maxHeartbeats 1000000
theorem amE (xs:List V)(n:Nat):Nj xs none (some (n:Int))=xs.take n:=by
 unfold Nj
 have e:HT.tQ xs.length xs.length (some (n:Int))=min n xs.length:=HT.aml xs.length xs.length n
 rw[HT.ZG,e,Nat.sub_zero,List.drop_zero]
 rcases Nat.le_total n xs.length with h | h
 ·rw[Nat.min_eq_left h]
 ·rw[Nat.min_eq_right h,List.take_length,List.take_of_length_le h]
theorem Zk (xs:List V)(n:Nat)(h:n <= xs.length):Nj xs (some (n:Int)) none=xs.drop n:=by
 unfold Nj
 have e:HT.tQ xs.length 0 (some (n:Int))=min n xs.length:=HT.aml xs.length 0 n
 rw[HT.ZG,e,Nat.min_eq_left h]
 exact List.take_of_length_le (by rw[List.length_drop];omega)
theorem axl {K:Frag}{H:Hp}{p p2:Addr}{s:Sg}(n:Nat)(h1:H p=some (.tup [.str s.1.str,.int s.2]))(h2:H p2=some (.tup [.str s.1.str,.int s.2])):Deq K H (n+1) (.ref p) (.ref p2):=by
 refine .tup (pP.of h1) (pP.of h2) rfl fun i x y e1 e2=>?_
 have e:x=y:=Option.some.inj (e1.symm.trans e2)
 subst e
 match i,e1 with
 | 0,e1=>cases e1;exact .flat rfl
 | 1,e1=>cases e1;exact .flat rfl
 | n+2,e1=>simp at e1
def PrI (H:Hp)(v:V)(q:Int×Int):Prop:=∃ p,v=.ref p/\H p=some (.tup [.int q.1,.int q.2])
abbrev aB6 (H:Hp):List V->List (Int×Int)->Prop:=Paired (PrI H)
structure azn (H0 H:Hp)(l:Addr)(xs:List V)(ss:List Sg):Prop where
 same:aB H0 H
 new:H0 l=none
 at':H l=some (.lst xs)
 sg:lY H xs ss
def Z5 (K:Frag):Sp:=fun vs H Q _=>∃ (a:Addr) (ns:List Int),vs=[.ref a]/\bu K H a (ns.map V.int)/\ns.length <= 63/\∀ H',Q (.bl true) H'
theorem anE {K:Frag}{H:Hp}{a:Addr}{ns:List Int}(hl:ns.length <= 63)(_:Only H)(hS:bu K H a (ns.map V.int)):Z5 K [.ref a] H (fun v _=>v=.bl true) fun _ _ _=>False :=
 ⟨a,ns,rfl,hS,hl,fun _=>rfl⟩
set_option maxHeartbeats 1000000
theorem Cg {k:Str}{v:V}{r:List (Str×V)}:((k,v) :: r).lookup k=some v:=by simp[List.lookup]
theorem aV {k g:Str}{v:V}{r:List (Str×V)}(h:¬ g=k):((k,v) :: r).lookup g=r.lookup g:=by
 have:(g == k)=false:=beq_eq_false_iff_ne.mpr h
 simp[List.lookup,this]
theorem oX {k g:Str}{x y:V}{r:List (Str×V)}(h:¬ g=k):tR k y ((g,x) :: r)=(g,x) :: tR k y r:=if_neg h
def voF (n:Str)(tm:V)(L:Addr):List (Str×V):=[("name",V.str n),("terms",tm),("signs",V.ref L)]
theorem ais (n:Str)(tm:V)(L:Addr):(voF n tm L).lookup ("name":Str)=some (V.str n):=Cg
theorem aeb (n:Str)(tm:V)(L:Addr):(voF n tm L).lookup ("terms":Str)=some (tm):=(aV (by decide +kernel)).trans (Cg)
theorem Dt (n:Str)(tm:V)(L:Addr):(voF n tm L).lookup ("signs":Str)=some (V.ref L):=(aV (by decide +kernel)).trans ((aV (by decide +kernel)).trans (Cg))
theorem ae8 (v0:V):tR "name" v0 ([]:List (Str×V))=([("name",v0)]:List (Str×V)):=rfl
theorem amF (v0 v1:V):tR "terms" v1 ([("name",v0)]:List (Str×V))=([("name",v0),("terms",v1)]:List (Str×V)):=(oX (by decide +kernel)).trans (congrArg _ (rfl))
theorem as3 (v0 v1 v2:V):tR "signs" v2 ([("name",v0),("terms",v1)]:List (Str×V))=([("name",v0),("terms",v1),("signs",v2)]:List (Str×V)):=(oX (by decide +kernel)).trans (congrArg _ ((oX (by decide +kernel)).trans (congrArg _ (rfl))))
def Z6 (T:Addr)(at_:Int)(B A:Addr):List (Str×V):=[("things",V.ref T),("at",V.int at_),("before",V.ref B),("after",V.ref A)]
theorem Z7 (T:Addr)(at_:Int)(B A:Addr):(Z6 T at_ B A).lookup ("things":Str)=some (V.ref T):=Cg
theorem ae9 (T:Addr)(at_:Int)(B A:Addr):(Z6 T at_ B A).lookup ("at":Str)=some (V.int at_):=(aV (by decide +kernel)).trans (Cg)
theorem Z8 (T:Addr)(at_:Int)(B A:Addr):(Z6 T at_ B A).lookup ("before":Str)=some (V.ref B):=(aV (by decide +kernel)).trans ((aV (by decide +kernel)).trans (Cg))
theorem aec (T:Addr)(at_:Int)(B A:Addr):(Z6 T at_ B A).lookup ("after":Str)=some (V.ref A):=(aV (by decide +kernel)).trans ((aV (by decide +kernel)).trans ((aV (by decide +kernel)).trans (Cg)))
theorem aed (T:Addr)(at_:Int)(B A:Addr):(Z6 T at_ B A).lookup ("do":Str)=none:=(aV (by decide +kernel)).trans ((aV (by decide +kernel)).trans ((aV (by decide +kernel)).trans ((aV (by decide +kernel)).trans (rfl))))
theorem ait (T:Addr)(at_:Int)(B A:Addr):(Z6 T at_ B A).lookup ("undo":Str)=none:=(aV (by decide +kernel)).trans ((aV (by decide +kernel)).trans ((aV (by decide +kernel)).trans ((aV (by decide +kernel)).trans (rfl))))
theorem Zm (v0:V):tR "things" v0 ([]:List (Str×V))=([("things",v0)]:List (Str×V)):=rfl
theorem afa (v0 v1:V):tR "at" v1 ([("things",v0)]:List (Str×V))=([("things",v0),("at",v1)]:List (Str×V)):=(oX (by decide +kernel)).trans (congrArg _ (rfl))
theorem amG (v0 v1 v2:V):tR "before" v2 ([("things",v0),("at",v1)]:List (Str×V))=([("things",v0),("at",v1),("before",v2)]:List (Str×V)):=(oX (by decide +kernel)).trans (congrArg _ ((oX (by decide +kernel)).trans (congrArg _ (rfl))))
theorem as4 (v0 v1 v2 v3:V):tR "after" v3 ([("things",v0),("at",v1),("before",v2)]:List (Str×V))=([("things",v0),("at",v1),("before",v2),("after",v3)]:List (Str×V)):=(oX (by decide +kernel)).trans (congrArg _ ((oX (by decide +kernel)).trans (congrArg _ ((oX (by decide +kernel)).trans (congrArg _ (rfl))))))
def Ra (V_ D U:Addr):List (Str×V):=[("voices",V.ref V_),("done",V.ref D),("undone",V.ref U)]
theorem yO (V_ D U:Addr):(Ra V_ D U).lookup ("voices":Str)=some (V.ref V_):=Cg
theorem Rb (V_ D U:Addr):(Ra V_ D U).lookup ("done":Str)=some (V.ref D):=(aV (by decide +kernel)).trans (Cg)
theorem Fe (V_ D U:Addr):(Ra V_ D U).lookup ("undone":Str)=some (V.ref U):=(aV (by decide +kernel)).trans ((aV (by decide +kernel)).trans (Cg))
theorem Du (V_ D U:Addr):(Ra V_ D U).lookup ("add_voice":Str)=none:=(aV (by decide +kernel)).trans ((aV (by decide +kernel)).trans ((aV (by decide +kernel)).trans (rfl)))
theorem Uz (V_ D U:Addr):(Ra V_ D U).lookup ("add_canon":Str)=none:=(aV (by decide +kernel)).trans ((aV (by decide +kernel)).trans ((aV (by decide +kernel)).trans (rfl)))
theorem Z9 (V_ D U:Addr):(Ra V_ D U).lookup ("put":Str)=none:=(aV (by decide +kernel)).trans ((aV (by decide +kernel)).trans ((aV (by decide +kernel)).trans (rfl)))
theorem aka (V_ D U:Addr):(Ra V_ D U).lookup ("cut":Str)=none:=(aV (by decide +kernel)).trans ((aV (by decide +kernel)).trans ((aV (by decide +kernel)).trans (rfl)))
theorem aiu (V_ D U:Addr):(Ra V_ D U).lookup ("swap":Str)=none:=(aV (by decide +kernel)).trans ((aV (by decide +kernel)).trans ((aV (by decide +kernel)).trans (rfl)))
theorem vO (V_ D U:Addr):(Ra V_ D U).lookup ("undo":Str)=none:=(aV (by decide +kernel)).trans ((aV (by decide +kernel)).trans ((aV (by decide +kernel)).trans (rfl)))
theorem X3 (V_ D U:Addr):(Ra V_ D U).lookup ("redo":Str)=none:=(aV (by decide +kernel)).trans ((aV (by decide +kernel)).trans ((aV (by decide +kernel)).trans (rfl)))
theorem xW (V_ D U:Addr):(Ra V_ D U).lookup ("names":Str)=none:=(aV (by decide +kernel)).trans ((aV (by decide +kernel)).trans ((aV (by decide +kernel)).trans (rfl)))
theorem pR (V_ D U:Addr):(Ra V_ D U).lookup ("line":Str)=none:=(aV (by decide +kernel)).trans ((aV (by decide +kernel)).trans ((aV (by decide +kernel)).trans (rfl)))
theorem Al (V_ D U:Addr):(Ra V_ D U).lookup ("kept":Str)=none:=(aV (by decide +kernel)).trans ((aV (by decide +kernel)).trans ((aV (by decide +kernel)).trans (rfl)))
theorem qM (V_ D U:Addr):(Ra V_ D U).lookup ("canon":Str)=none:=(aV (by decide +kernel)).trans ((aV (by decide +kernel)).trans ((aV (by decide +kernel)).trans (rfl)))
theorem qN (V_ D U:Addr):(Ra V_ D U).lookup ("perform":Str)=none:=(aV (by decide +kernel)).trans ((aV (by decide +kernel)).trans ((aV (by decide +kernel)).trans (rfl)))
theorem MJ (V_ D U:Addr):(Ra V_ D U).lookup ("put_in":Str)=none:=(aV (by decide +kernel)).trans ((aV (by decide +kernel)).trans ((aV (by decide +kernel)).trans (rfl)))
theorem Am (V_ D U:Addr):(Ra V_ D U).lookup ("refuse_new":Str)=none:=(aV (by decide +kernel)).trans ((aV (by decide +kernel)).trans ((aV (by decide +kernel)).trans (rfl)))
theorem iZ (V_ D U:Addr):(Ra V_ D U).lookup ("voice_called":Str)=none:=(aV (by decide +kernel)).trans ((aV (by decide +kernel)).trans ((aV (by decide +kernel)).trans (rfl)))
theorem jJ (V_ D U:Addr):(Ra V_ D U).lookup ("plain_voice":Str)=none:=(aV (by decide +kernel)).trans ((aV (by decide +kernel)).trans ((aV (by decide +kernel)).trans (rfl)))
theorem afb (v0:V):tR "voices" v0 ([]:List (Str×V))=([("voices",v0)]:List (Str×V)):=rfl
theorem amH (v0 v1:V):tR "done" v1 ([("voices",v0)]:List (Str×V))=([("voices",v0),("done",v1)]:List (Str×V)):=(oX (by decide +kernel)).trans (congrArg _ (rfl))
theorem as5 (v0 v1 v2:V):tR "undone" v2 ([("voices",v0),("done",v1)]:List (Str×V))=([("voices",v0),("done",v1),("undone",v2)]:List (Str×V)):=(oX (by decide +kernel)).trans (congrArg _ ((oX (by decide +kernel)).trans (congrArg _ (rfl))))
set_option maxHeartbeats 1000000
theorem Nx {a b:TS}{D:Ends}{σ:St}{H:Hp}(h:∀ N:St->Hp->Prop,(∀ σ H,b D σ H->N σ H)->a { D with nx:=N } σ H):awC a b D σ H:=h (b D) fun _ _ z=>z
structure Vx where
 o:Addr
 d:Addr
 n:Str
 tm:V
 l:Addr
def as6 (C:Addr)(H:Hp)(v:V)(a:Vx):Prop:=v=.ref a.o/\H a.o=some (.ins C a.d (voF a.n a.tm a.l))
structure Dd where
 o:Addr
 d:Addr
 T:Addr
 i:Nat
 B:Addr
 A:Addr
 bs:List V
 as:List V
def xX (C:Addr)(H:Hp)(v:V)(e:Dd):Prop:=v=.ref e.o/\H e.o=some (.ins C e.d (Z6 e.T (e.i:Int) e.B e.A))/\H e.B=some (.lst e.bs)/\H e.A=some (.lst e.as)
abbrev MM:=Addr->List V
def putAt (S:MM)(T:Addr)(zs:List V):MM:=fun b=>if b=T then zs else S b
theorem jK {S:MM}{T:Addr}{zs:List V}:putAt S T zs T=zs:=if_pos rfl
theorem yP {S:MM}{T b:Addr}{zs:List V}(h:b≠T):putAt S T zs b=S b:=if_neg h
def Mp (e:Dd)(S:MM):MM:=putAt S e.T ((S e.T).take e.i++e.as++(S e.T).drop (e.i+e.bs.length))
def unD (e:Dd)(S:MM):MM:=putAt S e.T ((S e.T).take e.i++e.bs++(S e.T).drop (e.i+e.as.length))
def Fits (e:Dd)(S:MM):Prop:=e.i+e.bs.length <= (S e.T).length/\((S e.T).drop e.i).take e.bs.length=e.bs
theorem axm {α:Type}{xs bs as:List α}{i:Nat}(h:i+bs.length <= xs.length):(xs.take i++as++xs.drop (i+bs.length)).take i=xs.take i/\(xs.take i++as++xs.drop (i+bs.length)).drop (i+as.length)=xs.drop (i+bs.length):=by
 have h1:(xs.take i).length=i:=by rw[List.length_take];omega
 constructor
 ·rw[List.append_assoc]
  exact List.take_left' h1
 ·exact List.drop_left' (by rw[List.length_append,h1])
theorem axn {e:Dd}{S:MM}(h:Fits e S):unD e (Mp e S)=S:=by
 funext b
 unfold unD
 by_cases hb:b=e.T
 ·subst hb
  rw[jK]
  unfold Mp
  rw[jK,(axm h.1).1,(axm h.1).2]
  have h2:e.bs++(S e.T).drop (e.i+e.bs.length)=(S e.T).drop e.i:=by
   rw[← List.drop_drop]
   have:=List.take_append_drop e.bs.length ((S e.T).drop e.i)
   rw[h.2] at this
   exact this
  rw[List.append_assoc,h2,List.take_append_drop]
 ·rw[yP hb]
  unfold Mp
  rw[yP hb]
theorem as7 {e:Dd}{S:MM}(h:Fits e S):e.i+e.as.length <= (Mp e S e.T).length:=by
 unfold Mp
 rw[jK,List.length_append,List.length_append,List.length_take]
 have:=h.1
 omega
inductive Path:List MM->List Dd->MM->Prop
 | nil {M:MM}:Path [] [] M
 | snoc {Ps:List MM} {es:List Dd} {S:MM} {e:Dd}:Path Ps es S->Fits e S->Path (Ps++[S]) (es++[e]) (Mp e S)
inductive Fut:MM->List Dd->List MM->Prop
 | nil {M:MM}:Fut M [] []
 | snoc {M:MM} {us:List Dd} {Fs:List MM} {e:Dd}:Fits e M->Fut (Mp e M) us Fs->Fut M (us++[e]) (Fs++[Mp e M])
theorem qO {α:Type}{a b:List α}{x y:α}(h:a++[x]=b++[y]):a=b/\x=y:=by
 have:=List.append_inj' h rfl
 exact⟨this.1,by simpa using this.2⟩
theorem Path.last {Ps:List MM}{es:List Dd}{e:Dd}{M:MM}(h:Path Ps (es++[e]) M):∃ Ps' S,Ps=Ps'++[S]/\Path Ps' es S/\Fits e S/\M=Mp e S:=by
 generalize he:es++[e]=es' at h
 cases h with
 | nil=>simp at he
 | snoc p f =>
  obtain⟨rfl,rfl⟩:=qO he
  exact⟨_,_,rfl,p,f,rfl⟩
theorem Fut.last {us:List Dd}{e:Dd}{M:MM}{Fs:List MM}(h:Fut M (us++[e]) Fs):∃ Fs',Fs=Fs'++[Mp e M]/\Fits e M/\Fut (Mp e M) us Fs':=by
 generalize he:us++[e]=us' at h
 cases h with
 | nil=>simp at he
 | snoc f p =>
  obtain⟨rfl,rfl⟩:=qO he
  exact⟨_,rfl,f,p⟩
theorem Path.len {Ps:List MM}{es:List Dd}{M:MM}(h:Path Ps es M):Ps.length=es.length:=by
 induction h with
 | nil=>rfl
 | snoc _ _ ih=>rw[List.length_append,List.length_append,ih];rfl
theorem Fut.len {us:List Dd}{M:MM}{Fs:List MM}(h:Fut M us Fs):Fs.length=us.length:=by
 induction h with
 | nil=>rfl
 | snoc _ _ ih=>rw[List.length_append,List.length_append,ih];rfl
def qP (s:Sg):Prop:=(s.1.lX=true->0 <= s.2/\s.2 < 100)/\(s.1.lX=false->s.2=0)
def GV (H:Hp)(v:V):Prop:=∃ s,aj6 H v s/\qP s
structure WF (H:Hp)(L:Addr)(all:List Vx)(S:MM):Prop where
 vs:∃ vx:List Vx,Paired (fun v a=>v=V.ref a.o/\a∈all) (S L) vx
 ln:∀ a∈all,(S a.l).length <= 200/\∀ v∈S a.l,GV H v
 len:(S L).length <= 12
 out:∀ b,b≠L->(∀ a∈all,b≠a.l)->S b=[]
inductive Th where
 | pl (ss:List Sg)
 | cn (ld:Str) (lt sl:Int) (tn:Bool)
abbrev Vw:=List (Str×Th)
def aqR (H:Hp)(S:MM)(a:Vx):Th->Prop
 | .pl ss=>a.tm=.non/\lY H (S a.l) ss
 | .cn ld lt sl tn=>∃ p,a.tm=.ref p/\H p=some (.tup [.str ld,.int lt,.int sl,.bl tn])
def anF (H:Hp)(all:List Vx)(S:MM)(v:V)(q:Str×Th):Prop:=∃ a∈all,v=.ref a.o/\a.n=q.1/\aqR H S a q.2
abbrev Is (H:Hp)(L:Addr)(all:List Vx)(S:MM)(vw:Vw):Prop:=Paired (anF H all S) (S L) vw
structure Lz (vw:Vw):Prop where
 nd:(vw.map (·.1)).Nodup
 ld:∀ n ld lt sl tn,(n,Th.cn ld lt sl tn)∈vw->(∃ ss,(ld,Th.pl ss)∈vw)/\0 <= lt/\lt <= 999/\1 <= sl/\sl <= 9
 gd:∀ n ss,(n,Th.pl ss)∈vw->ss.length <= 200/\∀ s∈ss,qP s
 len:vw.length <= 12
structure BkI (CB CV CD:Addr)(H:Hp)(x L D U:Addr)(all:List Vx)(M:MM)(Ps Fs:List MM)(es us:List Dd):Prop where
 hx:∃ dx,H x=some (.ins CB dx (Ra L D U))
 hL:H L=some (.lst (M L))
 hD:∃ xs,H D=some (.lst xs)/\Paired (xX CD H) xs es
 hU:∃ xs,H U=some (.lst xs)/\Paired (xX CD H) xs us
 ha:∀ a∈all,H a.o=some (.ins CV a.d (voF a.n a.tm a.l))/\H a.l=some (.lst (M a.l))
 LD:L≠D
 LU:L≠U
 DU:D≠U
 nl:∀ a∈all,a.l≠L/\a.l≠D/\a.l≠U
 ni:∀ a∈all,∀ b∈all,a.l=b.l->a=b
 no:∀ a∈all,∀ b∈all,a.o=b.o->a=b
 dd:∀ e,e∈es∨e∈us->(e.T=L ∨ ∃ a∈all,e.T=a.l)/\(e.B≠L/\e.B≠D/\e.B≠U/\∀ a∈all,e.B≠a.l)/\(e.A≠L/\e.A≠D/\e.A≠U/\∀ a∈all,e.A≠a.l)/\e.bs.length <= 1/\e.as.length <= 1
 past:Path Ps es M
 fut:Fut M us Fs
 wf:∀ S,S∈Ps∨S=M∨S∈Fs->WF H L all S
structure akb (F:Addr->Prop)(L D U:Addr)(all:List Vx)(es us:List Dd):Prop where
 L:F L
 D:F D
 U:F U
 l:∀ a∈all,F a.l
 d:∀ e,e∈es∨e∈us->F e.B/\F e.A
structure Bk (CB CV CD:Addr)(H:Hp)(x:Addr)(F:Addr->Prop)(vw:Vw)(ps fs:List Vw):Prop where
 ex:∃ (L D U:Addr) (all:List Vx) (M:MM) (Ps Fs:List MM) (es us:List Dd),BkI CB CV CD H x L D U all M Ps Fs es us/\Is H L all M vw/\Paired (Is H L all) Ps ps/\Paired (Is H L all) Fs fs/\akb F L D U all es us
 wv:∀ v,v∈ps∨v=vw∨v∈fs->Lz v
def Kept (F:Addr->Prop)(H H':Hp):Prop:=∀ y o,H y=some o->(F y ∨ ∀ xs,o≠.lst xs)->H' y=some o
theorem Kept.same {F:Addr->Prop}{H H':Hp}(s:aB H H'):Kept F H H':=fun y o e _=>s y o e
section
variable {CB CV CD:Addr} {H H':Hp} {x L D U:Addr} {all:List Vx} {M S:MM} {Ps Fs:List MM} {es us:List Dd} {F:Addr->Prop} {vw:Vw} {ps fs:List Vw}
theorem Kept.sgs (k:Kept F H H'){xs:List V}{ss:List Sg}(h:lY H xs ss):lY H' xs ss:=cu (fun _ _ ⟨p,e1,e2⟩=>⟨p,e1,k _ _ e2 (.inr fun _ z=>nomatch z)⟩) h
theorem Kept.gv (k:Kept F H H'){v:V}(h:GV H v):GV H' v:=by
 obtain⟨s,⟨p,e1,e2⟩,g⟩:=h
 exact⟨s,⟨p,e1,k _ _ e2 (.inr fun _ z=>nomatch z)⟩,g⟩
theorem WF.kept (k:Kept F H H')(h:WF H L all S):WF H' L all S:=⟨h.vs,fun a ha=>⟨(h.ln a ha).1,fun v hv=>k.gv ((h.ln a ha).2 v hv)⟩,h.len,h.out⟩
theorem anF.kept (k:Kept F H H'){v:V}{q:Str×Th}(h:anF H all S v q):anF H' all S v q:=by
 obtain⟨a,ha,e1,e2,t⟩:=h
 refine⟨a,ha,e1,e2,?_⟩
 cases hq:q.2 with
 | pl ss=>rw[hq] at t;exact⟨t.1,k.sgs t.2⟩
 | cn ld lt sl tn =>
  rw[hq] at t
  obtain⟨p,e3,e4⟩:=t
  exact⟨p,e3,k _ _ e4 (.inr fun _ z=>nomatch z)⟩
theorem Is.kept (k:Kept F H H')(h:Is H L all S vw):Is H' L all S vw:=cu (fun _ _ q=>anF.kept k q) h
theorem pW (k:Kept F H H'){v:V}{e:Dd}(f:F e.B/\F e.A)(h:xX CD H v e):xX CD H' v e:=⟨h.1,k _ _ h.2.1 (.inr fun _ z=>nomatch z),k _ _ h.2.2.1 (.inl f.1),k _ _ h.2.2.2 (.inl f.2)⟩
theorem Ff {α β:Type}{F G:α->β->Prop}:∀ {xs:List α} {ys:List β},(∀ x y,y∈ys->F x y->G x y)->Paired F xs ys->Paired G xs ys
 | _,_,_,.nil=>.nil
 | _,_,h,.cons a b=>.cons (h _ _ (List.mem_cons_self ..) a) (Ff (fun x y hy=>h x y (List.mem_cons_of_mem _ hy)) b)
theorem BkI.kept (h:BkI CB CV CD H x L D U all M Ps Fs es us)(f:akb F L D U all es us)(k:Kept F H H'):BkI CB CV CD H' x L D U all M Ps Fs es us :=
 {
  h with
  hx:=let ⟨dx,e⟩:=h.hx;⟨dx,k _ _ e (.inr fun _ z=>nomatch z)⟩
  hL:=k _ _ h.hL (.inl f.L)
  hD:=let ⟨xs,e,p⟩:=h.hD;⟨xs,k _ _ e (.inl f.D),Ff (fun _ e he q=>pW k (f.d e (.inl he)) q) p⟩
  hU:=let ⟨xs,e,p⟩:=h.hU;⟨xs,k _ _ e (.inl f.U),Ff (fun _ e he q=>pW k (f.d e (.inr he)) q) p⟩
  ha:=fun a m=>⟨k _ _ (h.ha a m).1 (.inr fun _ z=>nomatch z),k _ _ (h.ha a m).2 (.inl (f.l a m))⟩
  wf:=fun S hS=>(h.wf S hS).kept k }
theorem Bk.kept (h:Bk CB CV CD H x F vw ps fs)(k:Kept F H H'):Bk CB CV CD H' x F vw ps fs:=by
 obtain⟨L,D,U,all,M,Ps,Fs,es,us,b,i,pp,pf,f⟩:=h.ex
 exact⟨⟨L,D,U,all,M,Ps,Fs,es,us,b.kept f k,Is.kept k i,cu (fun _ _ q=>Is.kept k q) pp,cu (fun _ _ q=>Is.kept k q) pf,f⟩,h.wv⟩
theorem Bk.same (h:Bk CB CV CD H x F vw ps fs)(s:aB H H'):Bk CB CV CD H' x F vw ps fs:=h.kept (.same s)
theorem BkI.IW (b:BkI CB CV CD H x L D U all M Ps Fs es us)(i:Is H L all M vw):∃ vx:List Vx,Paired (as6 CV H) (M L) vx/\Paired (fun a q=>a∈all/\a.n=q.1/\aqR H M a q.2) vx vw:=by
 have go:∀ {xs:List V} {vw:Vw},Paired (anF H all M) xs vw->∃ vx:List Vx,Paired (as6 CV H) xs vx/\Paired (fun a q=>a∈all/\a.n=q.1/\aqR H M a q.2) vx vw:=by
  intro xs vw h
  induction h with
  | nil=>exact⟨[],.nil,.nil⟩
  | cons q _ ih =>
   obtain⟨a,ha,e1,e2,e3⟩:=q
   obtain⟨vx,p1,p2⟩:=ih
   exact⟨a :: vx,.cons ⟨e1,(b.ha a ha).1⟩ p1,.cons ⟨ha,e2,e3⟩ p2⟩
 exact go i
def aqS (L D U:Addr)(all:List Vx)(e:Dd):Prop:=(e.T=L ∨ ∃ a∈all,e.T=a.l)/\(e.B≠L/\e.B≠D/\e.B≠U/\∀ a∈all,e.B≠a.l)/\(e.A≠L/\e.A≠D/\e.A≠U/\∀ a∈all,e.A≠a.l)/\e.bs.length <= 1/\e.as.length <= 1
theorem BkI.lists (b:BkI CB CV CD H x L D U all M Ps Fs es us){T:Addr}(tg:T=L ∨ ∃ a∈all,T=a.l):H T=some (.lst (M T))/\T≠D/\T≠U:=by
 rcases tg with rfl | ⟨a,ha,rfl⟩
 ·exact⟨b.hL,b.LD,b.LU⟩
 ·exact⟨(b.ha a ha).2,(b.nl a ha).2.1,(b.nl a ha).2.2⟩
theorem BkI.chg (b:BkI CB CV CD H x L D U all M Ps Fs es us){T:Addr}(tg:T=L ∨ ∃ a∈all,T=a.l){H2:Hp}(fr:∀ y o,H y=some o->y≠T->y≠D->y≠U->H2 y=some o){M':MM}(m1:∀ c,c≠T->M' c=M c)(hT:H2 T=some (.lst (M' T)))
  {dx:List V} {es':List Dd} (hD:H2 D=some (.lst dx)) (pD:Paired (xX CD H) dx es') {ux:List V} {us':List Dd} (hU:H2 U=some (.lst ux)) (pU:Paired (xX CD H) ux us') (dd':∀ e,e∈es'∨e∈us'->aqS L D U all e)
  {Ps' Fs':List MM} (axo:Path Ps' es' M') (azr:Fut M' us' Fs') (wf':∀ S,S∈Ps'∨S=M'∨S∈Fs'->WF H L all S):BkI CB CV CD H2 x L D U all M' Ps' Fs' es' us'/\Kept (fun _=>False) H H2:=by
 obtain⟨hT0,TD,TU⟩:=b.lists tg
 obtain⟨dx0,hD0,_⟩:=b.hD
 obtain⟨ux0,hU0,_⟩:=b.hU
 have kN:∀ y o,H y=some o->(∀ zs,o≠.lst zs)->H2 y=some o:=fun y o hy hn=>fr y o hy
  (fun e=>by rw[e,hT0] at hy;cases hy;exact hn _ rfl) (fun e=>by rw[e,hD0] at hy;cases hy;exact hn _ rfl) (fun e=>by rw[e,hU0] at hy;cases hy;exact hn _ rfl)
 have k:Kept (fun _=>False) H H2:=fun y o hy h=>kN y o hy (h.elim False.elim id)
 have dk:∀ {v e},aqS L D U all e->xX CD H v e->xX CD H2 v e:=fun {v e} ok h=>by
  have nT:∀ {c:Addr},c≠L/\c≠D/\c≠U/\(∀ a∈all,c≠a.l)->c≠T:=fun {c} q z=>by
   rcases tg with rfl | ⟨a,ha,rfl⟩
   ·exact q.1 z
   ·exact q.2.2.2 a ha z
  exact⟨h.1,kN _ _ h.2.1 (fun _ z=>nomatch z),fr _ _ h.2.2.1 (nT ok.2.1) ok.2.1.2.1 ok.2.1.2.2.1,fr _ _ h.2.2.2 (nT ok.2.2.1) ok.2.2.1.2.1 ok.2.2.1.2.2.1⟩
 have at_:∀ {c:Addr},(c=L ∨ ∃ a∈all,c=a.l)->H2 c=some (.lst (M' c)):=fun {c} hc=>by
  by_cases e:c=T
  ·rw[e];exact hT
  ·obtain⟨h1,h2,h3⟩:=b.lists hc
   rw[m1 c e]
   exact fr _ _ h1 e h2 h3
 refine⟨{
      hx:=let ⟨dx,e⟩:=b.hx;⟨dx,kN _ _ e (fun _ z=>nomatch z)⟩
      hL:=at_ (.inl rfl)
      hD:=⟨_,hD,Ff (fun _ e he q=>dk (dd' e (.inl he)) q) pD⟩
      hU:=⟨_,hU,Ff (fun _ e he q=>dk (dd' e (.inr he)) q) pU⟩
      ha:=fun a ha=>⟨kN _ _ (b.ha a ha).1 (fun _ z=>nomatch z),at_ (.inr ⟨a,ha,rfl⟩)⟩
      LD:=b.LD,LU:=b.LU,DU:=b.DU,nl:=b.nl,ni:=b.ni,no:=b.no,dd:=dd'
      past:=axo
      fut:=azr
      wf:=fun S hS=>(wf' S hS).kept k },k⟩
theorem BkI.grow (b:BkI CB CV CD H x L D U all M Ps Fs es us){a:Vx}{H1:Hp}(s:aB H H1)(n1:H a.o=none)(n2:H a.l=none)(h1:H1 a.o=some (.ins CV a.d (voF a.n a.tm a.l)))(h2:H1 a.l=some (.lst [])):BkI CB CV CD H1 x L D U (all++[a]) M Ps Fs es us:=by
 have b1:=b.kept (F:=fun _=>True) ⟨trivial,trivial,trivial,fun _ _=>trivial,fun _ _=>⟨trivial,trivial⟩⟩ (.same s)
 obtain⟨dx0,hD0,pD0⟩:=b.hD
 obtain⟨ux0,hU0,pU0⟩:=b.hU
 have nL:a.l≠L:=Ne.symm (aD b.hL n2)
 have nD:a.l≠D:=Ne.symm (aD hD0 n2)
 have nU:a.l≠U:=Ne.symm (aD hU0 n2)
 have nA:∀ c∈all,a.l≠c.l:=fun c hc=>Ne.symm (aD (b.ha c hc).2 n2)
 have nO:∀ c∈all,a.o≠c.o:=fun c hc=>Ne.symm (aD (b.ha c hc).1 n1)
 have mem:∀ {c:Vx},c∈all++[a]->c∈all∨c=a:=fun h=>by simpa using h
 have wf2:∀ S,WF H1 L all S->WF H1 L (all++[a]) S:=fun S w =>
  {
   vs:=let ⟨vx,p⟩:=w.vs;⟨vx,cu (fun _ _ q=>⟨q.1,List.mem_append_left _ q.2⟩) p⟩
   ln:=fun c hc=>by
    rcases mem hc with hc | rfl
    ·exact w.ln c hc
    ·have e:S c.l=[]:=w.out c.l nL fun d hd=>nA d hd
     rw[e]
     exact⟨Nat.zero_le _,fun _ z=>nomatch z⟩
   len:=w.len
   out:=fun c h h'=>w.out c h fun d hd=>h' d (List.mem_append_left _ hd) }
 have dds:∀ {v e},xX CD H v e->e.B≠a.l/\e.A≠a.l:=fun h=>⟨aD h.2.2.1 n2,aD h.2.2.2 n2⟩
 have ddn:∀ e,e∈es∨e∈us->e.B≠a.l/\e.A≠a.l:=fun e he=>by
  rcases he with he | he
  ·obtain⟨i,hi⟩:=List.getElem?_of_mem he
   obtain⟨v,_,q⟩:=HF pD0 hi
   exact dds q
  ·obtain⟨i,hi⟩:=List.getElem?_of_mem he
   obtain⟨v,_,q⟩:=HF pU0 hi
   exact dds q
 exact { b1 with
  ha:=fun c hc=>by
   rcases mem hc with hc | rfl
   ·exact b1.ha c hc
   ·refine⟨h1,?_⟩
    rw[(b.wf M (.inr (.inl rfl))).out c.l nL fun d hd=>nA d hd]
    exact h2
  nl:=fun c hc=>by
   rcases mem hc with hc | rfl
   ·exact b1.nl c hc
   ·exact⟨nL,nD,nU⟩
  ni:=fun c hc d hd e=>by
   rcases mem hc with z1 | z1 <;> rcases mem hd with z2 | z2
   ·exact b1.ni c z1 d z2 e
   ·rw[z2] at e;exact absurd e.symm (nA c z1)
   ·rw[z1] at e;exact absurd e (nA d z2)
   ·rw[z1,z2]
  no:=fun c hc d hd e=>by
   rcases mem hc with z1 | z1 <;> rcases mem hd with z2 | z2
   ·exact b1.no c z1 d z2 e
   ·rw[z2] at e;exact absurd e.symm (nO c z1)
   ·rw[z1] at e;exact absurd e (nO d z2)
   ·rw[z1,z2]
  dd:=fun e he=>by
   obtain⟨q1,q2,q3,q4⟩:=b1.dd e he
   refine⟨q1.imp id fun ⟨c,hc,z⟩=>⟨c,List.mem_append_left _ hc,z⟩,⟨q2.1,q2.2.1,q2.2.2.1,fun c hc=>?_⟩,⟨q3.1,q3.2.1,q3.2.2.1,fun c hc=>?_⟩,q4⟩
   ·rcases mem hc with hc | rfl
    ·exact q2.2.2.2 c hc
    ·exact (ddn e he).1
   ·rcases mem hc with hc | rfl
    ·exact q3.2.2.2 c hc
    ·exact (ddn e he).2
  wf:=fun S hS=>wf2 S (b1.wf S hS) }
theorem Is.grow {a:Vx}(h:Is H L all S vw):Is H L (all++[a]) S vw:=cu (fun _ _ ⟨c,hc,q⟩=>⟨c,List.mem_append_left _ hc,q⟩) h
end
set_option maxHeartbeats 1000000
section
variable {CB CV CD:Addr} {H H1 H2 H':Hp} {x L D U:Addr} {all:List Vx} {M S:MM} {Ps Fs:List MM} {es us:List Dd} {F:Addr->Prop} {vw vw':Vw} {ps fs:List Vw}
theorem Bk.deed (b:BkI CB CV CD H1 x L D U all M Ps Fs es us)(i:Is H1 L all M vw)(pp:Paired (Is H1 L all) Ps ps)(f:akb F L D U all es us)(wv:∀ v,v∈ps∨v=vw->Lz v){e:Dd}(hd:xX CD H1 (.ref e.o) e)(ok:aqS L D U all e)(ft:Fits e M)(w:WF H1 L all (Mp e M))
  (i':Is H1 L all (Mp e M) vw') (wv':Lz vw') {dx:List V} (pD:Paired (xX CD H1) dx es) (fr:∀ y o,H1 y=some o->y≠e.T->y≠D->y≠U->H2 y=some o) (hT:H2 e.T=some (.lst (Mp e M e.T))) (hD2:H2 D=some (.lst (dx++[.ref e.o]))) (hU2:H2 U=some (.lst [])) :
  Bk CB CV CD H2 x (fun y=>F y∨y=e.B∨y=e.A) vw' (ps++[vw]) []:=by
 obtain⟨b2,k⟩:=b.chg ok.1 fr (M':=Mp e M) (fun c hc=>yP hc) hT hD2 (pQ pD hd) hU2 .nil (fun e' he=>by
  rcases he with he | he
  ·rcases List.mem_append.mp he with he | he
   ·exact b.dd e' (.inl he)
   ·rw[List.mem_singleton.mp he];exact ok
  ·cases he) (b.past.snoc ft) .nil (fun S hS=>by
  rcases hS with hS | hS | hS
  ·rcases List.mem_append.mp hS with hS | hS
   ·exact b.wf S (.inl hS)
   ·exact b.wf S (.inr (.inl (List.mem_singleton.mp hS)))
  ·rw[hS];exact w
  ·cases hS)
 refine⟨⟨L,D,U,all,_,_,_,_,_,b2,Is.kept k i',pQ (cu (fun _ _ q=>Is.kept k q) pp) (Is.kept k i),.nil,⟨.inl f.L,.inl f.D,.inl f.U,fun a ha=>.inl (f.l a ha),fun e' he=>?_⟩⟩,fun v hv=>?_⟩
 ·rcases he with he | he
  ·rcases List.mem_append.mp he with he | he
   ·exact⟨.inl (f.d e' (.inl he)).1,.inl (f.d e' (.inl he)).2⟩
   ·rw[List.mem_singleton.mp he];exact⟨.inr (.inl rfl),.inr (.inr rfl)⟩
  ·cases he
 ·rcases hv with hv | hv | hv
  ·rcases List.mem_append.mp hv with hv | hv
   ·exact wv v (.inl hv)
   ·exact wv v (.inr (List.mem_singleton.mp hv))
  ·rw[hv];exact wv'
  ·cases hv
theorem aaa {α β:Type}{F:α->β->Prop}:∀ {xs:List α} {x:α} {zs:List β},Paired F (xs++[x]) zs->∃ ys y,zs=ys++[y]/\Paired F xs ys/\F x y
 | [],_,_,.cons r .nil=>⟨[],_,rfl,.nil,r⟩
 | _ :: _,_,_,.cons r t=>by
  obtain⟨ys,y,rfl,p,q⟩:=aaa t
  exact⟨_ :: ys,y,rfl,.cons r p,q⟩
theorem Bk.avq (b:BkI CB CV CD H x L D U all M Ps Fs es us)(i:Is H L all M vw)(pp:Paired (Is H L all) Ps ps)(pf:Paired (Is H L all) Fs fs)(f:akb F L D U all es us)(wv:∀ v,v∈ps∨v=vw∨v∈fs->Lz v){e:Dd}{es0:List Dd}(he:es=es0++[e]){dx ux:List V}(pD:Paired (xX CD H) dx es0)(hd:xX CD H (.ref e.o) e)(pU:Paired (xX CD H) ux us)
  (fr:∀ y o,H y=some o->y≠e.T->y≠D->y≠U->H2 y=some o) (hT:H2 e.T=some (.lst (unD e M e.T))) (hD2:H2 D=some (.lst dx)) (hU2:H2 U=some (.lst (ux++[.ref e.o]))) :
  ∃ X4 v,ps=X4++[v]/\Bk CB CV CD H2 x F v X4 (fs++[vw]):=by
 subst he
 obtain⟨Ps0,S,rfl,p0,ft,rfl⟩:=b.past.last
 have ok:=b.dd e (.inl (List.mem_append_right _ (List.mem_singleton_self _)))
 rw[axn ft] at hT
 obtain⟨b2,k⟩:=b.chg ok.1 fr (M':=S) (fun c hc=>(yP hc).symm) hT hD2 pD hU2 (pQ pU hd) (fun e' he=>by
  rcases he with he | he
  ·exact b.dd e' (.inl (List.mem_append_left _ he))
  ·rcases List.mem_append.mp he with he | he
   ·exact b.dd e' (.inr he)
   ·rw[List.mem_singleton.mp he];exact ok) p0 (Fut.snoc ft b.fut) (fun T hT=>by
  rcases hT with hT | hT | hT
  ·exact b.wf T (.inl (List.mem_append_left _ hT))
  ·exact b.wf T (.inl (List.mem_append_right _ (List.mem_singleton.mpr hT)))
  ·rcases List.mem_append.mp hT with hT | hT
   ·exact b.wf T (.inr (.inr hT))
   ·exact b.wf T (.inr (.inl (List.mem_singleton.mp hT))))
 obtain⟨X4,v,rfl,pp0,iv⟩:=aaa pp
 refine⟨X4,v,rfl,⟨⟨L,D,U,all,_,_,_,_,_,b2,Is.kept k iv,cu (fun _ _ q=>Is.kept k q) pp0,pQ (cu (fun _ _ q=>Is.kept k q) pf) (Is.kept k i),⟨f.L,f.D,f.U,f.l,fun e' he=>?_⟩⟩,fun u hu=>?_⟩⟩
 ·rcases he with he | he
  ·exact f.d e' (.inl (List.mem_append_left _ he))
  ·rcases List.mem_append.mp he with he | he
   ·exact f.d e' (.inr he)
   ·rw[List.mem_singleton.mp he];exact f.d e (.inl (List.mem_append_right _ (List.mem_singleton_self _)))
 ·rcases hu with hu | hu | hu
  ·exact wv u (.inl (List.mem_append_left _ hu))
  ·exact wv u (.inl (List.mem_append_right _ (List.mem_singleton.mpr hu)))
  ·rcases List.mem_append.mp hu with hu | hu
   ·exact wv u (.inr (.inr hu))
   ·exact wv u (.inr (.inl (List.mem_singleton.mp hu)))
theorem Bk.avr (b:BkI CB CV CD H x L D U all M Ps Fs es us)(i:Is H L all M vw)(pp:Paired (Is H L all) Ps ps)(pf:Paired (Is H L all) Fs fs)(f:akb F L D U all es us)(wv:∀ v,v∈ps∨v=vw∨v∈fs->Lz v){e:Dd}{us0:List Dd}(he:us=us0++[e]){dx ux:List V}(pD:Paired (xX CD H) dx es)(hd:xX CD H (.ref e.o) e)(pU:Paired (xX CD H) ux us0)
  (fr:∀ y o,H y=some o->y≠e.T->y≠D->y≠U->H2 y=some o) (hT:H2 e.T=some (.lst (Mp e M e.T))) (hD2:H2 D=some (.lst (dx++[.ref e.o]))) (hU2:H2 U=some (.lst ux)) :
  ∃ fs0 v,fs=fs0++[v]/\Bk CB CV CD H2 x F v (ps++[vw]) fs0:=by
 subst he
 obtain⟨Fs0,rfl,ft,p0⟩:=b.fut.last
 have ok:=b.dd e (.inr (List.mem_append_right _ (List.mem_singleton_self _)))
 obtain⟨b2,k⟩:=b.chg ok.1 fr (M':=Mp e M) (fun c hc=>yP hc) hT hD2 (pQ pD hd) hU2 pU (fun e' he=>by
  rcases he with he | he
  ·rcases List.mem_append.mp he with he | he
   ·exact b.dd e' (.inl he)
   ·rw[List.mem_singleton.mp he];exact ok
  ·exact b.dd e' (.inr (List.mem_append_left _ he))) (b.past.snoc ft) p0 (fun T hT=>by
  rcases hT with hT | hT | hT
  ·rcases List.mem_append.mp hT with hT | hT
   ·exact b.wf T (.inl hT)
   ·exact b.wf T (.inr (.inl (List.mem_singleton.mp hT)))
  ·exact b.wf T (.inr (.inr (List.mem_append_right _ (List.mem_singleton.mpr hT))))
  ·exact b.wf T (.inr (.inr (List.mem_append_left _ hT))))
 obtain⟨fs0,v,rfl,pf0,iv⟩:=aaa pf
 refine⟨fs0,v,rfl,⟨⟨L,D,U,all,_,_,_,_,_,b2,Is.kept k iv,pQ (cu (fun _ _ q=>Is.kept k q) pp) (Is.kept k i),cu (fun _ _ q=>Is.kept k q) pf0,⟨f.L,f.D,f.U,f.l,fun e' he=>?_⟩⟩,fun u hu=>?_⟩⟩
 ·rcases he with he | he
  ·rcases List.mem_append.mp he with he | he
   ·exact f.d e' (.inl he)
   ·rw[List.mem_singleton.mp he];exact f.d e (.inr (List.mem_append_right _ (List.mem_singleton_self _)))
  ·exact f.d e' (.inr (List.mem_append_left _ he))
 ·rcases hu with hu | hu | hu
  ·rcases List.mem_append.mp hu with hu | hu
   ·exact wv u (.inl hu)
   ·exact wv u (.inr (.inl (List.mem_singleton.mp hu)))
  ·exact wv u (.inr (.inr (List.mem_append_right _ (List.mem_singleton.mpr hu))))
  ·exact wv u (.inr (.inr (List.mem_append_left _ hu)))
def bM (vw:Vw)(n:Str):Option Th:=(vw.find? fun q=>decide (q.1=n)).map (·.2)
def Dv (vw:Vw)(n:Str)(th:Th):Vw:=vw.map fun q=>if q.1=n then (n,th) else q
theorem di {n:Str}{th:Th}(h:bM vw n=some th):(n,th)∈vw:=by
 unfold bM at h
 cases e:vw.find? (fun q=>decide (q.1=n)) with
 | none=>rw[e] at h;cases h
 | some q =>
  rw[e] at h
  have h1:=List.mem_of_find?_eq_some e
  have h2:=List.find?_some e
  have h3:q.1=n:=of_decide_eq_true h2
  have h4:q.2=th:=Option.some.inj h
  rw[← h3,← h4]
  exact h1
theorem Fg {n:Str}(h:bM vw n=none):∀ q∈vw,q.1≠n:=by
 unfold bM at h
 rw[Option.map_eq_none_iff] at h
 intro q hq e
 exact List.find?_eq_none.mp h q hq (decide_eq_true e)
theorem Rc:∀ {l:List Str} {i j:Nat} {n:Str},l.Nodup->l[i]? = some n->l[j]? = some n->i=j
 | [],_,_,_,_,h,_=>by simp at h
 | a :: l,i,j,n,nd,h1,h2=>by
  obtain⟨na,nd'⟩:=List.nodup_cons.mp nd
  match i,j,h1,h2 with
  | 0,0,_,_=>rfl
  | 0,j+1,h1,h2 =>
   rw[List.getElem?_cons_zero] at h1
   rw[List.getElem?_cons_succ] at h2
   cases h1
   exact absurd (List.mem_of_getElem? h2) na
  | i+1,0,h1,h2 =>
   rw[List.getElem?_cons_zero] at h2
   rw[List.getElem?_cons_succ] at h1
   cases h2
   exact absurd (List.mem_of_getElem? h1) na
  | i+1,j+1,h1,h2 =>
   rw[List.getElem?_cons_succ] at h1 h2
   rw[Rc nd' h1 h2]
theorem Lz.uniq (w:Lz vw){q q':Str×Th}(h:q∈vw)(h':q'∈vw)(e:q.1=q'.1):q=q':=by
 obtain⟨i,hi⟩:=List.getElem?_of_mem h
 obtain⟨j,hj⟩:=List.getElem?_of_mem h'
 have h1:(vw.map (·.1))[i]? = some q.1:=by rw[List.getElem?_map,hi];rfl
 have h2:(vw.map (·.1))[j]? = some q.1:=by rw[List.getElem?_map,hj,e];rfl
 have:=Rc w.nd h1 h2
 subst this
 rw[hi] at hj
 exact Option.some.inj hj
theorem Lz.find (w:Lz vw){n:Str}{th:Th}(h:(n,th)∈vw):bM vw n=some th:=by
 cases e:bM vw n with
 | none=>exact absurd rfl (Fg e _ h)
 | some t =>
  have:=w.uniq (di e) h rfl
  rw[Prod.mk.injEq] at this
  rw[this.2]
theorem Ny (n:Str)(th:Th):(Dv vw n th).map (·.1)=vw.map (·.1):=by
 unfold Dv
 rw[List.map_map]
 refine List.map_congr_left fun q _=>?_
 show (if q.1=n then (n,th) else q).1=q.1
 split
 ·next h=>exact h.symm
 ·rfl
theorem aiv {n:Str}{th:Th}{q:Str×Th}(h:q∈Dv vw n th):(q=(n,th)/\∃ q'∈vw,q'.1=n)∨(q∈vw/\q.1≠n):=by
 obtain⟨q',h1,h2⟩:=List.mem_map.mp h
 split at h2
 ·next e=>exact .inl ⟨h2.symm,q',h1,e⟩
 ·next e=>rw[← h2];exact .inr ⟨h1,e⟩
theorem akc {n:Str}{th:Th}{q:Str×Th}(h:q∈vw)(hn:q.1≠n):q∈Dv vw n th:=List.mem_map.mpr ⟨q,h,if_neg hn⟩
theorem aqT {n:Str}{th t:Th}(h:(n,t)∈vw):(n,th)∈Dv vw n th:=List.mem_map.mpr ⟨(n,t),h,if_pos rfl⟩
theorem Lz.set (w:Lz vw){n:Str}{ss ss':List Sg}(h:(n,Th.pl ss)∈vw)(h1:ss'.length <= 200)(h2:∀ s∈ss',qP s):Lz (Dv vw n (.pl ss')) where
 nd:=by rw[Ny];exact w.nd
 ld:=fun m ld lt sl tn hm=>by
  rcases aiv hm with ⟨e,_⟩ | ⟨hm',_⟩
  ·cases e
  ·obtain⟨⟨s0,h0⟩,r⟩:=w.ld m ld lt sl tn hm'
   refine⟨?_,r⟩
   by_cases e:ld=n
   ·rw[e];exact⟨ss',aqT h⟩
   ·exact⟨s0,akc h0 e⟩
 gd:=fun m s0 hm=>by
  rcases aiv hm with ⟨e,_⟩ | ⟨hm',_⟩
  ·cases e;exact⟨h1,h2⟩
  ·exact w.gd m s0 hm'
 len:=by
  have:=congrArg List.length (Ny (vw:=vw) n (.pl ss'))
  rw[List.length_map,List.length_map] at this
  rw[this]
  exact w.len
theorem Lz.axq (w:Lz vw){n:Str}(hn:∀ q∈vw,q.1≠n)(hl:vw.length < 12):Lz (vw++[(n,.pl [])]) where
 nd:=by
  rw[List.map_append,List.nodup_append]
  refine⟨w.nd,by simp,?_⟩
  intro a ha c hc e
  obtain⟨q,hq,e1⟩:=List.mem_map.mp ha
  have:c=n:=by simpa using hc
  exact hn q hq (by rw[e1,e,this])
 ld:=fun m ld lt sl tn hm=>by
  rcases List.mem_append.mp hm with hm | hm
  ·obtain⟨⟨s0,h0⟩,r⟩:=w.ld m ld lt sl tn hm
   exact⟨⟨s0,List.mem_append_left _ h0⟩,r⟩
  ·have:=List.mem_singleton.mp hm
   cases this
 gd:=fun m s0 hm=>by
  rcases List.mem_append.mp hm with hm | hm
  ·exact w.gd m s0 hm
  ·have:=List.mem_singleton.mp hm
   cases this
   exact⟨Nat.zero_le _,fun _ z=>nomatch z⟩
 len:=by rw[List.length_append];exact hl
theorem Lz.axr (w:Lz vw){n ld:Str}{lt sl:Int}{tn:Bool}{ss:List Sg}(hn:∀ q∈vw,q.1≠n)(hl:vw.length < 12)(h:(ld,Th.pl ss)∈vw)(h1:0 <= lt)(h2:lt <= 999)(h3:1 <= sl)(h4:sl <= 9):Lz (vw++[(n,.cn ld lt sl tn)]) where
 nd:=by
  rw[List.map_append,List.nodup_append]
  refine⟨w.nd,by simp,?_⟩
  intro a ha c hc e
  obtain⟨q,hq,e1⟩:=List.mem_map.mp ha
  have:c=n:=by simpa using hc
  exact hn q hq (by rw[e1,e,this])
 ld:=fun m l2 t2 s2 n2 hm=>by
  rcases List.mem_append.mp hm with hm | hm
  ·obtain⟨⟨s0,h0⟩,r⟩:=w.ld m l2 t2 s2 n2 hm
   exact⟨⟨s0,List.mem_append_left _ h0⟩,r⟩
  ·have:=List.mem_singleton.mp hm
   cases this
   exact⟨⟨ss,List.mem_append_left _ h⟩,h1,h2,h3,h4⟩
 gd:=fun m s0 hm=>by
  rcases List.mem_append.mp hm with hm | hm
  ·exact w.gd m s0 hm
  ·have:=List.mem_singleton.mp hm
   cases this
 len:=by rw[List.length_append];exact hl
theorem auq {α β γ:Type}{F:α->β->Prop}{G:α->γ->Prop}{f:β->γ}:∀ {xs:List α} {ys:List β},Paired F xs ys->(∀ (k:Nat) x y,xs[k]? = some x->ys[k]? = some y->F x y->G x (f y))->Paired G xs (ys.map f)
 | _,_,.nil,_=>.nil
 | _,_,.cons a b,h=>.cons (h 0 _ _ rfl rfl a) (auq b fun k x y e1 e2=>h (k+1) x y (by simpa using e1) (by simpa using e2))
theorem Is.line (b:BkI CB CV CD H x L D U all M Ps Fs es us)(i:Is H L all M vw)(w:Lz vw){a:Vx}(ha:a∈all){j:Nat}{th:Th}{ss':List Sg}(hj:(M L)[j]? = some (.ref a.o))(hm:vw[j]? = some (a.n,th))(htm:a.tm=.non){M':MM}(m1:∀ c,c≠a.l->M' c=M c)(g:lY H (M' a.l) ss'):Is H L all M' (Dv vw a.n (.pl ss')):=by
 show Paired _ (M' L) _
 rw[m1 L (Ne.symm (b.nl a ha).1)]
 refine auq i fun k v q hk hq hvq=>?_
 obtain⟨c,hc,rfl,e1,t⟩:=hvq
 split
 ·next e =>
  have h1:(vw.map (·.1))[k]? = some a.n:=by rw[List.getElem?_map,hq,← e];rfl
  have h2:(vw.map (·.1))[j]? = some a.n:=by rw[List.getElem?_map,hm];rfl
  have hkj:=Rc w.nd h1 h2
  subst hkj
  rw[hj] at hk
  have:a.o=c.o:=V.ref.inj (Option.some.inj hk)
  have:=b.no a ha c hc this
  subst this
  exact⟨a,hc,rfl,rfl,htm,g⟩
 ·next e =>
  refine⟨c,hc,rfl,e1,?_⟩
  have ne:c.l≠a.l:=fun z=>e (by rw[← e1,b.ni c hc a ha z])
  cases hq2:q.2 with
  | pl s0=>rw[hq2] at t;exact⟨t.1,by rw[m1 _ ne];exact t.2⟩
  | cn ld lt sl tn=>rw[hq2] at t;exact t
end
set_option maxHeartbeats 1000000
abbrev Sn:=Str×Int
def UG:List V:=[.str "G",.str "D",.str "s",.str "d"]
def Fi:List V:=[.str "R",.str "r",.str ".",.str "3",.str "2"]
def An (s:Sn):Bool:=if inV (.str s.1) UG=true then (if decide (0 <= s.2)=true then decide (s.2 <= 99) else false) else (if inV (.str s.1) Fi=true then decide (s.2=0) else false)
set_option maxHeartbeats 1000000
inductive Rf where
 | Zn | amI | aef | Full | vD | Dw | Rg | amJ | avs | akd
structure Cs where
 B:Addr
 V:Addr
 D:Addr
 on:Bool
 x:Rf->Addr
def RX (E:XK)(c:Cs)(r:Rf)(H:Hp):Prop:=c.on=true/\E (.ref (c.x r)) none H
abbrev Nz (c:Cs):=Bk c.B c.V c.D
def Fr (F:Addr->Prop)(H H':Hp):Prop:=∀ y o,H y=some o->¬ F y->H' y=some o
def Gr (F F':Addr->Prop)(H:Hp):Prop:=∀ y,F' y->F y∨H y=none
theorem Gr.refl (F:Addr->Prop)(H:Hp):Gr F F H:=fun _ h=>.inl h
theorem Gr.old {F F':Addr->Prop}{H H':Hp}(s:aB H H')(g:Gr F F' H'):Gr F F' H:=fun y z=>(g y z).imp id fun q=>s.free q
def nameB (x:Str):Bool:=decide (1 <= x.length) && (decide (x.length <= 8) && x.cps.toList.all fun c=>inS ⟨#[c]⟩ "abcdefghijklmnopqrstuvwxyz")
theorem kinds_of {k:Str}(h:inV (.str k) UG=true∨inV (.str k) Fi=true):∃ d:Kd,d.str=k:=by
 have go:∀ l:List V,(∀ v∈l,∃ d:Kd,v=.str d.str)->inV (.str k) l=true->∃ d:Kd,d.str=k:=fun l hl h=>by
  unfold inV at h
  obtain⟨y,hy,e⟩:=List.any_eq_true.mp h
  obtain⟨d,rfl⟩:=hl y hy
  have:d.str=k:=by simpa [eqV] using e
  exact⟨d,this⟩
 have c:∀ (l:List Kd),∀ v∈l.map (fun d=>V.str d.str),∃ d:Kd,v=.str d.str:=fun l v hv=>by
  obtain⟨d,_,e⟩:=List.mem_map.mp hv
  exact⟨d,e.symm⟩
 rcases h with h | h
 ·exact go UG (c [.G,.D,.s,.d]) h
 ·exact go Fi (c [.R,.r,.dot,.three,.two]) h
theorem aur (d:Kd):inV (.str d.str) UG=d.lX:=by cases d <;> decide +kernel
theorem aus (d:Kd):inV (.str d.str) Fi = !d.lX:=by cases d <;> decide +kernel
theorem amK {sn:Sn}(h:An sn=true):∃ s:Sg,s.1.str=sn.1/\s.2=sn.2/\qP s:=by
 unfold An at h
 split at h
 ·next h1 =>
  obtain⟨d,hd⟩:=kinds_of (.inl h1)
  rw[← hd,aur] at h1
  split at h
  ·next h2=>exact⟨(d,sn.2),hd,rfl,⟨(fun _=>⟨of_decide_eq_true h2,by have:=of_decide_eq_true h;show sn.2 < 100;omega⟩),fun z=>by rw[show d.lX=false from z] at h1;cases h1⟩⟩
  ·cases h
 ·next h1 =>
  split at h
  ·next h2 =>
   obtain⟨d,hd⟩:=kinds_of (.inr h2)
   rw[← hd,aus] at h2
   exact⟨(d,sn.2),hd,rfl,⟨(fun z=>by rw[show d.lX=true from z] at h2;cases h2),fun _=>of_decide_eq_true h⟩⟩
  ·cases h
theorem amL {s:Sg}(h:qP s):An (s.1.str,s.2)=true:=by
 unfold An
 rw[aur,aus]
 cases hs:s.1.lX with
 | true =>
  obtain⟨a,b⟩:=h.1 hs
  simp only [if_true]
  rw[if_pos (decide_eq_true a)]
  exact decide_eq_true (by omega)
 | false =>
  have:=h.2 hs
  simp[this]
def aeg:Kd->Kd
 | .three=>.two
 | .two=>.three
 | k=>k
def Ao (s:Sg):Sg:=(aeg s.1,s.2)
def pX (vw:Vw)(n:Str):List Sg:=match bM vw n with
 | some (.pl ss)=>ss
 | some (.cn ld _ _ tn)=>match bM vw ld with
  | some (.pl ss)=>if tn then ss.map Ao else ss
  | _=>[]
 | none=>[]
def ju (vw:Vw)(n:Str):List Int:=match bM vw n with
 | some (.pl ss)=>(oM 3 (cg ss)).1
 | some (.cn ld _ sl tn)=>match bM vw ld with
  | some (.pl ss)=>(oM (if tn then 2 else 3) (cg (if tn then ss.map Ao else ss))).1.map fun w=>sl * w
  | _=>[]
 | none=>[]
theorem Dy {vw:Vw}{n:Str}{ss:List Sg}(h:bM vw n=some (.pl ss)):pX vw n=ss:=by
 unfold pX
 rw[h]
theorem Dz {vw:Vw}{n ld:Str}{lt sl:Int}{tn:Bool}{ss:List Sg}(h:bM vw n=some (.cn ld lt sl tn))(h':bM vw ld=some (.pl ss)):pX vw n=if tn=true then ss.map Ao else ss:=by
 unfold pX
 rw[h]
 show (match bM vw ld with | some (.pl ss)=>if tn=true then ss.map Ao else ss | _=>[])=_
 rw[h']
theorem Rh {vw:Vw}{n:Str}{ss:List Sg}(h:bM vw n=some (.pl ss)):ju vw n=(oM 3 (cg ss)).1:=by
 unfold ju
 rw[h]
theorem Ri {vw:Vw}{n ld:Str}{lt sl:Int}{tn:Bool}{ss:List Sg}(h:bM vw n=some (.cn ld lt sl tn))(h':bM vw ld=some (.pl ss)):ju vw n=(oM (if tn then 2 else 3) (cg (if tn then ss.map Ao else ss))).1.map fun w=>sl * w:=by
 unfold ju
 rw[h]
 show (match bM vw ld with | some (.pl ss)=>(oM (if tn then 2 else 3) (cg (if tn then ss.map Ao else ss))).1.map fun w=>sl * w | _=>[])=_
 rw[h']
theorem avt {H H':Hp}{x dx C:Addr}(hx:H x=none)(hdx:H dx=none)(kp:∀ y o,(upd (upd H dx (.own x)) x (.ins C dx [])) y=some o->y≠x->H' y=some o):aB H H':=fun y o hy =>
 kp y o (by rw[aA (aD hy hx),aA (aD hy hdx)];exact hy) (aD hy hx)
theorem aab {H:Hp}{x dx D:Addr}{o1 o2:HO}(h:upd (upd H dx o1) x o2 D=none):H D=none:=by
 unfold upd at h
 split at h
 ·cases h
 ·split at h
  ·cases h
  ·exact h
theorem Zo {H:Hp}{B A:Addr}{o:HO}(h:upd H B o A=none):H A=none:=by
 unfold upd at h
 split at h
 ·cases h
 ·exact h
theorem acX (z:Int){k:Int}(hk:0 < k):∃ m:Nat,z % k=(m:Int)/\(m:Int) < k:=by
 have z1:=Int.emod_nonneg z (show k≠0 by omega)
 have z2:=Int.emod_lt_of_pos z hk
 exact⟨(z % k).toNat,by omega,by omega⟩
theorem Bk.new {c:Cs}{H:Hp}{x dx L D U:Addr}(hx:H x=some (.ins c.B dx (Ra L D U)))(hL:H L=some (.lst []))(hD:H D=some (.lst []))(hU:H U=some (.lst []))(LD:L≠D)(LU:L≠U)(DU:D≠U):Nz c H x (fun y=>y=L∨y=D∨y=U) [] [] [] where
 ex:=⟨L,D,U,[],fun _=>[],[],[],[],[],
  {
   hx:=⟨dx,hx⟩,hL:=hL,hD:=⟨[],hD,.nil⟩,hU:=⟨[],hU,.nil⟩,ha:=fun _ h=>(nomatch h),LD:=LD,LU:=LU,DU:=DU,nl:=fun _ h=>(nomatch h),ni:=fun _ h=>(nomatch h),no:=fun _ h=>(nomatch h)
   dd:=fun _ h=>h.elim (fun z=>(nomatch z)) fun z=>(nomatch z)
   past:=.nil
   fut:=.nil
   wf:=fun S hS=>by
    rcases hS with hS | hS | hS
    ·cases hS
    ·subst hS
     exact⟨⟨[],.nil⟩,fun _ h=>(nomatch h),Nat.zero_le _,fun _ _ _=>rfl⟩
    ·cases hS },
  .nil,.nil,.nil,⟨.inl rfl,.inr (.inl rfl),.inr (.inr rfl),fun _ h=>(nomatch h),fun _ h=>h.elim (fun z=>(nomatch z)) fun z=>(nomatch z)⟩⟩
 wv:=fun v hv=>by
  rcases hv with hv | hv | hv
  ·cases hv
  ·subst hv
   exact⟨.nil,fun _ _ _ _ _ h=>(nomatch h),fun _ _ h=>(nomatch h),Nat.zero_le _⟩
  ·cases hv
theorem avu {R:Vx->Str×Th->Prop}{vx:List Vx}{vw:Vw}(h:Paired R vx vw)(hn:∀ a q,R a q->a.n=q.1):vx.map (fun a=>V.str a.n)=vw.map (fun a=>V.str a.1):=by
 induction h with
 | nil=>rfl
 | cons r _ ih=>rw[List.map_cons,List.map_cons,ih,hn _ _ r]
theorem aac {vx:List Vx}{vw:Vw}{R:Vx->Str×Th->Prop}(h:Paired R vx vw)(hn:∀ a q,R a q->a.n=q.1)(n:Str) :
  (vx.find? (fun a=>decide (a.n=n))=none/\bM vw n=none) ∨ ∃ a th,∃ j:Nat,vx.find? (fun a=>decide (a.n=n))=some a/\bM vw n=some th/\R a (n,th)/\a.n=n/\vx[j]? = some a/\vw[j]? = some (n,th):=by
 induction h with
 | nil=>exact .inl ⟨rfl,rfl⟩
 | @cons a q as qs r t ih =>
  have e:=hn a q r
  by_cases hq:q.1=n
  ·refine .inr ⟨a,q.2,0,?_,?_,?_,e.trans hq,rfl,by rw[← hq];rfl⟩
   ·rw[List.find?_cons_of_pos]
    exact decide_eq_true (e.trans hq)
   ·unfold bM
    rw[List.find?_cons_of_pos (p:=fun q:Str×Th=>decide (q.1=n)) (decide_eq_true hq)]
    rfl
   ·rw[← hq];exact r
  ·have h1:¬ decide (a.n=n)=true:=fun z=>hq (e ▸ of_decide_eq_true z)
   have h2:¬ decide (q.1=n)=true:=fun z=>hq (of_decide_eq_true z)
   have f1:(a :: as).find? (fun a=>decide (a.n=n))=as.find? (fun a=>decide (a.n=n)):=List.find?_cons_of_neg h1
   have f2:bM (q :: qs) n=bM qs n:=by
    unfold bM
    rw[List.find?_cons_of_neg (p:=fun q:Str×Th=>decide (q.1=n)) h2]
   rw[f1,f2]
   exact ih.imp id fun ⟨a,th,j,h1,h2,h3,h4,h5,h6⟩=>⟨a,th,j+1,h1,h2,h3,h4,by simpa using h5,by simpa using h6⟩
theorem Bk.added {c:Cs}{H H1 H2 H':Hp}{x L D U:Addr}{all:List Vx}{M:MM}{Ps Fs:List MM}{es us:List Dd}{F:Addr->Prop}{vw:Vw}{ps fs:List Vw}(b:BkI c.B c.V c.D H x L D U all M Ps Fs es us)(i:Is H L all M vw)(pp:Paired (Is H L all) Ps ps)(f:akb F L D U all es us)(wv:∀ v,v∈ps∨v=vw∨v∈fs->Lz v)
  {a:Vx} {th:Th} (s1:aB H H1) (n1:H a.o=none) (n2:H a.l=none) (h1:H1 a.o=some (.ins c.V a.d (voF a.n a.tm a.l))) (h2:H1 a.l=some (.lst [])) (ht:∀ M',M' a.l=[]->aqR H1 M' a th) (w':Lz (vw++[(a.n,th)]))
  {e:Dd} (eT:e.T=L) (ei:e.i=(M L).length) (eb:e.bs=[]) (ea:e.as=[.ref a.o]) (s2:aB H1 H2) (nB:H1 e.B=none) (nA:H1 e.A=none) (hd:xX c.D H2 (.ref e.o) e) {ds:List V} (hD:H D=some (.lst ds)) (pD:Paired (xX c.D H) ds es)
  (fr:∀ y o,H2 y=some o->y≠L->y≠D->y≠U->H' y=some o) (hL':H' L=some (.lst (M L++[.ref a.o]))) (hD':H' D=some (.lst (ds++[.ref e.o]))) (hU':H' U=some (.lst [])) :
  ∃ F',Gr F F' H/\Fr F H H'/\Nz c H' x F' (vw++[(a.n,th)]) (ps++[vw]) []:=by
 have s12:=s1.trans s2
 have kT:Kept (fun _=>True) H H2:=.same s12
 have b2:=(b.grow s1 n1 n2 h1 h2).kept (F:=fun _=>True) ⟨trivial,trivial,trivial,fun _ _=>trivial,fun _ _=>⟨trivial,trivial⟩⟩ (.same s2)
 have w2:=w'.len
 rw[List.length_append] at w2
 have ll:=cj i
 have w2':vw.length+1 <= 12:=w2
 have hM:Mp e M L=M L++[.ref a.o]:=by
  unfold Mp
  rw[eT,jK,ei,eb,ea]
  simp
 have mo:∀ y,y≠L->Mp e M y=M y:=fun y hy=>by
  unfold Mp
  exact yP (by rw[eT];exact hy)
 have wM:=b2.wf M (.inr (.inl rfl))
 have naL:∀ z∈all++[a],z.l≠L:=fun z hz=>(b2.nl z hz).1
 obtain⟨ux,hU,_⟩:=b2.hU
 have old:∀ {y:Addr},H1 y=none->∀ {z o},H z=some o->y≠z:=fun {y} hy {z o} hz q=>by rw[q,s1 _ _ hz] at hy;cases hy
 have oA:∀ {y:Addr},H1 y=none->y≠L/\y≠D/\y≠U/\∀ z∈all++[a],y≠z.l:=fun {y} hy=>by
  obtain⟨u0,hU0,_⟩:=b.hU
  refine⟨old hy b.hL,old hy hD,old hy hU0,fun z hz=>?_⟩
  rcases List.mem_append.mp hz with hz | hz
  ·exact old hy (b.ha z hz).2
  ·rw[List.mem_singleton.mp hz]
   exact fun q=>by rw[q,h2] at hy;cases hy
 have ok:aqS L D U (all++[a]) e:=⟨.inl eT,oA nB,oA nA,by rw[eb];simp,by rw[ea];simp⟩
 have ft:Fits e M:=⟨by rw[ei,eb,eT];simp,by rw[eb];simp⟩
 have wf2:WF H2 L (all++[a]) (Mp e M) :=
  {
   vs:=(let ⟨vx,p⟩:=wM.vs;⟨vx++[a],by rw[hM];exact pQ p ⟨rfl,List.mem_append_right _ (List.mem_singleton_self _)⟩⟩)
   ln:=fun z hz=>by rw[mo _ (naL z hz)];exact wM.ln z hz
   len:=by rw[hM,List.length_append,ll];exact w2'
   out:=fun y h1 h2=>by rw[mo y h1];exact wM.out y h1 h2 }
 have i2:Is H2 L (all++[a]) M vw:=Is.kept kT (Is.grow i)
 have i':Is H2 L (all++[a]) (Mp e M) (vw++[(a.n,th)]):=by
  show Paired _ (Mp e M L) _
  rw[hM]
  refine pQ ?_ ?_
  ·refine cu (fun v q hq=>?_) i2
   obtain⟨z,hz,e1,e2,e3⟩:=hq
   refine⟨z,hz,e1,e2,?_⟩
   cases hq2:q.2 with
   | pl ss=>rw[hq2] at e3;exact⟨e3.1,by rw[mo _ (naL z hz)];exact e3.2⟩
   | cn ld lt sl tn=>rw[hq2] at e3;exact e3
  ·refine⟨a,List.mem_append_right _ (List.mem_singleton_self _),rfl,rfl,?_⟩
   have nal:a.l≠L:=naL a (List.mem_append_right _ (List.mem_singleton_self _))
   have:=ht (Mp e M) (by rw[mo _ nal];exact (b.wf M (.inr (.inl rfl))).out _ nal fun z hz q=>by rw[q,(b.ha z hz).2] at n2;cases n2)
   show aqR H2 (Mp e M) a th
   cases th with
   | pl ss=>exact⟨this.1,this.2.same s2⟩
   | cn ld lt sl tn=>obtain⟨p,e1,e2⟩:=this;exact⟨p,e1,s2 _ _ e2⟩
 have B:=Bk.deed b2 i2 (cu (fun _ _ q=>Is.kept kT (Is.grow q)) pp) (F:=fun y=>F y∨y=a.l) ⟨.inl f.L,.inl f.D,.inl f.U,fun z hz=>by
   rcases List.mem_append.mp hz with hz | hz
   ·exact .inl (f.l z hz)
   ·rw[List.mem_singleton.mp hz];exact .inr rfl,fun e' he=>⟨.inl (f.d e' he).1,.inl (f.d e' he).2⟩⟩ (fun v hv=>wv v (hv.imp id .inl)) hd ok ft wf2 i' w' (Ff (fun _ e' he q=>pW (F:=fun _=>True) kT ⟨trivial,trivial⟩ q) pD) (H2:=H')
  (fun y o hy y1 y2 y3=>fr y o hy (by rw[← eT];exact y1) y2 y3) (by rw[eT,hM];exact hL') hD' hU'
 refine⟨_,fun y hy=>?_,fun y o hy hn=>fr y o (s12 y o hy) (fun q=>hn (q ▸ f.L)) (fun q=>hn (q ▸ f.D)) (fun q=>hn (q ▸ f.U)),B⟩
 rcases hy with (hy | hy) | hy | hy
 ·exact .inl hy
 ·rw[hy];exact .inr n2
 ·rw[hy];exact .inr (s1.free nB)
 ·rw[hy];exact .inr (s1.free nA)
theorem Bk.aqU {c:Cs}{H H1 H':Hp}{x L D U:Addr}{all:List Vx}{M:MM}{Ps Fs:List MM}{es us:List Dd}{F:Addr->Prop}{vw:Vw}{ps fs:List Vw}(b:BkI c.B c.V c.D H x L D U all M Ps Fs es us)(i:Is H L all M vw)(pp:Paired (Is H L all) Ps ps)(f:akb F L D U all es us)(wv:∀ v,v∈ps∨v=vw∨v∈fs->Lz v)
  {a:Vx} (ha:a∈all) {j:Nat} {ss ss':List Sg} (hj:(M L)[j]? = some (.ref a.o)) (hm:vw[j]? = some (a.n,.pl ss)) (htm:a.tm=.non) {e:Dd} (eT:e.T=a.l) (ft:Fits e M) (lb:e.bs.length <= 1) (la:e.as.length <= 1) (s1:aB H H1) (nB:H e.B=none) (nA:H e.A=none) (hd:xX c.D H1 (.ref e.o) e)
  (g':lY H1 (Mp e M a.l) ss') (gl:ss'.length <= 200) (gg:∀ s∈ss',qP s) {ds:List V} (hD:H D=some (.lst ds)) (pD:Paired (xX c.D H) ds es)
  (fr:∀ y o,H1 y=some o->y≠a.l->y≠D->y≠U->H' y=some o) (hl':H' a.l=some (.lst (Mp e M a.l))) (hD':H' D=some (.lst (ds++[.ref e.o]))) (hU':H' U=some (.lst [])) :
  ∃ F',Gr F F' H/\Fr F H H'/\Nz c H' x F' (Dv vw a.n (.pl ss')) (ps++[vw]) []:=by
 have kT:Kept (fun _=>True) H H1:=.same s1
 have b2:=b.kept (F:=fun _=>True) ⟨trivial,trivial,trivial,fun _ _=>trivial,fun _ _=>⟨trivial,trivial⟩⟩ kT
 have mo:∀ y,y≠a.l->Mp e M y=M y:=fun y hy=>yP (by rw[eT];exact hy)
 have wM:=b2.wf M (.inr (.inl rfl))
 have wvw:=wv vw (.inr (.inl rfl))
 have oA:∀ {y:Addr},H y=none->y≠L/\y≠D/\y≠U/\∀ z∈all,y≠z.l:=fun {y} hy=>by
  obtain⟨u0,hU0,_⟩:=b.hU
  exact⟨Ne.symm (aD b.hL hy),Ne.symm (aD hD hy),Ne.symm (aD hU0 hy),fun z hz=>Ne.symm (aD (b.ha z hz).2 hy)⟩
 have ok:aqS L D U all e:=⟨.inr ⟨a,ha,eT⟩,oA nB,oA nA,lb,la⟩
 have nal:L≠a.l:=Ne.symm (b.nl a ha).1
 have wf2:WF H1 L all (Mp e M) :=
  {
   vs:=by rw[mo L nal];exact wM.vs
   ln:=fun z hz=>by
    by_cases hza:z.l=a.l
    ·rw[hza]
     refine⟨by rw[cj g'];exact gl,fun v hv=>?_⟩
     obtain⟨k,hk⟩:=List.getElem?_of_mem hv
     obtain⟨sg,e1,e2⟩:=Cd g' hk
     exact⟨sg,e2,gg sg (List.mem_of_getElem? e1)⟩
    ·rw[mo _ hza];exact wM.ln z hz
   len:=by rw[mo L nal];exact wM.len
   out:=fun y h1 h2=>by rw[mo y (h2 a ha)];exact wM.out y h1 h2 }
 have i2:Is H1 L all M vw:=Is.kept kT i
 have B:=Bk.deed b2 i2 (cu (fun _ _ q=>Is.kept kT q) pp) f (fun v hv=>wv v (hv.imp id .inl)) hd ok ft wf2 (Is.line b2 i2 wvw ha hj hm htm mo g') (wvw.set (List.mem_of_getElem? hm) gl gg) (Ff (fun _ e' he q=>pW (F:=fun _=>True) kT ⟨trivial,trivial⟩ q) pD) (H2:=H')
  (fun y o hy y1 y2 y3=>fr y o hy (by rw[← eT];exact y1) y2 y3) (by rw[eT];exact hl') hD' hU'
 refine⟨_,fun y hy=>?_,fun y o hy hn=>fr y o (s1 y o hy) (fun q=>hn (q ▸ f.l a ha)) (fun q=>hn (q ▸ f.D)) (fun q=>hn (q ▸ f.U)),B⟩
 rcases hy with hy | hy | hy
 ·exact .inl hy
 ·rw[hy];exact .inr nB
 ·rw[hy];exact .inr nA
def ThV (H:Hp)(v:V):Th->Prop
 | .pl ss=>∃ l ys,v=.ref l/\H l=some (.lst ys)/\lY H ys ss
 | .cn ld lt sl tn=>∃ p,v=.ref p/\H p=some (.tup [.str ld,.int lt,.int sl,.bl tn])
def aiw (H:Hp)(kv:Key×V)(q:Str×Th):Prop:=kv.1=Sum.inr q.1/\ThV H kv.2 q.2
def NB (H:Hp)(d:Addr)(vw:Vw):Prop:=∃ kvs,H d=some (.dK kvs)/\Paired (aiw H) kvs vw
theorem ThV.same {H H':Hp}(s:aB H H'){v:V}{th:Th}(h:ThV H v th):ThV H' v th:=by
 cases th with
 | pl ss=>obtain⟨l,ys,e1,e2,e3⟩:=h;exact⟨l,ys,e1,s _ _ e2,e3.same s⟩
 | cn ld lt sl tn=>obtain⟨p,e1,e2⟩:=h;exact⟨p,e1,s _ _ e2⟩
theorem aiw.same {H H':Hp}(s:aB H H'){kv:Key×V}{q:Str×Th}(h:aiw H kv q):aiw H' kv q:=⟨h.1,h.2.same s⟩
theorem NB.same {H H':Hp}(s:aB H H'){d:Addr}{vw:Vw}(h:NB H d vw):NB H' d vw:=by
 obtain⟨kvs,e,p⟩:=h
 exact⟨kvs,s _ _ e,cu (fun _ _ q=>q.same s) p⟩
theorem aqW {H:Hp}{kvs:List (Key×V)}{vw:Vw}(h:Paired (aiw H) kvs vw){n:Str}{th:Th}(hf:bM vw n=some th):∃ v,Ie kvs (Sum.inr n)=some v/\ThV H v th:=by
 induction h with
 | nil=>cases hf
 | @cons kv q as qs r t ih =>
  by_cases hq:q.1=n
  ·have e:bM (q :: qs) n=some q.2:=by
    unfold bM
    rw[List.find?_cons_of_pos (p:=fun q:Str×Th=>decide (q.1=n)) (decide_eq_true hq)]
    rfl
   rw[e] at hf
   cases hf
   refine⟨kv.2,?_,r.2⟩
   unfold Ie
   rw[List.find?_cons_of_pos (p:=fun kv:Key×V=>decide (kv.1=Sum.inr n)) (decide_eq_true (by rw[r.1,hq]))]
   rfl
  ·have e:bM (q :: qs) n=bM qs n:=by
    unfold bM
    rw[List.find?_cons_of_neg (p:=fun q:Str×Th=>decide (q.1=n)) (fun z=>hq (of_decide_eq_true z))]
   rw[e] at hf
   obtain⟨v,h1,h2⟩:=ih hf
   refine⟨v,?_,h2⟩
   unfold Ie at h1 ⊢
   rw[List.find?_cons_of_neg (p:=fun kv:Key×V=>decide (kv.1=Sum.inr n)) (fun z=>hq (Sum.inr.inj (r.1.symm.trans (of_decide_eq_true z))))]
   exact h1
theorem NB.get {H:Hp}{d:Addr}{vw:Vw}(h:NB H d vw){n:Str}{th:Th}(hf:bM vw n=some th):∃ v,Z0 H d (.str n) (some v)/\ThV H v th:=by
 obtain⟨kvs,e,p⟩:=h
 obtain⟨v,h1,h2⟩:=aqW p hf
 refine⟨v,?_,h2⟩
 have:=Z0.k (k:=Sum.inr n) e
 rw[h1] at this
 exact this
theorem NB.keys {H:Hp}{d:Addr}{vw:Vw}(h:NB H d vw):∃ kvs,H d=some (.dK kvs)/\(kvs.map fun kv=>kV kv.1)=vw.map fun q=>V.str q.1:=by
 obtain⟨kvs,e,p⟩:=h
 refine⟨kvs,e,?_⟩
 clear e
 induction p with
 | nil=>rfl
 | cons r _ ih=>rw[List.map_cons,List.map_cons,ih,r.1];rfl
set_option maxHeartbeats 1000000
theorem Bk.axt {CB CV CD:Addr}{H:Hp}{x:Addr}{F:Addr->Prop}{vw:Vw}{ps fs:List Vw}(h:Bk CB CV CD H x F vw ps fs):∃ F0:Addr->Prop,(∀ y,F0 y->F y)/\(∀ y,F0 y->∃ xs,H y=some (.lst xs))/\Bk CB CV CD H x F0 vw ps fs:=by
 obtain⟨L,D,U,all,M,Ps,Fs,es,us,b,i,pp,pf,f⟩:=h.ex
 obtain⟨ds,hD,pD⟩:=b.hD
 obtain⟨ux,hU,pU⟩:=b.hU
 have dd:∀ e,e∈es∨e∈us->H e.B=some (.lst e.bs)/\H e.A=some (.lst e.as):=fun e he=>by
  rcases he with he | he
  ·obtain⟨k,hk⟩:=List.getElem?_of_mem he
   obtain⟨v,_,q⟩:=HF pD hk
   exact⟨q.2.2.1,q.2.2.2⟩
  ·obtain⟨k,hk⟩:=List.getElem?_of_mem he
   obtain⟨v,_,q⟩:=HF pU hk
   exact⟨q.2.2.1,q.2.2.2⟩
 refine⟨fun y=>y=L∨y=D∨y=U∨(∃ a∈all,y=a.l) ∨ ∃ e,(e∈es∨e∈us)/\(y=e.B∨y=e.A),fun y hy=>?_,fun y hy=>?_,⟨⟨L,D,U,all,M,Ps,Fs,es,us,b,i,pp,pf,⟨.inl rfl,.inr (.inl rfl),.inr (.inr (.inl rfl)),fun a ha=>.inr (.inr (.inr (.inl ⟨a,ha,rfl⟩))),fun e he=>⟨.inr (.inr (.inr (.inr ⟨e,he,.inl rfl⟩))),.inr (.inr (.inr (.inr ⟨e,he,.inr rfl⟩)))⟩⟩⟩,h.wv⟩⟩
 ·rcases hy with rfl | rfl | rfl | ⟨a,ha,rfl⟩ | ⟨e,he,rfl | rfl⟩
  ·exact f.L
  ·exact f.D
  ·exact f.U
  ·exact f.l a ha
  ·exact (f.d e he).1
  ·exact (f.d e he).2
 ·rcases hy with rfl | rfl | rfl | ⟨a,ha,rfl⟩ | ⟨e,he,rfl | rfl⟩
  ·exact⟨_,b.hL⟩
  ·exact⟨_,hD⟩
  ·exact⟨_,hU⟩
  ·exact⟨_,(b.ha a ha).2⟩
  ·exact⟨_,(dd e he).1⟩
  ·exact⟨_,(dd e he).2⟩
structure Bq (c:Cs)(H:Hp)(x:Addr)(own:List Addr)(vw:Vw)(ps fs:List Vw):Prop where
 ex:∃ F,Nz c H x F vw ps fs/\(∀ y,F y->∃ xs,H y=some (.lst xs))/\∀ a∈own,¬ F a/\∃ o,H a=some o
def anG (own:List Addr)(H H':Hp):Prop:=∀ y o,H y=some o->((∀ xs,o≠.lst xs)∨y∈own)->H' y=some o
section
variable {c:Cs} {H H' H1:Hp} {x:Addr} {own:List Addr} {vw vw':Vw} {ps ps' fs fs':List Vw} {F F':Addr->Prop}
theorem anG.sgs (k:anG own H H'){xs:List V}{ss:List Sg}(h:lY H xs ss):lY H' xs ss:=cu (fun _ _ ⟨p,e1,e2⟩=>⟨p,e1,k _ _ e2 (.inl fun _ z=>nomatch z)⟩) h
theorem anG.tup (k:anG own H H'){p:Addr}{xs:List V}(h:H p=some (.tup xs)):H' p=some (.tup xs):=k _ _ h (.inl fun _ z=>nomatch z)
end
set_option maxHeartbeats 1000000
def Yu (H:Hp)(y:V)(q:Str×Th):Prop:=∃ p v,y=.ref p/\H p=some (.tup [.str q.1,v])/\ThV H v q.2
def t7 (H:Hp)(l:Addr)(vw:Vw):Prop:=∃ ys,H l=some (.lst ys)/\Paired (Yu H) ys vw
theorem Yu.same {H H':Hp}(s:aB H H'){y:V}{q:Str×Th}(h:Yu H y q):Yu H' y q:=by
 obtain⟨p,v,e1,e2,e3⟩:=h
 exact⟨p,v,e1,s _ _ e2,e3.same s⟩
theorem t7.same {H H':Hp}(s:aB H H'){l:Addr}{vw:Vw}(h:t7 H l vw):t7 H' l vw:=by
 obtain⟨ys,e,p⟩:=h
 exact⟨ys,s _ _ e,cu (fun _ _ q=>q.same s) p⟩
theorem Fj:∀ (more acc:List (Key×V)),((acc++more).map (·.1)).Nodup->lW acc more=acc++more
 | [],acc,_=>by unfold lW;simp
 | kv :: more,acc,h=>by
  have e:Ie acc kv.1=none:=by
   cases hv:Ie acc kv.1 with
   | none=>rfl
   | some v =>
    have:=asR hv
    rw[List.map_append,List.map_cons] at h
    obtain⟨_,_,h3⟩:=List.nodup_append.mp h
    exact absurd rfl (h3 _ this _ (List.mem_cons_self ..))
  show lW (putK acc kv.1 kv.2) more=_
  rw[aqE kv.2 e,Fj more _ (by rw[List.append_assoc];exact h),List.append_assoc]
  rfl
theorem NK {H:Hp}:∀ {ys:List V} {vw:Vw},Paired (Yu H) ys vw->∃ kvs:List (Key×V),Paired (fun y kv=>∃ q,y=.ref q/\H q=some (.tup [kV kv.1,kv.2])) ys kvs/\Paired (aiw H) kvs vw
 | _,_,.nil=>⟨[],.nil,.nil⟩
 | _,_,.cons ⟨p,v,e1,e2,e3⟩ t=>by
  obtain⟨kvs,h1,h2⟩:=NK t
  exact⟨(Sum.inr _,v) :: kvs,.cons ⟨p,e1,e2⟩ h1,.cons ⟨rfl,e3⟩ h2⟩
theorem aad {H:Hp}{kvs:List (Key×V)}{vw:Vw}(h:Paired (aiw H) kvs vw)(n:(vw.map (·.1)).Nodup):(kvs.map (·.1)).Nodup:=by
 have e:kvs.map (·.1)=(vw.map (·.1)).map fun x=>(Sum.inr x:Key):=by
  clear n
  induction h with
  | nil=>rfl
  | cons r _ ih=>rw[List.map_cons,List.map_cons,List.map_cons,ih,r.1]
 rw[e]
 exact Uv n
theorem t7.dict {H:Hp}{l:Addr}{vw:Vw}(h:t7 H l vw)(n:(vw.map (·.1)).Nodup):∃ (ys:List V) (kvs:List (Key×V)),H l=some (.lst ys)/\Paired (fun y kv=>∃ q,y=.ref q/\H q=some (.tup [kV kv.1,kv.2])) ys kvs/\kvs.length=vw.length/\∀ d,H d=none->aB H (upd H d (.dK (lW [] kvs)))/\NB (upd H d (.dK (lW [] kvs))) d vw:=by
 obtain⟨ys,e,p⟩:=h
 obtain⟨kvs,h1,h2⟩:=NK p
 refine⟨ys,kvs,e,h1,cj h2,fun d hd=>?_⟩
 rw[Fj kvs [] (by simpa using aad h2 n)]
 exact⟨aB.upd hd,kvs,ao,cu (fun _ _ q=>q.same (aB.upd hd)) h2⟩
structure aeh (vw:Vw):Prop where
 w:Lz vw
 nm:∀ q∈vw,nameB q.1=true/\q.1 ≠ "zed"/\q.1.length <= 1000
 ld:∀ (i:Nat) n ld lt sl tn,vw[i]? = some (n,Th.cn ld lt sl tn)->∃ ss,(ld,Th.pl ss)∈vw.take i
 sh:∀ n ss,(n,Th.pl ss)∈vw->ss.length <= 24
theorem Lz.take {vw:Vw}(w:aeh vw)(i:Nat):Lz (vw.take i) where
 nd:=by rw[List.map_take];exact List.Sublist.nodup (List.take_sublist _ _) w.w.nd
 ld:=fun n ld lt sl tn h=>by
  obtain⟨j,hj⟩:=List.getElem?_of_mem h
  have hji:j < i:=by
   have:=(List.getElem?_eq_some_iff.mp hj).1
   rw[List.length_take] at this
   omega
  rw[List.getElem?_take_of_lt hji] at hj
  obtain⟨ss,hss⟩:=w.ld j n ld lt sl tn hj
  have h2:=w.w.ld n ld lt sl tn (List.mem_of_getElem? hj)
  refine⟨⟨ss,?_⟩,h2.2⟩
  have:vw.take j=(vw.take i).take j:=by rw[List.take_take,Nat.min_eq_left (by omega)]
  rw[this] at hss
  exact List.mem_of_mem_take hss
 gd:=fun n ss h=>w.w.gd n ss (List.mem_of_mem_take h)
 len:=by rw[List.length_take];have:=w.w.len;omega
def jL (vw:Vw):Vw:=match vw.getLast? with
 | none=>[]
 | some (n,.pl ss)=>if ss=[] then vw.dropLast else vw.dropLast++[(n,.pl ss.dropLast)]
 | some (_,.cn _ _ _ _)=>vw.dropLast
end ae4
namespace ae4
end ae4
set_option maxHeartbeats 1000000
local macro_rules | `(tactic| tm_up) => `(tactic| repeat w_up)
local macro_rules | `(tactic| w_up) => `(tactic| first
 | refine⟨_,rfl,?_⟩
 | refine⟨_,_,rfl,rfl,⟨by decide,by decide⟩,?_⟩
 | refine⟨_,_,rfl,rfl,(by first | decide | (show (0:Int) < _;decide)),?_⟩
 | refine .inl ⟨_,_,rfl,rfl,.inr ⟨by decide,by decide⟩,?_⟩
 | refine⟨_,_,rfl,rfl,?_⟩
 | refine .inl ⟨_,_,rfl,rfl,?_⟩
 | refine .inl ⟨rfl,?_⟩
 | refine .inr ⟨_,_,rfl,rfl,?_⟩
 | refine ae4.ix0 (by assumption) ?_
 | refine ae4.ix1 (by assumption) ?_)
namespace ae4
open PySem L2
def top (i:Nat):Stmt:=PySem.Challenge.pw_noteworth_k40_spans_of_voices.main.body.getD i (.Pass ⟨0,0,0,0⟩)
abbrev pY:Stmt:=top 67
abbrev yt:Stmt:=top 68
abbrev pZ:Stmt:=top 70
abbrev qb:Stmt:=top 69
abbrev DG:Stmt:=top 71
abbrev jw:Stmt:=top 72
abbrev qd:Stmt:=inClass (top 58) 2
abbrev qe:Stmt:=inClass (top 65) 7
abbrev yu:Stmt:=inClass (top 58) 1
abbrev qg:Stmt:=inClass (top 65) 8
abbrev cV:Stmt:=top 60
abbrev UJ:Stmt:=top 9
abbrev fB:Stmt:=top 61
abbrev jj:Stmt:=inClass (top 65) 14
abbrev LC:Stmt:=top 10
abbrev yw:Stmt:=top 62
abbrev uc:Stmt:=top 63
abbrev jk:Stmt:=top 11
abbrev DK:Stmt:=top 64
abbrev dM:Stmt:=inClass (top 65) 17
abbrev eN:Stmt:=inClass (top 65) 18
abbrev gR:Stmt:=inClass (top 58) 0
abbrev qi:Stmt:=inClass (top 65) 6
abbrev ud:Stmt:=inClass (top 65) 4
abbrev ue:Stmt:=inClass (top 65) 5
abbrev mZ:Stmt:=top 87
abbrev m6:Stmt:=inClass (top 65) 12
abbrev qj:Stmt:=top 14
abbrev DN:Stmt:=top 32
abbrev qm:Stmt:=inClass (top 65) 10
abbrev uf:Stmt:=top 30
abbrev yx:Stmt:=top 41
abbrev j4:Stmt:=top 40
abbrev cW:Stmt:=top 42
abbrev UL:Stmt:=top 31
abbrev gU:Stmt:=top 43
abbrev gj:Stmt:=top 44
abbrev fD:Stmt:=top 45
abbrev fG:Stmt:=top 46
abbrev m7:Stmt:=top 47
abbrev yz:Stmt:=top 48
abbrev DP:Stmt:=top 49
abbrev qp:Stmt:=inClass (top 65) 11
abbrev DQ:Stmt:=top 12
abbrev LK:Stmt:=top 15
abbrev DR:Stmt:=top 16
abbrev yC:Stmt:=top 82
abbrev DW:Stmt:=top 83
abbrev qt:Stmt:=top 74
abbrev DX:Stmt:=top 76
abbrev yD:Stmt:=top 77
abbrev LQ:Stmt:=top 78
abbrev DY:Stmt:=top 79
abbrev qu:Stmt:=top 75
abbrev m8:Stmt:=top 80
abbrev j5:Stmt:=top 81
abbrev yE:Stmt:=top 90
abbrev m9:Stmt:=inClass (top 65) 9
abbrev yF:Stmt:=top 85
abbrev Ea:Stmt:=top 84
abbrev ug:Stmt:=top 86
abbrev fH:Stmt:=top 88
abbrev j6:Stmt:=top 89
abbrev yG:Stmt:=top 59
abbrev fJ:Stmt:=inClass (top 65) 16
abbrev j7:Stmt:=inClass (top 65) 15
abbrev gk:Stmt:=inClass (top 57) 0
abbrev gm:Stmt:=inClass (top 65) 1
abbrev gn:Stmt:=inClass (top 65) 2
abbrev qw:Stmt:=top 73
abbrev gW:Stmt:=inClass (top 65) 0
abbrev aei:Stmt:=top 91
theorem afc:aP ["_law_script","_law_k"] ["_law_script","_law_k"] (au pY):=⟨rfl,rfl,rfl,by decide +kernel,rfl,by decide +kernel,by decide +kernel⟩
theorem NP:aP ["_law_seed","_law_k","_law_one","_law_two"] ["_law_seed","_law_k"] (au yt):=⟨rfl,rfl,rfl,by decide +kernel,rfl,by decide +kernel,by decide +kernel⟩
theorem Rj:aP ["_law_number","_law_kind"] ["_law_number"] (au pZ):=⟨rfl,rfl,rfl,by decide +kernel,rfl,by decide +kernel,by decide +kernel⟩
theorem qQ:aP ["_law_script","_law_at","_law_many","_law_seed","_law_left","_law_row"] ["_law_script","_law_at","_law_many"] (au qb):=⟨rfl,rfl,rfl,by decide +kernel,rfl,by decide +kernel,by decide +kernel⟩
theorem anH:aP ["_law_script","_law_at","_law_many"] ["_law_script","_law_at","_law_many"] (au DG):=⟨rfl,rfl,rfl,by decide +kernel,rfl,by decide +kernel,by decide +kernel⟩
theorem cL:aP ["_law_script","_law_names","_law_plain","_law_told","_law_k","_law_size","_law_cell","_law_later","_law_slow","_law_led","_law_row"] ["_law_script"] (au jw):=⟨rfl,rfl,rfl,by decide +kernel,rfl,by decide +kernel,by decide +kernel⟩
theorem afd:aP ["self"] ["self"] (au qd):=⟨rfl,rfl,rfl,by decide +kernel,rfl,by decide +kernel,by decide +kernel⟩
theorem Rk:aP ["self","deed"] ["self"] (au qe):=⟨rfl,rfl,rfl,by decide +kernel,rfl,by decide +kernel,by decide +kernel⟩
theorem ake:aP ["self"] ["self"] (au yu):=⟨rfl,rfl,rfl,by decide +kernel,rfl,by decide +kernel,by decide +kernel⟩
theorem Rm:aP ["self","deed"] ["self"] (au qg):=⟨rfl,rfl,rfl,by decide +kernel,rfl,by decide +kernel,by decide +kernel⟩
theorem Fl:aP ["at","last"] ["at","last"] (au cV):=⟨rfl,rfl,rfl,by decide +kernel,rfl,by decide +kernel,by decide +kernel⟩
theorem afe:aP ["sign","kind","tone"] ["sign"] (au UJ):=⟨rfl,rfl,rfl,by decide +kernel,rfl,by decide +kernel,by decide +kernel⟩
theorem NQ:aP ["sign"] ["sign"] (au fB):=⟨rfl,rfl,rfl,by decide +kernel,rfl,by decide +kernel,by decide +kernel⟩
theorem Yv:aP ["self","deed"] ["self","deed"] (au jj):=⟨rfl,rfl,rfl,by decide +kernel,rfl,by decide +kernel,by decide +kernel⟩
theorem aqX:aP ["sign"] ["sign"] (au LC):=⟨rfl,rfl,rfl,by decide +kernel,rfl,by decide +kernel,by decide +kernel⟩
theorem Fo:aP ["line","at","met","place"] ["line","at"] (au yw):=⟨rfl,rfl,rfl,by decide +kernel,rfl,by decide +kernel,by decide +kernel⟩
theorem X5:aP ["line","first","kinds","place"] ["line","first","kinds"] (au uc):=⟨rfl,rfl,rfl,by decide +kernel,rfl,by decide +kernel,by decide +kernel⟩
theorem Yw:aP ["sign"] ["sign"] (au jk):=⟨rfl,rfl,rfl,by decide +kernel,rfl,by decide +kernel,by decide +kernel⟩
theorem aej:aP ["line","at","behind","changed","kinds"] ["line","at","behind","changed"] (au DK):=⟨rfl,rfl,rfl,by decide +kernel,rfl,by decide +kernel,by decide +kernel⟩
theorem vP:aP ["self","name","voice"] ["self","name"] (au dM):=⟨rfl,rfl,rfl,by decide +kernel,rfl,by decide +kernel,by decide +kernel⟩
theorem xN:aP ["self","name","voice"] ["self","name"] (au eN):=⟨rfl,rfl,rfl,by decide +kernel,rfl,by decide +kernel,by decide +kernel⟩
theorem UT:aP ["self","things","at","before","after"] ["self","things","at","before","after"] (au gR):=⟨rfl,rfl,rfl,by decide +kernel,rfl,by decide +kernel,by decide +kernel⟩
theorem Fp:aP ["self","name","at","sign","signs","before"] ["self","name","at","sign"] (au qi):=⟨rfl,rfl,rfl,by decide +kernel,rfl,by decide +kernel,by decide +kernel⟩
theorem X6:aP ["self","name","at","sign","signs"] ["self","name","at","sign"] (au ud):=⟨rfl,rfl,rfl,by decide +kernel,rfl,by decide +kernel,by decide +kernel⟩
theorem Ja:aP ["self","name","at","signs","sign"] ["self","name","at"] (au ue):=⟨rfl,rfl,rfl,by decide +kernel,rfl,by decide +kernel,by decide +kernel⟩
theorem oN:aP ["_law_script","_law_book","_law_name","_law_line_here","_law_at","_law_sign","_law_way"] ["_law_script","_law_book","_law_name","_law_line_here"] (au mZ):=⟨rfl,rfl,rfl,by decide +kernel,rfl,by decide +kernel,by decide +kernel⟩
theorem acY:aP ["self","name"] ["self","name"] (au m6):=⟨rfl,rfl,rfl,by decide +kernel,rfl,by decide +kernel,by decide +kernel⟩
theorem Rn:aP ["book","name","terms"] ["book","name"] (au qj):=⟨rfl,rfl,rfl,by decide +kernel,rfl,by decide +kernel,by decide +kernel⟩
theorem anI:aP ["line"] ["line"] (au DN):=⟨rfl,rfl,rfl,by decide +kernel,rfl,by decide +kernel,by decide +kernel⟩
theorem cM:aP ["self","name","terms","leader","later","slow","is_turned","heard"] ["self","name"] (au qm):=⟨rfl,rfl,rfl,by decide +kernel,rfl,by decide +kernel,by decide +kernel⟩
theorem vQ:aP ["line","begin","found","measure","sign"] ["line","begin"] (au uf):=⟨rfl,rfl,rfl,by decide +kernel,rfl,by decide +kernel,by decide +kernel⟩
theorem akf:aP ["line","at"] ["line","at"] (au yx):=⟨rfl,rfl,rfl,by decide +kernel,rfl,by decide +kernel,by decide +kernel⟩
theorem aae:aP ["kind","measure"] ["kind","measure"] (au j4):=⟨rfl,rfl,rfl,by decide +kernel,rfl,by decide +kernel,by decide +kernel⟩
theorem fX:aP ["line","begin","found","at","measure"] ["line","begin"] (au cW):=⟨rfl,rfl,rfl,by decide +kernel,rfl,by decide +kernel,by decide +kernel⟩
theorem Fq:aP ["line","begin","found","first","at","sign","measure"] ["line","begin"] (au UL):=⟨rfl,rfl,rfl,by decide +kernel,rfl,by decide +kernel,by decide +kernel⟩
theorem UW:aP ["line","found","first"] ["line","found","first"] (au gU):=⟨rfl,rfl,rfl,by decide +kernel,rfl,by decide +kernel,by decide +kernel⟩
theorem Ro:aP ["line","behind"] ["line","behind"] (au gj):=⟨rfl,rfl,rfl,by decide +kernel,rfl,by decide +kernel,by decide +kernel⟩
theorem NT:aP ["line","found","first","behind"] ["line","found","first","behind"] (au fD):=⟨rfl,rfl,rfl,by decide +kernel,rfl,by decide +kernel,by decide +kernel⟩
theorem NZ:aP ["line","found","first","behind"] ["line","found","first","behind"] (au fG):=⟨rfl,rfl,rfl,by decide +kernel,rfl,by decide +kernel,by decide +kernel⟩
theorem MK:aP ["line","found","first","behind","rest"] ["line","found","first","behind"] (au m7):=⟨rfl,rfl,rfl,by decide +kernel,rfl,by decide +kernel,by decide +kernel⟩
theorem yQ:aP ["line","begin","found","loose_runs","first","behind"] ["line","begin"] (au yz):=⟨rfl,rfl,rfl,by decide +kernel,rfl,by decide +kernel,by decide +kernel⟩
theorem anJ:aP ["line","begin"] ["line","begin"] (au DP):=⟨rfl,rfl,rfl,by decide +kernel,rfl,by decide +kernel,by decide +kernel⟩
theorem jM:aP ["self","name","terms","leader","later","slow","is_turned","begin"] ["self","name"] (au qp):=⟨rfl,rfl,rfl,by decide +kernel,rfl,by decide +kernel,by decide +kernel⟩
theorem anK:aP ["sign"] ["sign"] (au DQ):=⟨rfl,rfl,rfl,by decide +kernel,rfl,by decide +kernel,by decide +kernel⟩
theorem Eb:aP ["book","name","found","start","sign","worth"] ["book","name"] (au LK):=⟨rfl,rfl,rfl,by decide +kernel,rfl,by decide +kernel,by decide +kernel⟩
theorem anL:aP ["book","name"] ["book","name"] (au DR):=⟨rfl,rfl,rfl,by decide +kernel,rfl,by decide +kernel,by decide +kernel⟩
theorem akg:aP ["_law_found"] ["_law_found"] (au yC):=⟨rfl,rfl,rfl,by decide +kernel,rfl,by decide +kernel,by decide +kernel⟩
theorem Ec:aP ["_law_found","_law_due","_law_one","_law_other","_law_a","_law_b"] ["_law_found","_law_due"] (au DW):=⟨rfl,rfl,rfl,by decide +kernel,rfl,by decide +kernel,by decide +kernel⟩
theorem qR:aP ["_law_voices","_law_name","_law_thing","_law_told","_law_sign","_law_kind"] ["_law_voices","_law_name"] (au qt):=⟨rfl,rfl,rfl,by decide +kernel,rfl,by decide +kernel,by decide +kernel⟩
theorem yH:aP ["_law_line_here","_law_begin","_law_told","_law_now","_law_at","_law_kind"] ["_law_line_here","_law_begin"] (au DX):=⟨rfl,rfl,rfl,by decide +kernel,rfl,by decide +kernel,by decide +kernel⟩
theorem yR:aP ["_law_line_here","_law_begin","_law_told","_law_now","_law_sign"] ["_law_line_here","_law_begin"] (au yD):=⟨rfl,rfl,rfl,by decide +kernel,rfl,by decide +kernel,by decide +kernel⟩
theorem Ed:aP ["_law_line_here","_law_told","_law_low","_law_high","_law_rest","_law_behind","_law_after","_law_left","_law_right_here"] ["_law_line_here","_law_told","_law_low","_law_high"] (au LQ):=⟨rfl,rfl,rfl,by decide +kernel,rfl,by decide +kernel,by decide +kernel⟩
theorem qx:aP ["_law_line_here","_law_begin","_law_told","_law_three_here","_law_left","_law_low","_law_high"] ["_law_line_here","_law_begin"] (au DY):=⟨rfl,rfl,rfl,by decide +kernel,rfl,by decide +kernel,by decide +kernel⟩
theorem Ft:aP ["_law_voices","_law_name","_law_thing","_law_line_here"] ["_law_voices","_law_name"] (au qu):=⟨rfl,rfl,rfl,by decide +kernel,rfl,by decide +kernel,by decide +kernel⟩
theorem j8:aP ["_law_voices","_law_name","_law_beat","_law_told","_law_sign","_law_worth"] ["_law_voices","_law_name"] (au m8):=⟨rfl,rfl,rfl,by decide +kernel,rfl,by decide +kernel,by decide +kernel⟩
theorem Jb:aP ["_law_voices","_law_name","_law_beat"] ["_law_voices","_law_name"] (au j5):=⟨rfl,rfl,rfl,by decide +kernel,rfl,by decide +kernel,by decide +kernel⟩
theorem Fv:aP ["_law_script","_law_book","_law_voices","_law_name","_law_found","_law_last"] ["_law_script","_law_book","_law_voices"] (au yE):=⟨rfl,rfl,rfl,by decide +kernel,rfl,by decide +kernel,by decide +kernel⟩
theorem acZ:aP ["self"] ["self"] (au m9):=⟨rfl,rfl,rfl,by decide +kernel,rfl,by decide +kernel,by decide +kernel⟩
theorem N5:aP ["_law_found","_law_due","_law_one","_law_other"] ["_law_found","_law_due"] (au yF):=⟨rfl,rfl,rfl,by decide +kernel,rfl,by decide +kernel,by decide +kernel⟩
theorem aek:aP ["_law_found","_law_due","_law_k"] ["_law_found","_law_due"] (au Ea):=⟨rfl,rfl,rfl,by decide +kernel,rfl,by decide +kernel,by decide +kernel⟩
theorem Aq:aP ["_law_book","_law_voices","_law_told","_law_name","_law_terms"] ["_law_book","_law_voices"] (au ug):=⟨rfl,rfl,rfl,by decide +kernel,rfl,by decide +kernel,by decide +kernel⟩
theorem jN:aP ["_law_script","_law_book","_law_told","_law_plain","_law_name","_law_line_here","_law_voices"] ["_law_script","_law_book","_law_told"] (au fH):=⟨rfl,rfl,rfl,by decide +kernel,rfl,by decide +kernel,by decide +kernel⟩
theorem yS:aP ["_law_script","_law_book","_law_told","_law_before"] ["_law_script","_law_book","_law_told"] (au j6):=⟨rfl,rfl,rfl,by decide +kernel,rfl,by decide +kernel,by decide +kernel⟩
theorem akh:aP ["name"] ["name"] (au yG):=⟨rfl,rfl,rfl,by decide +kernel,rfl,by decide +kernel,by decide +kernel⟩
theorem N6:aP ["self","name"] ["self","name"] (au fJ):=⟨rfl,rfl,rfl,by decide +kernel,rfl,by decide +kernel,by decide +kernel⟩
theorem aaf:aP ["self","voice"] ["self","voice"] (au j7):=⟨rfl,rfl,rfl,by decide +kernel,rfl,by decide +kernel,by decide +kernel⟩
theorem Rp:aP ["self","name","terms"] ["self","name","terms"] (au gk):=⟨rfl,rfl,rfl,by decide +kernel,rfl,by decide +kernel,by decide +kernel⟩
theorem Rq:aP ["self","name"] ["self","name"] (au gm):=⟨rfl,rfl,rfl,by decide +kernel,rfl,by decide +kernel,by decide +kernel⟩
theorem Rr:aP ["self","name","leader","later","slow","is_turned"] ["self","name","leader","later","slow","is_turned"] (au gn):=⟨rfl,rfl,rfl,by decide +kernel,rfl,by decide +kernel,by decide +kernel⟩
theorem qT:aP ["_law_book","_law_told","_law_name","_law_thing","_law_at","_law_sign"] ["_law_book","_law_told"] (au qw):=⟨rfl,rfl,rfl,by decide +kernel,rfl,by decide +kernel,by decide +kernel⟩
theorem U0:aP ["self"] ["self"] (au gW):=⟨rfl,rfl,rfl,by decide +kernel,rfl,by decide +kernel,by decide +kernel⟩
theorem aqY:aP ["_law_script","_law_told"] ["_law_script"] (au aei):=⟨rfl,rfl,rfl,by decide +kernel,rfl,by decide +kernel,by decide +kernel⟩
theorem aag:(["_law_k","_law_script","_law_at","_law_many","_law_seed","_law_left","_law_row"]:List Str).Nodup:=by decide +kernel
theorem aix:(["_law_number","_law_script","_law_at","_law_many"]:List Str).Nodup:=by decide +kernel
theorem aah:(["_law_j","_law_script","_law_names","_law_plain","_law_told","_law_k","_law_size","_law_cell","_law_later","_law_slow","_law_led","_law_row"]:List Str).Nodup:=by decide +kernel
theorem aai:(["_law_number","_law_script","_law_names","_law_plain","_law_told","_law_k","_law_size","_law_cell","_law_later","_law_slow","_law_led","_law_row"]:List Str).Nodup:=by decide +kernel
theorem aiy:(["sign","line","at","behind","changed","kinds"]:List Str).Nodup:=by decide +kernel
theorem X7:(["kind","tone","line"]:List Str).Nodup:=by decide +kernel
theorem aaj:(["worth","self","name","terms","leader","later","slow","is_turned","begin"]:List Str).Nodup:=by decide +kernel
theorem aak:(["_law_worth","_law_voices","_law_name","_law_thing","_law_line_here"]:List Str).Nodup:=by decide +kernel
theorem Yx:(["voice","self"]:List Str).Nodup:=by decide +kernel
theorem Ig:(["_law_script","_law_book","_law_told","_law_plain","","_law_line_here","_law_voices"]:List Str).Nodup:=by decide +kernel
theorem tV:(["_law_name","_law_thing","_law_script","_law_book","_law_told","_law_plain","","_law_line_here","_law_voices"]:List Str).Nodup:=by decide +kernel
theorem tW:(["_law_one","_law_thing","_law_script","_law_book","_law_told","_law_plain","_law_name","_law_line_here","_law_voices"]:List Str).Nodup:=by decide +kernel
theorem ac0:(["letter","name"]:List Str).Nodup:=by decide +kernel
def Jc:List (Str×Pos):=[("ann",⟨331,18,331,23⟩),("bo",⟨331,25,331,29⟩),("cy",⟨331,31,331,35⟩),("dora",⟨331,37,331,43⟩),("eve",⟨331,45,331,50⟩),("ann",⟨331,52,331,57⟩),("bo",⟨331,59,331,63⟩),("cy",⟨331,65,331,69⟩),("dora",⟨331,71,331,77⟩)]
structure Adr where
 lZ:Addr
 Jd:FuncData
 uh:Addr
 U3:FuncData
 mj:Addr
 Je:FuncData
 mq:Addr
 Jf:FuncData
 yU:Addr
 aal:FuncData
 my:Addr
 Jg:FuncData
 jx:Addr
 Jh:FuncData
 jy:Addr
 Ji:FuncData
 qy:Addr
 U5:FuncData
 jz:Addr
 Jj:FuncData
 cH:Addr
 kJ:FuncData
 N7:Addr
 aki:FuncData
 dD:Addr
 qU:FuncData
 eZ:Addr
 yV:FuncData
 Fw:Addr
 afg:FuncData
 um:Addr
 U6:FuncData
 pC:Addr
 N8:FuncData
 gB:Addr
 yW:FuncData
 yX:Addr
 aam:FuncData
 cD:Addr
 n8:FuncData
 cN:Addr
 pF:FuncData
 dO:Addr
 wG:FuncData
 jA:Addr
 Jk:FuncData
 mz:Addr
 Oa:FuncData
 mC:Addr
 Ob:FuncData
 jO:Addr
 Fx:FuncData
 iw:Addr
 Fy:FuncData
 mD:Addr
 Jl:FuncData
 yZ:Addr
 aan:FuncData
 iy:Addr
 Ar:FuncData
 pG:Addr
 Fz:FuncData
 Av:Addr
 qW:Tok
 uo:Addr
 U8:FuncData
 iR:Addr
 Ci:FuncData
 cI:Addr
 kO:FuncData
 Oc:Addr
 afh:FuncData
 Zq:Addr
 Jm:Tok
 fO:Addr
 wH:FuncData
 eO:Addr
 uq:FuncData
 dF:Addr
 qX:FuncData
 dG:Addr
 qY:FuncData
 jP:Addr
 FJ:FuncData
 ur:Addr
 U9:FuncData
 za:Addr
 Rt:FuncData
 LR:Addr
 zb:Tok
 jB:Addr
 Jo:FuncData
 zc:Addr
 aao:FuncData
 FN:Addr
 afi:FuncData
 zf:Addr
 aap:FuncData
 uv:Addr
 Va:FuncData
 zg:Addr
 aaq:FuncData
 mF:Addr
 Jp:FuncData
 zj:Addr
 aar:FuncData
 uw:Addr
 Vb:FuncData
 FP:Addr
 afj:FuncData
 zm:Addr
 aas:FuncData
 mG:Addr
 Jq:FuncData
 jQ:Addr
 FQ:FuncData
 iT:Addr
 Cj:FuncData
 uy:Addr
 Vc:FuncData
 iB:Addr
 FT:FuncData
 uz:Addr
 Vd:FuncData
 zp:Addr
 aat:FuncData
 pH:Addr
 Od:FuncData
 dH:Addr
 qZ:FuncData
 iU:Addr
 Ck:FuncData
 uA:Addr
 Ve:FuncData
 cU:Addr
 q8:FuncData
 gf:Addr
 Cm:FuncData
 dj:Addr
 uB:FuncData
 dm:Addr
 uC:FuncData
 dq:Addr
 nj:FuncData
 lG:Addr
 gC:Tok
 gD:Tok
 mH:Addr
 Jr:FuncData
 dR:Addr
 wI:FuncData
 aau:Addr
 aqZ:FuncData
 gh:Addr
 iV:Addr
 fP:Addr
 dU:Addr
 du:Addr
 gF:Addr
 q9:Tok
 fc:Addr
 fu:Addr
 cP:Addr
 xY:Tok
 lH:Tok
 oY:Tok
 rm:Tok
 Ma:Tok
 rA:Tok
 vG:Tok
 xZ:Tok
 Ru:Tok
 Mf:Tok
 eV:Addr
 bR:Addr
 bI:Addr
structure Txt (K:Frag)(w:World)(mg:Str->Option Value)(t:Adr):Prop where
 bN:lQ K "_law_cell_at" "_law_cell_at" pY t.lZ t.Jd
 bW:Binds K t.Jd ["_law_script","_law_k"] []
 bY:mg "_law_cell_at" = some (.ref t.lZ)
 nq:lQ K "_law_mixed" "_law_mixed" yt t.uh t.U3
 uD:Binds K t.U3 ["_law_seed","_law_k"] []
 zq:mg "_law_mixed" = some (.ref t.uh)
 mJ:lQ K "_law_sign_by" "_law_sign_by" pZ t.mj t.Je
 vR:Binds K t.Je ["_law_number"] []
 FW:mg "_law_sign_by" = some (.ref t.mj)
 vU:lQ K "_law_numbers" "_law_numbers" qb t.mq t.Jf
 Js:Binds K t.Jf ["_law_script","_law_at","_law_many"] []
 afk:mg "_law_numbers" = some (.ref t.mq)
 Jt:lQ K "_law_line" "_law_line" DG t.yU t.aal
 aav:Binds K t.aal ["_law_script","_law_at","_law_many"] []
 anM:mg "_law_line" = some (.ref t.yU)
 vV:lQ K "_law_entries" "_law_entries" jw t.my t.Jg
 Ju:Binds K t.Jg ["_law_script"] []
 afl:mg "_law_entries" = some (.ref t.my)
 Aw:lQ K "undo" "Deed.undo" qd t.jx t.Jh
 Jv:Binds K t.Jh ["self"] []
 afm:Meth K t.bR "undo" t.jx
 Ax:lQ K "undo" "Book.undo" qe t.jy t.Ji
 mK:Binds K t.Ji ["self"] []
 rB:Meth K t.bI "undo" t.jy
 Mg:lQ K "do" "Deed.do" yu t.qy t.U5
 Mh:Binds K t.U5 ["self"] []
 aaw:Meth K t.bR "do" t.qy
 Ay:lQ K "redo" "Book.redo" qg t.jz t.Jj
 Az:Binds K t.Jj ["self"] []
 Rv:Meth K t.bI "redo" t.jz
 cJ:lQ K "refuse_other_places" "refuse_other_places" cV t.cH t.kJ
 dX:Binds K t.kJ ["at","last"] []
 jR:mg "refuse_other_places" = some (.ref t.cH)
 aax:lQ K "good" "good" UJ t.N7 t.aki
 akj:Binds K t.aki ["sign"] []
 as8:mg "good" = some (.ref t.N7)
 fK:lQ K "refuse_bad_sign" "refuse_bad_sign" fB t.dD t.qU
 lJ:Binds K t.qU ["sign"] []
 zr:mg "refuse_bad_sign" = some (.ref t.dD)
 rC:lQ K "perform" "Book.perform" jj t.eZ t.yV
 jm:Binds K t.yV ["self","deed"] []
 oZ:Meth K t.bI "perform" t.eZ
 Mi:lQ K "small" "small" LC t.Fw t.afg
 Zr:Binds K t.afg ["sign"] []
 aiz:mg "small" = some (.ref t.Fw)
 Ef:lQ K "low_end" "low_end" yw t.um t.U6
 Vf:Binds K t.U6 ["line","at"] []
 akk:mg "low_end" = some (.ref t.um)
 zu:lQ K "high_end" "high_end" uc t.pC t.N8
 Oe:Binds K t.N8 ["line","first","kinds"] []
 aiA:mg "high_end" = some (.ref t.pC)
 jo:lQ K "sets_measure" "sets_measure" jk t.gB t.yW
 rD:Binds K t.yW ["sign"] []
 HJ:mg "sets_measure" = some (.ref t.gB)
 zx:lQ K "window" "window" DK t.yX t.aam
 Jw:Binds K t.aam ["line","at","behind","changed"] []
 Vg:mg "window" = some (.ref t.yX)
 jb:lQ K "voice_called" "Book.voice_called" dM t.cD t.n8
 dN:Binds K t.n8 ["self","name"] []
 iC:Meth K t.bI "voice_called" t.cD
 jT:lQ K "plain_voice" "Book.plain_voice" eN t.cN t.pF
 eQ:Binds K t.pF ["self","name"] []
 jc:Meth K t.bI "plain_voice" t.cN
 o8:lQ K "__init__" "Deed.__init__" gR t.dO t.wG
 gY:Binds K t.wG ["self","things","at","before","after"] []
 Ba:lQ K "swap" "Book.swap" qi t.jA t.Jk
 Jx:Binds K t.Jk ["self","name","at","sign"] []
 afn:Meth K t.bI "swap" t.jA
 FZ:lQ K "put" "Book.put" ud t.mz t.Oa
 Ga:Binds K t.Oa ["self","name","at","sign"] []
 X8:Meth K t.bI "put" t.mz
 Gb:lQ K "cut" "Book.cut" ue t.mC t.Ob
 Og:Binds K t.Ob ["self","name","at"] []
 aiB:Meth K t.bI "cut" t.mC
 rE:lQ K "_law_one_deed" "_law_one_deed" mZ t.jO t.Fx
 Gd:Binds K t.Fx ["_law_script","_law_book","_law_name","_law_line_here"] []
 ac1:mg "_law_one_deed" = some (.ref t.jO)
 yc:lQ K "canon" "Book.canon" m6 t.iw t.Fy
 jU:Binds K t.Fy ["self","name"] []
 oO:Meth K t.bI "canon" t.iw
 qz:lQ K "beginning" "beginning" qj t.mD t.Jl
 Bb:Binds K t.Jl ["book","name"] []
 Rw:mg "beginning" = some (.ref t.mD)
 Eg:lQ K "turned" "turned" DN t.yZ t.aan
 Rx:Binds K t.aan ["line"] []
 ael:mg "turned" = some (.ref t.yZ)
 vW:lQ K "line" "Book.line" qm t.iy t.Ar
 jC:Binds K t.Ar ["self","name"] []
 nu:Meth K t.bI "line" t.iy
 pI:ae0 K "measures" "measures" uf t.pG t.Fz (.ref t.Av)
 Yb:Binds K t.Fz ["line","begin"] [.int 3 t.qW]
 Ge:Binds K t.Fz ["line","begin"] []
 Yc:mg "measures" = some (.ref t.pG)
 gZ:lQ K "kind_at" "kind_at" yx t.uo t.U8
 j9:Binds K t.U8 ["line","at"] []
 mL:mg "kind_at" = some (.ref t.uo)
 oR:lQ K "plain_worth" "plain_worth" j4 t.iR t.Ci
 Cp:Binds K t.Ci ["kind","measure"] []
 aay:mg "plain_worth" = some (.ref t.iR)
 dY:lQ K "worths_without_runs" "worths_without_runs" cW t.cI t.kO
 kW:Binds K t.kO ["line","begin"] []
 Gf:mg "worths_without_runs" = some (.ref t.cI)
 Vh:ae0 K "runs" "runs" UL t.Oc t.afh (.ref t.Zq)
 amM:Binds K t.afh ["line","begin"] [.int 3 t.Jm]
 akl:Binds K t.afh ["line","begin"] []
 as9:mg "runs" = some (.ref t.Oc)
 ie:lQ K "has_left_note" "has_left_note" gU t.fO t.wH
 o9:Binds K t.wH ["line","found","first"] []
 Eh:mg "has_left_note" = some (.ref t.fO)
 gq:lQ K "has_right_note" "has_right_note" gj t.eO t.uq
 nC:Binds K t.uq ["line","behind"] []
 Bc:mg "has_right_note" = some (.ref t.eO)
 iD:lQ K "settle_one_over" "settle_one_over" fD t.dF t.qX
 rF:Binds K t.qX ["line","found","first","behind"] []
 Oh:mg "settle_one_over" = some (.ref t.dF)
 iG:lQ K "settle_two_over" "settle_two_over" fG t.dG t.qY
 rG:Binds K t.qY ["line","found","first","behind"] []
 Oi:mg "settle_two_over" = some (.ref t.dG)
 rH:lQ K "settle_run" "settle_run" m7 t.jP t.FJ
 Gg:Binds K t.FJ ["line","found","first","behind"] []
 ac2:mg "settle_run" = some (.ref t.jP)
 Ei:lQ K "reading" "reading" yz t.ur t.U9
 Vi:Binds K t.U9 ["line","begin"] []
 akm:mg "reading" = some (.ref t.ur)
 zy:ae0 K "worths" "worths" DP t.za t.Rt (.ref t.LR)
 aem:Binds K t.Rt ["line","begin"] [.int 3 t.zb]
 Ry:Binds K t.Rt ["line","begin"] []
 aen:mg "worths" = some (.ref t.za)
 Bd:lQ K "kept" "Book.kept" qp t.jB t.Jo
 qC:Binds K t.Jo ["self","name"] []
 yd:Meth K t.bI "kept" t.jB
 Jy:lQ K "sounds" "sounds" DQ t.zc t.aao
 aaz:Binds K t.aao ["sign"] []
 anN:mg "sounds" = some (.ref t.zc)
 Mj:lQ K "spans" "spans" LK t.FN t.afi
 Zt:Binds K t.afi ["book","name"] []
 aiC:mg "spans" = some (.ref t.FN)
 Jz:lQ K "ending" "ending" DR t.zf t.aap
 aaA:Binds K t.aap ["book","name"] []
 anO:mg "ending" = some (.ref t.zf)
 kh:lQ K "_law_whole" "_law_whole" yC t.uv t.Va
 qD:Binds K t.Va ["_law_found"] []
 uE:mg "_law_whole" = some (.ref t.uv)
 Ej:lQ K "_law_rows" "_law_rows" DW t.zg t.aaq
 Rz:Binds K t.aaq ["_law_found","_law_due"] []
 aeo:mg "_law_rows" = some (.ref t.zg)
 mO:lQ K "_law_line_of" "_law_line_of" qt t.mF t.Jp
 vX:Binds K t.Jp ["_law_voices","_law_name"] []
 Gh:mg "_law_line_of" = some (.ref t.mF)
 JB:lQ K "_law_base" "_law_base" DX t.zj t.aar
 aaB:Binds K t.aar ["_law_line_here","_law_begin"] []
 anP:mg "_law_base" = some (.ref t.zj)
 Ek:lQ K "_law_three" "_law_three" yD t.uw t.Vb
 Vj:Binds K t.Vb ["_law_line_here","_law_begin"] []
 akn:mg "_law_three" = some (.ref t.uw)
 RB:lQ K "_law_run" "_law_run" LQ t.FP t.afj
 afo:Binds K t.afj ["_law_line_here","_law_told","_law_low","_law_high"] []
 aq0:mg "_law_run" = some (.ref t.FP)
 El:lQ K "_law_read" "_law_read" DY t.zm t.aas
 RC:Binds K t.aas ["_law_line_here","_law_begin"] []
 aep:mg "_law_read" = some (.ref t.zm)
 mQ:lQ K "_law_kept_of" "_law_kept_of" qu t.mG t.Jq
 vY:Binds K t.Jq ["_law_voices","_law_name"] []
 Gi:mg "_law_kept_of" = some (.ref t.mG)
 nF:lQ K "_law_spans_of" "_law_spans_of" m8 t.jQ t.FQ
 ye:Binds K t.FQ ["_law_voices","_law_name"] []
 MN:mg "_law_spans_of" = some (.ref t.jQ)
 oU:lQ K "_law_ending_of" "_law_ending_of" j5 t.iT t.Cj
 Cq:Binds K t.Cj ["_law_voices","_law_name"] []
 aaC:mg "_law_ending_of" = some (.ref t.iT)
 kj:lQ K "_law_right" "_law_right" yE t.uy t.Vc
 qF:Binds K t.Vc ["_law_script","_law_book","_law_voices"] []
 uF:mg "_law_right" = some (.ref t.uy)
 yf:lQ K "names" "Book.names" m9 t.iB t.FT
 nG:Binds K t.FT ["self"] []
 vH:Meth K t.bI "names" t.iB
 Em:lQ K "_law_signs" "_law_signs" yF t.uz t.Vd
 Vk:Binds K t.Vd ["_law_found","_law_due"] []
 ako:mg "_law_signs" = some (.ref t.uz)
 JC:lQ K "_law_nums" "_law_nums" Ea t.zp t.aat
 aaD:Binds K t.aat ["_law_found","_law_due"] []
 anQ:mg "_law_nums" = some (.ref t.zp)
 mR:lQ K "_law_stands" "_law_stands" ug t.pH t.Od
 uG:Binds K t.Od ["_law_book","_law_voices"] []
 Be:mg "_law_stands" = some (.ref t.pH)
 iH:lQ K "_law_changed_right" "_law_changed_right" fH t.dH t.qZ
 rJ:Binds K t.qZ ["_law_script","_law_book","_law_told"] []
 Oj:mg "_law_changed_right" = some (.ref t.dH)
 oV:lQ K "_law_all_round" "_law_all_round" j6 t.iU t.Ck
 Cr:Binds K t.Ck ["_law_script","_law_book","_law_told"] []
 aaE:mg "_law_all_round" = some (.ref t.iU)
 En:lQ K "is_name" "is_name" yG t.uA t.Ve
 Vl:Binds K t.Ve ["name"] []
 akp:mg "is_name" = some (.ref t.uA)
 lK:lQ K "refuse_new" "Book.refuse_new" fJ t.cU t.q8
 lL:Binds K t.q8 ["self","name"] []
 zA:Meth K t.bI "refuse_new" t.cU
 vI:lQ K "put_in" "Book.put_in" j7 t.gf t.Cm
 vJ:Binds K t.Cm ["self","voice"] []
 JD:Meth K t.bI "put_in" t.gf
 nH:lQ K "__init__" "Voice.__init__" gk t.dj t.uB
 nJ:Binds K t.uB ["self","name","terms"] []
 nM:lQ K "add_voice" "Book.add_voice" gm t.dm t.uC
 nP:Binds K t.uC ["self","name"] []
 Bf:Meth K t.bI "add_voice" t.dm
 jq:ae0 K "add_canon" "Book.add_canon" gn t.dq t.nj (.ref t.lG)
 Bg:Binds K t.nj ["self","name","leader","later","slow","is_turned"] [.int 0 t.gC,.int 1 t.gD,.bool false]
 uH:Binds K t.nj ["self","name","leader","later","slow","is_turned"] []
 RD:Meth K t.bI "add_canon" t.dq
 vZ:lQ K "_law_book_of" "_law_book_of" qw t.mH t.Jr
 JF:Binds K t.Jr ["_law_book","_law_told"] []
 afp:mg "_law_book_of" = some (.ref t.mH)
 ph:lQ K "__init__" "Book.__init__" gW t.dR t.wI
 wJ:Binds K t.wI ["self"] []
 amN:lQ K "law" "law" aei t.aau t.aqZ
 aut:Binds K t.aqZ ["_law_script"] []
 azy:mg "law" = some (.ref t.aau)
 avv:mg "all" = none
 avw:mg "any" = none
 amO:mg "bool" = none
 yg:mg "dict" = none
 Gj:mg "enumerate" = none
 Ol:mg "int" = none
 bG:mg "isinstance" = none
 cB:mg "len" = none
 iI:mg "list" = none
 avx:mg "max" = none
 avy:mg "min" = none
 rK:mg "range" = none
 afq:mg "str" = none
 aq1:mg "sum" = none
 RG:mg "tuple" = none
 Vm:mg "zip" = none
 MP:mg "GREAT_KINDS" = some (.ref t.gh)
 MT:∀ H,pP K H t.gh [.str "G",.str "D",.str "R"]
 ac3:mg "SMALL_KINDS" = some (.ref t.iV)
 ac4:∀ H,pP K H t.iV [.str "s",.str "d",.str "r"]
 Yy:mg "PARTING_KINDS" = some (.ref t.fP)
 Yz:∀ H,pP K H t.fP [.str ".",.str "3",.str "2"]
 HN:mg "MEASURE_KINDS" = some (.ref t.dU)
 HQ:∀ H,pP K H t.dU [.str "3",.str "2"]
 Eo:mg "SOUNDING_KINDS" = some (.ref t.du)
 Ep:∀ H,pP K H t.du [.str "G",.str "D",.str "s",.str "d"]
 aaF:mg "SILENT_KINDS" = some (.ref t.gF)
 aaG:∀ H,pP K H t.gF [.str "R",.str "r",.str ".",.str "3",.str "2"]
 aaH:mg "HIGHEST_TONE" = some (.int 99 t.q9)
 aaI:mg "TURNED_KINDS" = some (.ref t.fc)
 YB:KD K w t.fc [("3",.str "2"),("2",.str "3")]
 aaJ:mg "PLAIN_WORTHS" = some (.ref t.fu)
 YC:KD K w t.fu [("G",.int 3),("D",.int 2),("R",.int 3),("s",.int 1),("d",.int 1),("r",.int 1),(".",.int 0),("3",.int 0),("2",.int 0)]
 Er:mg "TWOFOLD_WORTHS" = some (.ref t.cP)
 Bh:KD K w t.cP [("G",.int 2),("R",.int 2)]
 afr:mg "FULL_WORTH" = some (.int 3 t.xY)
 lM:mg "SHORTENED_WORTH" = some (.int 2 t.lH)
 YD:mg "DOUBLED_WORTH" = some (.int 2 t.oY)
 aaK:mg "DOTTED_WORTH" = some (.int 3 t.rm)
 anR:mg "LETTERS" = some (.str "abcdefghijklmnopqrstuvwxyz" t.Ma)
 aaL:mg "LONGEST_NAME" = some (.int 8 t.rA)
 ac5:mg "MOST_VOICES" = some (.int 12 t.vG)
 afs:mg "MOST_SIGNS" = some (.int 200 t.xZ)
 aq2:mg "LATEST" = some (.int 999 t.Ru)
 anS:mg "SLOWEST" = some (.int 9 t.Mf)
 aiD:mg "Voice" = some (.ref t.eV)
 aiE:Mk K t.eV t.dj
 jZ:Cls K t.eV
 iW:n6 K t.eV "name"
 gG:n6 K t.eV "terms"
 c7:n6 K t.eV "signs"
 Zu:mg "Deed" = some (.ref t.bR)
 Zv:Mk K t.bR t.dO
 iJ:Cls K t.bR
 gH:n6 K t.bR "things"
 jV:n6 K t.bR "at"
 gJ:n6 K t.bR "before"
 iY:n6 K t.bR "after"
 ata:mg "Book" = some (.ref t.bI)
 atb:Mk K t.bI t.dR
 aX:Cls K t.bI
 dg:n6 K t.bI "voices"
 fY:n6 K t.bI "done"
 dJ:n6 K t.bI "undone"
def cs (t:Adr):Cs:=⟨t.bI,t.eV,t.bR,false,fun r=>match r with
 | .Zn=>0
 | .amI=>0
 | .aef=>0
 | .Full=>0
 | .vD=>0
 | .Dw=>0
 | .Rg=>0
 | .amJ=>0
 | .avs=>0
 | .akd=>0⟩
def jD (ns:List Int)(k:Nat):Int:=ns.getD k 0
inductive RJ (K:Frag)(vs:List V)(H:Hp)(Q:VK)(E:XK):Prop
 | mk (a:Addr) (ns:List Int) (k:Nat) (fU:vs=[.ref a,.int (k:Int)]) (fV:bu K H a (ns.map V.int)) (iQ:ns.length <= 63) (nZ:Q (.int (jD ns k)) H):RJ K vs H Q E
variable {P:Program} {w:World} {K:Frag} {mg:Str->Option Value} {base:Heap} {t:Adr}
theorem yh (T:Txt K w mg t):bU P w K mg base jt (0+1) t.lZ t.Jd ["_law_script","_law_k"] (RJ K):=by
 refine T.bN.ok afc (fun vs H Q E h=>?_) (fun cdv A outer s H vs Q E hr h=>?_)
 ·obtain⟨a,ns,k,rfl,_⟩:=h
  rfl
 ·obtain⟨a,ns,k,rfl,hS,hl,q⟩:=h
  refine bj (ak (bC (aJ Dp (pv 1) (aL (anc rfl) rfl T.avy au4 (aa az (aa (aL (aN.or aO) rfl T.cB cA (aa (pv 0) aj)) aj))) (aR _)) (aq (aG (bH bc (pv 0) (pv 1) (fun _ _=>rfl)))) aM) (aq (aG az))) ?_
  refine⟨_,rfl,_,rfl,.inl ⟨_,_,rfl,.inl hS,_,_,rfl,_,_,rfl,rfl,_,rfl,?_⟩⟩
  rw[List.length_map]
  refine bJ (fun h=>?_) (fun h=>?_)
  ·have hk:k < ns.length:=by
    have:=of_decide_eq_true h
    split at this <;> omega
   have e:(ns.map V.int)[k]? = some (V.int (jD ns k)):=by
    rw[List.getElem?_map,List.getElem?_eq_getElem hk]
    unfold jD
    rw[List.getD_eq_getElem?_getD,List.getElem?_eq_getElem hk]
    rfl
   exact⟨_,rfl,_,rfl,.inl ⟨_,_,_,_,rfl,rfl,hS,Q0 e,q⟩⟩
  ·have hk:ns.length <= k:=by
    have h':¬ ((k:Int) < if (ns.length:Int) < 63 then (ns.length:Int) else 63):=fun z=>h (decide_eq_true z)
    split at h' <;> omega
   have e:jD ns k=0:=by
    unfold jD
    rw[List.getD_eq_getElem?_getD,List.getElem?_eq_none hk]
    rfl
   rw[e] at q
   exact q
inductive aaM (vs:List V)(H:Hp)(Q:VK)(E:XK):Prop
 | mk (seed k:Int) (fU:vs=[.int seed,.int k]) (fV:∀ r:Int,0 <= r->r < 65521->Q (.int r) H):aaM vs H Q E
theorem Om (T:Txt K w mg t):bU P w K mg base jt (0+1) t.uh t.U3 ["_law_seed","_law_k"] aaM:=by
 refine T.nq.ok NP (fun vs H Q E h=>?_) (fun cdv A outer s H vs Q E hr h=>?_)
 ·obtain⟨_,_,rfl,_⟩:=h
  rfl
 ·obtain⟨seed,k,rfl,q⟩:=h
  refine bj (ak (aU (i:=2) NP.nd rfl (Or.inl rfl) (aW d7 (aW (bO.or (aQ.or bQ)) (aW (bO.or (aQ.or bQ)) (aW (wC.or wD) (aW d7 (pv 0) az) az) (aW (wC.or wD) (pv 1) az)) az) az)) (ak (aU (i:=3) NP.nd rfl (Or.inl rfl) (aW d7 (aW (bO.or (aQ.or bQ)) (aW (bO.or (aQ.or bQ)) (aW (wC.or wD) (pv 2) (pv 2)) (aW (wC.or wD) (pv 1) az)) (aW d7 (aW xQ (pv 0) az) az)) az)) (aq (aG (aW d7 (aW (bO.or (aQ.or bQ)) (aW xQ (aW (wC.or wD) (pv 3) (pv 3)) az) (pv 3)) az))))) ?_
  have p2:(2:Int) ^ 64=18446744073709551616:=by decide
  refine⟨_,rfl,_,_,rfl,rfl,(by decide:(0:Int) < 1000003),.inl ⟨_,_,rfl,rfl,.inr ⟨by decide,by decide⟩,_,rfl,.inl ⟨_,_,rfl,rfl,.inr ⟨by decide,by decide⟩,.inl ⟨_,_,rfl,rfl,.inl ⟨_,_,rfl,rfl,_,_,rfl,rfl,(by decide:(0:Int) < 1000033),?_⟩⟩⟩⟩⟩
  generalize hone:(seed % 1000003 * 48271+k * 30011+17) % 1000033=one
  have b1:0 <= one/\one < 1000033:=by omega
  refine⟨_,rfl,_,rfl,.inl ⟨_,_,rfl,rfl,.inl ⟨by rw[p2];omega,by rw[p2];omega⟩,_,rfl,.inl ⟨_,_,rfl,rfl,.inr ⟨by decide,by decide⟩,.inl ⟨_,_,rfl,rfl,_,rfl,_,_,rfl,rfl,⟨by decide,by decide⟩,_,_,rfl,rfl,(by decide:(0:Int) < 997),.inl ⟨_,_,rfl,rfl,_,_,rfl,rfl,(by decide:(0:Int) < 999983),?_⟩⟩⟩⟩⟩
  generalize aCh:(one * one+k * 613+seed / 1000003 % 997) % 999983=two
  have b2:0 <= two/\two < 999983:=by omega
  refine⟨_,rfl,_,rfl,.inl ⟨_,_,rfl,rfl,.inl ⟨by rw[p2];omega,by rw[p2];omega⟩,_,_,rfl,rfl,⟨by decide,by decide⟩,_,rfl,.inl ⟨_,_,rfl,rfl,_,_,rfl,rfl,(by decide:(0:Int) < 65521),?_⟩⟩⟩
  exact q _ (by omega) (by omega)
def l24:List Kd:=[.G,.G,.G,.G,.G,.s,.s,.s,.s,.s,.s,.s,.s,.s,.d,.d,.r,.r,.D,.R,.dot,.dot,.three,.two]
theorem axu:(Str.ofString "GGGGGsssssssssddrrDR..32").cps.toList=l24.map Kd.cp:=by decide +kernel
theorem v7 (k:Kd):inS k.str "GDsd" = k.lX:=by cases k <;> decide +kernel
inductive RK (vs:List V)(H:Hp)(Q:VK)(E:XK):Prop
 | mk (m:Int) (fU:vs=[.int m]) (fV:∀ (p:Addr) (s:Sg),qP s->H p=none->Q (.ref p) (upd H p (.tup [.str s.1.str,.int s.2]))):RK vs H Q E
theorem Gk (T:Txt K w mg t):bU P w K mg base jt (0+1) t.mj t.Je ["_law_number"] RK:=by
 refine T.mJ.ok Rj (fun vs H Q E h=>?_) (fun cdv A outer s H vs Q E hr h=>?_)
 ·obtain⟨_,rfl,_⟩:=h
  rfl
 ·obtain⟨m,rfl,q⟩:=h
  refine bj (ak (aU (i:=1) Rj.nd rfl (Or.inl rfl) (bH bc cF (aW d7 (pv 0) az) (fun _ _=>rfl))) (ak (bC (aJ (eF.or eE) (pv 1) cF rfl) (aq (aG (gA (aa (pv 1) (aa (aW d7 (aW xQ (pv 0) az) az) aj))))) aM) (aq (aG (gA (aa (pv 1) (aa az aj))))))) ?_
  obtain⟨k,hk⟩:∃ k,l24[(m % 24).toNat]? = some k:=by
   have h1:(m % 24).toNat < l24.length:=by
    show _ < 24
    omega
   exact⟨_,List.getElem?_eq_getElem h1⟩
  have hat:atI (Str.ofString "GGGGGsssssssssddrrDR..32").cps.toList (m % 24)=some k.cp:=by
   have e0:m % 24=(((m % 24).toNat:Nat):Int):=by omega
   rw[e0,axu]
   exact Q0 (by rw[List.getElem?_map,hk];rfl)
  refine⟨_,rfl,_,_,rfl,rfl,(by decide:(0:Int) < 24),.inr (.inr ⟨_,_,_,rfl,rfl,(by decide +kernel),hat,?_⟩)⟩
  rw[← axi k]
  tm_up
  refine bJ (fun h=>?_) (fun h=>?_)
  ·have h4:k.lX=true:=by rw[← v7];exact h
   tm_up
   refine⟨(by show 2 <= sizeLine;decide),fun p hp=>?_⟩
   exact q p (k,m / 24 % 100) ⟨fun _=>by show 0 <= m / 24 % 100/\m / 24 % 100 < 100;omega,fun z=>by rw[h4] at z;cases z⟩ hp
  ·have h4:k.lX=false:=by
    rw[← v7]
    exact Bool.eq_false_iff.mpr h
   tm_up
   refine⟨(by show 2 <= sizeLine;decide),fun p hp=>?_⟩
   exact q p (k,0) ⟨(fun z=>by rw[h4] at z;cases z),fun _=>rfl⟩ hp
inductive RL (K:Frag)(vs:List V)(H:Hp)(Q:VK)(E:XK):Prop
 | mk (a:Addr) (ns:List Int) (k m:Nat) (fU:vs=[.ref a,.int (k:Int),.int (m:Int)]) (fV:bu K H a (ns.map V.int)) (iQ:ns.length <= 63) (nZ:m <= 48) (xM:∀ (l:Addr) (ms:List Int) (H':Hp),aB H H'->H' l=some (.lst (ms.map V.int))->ms.length <= 60->(∀ x∈ms,0 <= x)->Q (.ref l) H'):RL K vs H Q E
theorem aft (T:Txt K w mg t):bU P w K mg base jt (0+2) t.mq t.Jf ["_law_script","_law_at","_law_many"] (RL K):=by
 have bT:=yh (P:=P) (w:=w) (base:=base) T
 have uI:=Om (P:=P) (w:=w) (base:=base) T
 refine T.vU.ok qQ (fun vs H Q E h=>?_) (fun cdv A outer s H vs Q E hr h=>?_)
 ·obtain⟨_,_,_,_,rfl,_⟩:=h
  rfl
 ·obtain⟨a,ns,k,m,rfl,hS,hl,hm,q⟩:=h
  refine bj (ak (aU (i:=3) qQ.nd rfl (Or.inr rfl) (aC bT (hr.mono (by decide)) rfl T.bY T.bN.kp T.bW .nil aF (aa (pv 0) (aa (pv 1) aj)))) (ak (bC (aJ Dp (pv 3) (aW apV az az) (aR _)) (aq (aG (vC (cn:=["_law_k"]) rfl (fW.of rfl) (tY rfl T.rK (aa (pv 2) aj)) (fun _=>(aY (i:=0) aag rfl (Or.inl rfl))) (fun _=>yK) (fun _=>(aC uI (hr.mono (by decide)) rfl T.zq T.nq.kp T.uD .nil aF (aa (aW (bO.or (aQ.or bQ)) (pv 4) (aW (wC.or wD) az (aC bT (hr.mono (by decide)) rfl T.bY T.bN.kp T.bW .nil aF (aa (pv 1) (aa (aW (bO.or (aQ.or bQ)) (aW (bO.or (aQ.or bQ)) (pv 2) az) (pv 0)) aj))))) (aa (pv 0) aj))))))) aM) (ak (aU (i:=4) qQ.nd rfl (Or.inl rfl) (aW lV (pv 3) (aW apV az az))) (ak (aU (i:=5) qQ.nd rfl (Or.inl rfl) (bZ aj)) (ak (ZC PassesOwn.never (cG (PW.pt (fL (aJ ah3 (pv 4) az (aR _)) (ig (aJ Dp (aL (aN.or aO) rfl T.cB cA (aa (pv 5) aj)) az (aR _)))))) (ak (bh (jh PySem.F.plainAttrs_list PySem.F.slot_list_append PySem.F.type_list_append bK (pv 5) (aa (aW d7 (pv 4) az) aj))) (aq (aU (i:=4) qQ.nd rfl (Or.inl rfl) (aW xQ (pv 4) az))))) (aq (aG (pv 5)))))))) ?_
  refine⟨_,rfl,_,rfl,a,ns,k,rfl,hS,hl,?_⟩
  refine⟨_,rfl,_,_,rfl,rfl,⟨by decide,by decide,by decide⟩,_,_,rfl,rfl,_,rfl,?_⟩
  refine bJ (fun _=>?_) (fun _=>?_)
  ·refine⟨_,rfl,(m:Int),rfl,(by omega),(by omega),fun D b hD=>?_⟩
   refine ZQ (lo:=0) (n:=((m:Int)).toNat) (fun i ys σ H'=>∃ (v:Option V) (ms:List Int),σ=[v,some (.ref a),some (.int (k:Int)),some (.int (m:Int)),some (.int (jD ns k)),none,none]/\H'=upd H D (.lst ys)/\ys=ms.map V.int/\ms.length=i/\∀ x∈ms,0 <= x) ⟨none,[],rfl,rfl,rfl,rfl,fun _ h=>nomatch h⟩ ?_ ?_
   ·rintro i ys σ H' hi ⟨v,ms,rfl,rfl,rfl,hlen,hpos⟩ N hN
    refine jF ?_
    refine⟨_,rfl,_,rfl,_,rfl,.inl ⟨_,_,rfl,rfl,_,rfl,.inl ⟨_,_,rfl,rfl,a,ns,k+1+i,?_,lD hS hD,hl,.inl ⟨_,_,rfl,rfl,.inl ⟨by decide,by decide⟩,?_⟩⟩⟩⟩
    ·show [V.ref a,V.int ((k:Int)+1+(0+(i:Int)))]=[V.ref a,V.int ((k+1+i:Nat):Int)]
     have e:(k:Int)+1+(0+(i:Int))=((k+1+i:Nat):Int):=by omega
     rw[e]
    ·refine .inl ⟨_,_,rfl,rfl,_,rfl,_,_,rfl,fun r h0 h1=>⟨ao,?_,?_⟩⟩
     ·rw[List.length_map]
      exact bx (by omega)
     ·refine hN _ _ _ ⟨some _,ms++[r],rfl,eU,by simp,by simp[hlen],fun x hx=>?_⟩
      rcases List.mem_append.mp hx with z | z
      ·exact hpos x z
      ·have:x=r:=by simpa using z
       omega
   ·rintro ys σ H' ⟨v,ms,rfl,rfl,rfl,hlen,hpos⟩
    exact q D ms _ (aB.upd hD) ao (by omega) hpos
  ·refine⟨_,rfl,_,_,rfl,rfl,⟨by decide,by decide,by decide⟩,_,_,rfl,rfl,(by decide),fun l hl0=>?_⟩
   refine⟨fun mm σ H'=>∃ (left:Int) (ms:List Int),σ=[some (.ref a),some (.int (k:Int)),some (.int (m:Int)),some (.int (jD ns k)),some (.int left),some (.ref l)]/\H'=upd H l (.lst (ms.map V.int))/\mm=60 - ms.length/\ms.length <= 60/\∀ x∈ms,0 <= x,
    ⟨60,_,[],rfl,rfl,rfl,Nat.zero_le _,fun _ h=>nomatch h⟩,?_⟩
   rintro mm σ H' ⟨left,ms,rfl,rfl,rfl,hlen,hpos⟩
   refine oH (decide (0 < left) && decide ((ms.length:Int) < 60)) ?_ ?_
   ·refine⟨_,rfl,_,_,rfl,rfl,_,rfl,?_⟩
    refine bJ (fun h=>?_) (fun h=>?_)
    ·refine⟨_,rfl,.inl ⟨l,_,rfl,.inl (bu.of ao),_,_,rfl,rfl,_,rfl,?_⟩⟩
     rw[List.length_map]
     exact⟨by rw[h,Bool.true_and],rfl⟩
    ·exact⟨by rw[Bool.eq_false_iff.mpr h];rfl,rfl⟩
   refine bJ (fun h60=>?_) (fun _=>?_)
   ·have aCj:ms.length < 60:=by
     have:=of_decide_eq_true (Bool.and_eq_true_iff.mp h60).2
     omega
    refine⟨fun σ' H'=>∃ m',m' < 60 - ms.length/\∃ (left:Int) (ms:List Int),σ'=[some (.ref a),some (.int (k:Int)),some (.int (m:Int)),some (.int (jD ns k)),some (.int left),some (.ref l)]/\H'=upd H l (.lst (ms.map V.int))/\m'=60 - ms.length/\ms.length <= 60/\∀ x∈ms,0 <= x,fun _ _ h=>h,?_⟩
    refine⟨_,rfl,.inl ⟨rfl,_,bu.of ao⟩,_,rfl,_,_,rfl,rfl,(by decide:(0:Int) < 2400),l,_,_,rfl,rfl,ao,(by rw[List.length_map];exact bx (by omega)),_,rfl,_,_,rfl,rfl,⟨by decide,by decide⟩,60 - (ms.length+1),by omega,_,ms++[left % 2400],rfl,?_,by simp,by simp;omega,fun x hx=>?_⟩
    ·rw[eU,List.map_append]
     rfl
    ·rcases List.mem_append.mp hx with z | z
     ·exact hpos x z
     ·have:x=left % 2400:=by simpa using z
      omega
   ·exact⟨_,rfl,q l ms _ (aB.upd hl0) ao (by omega) hpos⟩
inductive aeq (K:Frag)(vs:List V)(H:Hp)(Q:VK)(E:XK):Prop
 | mk (a:Addr) (ns:List Int) (k m:Nat) (fU:vs=[.ref a,.int (k:Int),.int (m:Int)]) (fV:bu K H a (ns.map V.int)) (iQ:ns.length <= 63) (nZ:m <= 48) (xM:∀ (l:Addr) (xs:List V) (ss:List Sg) (H':Hp),aB H H'->H l=none->H' l=some (.lst xs)->lY H' xs ss->(∀ s∈ss,qP s)->ss.length <= 60->Q (.ref l) H'):aeq K vs H Q E
theorem anT (T:Txt K w mg t):bU P w K mg base jt (0+3) t.yU t.aal ["_law_script","_law_at","_law_many"] (aeq K):=by
 have v8:=Gk (P:=P) (w:=w) (base:=base) T
 have aiF:=aft (P:=P) (w:=w) (base:=base) T
 refine T.Jt.ok anH (fun vs H Q E h=>?_) (fun cdv A outer s H vs Q E hr h=>?_)
 ·obtain⟨_,_,_,_,rfl,_⟩:=h
  rfl
 ·obtain⟨a,ns,k,m,rfl,hS,hl,hm,q⟩:=h
  refine bj (aq (aG (vC (cn:=["_law_number"]) rfl (fW.of rfl) (ik (aC aiF (hr.mono (by decide)) rfl T.afk T.vU.kp T.Js .nil aF (aa (pv 0) (aa (pv 1) (aa (pv 2) aj))))) (fun _=>(aY (i:=0) aix rfl (Or.inl rfl))) (fun _=>yK) (fun _=>(aC v8 (hr.mono (by decide)) rfl T.FW T.mJ.kp T.vR .nil aF (aa (pv 0) aj)))))) ?_
  refine⟨_,rfl,_,rfl,_,rfl,a,ns,k,m,rfl,hS,hl,hm,fun l ms H1 s1 hl1 hlen hpos=>⟨l,rfl,⟨_,bu.of hl1⟩,fun D b hD=>?_⟩⟩
  refine mY (K:=K) (xs:=ms.map V.int) (fun i ys σ H'=>∃ (v:Option V) (ss:List Sg),σ=[v,some (.ref a),some (.int (k:Int)),some (.int (m:Int))]/\aB H1 H'/\H' D=some (.lst ys)/\lY H' ys ss/\ss.length=i/\i <= ms.length/\∀ s∈ss,qP s)
   ⟨none,[],rfl,aB.upd hD,ao,.nil,rfl,Nat.zero_le _,fun _ h=>nomatch h⟩ ?_ ?_ ?_
  ·rintro i ys σ H' ⟨v,ss,rfl,s2,_⟩
   exact s2.seq (bu.of hl1)
  ·rintro i ys x σ H' hx ⟨v,ss,rfl,s2,hDl,hsg,hsl,hi,hg⟩ N hN
   have hil:i < ms.length:=by
    have:=(List.getElem?_eq_some_iff.mp hx).1
    rw[List.length_map] at this
    exact this
   obtain⟨z,hz,rfl⟩:=IK hx
   refine jF ?_
   refine⟨_,rfl,z,rfl,fun p s gs hp=>⟨aB.upd hp _ _ hDl,?_,?_⟩⟩
   ·rw[cj hsg,hsl]
    exact bx (by omega)
   ·have hD4:=aB.upd (o:=.tup [.str s.1.str,.int s.2]) hp _ _ hDl
    refine hN _ _ _ ⟨_,ss++[s],rfl,gO (s2.trans (aB.upd hp)) hD,ao,pQ (ae6 hD4 (hsg.same (aB.upd hp))) (aio hD4 ⟨p,rfl,ao⟩),by simp[hsl],hil,fun y hy=>?_⟩
    rcases List.mem_append.mp hy with z | z
    ·exact hg y z
    ·have:y=s:=by simpa using z
     rw[this]
     exact gs
  ·rintro ys σ H' ⟨v,ss,rfl,s2,hDl,hsg,hsl,hi,hg⟩
   refine q D ys ss H' (s1.trans s2) (s1.free hD) hDl hsg hg ?_
   rw[hsl,List.length_map]
   omega
def nine:List Str:=["ann","bo","cy","dora","eve","ann","bo","cy","dora"]
def Vn (r k:Nat):Str:=nine.getD (r+k) ""
def xnK (k:Nat):Str:=["xg","xf","xa","xb","xc","xd","xe"].getD k ""
theorem axv:(List.range 5).all (fun r=>(List.range 6).all fun m=>decide (((List.range m).map (Vn r)++(List.range 7).map xnK).Nodup) && ((List.range m).map (Vn r)++(List.range 7).map xnK).all fun n=>nameB n && !decide (n = "zed") && decide (n.length <= 1000))=true:=by decide +kernel
theorem atc {r k:Nat}(hr:r < 5)(hk:k < 5):(nine.drop r)[k]? = some (Vn r k):=by
 rw[List.getElem?_drop]
 unfold Vn
 have:r+k < nine.length:=by show r+k < 9;omega
 rw[List.getD_eq_getElem?_getD,List.getElem?_eq_getElem this]
 rfl
def strip (t:Addr)(H:Hp):Hp:=fun b=>if b=t then none else H b
theorem v9 {t b:Addr}{H:Hp}{o:HO}(n:b≠t)(h:H b=some o):strip t H b=some o:=by
 unfold strip
 rw[if_neg n,h]
theorem aaN (t:Addr)(H:Hp):aB (strip t H) H:=fun b o h=>by
 unfold strip at h
 by_cases e:b=t
 ·rw[if_pos e] at h;exact nomatch h
 ·rwa [if_neg e] at h
theorem zB {t:Addr}{H H':Hp}(s:aB H H'):aB (strip t H) (strip t H'):=fun b o h=>by
 unfold strip at *
 by_cases e:b=t
 ·rw[if_pos e] at h;exact nomatch h
 ·rw[if_neg e] at *;exact s _ _ h
theorem anU (t:Addr)(H:Hp)(o:HO):strip t (upd H t o)=strip t H:=by
 funext b
 unfold strip
 by_cases e:b=t
 ·rw[if_pos e,if_pos e]
 ·rw[if_neg e,if_neg e,aA e]
theorem lY.strip {t:Addr}{H:Hp}{xs:List V}(h:H t=some (.lst xs)):∀ {ys:List V} {ss:List Sg},lY H ys ss->lY (strip t H) ys ss:=fun g=>cu (fun y s=>by
 rintro ⟨p,e1,e2⟩
 exact⟨p,e1,v9 (fun e=>by rw[e,h] at e2;exact nomatch e2) e2⟩) g
structure EI (r pn:Nat)(nsx:List Str)(vw:Vw):Prop where
 n:vw.map (·.1)=nsx
 p:∀ (j:Nat) q,vw[j]? = some q->j < pn->∃ ss,q.2=.pl ss
 g:∀ q∈vw,(∃ ss,q.2=.pl ss/\ss.length <= 24/\∀ s∈ss,qP s)∨(∃ c lt sl tn,c < pn/\q.2=.cn (Vn r c) lt sl tn/\(0 <= lt/\lt <= 999/\1 <= sl/\sl <= 9))
theorem EI.plus {r pn:Nat}{nsx:List Str}{vw:Vw}(h:EI r pn nsx vw){n:Str}{ss:List Sg}(hs:ss.length <= 24)(hg:∀ s∈ss,qP s):EI r pn (nsx++[n]) (vw++[(n,.pl ss)]) where
 n:=by rw[List.map_append,h.n];rfl
 p:=fun j q e hj=>by
  by_cases hlt:j < vw.length
  ·rw[List.getElem?_append_left hlt] at e
   exact h.p j q e hj
  ·have:q∈[(n,Th.pl ss)]:=by
    rw[List.getElem?_append_right (by omega)] at e
    exact List.mem_of_getElem? e
   rw[List.mem_singleton.mp this]
   exact⟨ss,rfl⟩
 g:=fun q hq=>by
  rcases List.mem_append.mp hq with hq | hq
  ·exact h.g q hq
  ·rw[List.mem_singleton.mp hq]
   exact .inl ⟨ss,rfl,hs,hg⟩
theorem EI.more {r pn:Nat}{nsx:List Str}{vw:Vw}(h:EI r pn nsx vw){n:Str}{c:Nat}{lt sl:Int}{tn:Bool}(hl:pn <= vw.length)(hc:c < pn)(hk:(0 <= lt/\lt <= 999/\1 <= sl/\sl <= 9)):EI r pn (nsx++[n]) (vw++[(n,.cn (Vn r c) lt sl tn)]) where
 n:=by rw[List.map_append,h.n];rfl
 p:=fun j q e hj=>by
  rw[List.getElem?_append_left (by omega)] at e
  exact h.p j q e hj
 g:=fun q hq=>by
  rcases List.mem_append.mp hq with hq | hq
  ·exact h.g q hq
  ·rw[List.mem_singleton.mp hq]
   exact .inr ⟨c,lt,sl,tn,hc,rfl,hk⟩
theorem EI.ok {r pn m x:Nat}{vw:Vw}(h:EI r pn ((List.range m).map (Vn r)++(List.range x).map xnK) vw)(hr:r < 5)(hm:m < 6)(hx:x=0∨x=7)(hp:pn <= m):aeh vw:=by
 have h1:=List.all_eq_true.mp (List.all_eq_true.mp axv r (List.mem_range.mpr hr)) m (List.mem_range.mpr hm)
 rw[Bool.and_eq_true,decide_eq_true_eq,List.all_eq_true] at h1
 have sub:List.Sublist ((List.range m).map (Vn r)++(List.range x).map xnK) ((List.range m).map (Vn r)++(List.range 7).map xnK):=by
  rcases hx with rfl | rfl
  ·exact List.Sublist.append_left (List.nil_sublist _) _
  ·exact List.Sublist.refl _
 have nd:(vw.map (·.1)).Nodup:=by rw[h.n];exact sub.nodup h1.1
 have vl:vw.length=m+x:=by
  have:=congrArg List.length h.n
  rw[List.length_map,List.length_append,List.length_map,List.length_map,List.length_range,List.length_range] at this
  exact this
 have ld:∀ (i:Nat) n ld lt sl tn,vw[i]? = some (n,Th.cn ld lt sl tn)->(∃ ss,(ld,Th.pl ss)∈vw.take i)/\(0 <= lt/\lt <= 999/\1 <= sl/\sl <= 9):=by
  intro i n ld lt sl tn e
  have hi:¬ i < pn:=fun hi=>by
   obtain⟨ss,hss⟩:=h.p i _ e hi
   exact nomatch hss
  rcases h.g _ (List.mem_of_getElem? e) with ⟨ss,hss,_⟩ | ⟨c,lt',sl',tn',hc,hcn,hk⟩
  ·exact nomatch hss
  ·have hcn:Th.cn ld lt sl tn=Th.cn (Vn r c) lt' sl' tn':=hcn
   injection hcn with e1 e2 e3 e4
   subst e1 e2 e3 e4
   refine⟨?_,hk⟩
   have hcl:c < vw.length:=by omega
   obtain⟨ss,hss⟩:=h.p c _ (List.getElem?_eq_getElem hcl) hc
   have hn:(vw[c]).1=Vn r c:=by
    have e5:(vw.map (·.1))[c]? = some (vw[c]).1:=by rw[List.getElem?_map,List.getElem?_eq_getElem hcl];rfl
    rw[h.n,List.getElem?_append_left (by rw[List.length_map,List.length_range];omega),List.getElem?_map,List.getElem?_range (by omega)] at e5
    exact (Option.some.inj e5).symm
   refine⟨ss,?_⟩
   have e6:(vw.take i)[c]? = some (Vn r c,Th.pl ss):=by
    rw[List.getElem?_take_of_lt (by omega),List.getElem?_eq_getElem hcl]
    exact congrArg some (Prod.ext hn hss)
   exact List.mem_of_getElem? e6
 refine⟨⟨nd,fun n l lt sl tn hq=>?_,fun n ss hq=>?_,by omega⟩,fun q hq=>?_,fun i n l lt sl tn e=>(ld i n l lt sl tn e).1,fun n ss hq=>?_⟩
 ·obtain⟨i,e⟩:=List.getElem?_of_mem hq
  obtain⟨⟨ss,hss⟩,hk⟩:=ld i n l lt sl tn e
  exact⟨⟨ss,List.mem_of_mem_take hss⟩,hk⟩
 ·rcases h.g _ hq with ⟨ss',e,h2,h3⟩ | ⟨_,_,_,_,_,e,_⟩
  ·have e:Th.pl ss=Th.pl ss':=e
   injection e with e
   subst e
   exact⟨by omega,h3⟩
  ·exact nomatch e
 ·have hn:q.1∈vw.map (·.1):=List.mem_map_of_mem hq
  rw[h.n] at hn
  have:=h1.2 _ (sub.mem hn)
  rw[Bool.and_eq_true,Bool.and_eq_true,Bool.not_eq_true',decide_eq_false_iff_not,decide_eq_true_eq] at this
  exact⟨this.1.1,this.1.2,this.2⟩
 ·rcases h.g _ hq with ⟨ss',e,h2,h3⟩ | ⟨_,_,_,_,_,e,_⟩
  ·have e:Th.pl ss=Th.pl ss':=e
   injection e with e
   subst e
   exact h2
  ·exact nomatch e
theorem avB {H:Hp}{t:Addr}{ys zs:List V}{vw:Vw}{p:Addr}{n:Str}{v:V}{th:Th}(ht:H t=some (.lst zs))(pv:Paired (Yu (strip t H)) ys vw)(hp:H p=none)(hv:ThV (strip t H) v th):Paired (Yu (strip t (upd H p (.tup [.str n,v])))) (ys++[.ref p]) (vw++[(n,th)]):=by
 have s:=aB.upd (o:=.tup [.str n,v]) hp
 refine Nr (cu (fun _ _ q=>q.same (zB s)) pv) (.cons ⟨p,v,rfl,v9 (fun e=>by rw[e,ht] at hp;exact nomatch hp) ao,hv.same (zB s)⟩ .nil)
theorem aiG {H H':Hp}{t:Addr}{o:HO}(s:aB H H')(n:H t=none):aB H (upd H' t o):=fun b u h=>by
 rw[aA (fun e=>by rw[e,n] at h;exact nomatch h)]
 exact s _ _ h
theorem Oo {H H5:Hp}{t p m1:Addr}{ys ns:List V}{vw:Vw}{n:Str}{v:V}{th:Th}(s:aB H H5)(nt:H t=none)(ht:H5 t=some (.lst ys))(hm:H5 m1=some (.lst ns))(nm:m1≠t)(pv:Paired (Yu (strip t H5)) ys vw)(hp:H5 p=none)(hv:ThV (strip t H5) v th):∀ H6,H6=upd (upd H5 p (.tup [.str n,v])) t (.lst (ys++[.ref p]))->aB H H6/\H6 m1=some (.lst ns)/\H6 t=some (.lst (ys++[.ref p]))/\Paired (Yu (strip t H6)) (ys++[.ref p]) (vw++[(n,th)]):=by
 rintro H6 rfl
 have s1:=s.trans (aB.upd (o:=.tup [.str n,v]) hp)
 refine⟨aiG s1 nt,?_,ao,?_⟩
 ·rw[aA nm]
  exact aB.upd hp _ _ hm
 ·rw[anU]
  exact avB ht pv hp hv
theorem avC:(List.range 7).all (fun i=>match (Str.ofString "gfabcde").cps.toList[i]? with | some c=>decide ((Str.ofString "x")++(⟨#[c]⟩:Str)=xnK i) && decide ((Str.ofString "x").length+(⟨#[c]⟩:Str).length <= 1000) | none=>false)=true:=by decide +kernel
theorem axw {i:Nat}(h:i < 7):∃ c,(Str.ofString "gfabcde").cps.toList[i]? = some c/\(Str.ofString "x")++(⟨#[c]⟩:Str)=xnK i/\(Str.ofString "x").length+(⟨#[c]⟩:Str).length <= 1000:=by
 have h1:=List.all_eq_true.mp avC i (List.mem_range.mpr h)
 cases e:(Str.ofString "gfabcde").cps.toList[i]? with
 | none=>rw[e] at h1;exact nomatch h1
 | some c =>
  rw[e] at h1
  have h2:=Bool.and_eq_true_iff.mp h1
  exact⟨c,rfl,of_decide_eq_true h2.1,of_decide_eq_true h2.2⟩
inductive RM (K:Frag)(vs:List V)(H:Hp)(Q:VK)(E:XK):Prop
 | mk (a:Addr) (ns:List Int) (fU:vs=[.ref a]) (fV:bu K H a (ns.map V.int)) (iQ:ns.length <= 63) (nZ:∀ (l:Addr) (vw:Vw) (H':Hp),aB H H'->H l=none->t7 H' l vw->aeh vw->Q (.ref l) H'):RM K vs H Q E
theorem afu (T:Txt K w mg t):bU P w K mg base jt (0+4) t.my t.Jg ["_law_script"] (RM K):=by
 have bT:=yh (P:=P) (w:=w) (base:=base) T
 have uI:=Om (P:=P) (w:=w) (base:=base) T
 have aq4:=anT (P:=P) (w:=w) (base:=base) T
 have v8:=Gk (P:=P) (w:=w) (base:=base) T
 refine T.vV.ok cL (fun vs H Q E h=>?_) (fun cdv A outer s H vs Q E hr h=>?_)
 ·obtain⟨_,_,rfl,_⟩:=h
  rfl
 ·obtain⟨a,ns,rfl,hS,hl,q⟩:=h
  obtain⟨HR,HS⟩:∃ v:List (Str×Pos),v=Jc:=⟨_,rfl⟩
  have hbody:aH jw=Stmt.Assign [Expr.Name "_law_names" ⟨331,4,331,14⟩] (Expr.List (HR.map fun c=>Expr.Constant (.str c.1) 0 c.2) ⟨331,17,331,78⟩) ⟨331,4,331,78⟩ :: (aH jw).drop 1:=by subst HS;rfl
  rw[hbody]
  refine bj (ak (aqp (i:=1) HR cL.nd rfl (Or.inl rfl)) (ak (aU (i:=1) cL.nd rfl (Or.inl rfl) (oG (vB.or (BX.or BZ)) (pv 1) (lC (aW d7 (aW xQ (aC bT (hr.mono (by decide)) rfl T.bY T.bN.kp T.bW .nil aF (aa (pv 0) (aa az aj))) az) az)) vA)) (ak (aU (i:=2) cL.nd rfl (Or.inl rfl) (aW d7 (aC bT (hr.mono (by decide)) rfl T.bY T.bN.kp T.bW .nil aF (aa (pv 0) (aa az aj))) az)) (ak (aU (i:=3) cL.nd rfl (Or.inl rfl) (bZ aj)) (ak (gw PassesOwn.never rfl (tY rfl T.rK (aa (pv 2) aj)) (aY (i:=4) cL.nd rfl (Or.inr rfl)) (ak (aU (i:=5) cL.nd rfl (Or.inl rfl) (aW d7 (aC uI (hr.mono (by decide)) rfl T.zq T.nq.kp T.uD .nil aF (aa (aC bT (hr.mono (by decide)) rfl T.bY T.bN.kp T.bW .nil aF (aa (pv 0) (aa az aj))) (aa (pv 4) aj))) az)) (aq (bh (jh PySem.F.plainAttrs_list PySem.F.slot_list_append PySem.F.type_list_append bK (pv 3) (aa (gA (aa (bH bc (pv 1) (pv 4) (fun _ _=>rfl)) (aa (oG (vB.or (BX.or BZ)) (aC aq4 (hr.mono (by decide)) rfl T.anM T.Jt.kp T.aav .nil aF (aa (pv 0) (aa (aW (bO.or (aQ.or bQ)) az (aW (wC.or wD) az (pv 4))) (aa (pv 5) aj)))) vA (lC az)) aj))) aj)))))) (ak (gw PassesOwn.never rfl (tY rfl T.rK (aa (aW (wC.or wD) (aW d7 (aW xQ (aC bT (hr.mono (by decide)) rfl T.bY T.bN.kp T.bW .nil aF (aa (pv 0) (aa az aj))) az) az) (cC (yq.or j0) rfl T.Ol Nk (aa (dz ah3 (pv 2) az (aR _)) aj))) aj)) (aY (i:=4) cL.nd rfl (Or.inr rfl)) (ak (aU (i:=6) cL.nd rfl (Or.inl rfl) (aC bT (hr.mono (by decide)) rfl T.bY T.bN.kp T.bW .nil aF (aa (pv 0) (aa (aW (bO.or (aQ.or bQ)) az (pv 4)) aj)))) (ak (aU (i:=7) cL.nd rfl (Or.inl rfl) (fM (jg (aJ (cX.or (bV (aZ hr))) (aW d7 (pv 6) az) az (aR _)) (aW d7 (pv 6) az) (aW d7 (aW xQ (pv 6) az) az)))) (ak (aU (i:=8) cL.nd rfl (Or.inl rfl) (aW (bO.or (aQ.or bQ)) az (aW d7 (aC bT (hr.mono (by decide)) rfl T.bY T.bN.kp T.bW .nil aF (aa (pv 0) (aa (aW (bO.or (aQ.or bQ)) az (pv 4)) aj))) (bH bc (bZ (aa az (aa az aj))) (cC (yq.or j0) rfl T.Ol Nk (aa (dz ah3 (aW d7 (pv 6) az) az (aR _)) aj)) (fun _ _=>rfl))))) (ak (aU (i:=9) cL.nd rfl (Or.inl rfl) (bH bc (pv 1) (aW d7 (aC bT (hr.mono (by decide)) rfl T.bY T.bN.kp T.bW .nil aF (aa (pv 0) (aa (aW (bO.or (aQ.or bQ)) az (pv 4)) aj))) (pv 2)) (fun _ _=>rfl))) (aq (bh (jh PySem.F.plainAttrs_list PySem.F.slot_list_append PySem.F.type_list_append bK (pv 3) (aa (gA (aa (bH bc (pv 1) (aW (bO.or (aQ.or bQ)) (pv 2) (pv 4)) (fun _ _=>rfl)) (aa (gA (aa (pv 9) (aa (pv 7) (aa (pv 8) (aa (dz (cX.or (bV (aZ hr))) (aW d7 (aW xQ (pv 6) az) az) az (aR _)) aj))))) aj))) aj))))))))) (ak (gw PassesOwn.never rfl (tY rfl T.rK (aa (aW (wC.or wD) az (cC (yq.or j0) rfl T.Ol Nk (aa (dz (cX.or (bV (aZ hr))) (aW d7 (aW xQ (aC bT (hr.mono (by decide)) rfl T.bY T.bN.kp T.bW .nil aF (aa (pv 0) (aa az aj))) az) az) az (aR _)) aj))) aj)) (aY (i:=4) cL.nd rfl (Or.inr rfl)) (ak (ZV (i:=10) cL.nd rfl rfl (cn:=["_law_j"]) rfl (fW.of rfl) (tY rfl T.rK (aa (aW (bO.or (aQ.or bQ)) (aW d7 (aC bT (hr.mono (by decide)) rfl T.bY T.bN.kp T.bW .nil aF (aa (pv 0) (aa az aj))) az) az) aj)) (fun _=>(aY (i:=0) aah rfl (Or.inl rfl))) (fun _=>yK) (fun _=>(aC uI (hr.mono (by decide)) rfl T.zq T.nq.kp T.uD .nil aF (aa (aC bT (hr.mono (by decide)) rfl T.bY T.bN.kp T.bW .nil aF (aa (pv 1) (aa az aj))) (aa (aW (bO.or (aQ.or bQ)) (aW (bO.or (aQ.or bQ)) (aW (wC.or wD) az (pv 5)) (pv 0)) az) aj))))) (aq (bh (jh PySem.F.plainAttrs_list PySem.F.slot_list_append PySem.F.type_list_append bK (pv 3) (aa (gA (aa (aW (bO.or (aQ.or bQ)) cF (bH bc cF (pv 4) (fun _ _=>rfl))) (aa (vC (cn:=["_law_number"]) rfl (fW.of rfl) (ik (pv 10)) (fun _=>(aY (i:=0) aai rfl (Or.inl rfl))) (fun _=>yK) (fun _=>(aC v8 (hr.mono (by decide)) rfl T.FW T.mJ.kp T.vR .nil aF (aa (pv 0) aj)))) aj))) aj)))))) (aq (aG (pv 3)))))))))) ?_
  subst HS
  refine Nx fun N hN=>?_
  refine⟨by show 9 <= sizeLine;decide,fun m0 hm0=>?_⟩
  have e9:(Jc.map fun c=>V.str c.1)=nine.map V.str:=rfl
  rw[e9]
  have s0:=aB.upd (o:=.lst (nine.map V.str)) hm0
  have h0:=ao (H:=H) (a:=m0) (o:=.lst (nine.map V.str))
  generalize upd H m0 (.lst (nine.map V.str))=H0 at s0 h0
  obtain⟨r,hr,hr5⟩:=acX (jD ns 0 / 12) (k:=5) (by decide)
  obtain⟨pn,hpn,hp4⟩:=acX (jD ns 0) (k:=4) (by decide)
  have hr5:r < 5:=by omega
  have hp4:pn < 4:=by omega
  refine hN _ _ ?_
  refine Nx fun N hN=>?_
  tm_up
  refine⟨a,ns,0,rfl,s0.seq hS,hl,?_⟩
  tm_up
  rw[hr]
  refine .inl ⟨m0,_,rfl,bu.of h0,fun m1 hm1=>?_⟩
  rw[Zk _ r (by rw[List.length_map];show r <= 9;omega)]
  have s1:=s0.trans (aB.upd (o:=.lst ((nine.map V.str).drop r)) hm1)
  have h1:=ao (H:=H0) (a:=m1) (o:=.lst ((nine.map V.str).drop r))
  generalize upd H0 m1 (.lst ((nine.map V.str).drop r))=H1 at s1 h1
  have nms:∀ k,k < 5->((nine.map V.str).drop r)[k]? = some (.str (Vn r k)):=fun k hk=>by
   rw[← List.map_drop,List.getElem?_map,atc hr5 hk]
   rfl
  refine hN _ _ ?_
  refine Nx fun N hN=>?_
  tm_up
  refine⟨a,ns,0,rfl,s1.seq hS,hl,?_⟩
  tm_up
  rw[show V.int ((jD ns 0) % 4)=V.int (pn:Int) from congrArg V.int hpn]
  refine hN _ _ ?_
  refine Nx fun N hN=>?_
  refine⟨big (by show 0 <= 1000;omega),fun tl htl=>?_⟩
  have s2:=s1.trans (aB.upd (o:=.lst []) htl)
  have h2:=aB.upd (o:=.lst []) htl _ _ h1
  have ht2:=ao (H:=H1) (a:=tl) (o:=.lst [])
  have ntm:m1≠tl:=aD h1 htl
  have ntl:H tl=none:=s1.free htl
  generalize upd H1 tl (.lst [])=H2 at s2 h2 ht2
  have p62:(2:Int) ^ 62=4611686018427387904:=by decide
  refine hN _ _ ?_
  refine Nx fun N hN=>?_
  refine⟨_,rfl,(pn:Int),rfl,by rw[p62];omega,by rw[p62];omega,?_⟩
  refine yp (n:=((pn:Int)).toNat) (fun i σ H'=>∃ (u v:Option V) (ys:List V) (vw:Vw),σ=[some (.ref a),some (.ref m1),some (.int (pn:Int)),some (.ref tl),u,v,none,none,none,none,none]/\aB H H'/\H' m1=some (.lst ((nine.map V.str).drop r))/\H' tl=some (.lst ys)/\Paired (Yu (strip tl H')) ys vw/\vw.length=i/\EI r pn ((List.range i).map (Vn r)) vw)
   ⟨none,none,[],[],rfl,s2,h2,ht2,.nil,rfl,⟨rfl,fun j q e=>by simp at e,fun q h=>nomatch h⟩⟩ ?_ ?_
  ·rintro i σ H3 hi ⟨u,v,ys,vw,rfl,s3,h3,ht3,pv3,vl,ei⟩
   have hi4:i < 4:=by omega
   have yl:=cj pv3
   refine⟨_,rfl,a,ns,1,rfl,s3.seq hS,hl,?_⟩
   refine⟨_,rfl,_,_,rfl,fun sz hsz0 hsz1=>?_⟩
   obtain⟨m,hm,aCl⟩:=acX sz (k:=13) (by decide)
   refine⟨_,_,rfl,rfl,(by decide:(0:Int) < 13),?_⟩
   rw[show V.int (sz % 13)=V.int (m:Int) from congrArg V.int hm]
   refine⟨_,rfl,.inl ⟨rfl,_,bu.of ht3⟩,?_⟩
   refine⟨_,rfl,_,rfl,ixL (bu.of h3) (n:=i) (by omega) (nms i (by omega)) ?_⟩
   tm_up
   refine⟨.inl ⟨by decide,by decide⟩,?_⟩
   refine .inl ⟨_,_,rfl,rfl,?_⟩
   refine⟨_,rfl,?_⟩
   refine⟨a,ns,8+18 * i,m,by show [V.ref a,V.int (8+18 * (0+(i:Int))),V.int (m:Int)]=_;rw[show (8:Int)+18 * (0+(i:Int))=((8+18 * i:Nat):Int) by omega],s3.seq hS,hl,by omega,fun l0 xs0 ss0 H4 s4 n4 h4 g4 gt4 atd=>?_⟩
   tm_up
   refine .inl ⟨l0,xs0,rfl,bu.of h4,fun l hl0=>?_⟩
   rw[show Nj xs0 none (some 24)=xs0.take 24 from amE xs0 24]
   have ht4:=s4 _ _ ht3
   have s5:=s4.trans (aB.upd (o:=.lst (xs0.take 24)) hl0)
   have nl:l≠tl:=fun e=>by rw[e,ht4] at hl0;exact nomatch hl0
   have h5:upd H4 l (.lst (xs0.take 24)) l=some (.lst (xs0.take 24)):=ao
   have g5:lY (upd H4 l (.lst (xs0.take 24))) (xs0.take 24) (ss0.take 24):=lY.same (aB.upd (o:=.lst (xs0.take 24)) hl0) (XX 24 g4)
   have gt5:∀ s∈ss0.take 24,qP s:=fun s hs=>gt4 s (List.mem_of_mem_take hs)
   have aq6:(ss0.take 24).length <= 24:=by rw[List.length_take];omega
   generalize upd H4 l (.lst (xs0.take 24))=H5 at s5 h5 g5
   generalize xs0.take 24=xs at h5 g5
   generalize ss0.take 24=ss at g5 gt5 aq6
   have ht5:=s5 _ _ ht3
   tm_up
   refine⟨big (by show 2 <= 1000;omega),fun p hp=>?_⟩
   tm_up
   have ht6:upd H5 p (.tup [.str (Vn r i),.ref l]) tl=some (.lst ys):=aB.upd hp _ _ ht5
   refine⟨tl,ys,_,rfl,rfl,ht6,bx (by omega),?_⟩
   obtain⟨s6,h6,t6,p6⟩:=Oo (n:=Vn r i) (s3.trans s5) ntl ht5 (s5 _ _ h3) ntm (cu (fun _ _ q=>q.same (zB s5)) pv3) hp (th:=.pl ss) ⟨l,xs,rfl,v9 nl h5,lY.strip ht5 g5⟩ _ rfl
   exact⟨_,_,_,_,rfl,s6,h6,t6,p6,by rw[List.length_append,vl];rfl,by rw[List.range_succ,List.map_append];exact ei.plus aq6 gt5⟩
  rintro σ H3 ⟨u,v,ys,vw,rfl,s3,h3,ht3,pv3,vl,ei⟩
  rw[show ((pn:Int)).toNat=pn by omega] at vl ei
  refine hN _ _ ?_
  refine Nx fun N hN=>?_
  tm_up
  refine⟨a,ns,0,rfl,s3.seq hS,hl,?_⟩
  tm_up
  refine .inl (.inr ⟨_,rfl,?_⟩)
  obtain⟨cn,hcn,aCn,hcp⟩:∃ cn:Nat,(jD ns 0 / 4 % 3) * (if decide ((pn:Int) > 0)=true then 1 else 0)=(cn:Int)/\cn <= 2/\(0 < cn->0 < pn):=by
   obtain⟨m,hm,hm3⟩:=acX (jD ns 0 / 4) (k:=3) (by decide)
   by_cases h:(pn:Int) > 0
   ·exact⟨m,by rw[hm,if_pos (decide_eq_true h)];omega,by omega,by omega⟩
   ·exact⟨0,by rw[if_neg (by simpa using h)];omega,by omega,by omega⟩
  have b3:=Int.emod_lt_of_pos (jD ns 0 / 4) (show (0:Int) < 3 by decide)
  have c3:=Int.emod_nonneg (jD ns 0 / 4) (show (3:Int)≠0 by decide)
  have p64:(2:Int) ^ 64=18446744073709551616:=by decide
  refine .inl ⟨_,_,rfl,rfl,.inl ⟨by rw[p64];omega,by rw[p64];omega⟩,?_⟩
  rw[show V.int ((jD ns 0 / 4 % 3) * (if decide ((pn:Int) > 0)=true then 1 else 0))=V.int (cn:Int) from congrArg V.int hcn]
  refine⟨(cn:Int),rfl,by rw[p62];omega,by rw[p62];omega,?_⟩
  refine yp (n:=((cn:Int)).toNat) (fun i σ H'=>∃ (u v w1 w2 w3 w4:Option V) (ys:List V) (vw:Vw),σ=[some (.ref a),some (.ref m1),some (.int (pn:Int)),some (.ref tl),u,v,w1,w2,w3,w4,none]/\aB H H'/\H' m1=some (.lst ((nine.map V.str).drop r))/\H' tl=some (.lst ys)/\Paired (Yu (strip tl H')) ys vw/\vw.length=pn+i/\EI r pn ((List.range (pn+i)).map (Vn r)) vw)
   ⟨_,_,_,_,_,_,_,_,rfl,s3,h3,ht3,pv3,vl,ei⟩ ?_ ?_
  ·rintro i σ H4 hi ⟨u,v,w1,w2,w3,w4,ys,vw,rfl,s4,h4,ht4,pv4,vl,ei⟩
   have aCo:0 < pn:=hcp (by omega)
   have yl:=cj pv4
   tm_up
   refine⟨a,ns,2+i,by show [V.ref a,V.int (2+(0+(i:Int)))]=_;rw[show (2:Int)+(0+(i:Int))=((2+i:Nat):Int) by omega],s4.seq hS,hl,?_⟩
   generalize jD ns (2+i)=cl
   refine⟨fun x H'=>H'=H4/\∃ lt:Int,x=.int lt/\0 <= lt/\lt <= 999,?_,?_⟩
   ·tm_up
    show if decide (V.int (cl % 7)=V.int 5)=true then _ else _
    cases decide (V.int (cl % 7)=V.int 5) with
    | true =>
     refine wF ?_
     tm_up
     exact⟨rfl,_,rfl,by have:=Int.emod_nonneg cl (show (1000:Int)≠0 by decide);omega,by have:=Int.emod_lt_of_pos cl (show (0:Int) < 1000 by decide);omega⟩
    | false =>
     refine cZ ?_
     tm_up
     exact⟨rfl,_,rfl,by have:=Int.emod_nonneg (cl / 7) (show (12:Int)≠0 by decide);omega,by have:=Int.emod_lt_of_pos (cl / 7) (show (0:Int) < 12 by decide);omega⟩
   rintro _ H' ⟨e,lt,rfl,lt0,lt9⟩
   rw[e]
   clear e H'
   tm_up
   refine⟨a,ns,4+i,by show [V.ref a,V.int (4+(0+(i:Int)))]=_;rw[show (4:Int)+(0+(i:Int))=((4+i:Nat):Int) by omega],s4.seq hS,hl,?_⟩
   generalize jD ns (4+i)=c4
   tm_up
   refine⟨big (by show 2 <= 1000;omega),fun q0 hq0=>?_⟩
   have s5:=aB.upd (o:=.lst [V.int 9,V.int 2]) hq0
   have hq5:=ao (H:=H4) (a:=q0) (o:=.lst [V.int 9,V.int 2])
   generalize upd H4 q0 (.lst [V.int 9,V.int 2])=H5 at s5 hq5
   tm_up
   refine .inl (.inr ⟨_,rfl,?_⟩)
   obtain⟨n5,d5,e5,x5,d50,d59⟩:∃ (n:Nat) (d:Int),(if decide (0 < cl % 3)=true then (1:Int) else 0)=(n:Int)/\[V.int 9,V.int 2][n]? = some (.int d)/\0 < d/\d <= 9:=by
    by_cases h:0 < cl % 3
    ·exact⟨1,2,by rw[if_pos (decide_eq_true h)];rfl,rfl,by decide,by decide⟩
    ·exact⟨0,9,by rw[if_neg (by simpa using h)];rfl,rfl,by decide,by decide⟩
   refine ixL (bu.of hq5) (n:=n5) e5 x5 ?_
   tm_up
   refine⟨d50,?_⟩
   tm_up
   obtain⟨sl,hsl⟩:∃ z,z=1+c4 % d5:=⟨_,rfl⟩
   have sl1:1 <= sl:=by have:=Int.emod_nonneg c4 (show d5≠0 by omega);omega
   have sl9:sl <= 9:=by have:=Int.emod_lt_of_pos c4 d50;omega
   refine⟨a,ns,6+i,by show [V.ref a,V.int (6+(0+(i:Int)))]=_;rw[show (6:Int)+(0+(i:Int))=((6+i:Nat):Int) by omega],(s4.trans s5).seq hS,hl,?_⟩
   generalize jD ns (6+i)=c6
   obtain⟨c,hc,hcl⟩:=acX c6 (k:=(pn:Int)) (by omega)
   tm_up
   refine⟨(by omega:(0:Int) < (pn:Int)),?_⟩
   refine ixL (bu.of (s5 _ _ h4)) (n:=c) hc (nms c (by omega)) ?_
   tm_up
   refine⟨.inl ⟨rfl,_,bu.of (s5 _ _ ht4)⟩,?_⟩
   tm_up
   refine ixL (bu.of (s5 _ _ h4)) (n:=pn+i) (by omega) (nms (pn+i) (by omega)) ?_
   tm_up
   refine⟨big (by show 4 <= 1000;omega),fun p0 hp0=>?_⟩
   obtain⟨tn,htn⟩:∃ z,z=decide (V.int (cl / 84 % 2)=V.int 1):=⟨_,rfl⟩
   have e6:upd H5 p0 (.tup [V.str (Vn r c),V.int lt,V.int (1+c4 % d5),V.bl (decide (V.int (cl / 84 % 2)=V.int 1))])=upd H5 p0 (.tup [V.str (Vn r c),V.int lt,V.int sl,V.bl tn]):=by rw[hsl,htn]
   have s6:=s5.trans (aB.upd (o:=.tup [V.str (Vn r c),V.int lt,V.int sl,V.bl tn]) hp0)
   have h6:=ao (H:=H5) (a:=p0) (o:=.tup [V.str (Vn r c),V.int lt,V.int sl,V.bl tn])
   have np0:p0≠tl:=fun e=>by rw[e,s5 _ _ ht4] at hp0;exact nomatch hp0
   have go:∀ H6,H6=upd H5 p0 (.tup [V.str (Vn r c),V.int lt,V.int (1+c4 % d5),V.bl (decide (V.int (cl / 84 % 2)=V.int 1))])->aB H4 H6/\H6 p0=some (.tup [V.str (Vn r c),V.int lt,V.int sl,V.bl tn]):=by
    rintro H6 rfl
    rw[e6]
    exact⟨s6,h6⟩
   clear s6 h6
   generalize hH6:upd H5 p0 _=H6
   obtain⟨s6,h6⟩:=go H6 hH6.symm
   clear go e6
   have ht6:=s6 _ _ ht4
   tm_up
   refine⟨big (by show 2 <= 1000;omega),fun p hp=>?_⟩
   tm_up
   have ht7:upd H6 p (.tup [.str (Vn r (pn+i)),.ref p0]) tl=some (.lst ys):=aB.upd hp _ _ ht6
   refine⟨tl,ys,_,rfl,rfl,ht7,bx (by omega),?_⟩
   obtain⟨s8,h8,t8,p8⟩:=Oo (n:=Vn r (pn+i)) (s4.trans s6) ntl ht6 (s6 _ _ h4) ntm (cu (fun _ _ q=>q.same (zB s6)) pv4) hp (th:=.cn (Vn r c) lt sl tn) ⟨p0,rfl,v9 np0 h6⟩ _ rfl
   exact⟨_,_,_,_,_,_,_,_,rfl,s8,h8,t8,p8,by rw[List.length_append,vl];rfl,by rw[← Nat.add_assoc,List.range_succ,List.map_append];exact ei.more (by omega) (by omega) ⟨lt0,lt9,sl1,sl9⟩⟩
  rintro σ H4 ⟨u,v,w1,w2,w3,w4,ys,vw,rfl,s4,h4,ht4,pv4,vl,ei⟩
  rw[show ((cn:Int)).toNat=cn by omega] at vl ei
  refine hN _ _ ?_
  refine Nx fun N hN=>?_
  tm_up
  refine⟨a,ns,0,rfl,s4.seq hS,hl,?_⟩
  tm_up
  refine .inl (.inr ⟨_,rfl,?_⟩)
  obtain⟨xn,hxn,hx7⟩:∃ xn:Nat,7 * (if decide (V.int (jD ns 0 / 180 % 8)=V.int 1)=true then (1:Int) else 0)=(xn:Int)/\(xn=0∨xn=7):=by
   cases decide (V.int (jD ns 0 / 180 % 8)=V.int 1)
   ·exact⟨0,by rw[if_neg (by decide)];rfl,.inl rfl⟩
   ·exact⟨7,by rw[if_pos rfl];rfl,.inr rfl⟩
  refine .inl ⟨_,_,rfl,rfl,.inl ⟨by decide,by decide⟩,?_⟩
  rw[show V.int (7 * (if decide ((fun i j:Int=>V.int (i % j)) (jD ns 0 / 180) 8=V.int 1)=true then 1 else 0))=V.int (xn:Int) from congrArg V.int hxn]
  refine⟨(xn:Int),rfl,by rw[p62];omega,by rw[p62];omega,?_⟩
  refine yp (n:=((xn:Int)).toNat) (fun i σ H'=>∃ (u v w1 w2 w3 w4 w5:Option V) (ys:List V) (vw:Vw),σ=[some (.ref a),some (.ref m1),some (.int (pn:Int)),some (.ref tl),u,v,w1,w2,w3,w4,w5]/\aB H H'/\H' m1=some (.lst ((nine.map V.str).drop r))/\H' tl=some (.lst ys)/\Paired (Yu (strip tl H')) ys vw/\vw.length=pn+cn+i/\EI r pn ((List.range (pn+cn)).map (Vn r)++(List.range i).map xnK) vw)
   ⟨_,_,_,_,_,_,_,_,_,rfl,s4,h4,ht4,pv4,vl,by rw[show (List.range 0).map xnK=[] from rfl,List.append_nil];exact ei⟩ ?_ ?_
  ·rintro i σ H5 hi ⟨u,v,w1,w2,w3,w4,w5,ys,vw,rfl,s5,h5,ht5,pv5,vl,ei⟩
   have hi7:i < 7:=by omega
   have yl:=cj pv5
   tm_up
   refine⟨a,ns,6,rfl,s5.seq hS,hl,?_⟩
   generalize jD ns 6=c6
   obtain⟨jn,hjn,hj3⟩:=acX c6 (k:=3) (by decide)
   tm_up
   refine⟨by rw[p62];omega,by rw[p62];omega,fun D b hD=>?_⟩
   refine ZQ (lo:=0) (n:=(c6 % 3+1).toNat) (fun j zs σ H'=>∃ (x:Option V) (ms:List Int),σ=[x,some (.ref a),some (.ref m1),some (.int (pn:Int)),some (.ref tl),some (.int (0+(i:Int))),v,w1,w2,w3,w4,w5]/\H'=upd H5 D (.lst zs)/\zs=ms.map V.int/\ms.length=j) ⟨none,[],rfl,rfl,rfl,rfl⟩ ?_ ?_
   ·rintro j zs σ H' hj ⟨x,ms,rfl,rfl,rfl,hlen⟩ N hN
    refine jF ?_
    tm_up
    refine⟨a,ns,1,rfl,lD (s5.seq hS) hD,hl,?_⟩
    tm_up
    refine⟨.inl ⟨by decide,by decide⟩,?_⟩
    tm_up
    refine⟨_,_,rfl,fun r h0 h1=>⟨ao,?_,?_⟩⟩
    ·rw[List.length_map]
     exact bx (by omega)
    ·exact hN _ _ _ ⟨some _,ms++[r],rfl,eU,by simp,by simp[hlen]⟩
   ·rintro zs σ H' ⟨x,ms,rfl,rfl,rfl,hlen⟩
    have s6:=aB.upd (o:=.lst (ms.map V.int)) hD
    have h6:=ao (H:=H5) (a:=D) (o:=.lst (ms.map V.int))
    generalize upd H5 D (.lst (ms.map V.int))=H6 at s6 h6
    have ht6:=s6 _ _ ht5
    obtain⟨cx,hcx,ecx⟩:=axw hi7
    tm_up
    refine⟨.inl ⟨rfl,_,bu.of ht6⟩,?_⟩
    tm_up
    refine .inr (.inr ⟨_,_,cx,rfl,rfl,big (by decide +kernel),?_,?_⟩)
    ·rw[show (0:Int)+(i:Int)=(i:Int) by omega]
     exact Q0 hcx
    tm_up
    refine .inr (.inl ⟨_,_,rfl,rfl,big ecx.2,?_⟩)
    rw[ecx.1]
    tm_up
    refine⟨⟨_,bu.of h6⟩,fun D2 b2 hD2=>?_⟩
    refine mY (K:=K) (xs:=ms.map V.int) (fun j zs σ H'=>∃ (x:Option V) (ss:List Sg),σ=[x,some (.ref a),some (.ref m1),some (.int (pn:Int)),some (.ref tl),some (.int (0+(i:Int))),v,w1,w2,w3,w4,some (.ref D)]/\aB H6 H'/\H' D2=some (.lst zs)/\lY H' zs ss/\ss.length=j/\j <= ms.length/\∀ s∈ss,qP s)
     ⟨none,[],rfl,aB.upd hD2,ao,.nil,rfl,Nat.zero_le _,fun _ h=>nomatch h⟩ ?_ ?_ ?_
    ·rintro j zs σ H' ⟨x,ss,rfl,s7,_⟩
     exact s7.seq (bu.of h6)
    ·rintro j zs x σ H' hx ⟨x2,ss,rfl,s7,hDl,hsg,hsl,hj,hg⟩ N hN
     have hjl:j < ms.length:=by
      have:=(List.getElem?_eq_some_iff.mp hx).1
      rw[List.length_map] at this
      exact this
     obtain⟨z,hz,rfl⟩:=IK hx
     refine jF ?_
     refine⟨_,rfl,z,rfl,fun p s gs hp=>⟨aB.upd hp _ _ hDl,?_,?_⟩⟩
     ·rw[cj hsg,hsl]
      exact bx (by omega)
     ·have hD4:=aB.upd (o:=.tup [.str s.1.str,.int s.2]) hp _ _ hDl
      refine hN _ _ _ ⟨_,ss++[s],rfl,gO (s7.trans (aB.upd hp)) hD2,ao,pQ (ae6 hD4 (hsg.same (aB.upd hp))) (aio hD4 ⟨p,rfl,ao⟩),by simp[hsl],hjl,fun y hy=>?_⟩
      rcases List.mem_append.mp hy with z | z
      ·exact hg y z
      ·have:y=s:=by simpa using z
       rw[this]
       exact gs
    ·rintro zs σ H7 ⟨x2,ss,rfl,s7,hDl,hsg,hsl,hj,hg⟩
     have ht7:=s7 _ _ ht6
     have nD2:D2≠tl:=fun e=>by rw[e,ht6] at hD2;exact nomatch hD2
     have s57:=s6.trans s7
     have azE:ss.length <= 24:=by rw[hsl,List.length_map];omega
     tm_up
     refine⟨big (by show 2 <= 1000;omega),fun p hp=>?_⟩
     tm_up
     have ht8:upd H7 p (.tup [.str (xnK i),.ref D2]) tl=some (.lst ys):=aB.upd hp _ _ ht7
     refine⟨tl,ys,_,rfl,rfl,ht8,bx (by omega),?_⟩
     obtain⟨s8,h8,t8,p8⟩:=Oo (n:=xnK i) (s5.trans s57) ntl ht7 (s57 _ _ h5) ntm (cu (fun _ _ q=>q.same (zB s57)) pv5) hp (th:=.pl ss) ⟨D2,zs,rfl,v9 nD2 hDl,lY.strip ht7 hsg⟩ _ rfl
     exact⟨_,_,_,_,_,_,_,_,_,rfl,s8,h8,t8,p8,by rw[List.length_append,vl];rfl,by rw[List.range_succ,List.map_append,← List.append_assoc];exact ei.plus azE hg⟩
  rintro σ H5 ⟨u,v,w1,w2,w3,w4,w5,ys,vw,rfl,s5,h5,ht5,pv5,vl,ei⟩
  rw[show ((xn:Int)).toNat=xn by omega] at vl ei
  refine hN _ _ ?_
  tm_up
  exact q tl vw H5 s5 ntl ⟨ys,ht5,cu (fun _ _ q=>q.same (aaN tl H5)) pv5⟩ (ei.ok hr5 (by omega) hx7 (by omega))
inductive RN (C:Addr)(vs:List V)(H:Hp)(Q:VK)(E:XK):Prop
 | mk (x dx T_ B A:Addr) (i:Nat) (xs bs as:List V) (fU:vs=[.ref x]) (fV:H x=some (.ins C dx (Z6 T_ (i:Int) B A))) (iQ:H T_=some (.lst xs)) (nZ:H B=some (.lst bs)) (xM:H A=some (.lst as)) (h5_:T_≠B) (h6_:i+as.length <= xs.length) (h7_:xs.length+bs.length <= 1000) (h8_:Q .non (upd H T_ (.lst (xs.take i++bs++xs.drop (i+as.length))))):RN C vs H Q E
theorem yj (T:Txt K w mg t):bU P w K mg base jt (0+1) t.jx t.Jh ["self"] (RN t.bR):=by
 refine T.Aw.ok afd (fun vs H Q E h=>?_) (fun cdv A outer s H vs Q E hr h=>?_)
 ·obtain⟨_,_,_,_,_,_,_,_,_,rfl,_⟩:=h
  rfl
 ·obtain⟨x,dx,T_,B,A_,i,xs,bs,as,rfl,hx,hT,hB,hA,hne,hi,hz,q⟩:=h
  refine bj (aq (qH (cY (pv 0) rfl) (aii (cY (pv 0) rfl) (lC (cY (pv 0) rfl)) (lC (aW (bO.or (aQ.or bQ)) (cY (pv 0) rfl) (aL (aN.or aO) rfl T.cB cA (aa (cY (pv 0) rfl) aj))))))) ?_
  refine⟨_,rfl,x,_,dx,_,_,rfl,hx,T.iJ,T.gJ,Z8 _ _ _ _,?_⟩
  refine⟨_,rfl,x,_,dx,_,_,rfl,hx,T.iJ,T.gH,Z7 _ _ _ _,?_⟩
  refine⟨_,rfl,x,_,dx,_,_,rfl,hx,T.iJ,T.jV,ae9 _ _ _ _,_,rfl,?_⟩
  refine⟨_,rfl,x,_,dx,_,_,rfl,hx,T.iJ,T.jV,ae9 _ _ _ _,?_⟩
  refine⟨_,rfl,x,_,dx,_,_,rfl,hx,T.iJ,T.iY,aec _ _ _ _,?_⟩
  refine .inl ⟨A_,as,rfl,.inl (bu.of hA),.inl ⟨_,_,rfl,rfl,_,rfl,?_⟩⟩
  refine⟨T_,B,xs,bs,(i:Int),((i+as.length:Nat):Int),rfl,rfl,rfl,by simp,hT,hB,hne,by omega,by omega,by omega,Nat.le_trans hz (by decide),?_⟩
  rw[Int.toNat_natCast,Int.toNat_natCast]
  exact q
inductive RP (c:Cs)(vs:List V)(H:Hp)(Q:VK)(E:XK):Prop
 | mk (x:Addr) (F:Addr->Prop) (vw:Vw) (ps fs:List Vw) (fU:vs=[.ref x]) (fV:Nz c H x F vw ps fs) (iQ:ps.length+fs.length <= 900) (nZ:(ps=[]->∀ H',aB H H'->RX E c .akd H')) (xM:(∀ X4 v,ps=X4++[v]->∀ H',Fr F H H'->Nz c H' x F v X4 (fs++[vw])->Q .non H')):RP c vs H Q E
theorem Gm (T:Txt K w mg t):bU P w K mg base jt (0+2) t.jy t.Ji ["self"] (RP (cs t)):=by
 have Bj:=yj (P:=P) (w:=w) (base:=base) T
 refine T.Ax.ok Rk (fun vs H Q E h=>?_) (fun cdv A outer s H vs Q E hr h=>?_)
 ·obtain⟨_,_,_,_,_,rfl,_⟩:=h
  rfl
 ·obtain⟨x,F,vw,ps,fs,rfl,B,hps,q1,q2⟩:=h
  refine bj (ak (bC (aJ (Uw (aZ hr)) (cY (pv 0) rfl) (bZ aj) (aR _)) (aq lU) aM) (ak (aU (i:=1) Rk.nd rfl (Or.inl rfl) (aeV PySem.F.plainAttrs_list PySem.F.slot_list_pop PySem.F.type_list_pop aqd (cY (pv 0) rfl))) (ak (bh (ir (pv 1) T.iJ T.afm Bj (hr.mono (by decide)) T.Jv .nil aF)) (aq (bh (jh PySem.F.plainAttrs_list PySem.F.slot_list_append PySem.F.type_list_append bK (cY (pv 0) rfl) (aa (pv 1) aj))))))) ?_
  obtain⟨L,D,U,all,M,Ps,Fs,es,us,b,iM,pp,pf,f⟩:=B.ex
  obtain⟨dx,hx⟩:=b.hx
  obtain⟨ds,hD,pD⟩:=b.hD
  have dl:=cj pD
  have pl:=cj pp
  have pe:=b.past.len
  refine⟨_,rfl,x,_,dx,_,_,rfl,hx,T.aX,T.fY,Rb _ _ _,big (by show 0 <= 1000;omega),fun e0 he0=>?_⟩
  have s0:=aB.upd (o:=.lst []) he0
  refine⟨D,e0,ds,rfl,rfl,bu.of (s0 _ _ hD),bu.of ao,_,rfl,?_⟩
  generalize upd H e0 (.lst [])=H0 at s0
  refine bJ (fun h=>?_) (fun h=>?_)
  ·have hds:ds=[]:=List.isEmpty_iff.mp h
   rw[hds] at dl
   have hp0:ps=[]:=List.length_eq_zero_iff.mp (by rw[← pl,pe,← dl];rfl)
   have q:=q1 hp0 H0 s0
   exact (Bool.noConfusion (show false=true from q.1))
  have hne:ds≠[]:=fun z=>h (by rw[z];rfl)
  obtain⟨ds0,v,rfl⟩:∃ ds0 v,ds=ds0++[v]:=⟨ds.dropLast,ds.getLast hne,(List.dropLast_concat_getLast hne).symm⟩
  obtain⟨es0,e,he,pD0,hd⟩:=aaa pD
  have hvo:=hd.1
  subst hvo
  have B0:=B.same s0
  have b0:=b.kept f (.same s0)
  have hd0:xX t.bR H0 (.ref e.o) e:=pW (F:=fun _=>True) (.same s0) ⟨trivial,trivial⟩ hd
  have ok:=b.dd e (.inl (by rw[he];exact List.mem_append_right _ (List.mem_singleton_self _)))
  obtain⟨hT,TD,TU⟩:=b0.lists ok.1
  have nTB:e.T≠e.B:=by
   rcases ok.1 with z | ⟨a,ha,z⟩
   ·rw[z];exact Ne.symm ok.2.1.1
   ·rw[z];exact Ne.symm (ok.2.1.2.2.2 a ha)
  obtain⟨Ps0,S,_,_,ft,hMS⟩:=(he ▸ b.past).last
  have fit:e.i+e.as.length <= (M e.T).length:=by rw[hMS];exact as7 ft
  have hx0:=s0 _ _ hx
  have hD0:=s0 _ _ hD
  obtain⟨ux,hU0,pU⟩:=b0.hU
  have azG:(M e.T).length <= 200:=by
   rcases ok.1 with z | ⟨a,ha,z⟩
   ·rw[z];exact Nat.le_trans (b.wf M (.inr (.inl rfl))).len (by decide)
   ·rw[z];exact ((b.wf M (.inr (.inl rfl))).ln a ha).1
  refine⟨_,rfl,x,_,dx,_,_,rfl,hx0,T.aX,T.fY,Rb _ _ _,?_⟩
  refine⟨.inl ⟨rfl,_,bu.of hD0⟩,D,ds0++[V.ref e.o],V.ref e.o,rfl,rfl,hD0,by simp,?_⟩
  rw[List.dropLast_concat]
  have nD:∀ {y C d fs},H0 y=some (.ins C d fs)->y≠D:=fun hy=>vL hy hD0 (by intro z;cases z)
  have nT:∀ {y C d fs},H0 y=some (.ins C d fs)->y≠e.T:=fun hy=>vL hy hT (by intro z;cases z)
  have r1:∀ {y o},H0 y=some o->y≠D->upd H0 D (.lst ds0) y=some o:=fun hy hn=>by rw[aA hn];exact hy
  refine⟨_,rfl,e.o,e.d,_,rfl,r1 hd0.2.1 (nD hd0.2.1),ait _ _ _ _,?_⟩
  refine⟨e.o,e.d,e.T,e.B,e.A,e.i,M e.T,e.bs,e.as,rfl,r1 hd0.2.1 (nD hd0.2.1),r1 hT TD,r1 hd0.2.2.1 ok.2.1.2.1,r1 hd0.2.2.2 ok.2.2.1.2.1,nTB,fit,by have:=ok.2.2.2.1;omega,?_⟩
  have r2:∀ {y o},H0 y=some o->y≠D->y≠e.T->upd (upd H0 D (.lst ds0)) e.T (.lst ((M e.T).take e.i++e.bs++(M e.T).drop (e.i+e.as.length))) y=some o:=fun hy hn hn'=>by rw[aA hn',aA hn];exact hy
  refine⟨_,rfl,x,_,dx,_,_,rfl,r2 hx0 (nD hx0) (nT hx0),T.aX,T.dJ,Fe _ _ _,?_⟩
  have hU1:=r2 hU0 (Ne.symm b.DU) (Ne.symm TU)
  have ul:=cj pU
  have fl:=cj pf
  have fe:=b.fut.len
  refine⟨.inl ⟨rfl,_,bu.of hU1⟩,_,rfl,U,_,_,rfl,rfl,hU1,bx (by omega),?_⟩
  obtain⟨X4,v,e1,B2⟩:=Bk.avq b0 (Is.kept (F:=F) (.same s0) iM) (cu (fun _ _ q=>Is.kept (F:=F) (.same s0) q) pp) (cu (fun _ _ q=>Is.kept (F:=F) (.same s0) q) pf) f B.wv he (Ff (fun _ e' _ q=>pW (F:=fun _=>True) (.same s0) ⟨trivial,trivial⟩ q) pD0) hd0 pU
   (H2:=upd (upd (upd H0 D (.lst ds0)) e.T (.lst ((M e.T).take e.i++e.bs++(M e.T).drop (e.i+e.as.length)))) U (.lst (ux++[.ref e.o]))) (fun y o hy y1 y2 y3=>by rw[aA y3];exact r2 hy y2 y1) (by rw[aA TU,ao];exact congrArg (fun z=>some (HO.lst z)) jK.symm) (by rw[aA b.DU,aA (Ne.symm TD),ao]) ao
  refine q2 X4 v e1 _ (fun y o hy hn=>?_) B2
  have fT:F e.T:=by
   rcases ok.1 with z | ⟨a,ha,z⟩
   ·rw[z];exact f.L
   ·rw[z];exact f.l a ha
  rw[aA (show y≠U from fun z=>hn (z ▸ f.U))]
  exact r2 (s0 _ _ hy) (fun z=>hn (z ▸ f.D)) (fun z=>hn (z ▸ fT))
inductive aaO (C:Addr)(vs:List V)(H:Hp)(Q:VK)(E:XK):Prop
 | mk (x dx T_ B A:Addr) (i:Nat) (xs bs as:List V) (fU:vs=[.ref x]) (fV:H x=some (.ins C dx (Z6 T_ (i:Int) B A))) (iQ:H T_=some (.lst xs)) (nZ:H B=some (.lst bs)) (xM:H A=some (.lst as)) (h5_:T_≠A) (h6_:i+bs.length <= xs.length) (h7_:xs.length+as.length <= 1000) (h8_:Q .non (upd H T_ (.lst (xs.take i++as++xs.drop (i+bs.length))))):aaO C vs H Q E
theorem aaP (T:Txt K w mg t):bU P w K mg base jt (0+1) t.qy t.U5 ["self"] (aaO t.bR):=by
 refine T.Mg.ok ake (fun vs H Q E h=>?_) (fun cdv A outer s H vs Q E hr h=>?_)
 ·obtain⟨_,_,_,_,_,_,_,_,_,rfl,_⟩:=h
  rfl
 ·obtain⟨x,dx,T_,B,A_,i,xs,bs,as,rfl,hx,hT,hB,hA,hne,hi,hz,q⟩:=h
  refine bj (aq (qH (cY (pv 0) rfl) (aii (cY (pv 0) rfl) (lC (cY (pv 0) rfl)) (lC (aW (bO.or (aQ.or bQ)) (cY (pv 0) rfl) (aL (aN.or aO) rfl T.cB cA (aa (cY (pv 0) rfl) aj))))))) ?_
  refine⟨_,rfl,x,_,dx,_,_,rfl,hx,T.iJ,T.iY,aec _ _ _ _,?_⟩
  refine⟨_,rfl,x,_,dx,_,_,rfl,hx,T.iJ,T.gH,Z7 _ _ _ _,?_⟩
  refine⟨_,rfl,x,_,dx,_,_,rfl,hx,T.iJ,T.jV,ae9 _ _ _ _,_,rfl,?_⟩
  refine⟨_,rfl,x,_,dx,_,_,rfl,hx,T.iJ,T.jV,ae9 _ _ _ _,?_⟩
  refine⟨_,rfl,x,_,dx,_,_,rfl,hx,T.iJ,T.gJ,Z8 _ _ _ _,?_⟩
  refine .inl ⟨B,bs,rfl,.inl (bu.of hB),.inl ⟨_,_,rfl,rfl,_,rfl,?_⟩⟩
  refine⟨T_,A_,xs,as,(i:Int),((i+bs.length:Nat):Int),rfl,rfl,rfl,by simp,hT,hA,hne,by omega,by omega,by omega,Nat.le_trans hz (by decide),?_⟩
  rw[Int.toNat_natCast,Int.toNat_natCast]
  exact q
inductive RQ (c:Cs)(vs:List V)(H:Hp)(Q:VK)(E:XK):Prop
 | mk (x:Addr) (F:Addr->Prop) (vw:Vw) (ps fs:List Vw) (fU:vs=[.ref x]) (fV:Nz c H x F vw ps fs) (iQ:ps.length+fs.length <= 900) (nZ:(fs=[]->∀ H',aB H H'->RX E c .akd H')) (xM:(∀ fs0 v,fs=fs0++[v]->∀ H',Fr F H H'->Nz c H' x F v (ps++[vw]) fs0->Q .non H')):RQ c vs H Q E
theorem RT (T:Txt K w mg t):bU P w K mg base jt (0+2) t.jz t.Jj ["self"] (RQ (cs t)):=by
 have Vo:=aaP (P:=P) (w:=w) (base:=base) T
 refine T.Ay.ok Rm (fun vs H Q E h=>?_) (fun cdv A outer s H vs Q E hr h=>?_)
 ·obtain⟨_,_,_,_,_,rfl,_⟩:=h
  rfl
 ·obtain⟨x,F,vw,ps,fs,rfl,B,hps,q1,q2⟩:=h
  refine bj (ak (bC (aJ (Uw (aZ hr)) (cY (pv 0) rfl) (bZ aj) (aR _)) (aq lU) aM) (ak (aU (i:=1) Rm.nd rfl (Or.inl rfl) (aeV PySem.F.plainAttrs_list PySem.F.slot_list_pop PySem.F.type_list_pop aqd (cY (pv 0) rfl))) (ak (bh (ir (pv 1) T.iJ T.aaw Vo (hr.mono (by decide)) T.Mh .nil aF)) (aq (bh (jh PySem.F.plainAttrs_list PySem.F.slot_list_append PySem.F.type_list_append bK (cY (pv 0) rfl) (aa (pv 1) aj))))))) ?_
  obtain⟨L,D,U,all,M,Ps,Fs,es,us,b,iM,pp,pf,f⟩:=B.ex
  obtain⟨dx,hx⟩:=b.hx
  obtain⟨ux,hU,pU⟩:=b.hU
  have ul:=cj pU
  have fl:=cj pf
  have fe:=b.fut.len
  refine⟨_,rfl,x,_,dx,_,_,rfl,hx,T.aX,T.dJ,Fe _ _ _,big (by show 0 <= 1000;omega),fun e0 he0=>?_⟩
  have s0:=aB.upd (o:=.lst []) he0
  refine⟨U,e0,ux,rfl,rfl,bu.of (s0 _ _ hU),bu.of ao,_,rfl,?_⟩
  generalize upd H e0 (.lst [])=H0 at s0
  refine bJ (fun h=>?_) (fun h=>?_)
  ·have hds:ux=[]:=List.isEmpty_iff.mp h
   rw[hds] at ul
   have hp0:fs=[]:=List.length_eq_zero_iff.mp (by rw[← fl,fe,← ul];rfl)
   have q:=q1 hp0 H0 s0
   exact (Bool.noConfusion (show false=true from q.1))
  have hne:ux≠[]:=fun z=>h (by rw[z];rfl)
  obtain⟨ux0,v,rfl⟩:∃ ux0 v,ux=ux0++[v]:=⟨ux.dropLast,ux.getLast hne,(List.dropLast_concat_getLast hne).symm⟩
  obtain⟨us0,e,he,pU0,hd⟩:=aaa pU
  have hvo:=hd.1
  subst hvo
  have b0:=b.kept f (.same s0)
  have hd0:xX t.bR H0 (.ref e.o) e:=pW (F:=fun _=>True) (.same s0) ⟨trivial,trivial⟩ hd
  have ok:=b.dd e (.inr (by rw[he];exact List.mem_append_right _ (List.mem_singleton_self _)))
  obtain⟨hT,TD,TU⟩:=b0.lists ok.1
  have nTA:e.T≠e.A:=by
   rcases ok.1 with z | ⟨a,ha,z⟩
   ·rw[z];exact Ne.symm ok.2.2.1.1
   ·rw[z];exact Ne.symm (ok.2.2.1.2.2.2 a ha)
  obtain⟨Fs0,_,ft,_⟩:=(he ▸ b.fut).last
  have fit:=ft.1
  have hx0:=s0 _ _ hx
  have hU0:=s0 _ _ hU
  obtain⟨ds,hD0,pD⟩:=b0.hD
  have azG:(M e.T).length <= 200:=by
   rcases ok.1 with z | ⟨a,ha,z⟩
   ·rw[z];exact Nat.le_trans (b.wf M (.inr (.inl rfl))).len (by decide)
   ·rw[z];exact ((b.wf M (.inr (.inl rfl))).ln a ha).1
  refine⟨_,rfl,x,_,dx,_,_,rfl,hx0,T.aX,T.dJ,Fe _ _ _,?_⟩
  refine⟨.inl ⟨rfl,_,bu.of hU0⟩,U,ux0++[V.ref e.o],V.ref e.o,rfl,rfl,hU0,by simp,?_⟩
  rw[List.dropLast_concat]
  have nU:∀ {y C d fs},H0 y=some (.ins C d fs)->y≠U:=fun hy=>vL hy hU0 (by intro z;cases z)
  have nT:∀ {y C d fs},H0 y=some (.ins C d fs)->y≠e.T:=fun hy=>vL hy hT (by intro z;cases z)
  have r1:∀ {y o},H0 y=some o->y≠U->upd H0 U (.lst ux0) y=some o:=fun hy hn=>by rw[aA hn];exact hy
  refine⟨_,rfl,e.o,e.d,_,rfl,r1 hd0.2.1 (nU hd0.2.1),aed _ _ _ _,?_⟩
  refine⟨e.o,e.d,e.T,e.B,e.A,e.i,M e.T,e.bs,e.as,rfl,r1 hd0.2.1 (nU hd0.2.1),r1 hT TU,r1 hd0.2.2.1 ok.2.1.2.2.1,r1 hd0.2.2.2 ok.2.2.1.2.2.1,nTA,fit,by have:=ok.2.2.2.2;omega,?_⟩
  have r2:∀ {y o},H0 y=some o->y≠U->y≠e.T->upd (upd H0 U (.lst ux0)) e.T (.lst ((M e.T).take e.i++e.as++(M e.T).drop (e.i+e.bs.length))) y=some o:=fun hy hn hn'=>by rw[aA hn',aA hn];exact hy
  refine⟨_,rfl,x,_,dx,_,_,rfl,r2 hx0 (nU hx0) (nT hx0),T.aX,T.fY,Rb _ _ _,?_⟩
  have hD1:=r2 hD0 b.DU (Ne.symm TD)
  have dl:=cj pD
  have pl:=cj pp
  have pe:=b.past.len
  refine⟨.inl ⟨rfl,_,bu.of hD1⟩,_,rfl,D,_,_,rfl,rfl,hD1,bx (by omega),?_⟩
  obtain⟨fs0,v,e1,B2⟩:=Bk.avr b0 (Is.kept (F:=F) (.same s0) iM) (cu (fun _ _ q=>Is.kept (F:=F) (.same s0) q) pp) (cu (fun _ _ q=>Is.kept (F:=F) (.same s0) q) pf) f B.wv he pD hd0 (Ff (fun _ e' _ q=>pW (F:=fun _=>True) (.same s0) ⟨trivial,trivial⟩ q) pU0)
   (H2:=upd (upd (upd H0 U (.lst ux0)) e.T (.lst ((M e.T).take e.i++e.as++(M e.T).drop (e.i+e.bs.length)))) D (.lst (ds++[.ref e.o]))) (fun y o hy y1 y2 y3=>by rw[aA y2];exact r2 hy y3 y1) (by rw[aA TD,ao];exact congrArg (fun z=>some (HO.lst z)) jK.symm) ao (by rw[aA (Ne.symm b.DU),aA (Ne.symm TU),ao])
  refine q2 fs0 v e1 _ (fun y o hy hn=>?_) B2
  have fT:F e.T:=by
   rcases ok.1 with z | ⟨a,ha,z⟩
   ·rw[z];exact f.L
   ·rw[z];exact f.l a ha
  rw[aA (show y≠D from fun z=>hn (z ▸ f.D))]
  exact r2 (s0 _ _ hy) (fun z=>hn (z ▸ f.U)) (fun z=>hn (z ▸ fT))
inductive rM (c:Cs)(vs:List V)(H:Hp)(Q:VK)(E:XK):Prop
 | mk (i n:Int) (fU:vs=[.int i,.int n]) (fV:((0 <= i/\i <= n->Q .non H)/\(¬ (0 <= i/\i <= n)->RX E c .Rg H))):rM c vs H Q E
theorem jW (T:Txt K w mg t):bU P w K mg base jt (0+1) t.cH t.kJ ["at","last"] (rM (cs t)):=by
 refine T.cJ.ok Fl (fun vs H Q E h=>?_) (fun cdv A outer s H vs Q E hr h=>?_)
 ·obtain⟨_,_,rfl,_⟩:=h
  rfl
 ·obtain⟨i,n,rfl,q1,q2⟩:=h
  refine bj (aq (bC (cz (QX Im Im az (pv 0) (pv 1))) (aq lU) aM)) ?_
  refine⟨_,rfl,_,_,rfl,rfl,_,rfl,?_⟩
  refine bJ (fun h0=>?_) (fun h0=>?_)
  ·refine⟨_,rfl,_,_,rfl,rfl,_,rfl,?_⟩
   refine bJ (fun h=>?_) (fun h=>?_)
   ·have h':(!decide (i <= n))=true:=h
    have q:=q2 fun z=>by rw[decide_eq_true z.2] at h';cases h'
    exact (Bool.noConfusion (show false=true from q.1))
   ·have h':¬ (!decide (i <= n))=true:=h
    refine q1 ⟨of_decide_eq_true h0,?_⟩
    by_cases z:i <= n
    ·exact z
    ·exact absurd (by rw[decide_eq_false z];rfl) h'
  ·have q:=q2 fun z=>h0 (decide_eq_true z.1)
   exact⟨_,rfl,wF (Bool.noConfusion (show false=true from q.1))⟩
inductive amQ (vs:List V)(H:Hp)(Q:VK)(E:XK):Prop
 | mk (p:Addr) (s:Sn) (fU:vs=[.ref p]) (fV:H p=some (.tup [.str s.1,.int s.2])) (iQ:Q (.bl (An s)) H):amQ vs H Q E
theorem ate (T:Txt K w mg t):bU P w K mg base jt (0+1) t.N7 t.aki ["sign"] amQ:=by
 refine T.aax.ok afe (fun vs H Q E h=>?_) (fun cdv A outer s H vs Q E hr h=>?_)
 ·obtain⟨_,_,rfl,_⟩:=h
  rfl
 ·obtain⟨p,s,rfl,hp,q⟩:=h
  unfold An at q
  refine bj (ak (qH (pv 0) (kE rfl (bD (aY (i:=1) afe.nd rfl (Or.inl rfl)) (bD (aY (i:=2) afe.nd rfl (Or.inl rfl)) gM)))) (ak (bC (aJ (eF.or eE) (pv 1) (cO (v:=.ref t.du) rfl T.Eo rfl) rfl) (aq (aG (ah4 Im Im az (pv 2) (cO (v:=.int 99) rfl T.aaH ⟨_,rfl⟩)))) aM) (aq (aG (fM (wB (dz (eF.or eE) (pv 1) (cO (v:=.ref t.gF) rfl T.aaF rfl) rfl) (wA (dz (cX.or (bV (aZ hr))) (pv 2) az (aR _))))))))) ?_
  refine⟨_,rfl,_,_,rfl,pP.of hp,rfl,_,_,rfl,_,_,rfl,rfl,_,rfl,.inl ⟨_,_,rfl,.inr (T.Ep _),rfl,rfl,_,rfl,?_⟩⟩
  refine bJ (fun h=>?_) (fun h=>?_)
  ·rw[if_pos (show inV (.str s.1) UG=true from h)] at q
   refine⟨_,rfl,_,_,rfl,rfl,_,rfl,?_⟩
   refine bJ (fun h2=>?_) (fun h2=>?_)
   ·rw[if_pos h2] at q
    exact⟨_,_,rfl,rfl,q⟩
   ·rw[if_neg h2] at q
    exact q
  ·rw[if_neg (show ¬ inV (.str s.1) UG=true from h)] at q
   refine⟨fun v H'=>v=.bl (if inV (V.str s.fst) Fi=true then decide (s.snd=0) else false)/\H'=H,?_,fun _ _ ⟨e1,e2⟩=>by rw[e1,e2];exact q⟩
   refine⟨_,rfl,.inl ⟨_,_,rfl,.inr (T.aaG _),rfl,rfl,_,rfl,?_⟩⟩
   refine bJ (fun h2=>?_) (fun h2=>?_)
   ·rw[if_pos (show inV (.str s.1) Fi=true from h2)]
    refine⟨_,rfl,.inl ⟨rfl,?_⟩⟩
    rw[ji]
    exact⟨rfl,rfl⟩
   ·rw[if_neg (show ¬ inV (.str s.1) Fi=true from h2)]
    exact⟨rfl,rfl⟩
inductive zE (c:Cs)(vs:List V)(H:Hp)(Q:VK)(E:XK):Prop
 | mk (p:Addr) (s:Sn) (fU:vs=[.ref p]) (fV:H p=some (.tup [.str s.1,.int s.2])) (iQ:((An s=true->Q .non H)/\(An s=false->RX E c .Zn H))):zE c vs H Q E
theorem zF (T:Txt K w mg t):bU P w K mg base jt (0+2) t.dD t.qU ["sign"] (zE (cs t)):=by
 have avG:=ate (P:=P) (w:=w) (base:=base) T
 refine T.fK.ok NQ (fun vs H Q E h=>?_) (fun cdv A outer s H vs Q E hr h=>?_)
 ·obtain⟨_,_,rfl,_⟩:=h
  rfl
 ·obtain⟨p,g,rfl,hp,q1,q2⟩:=h
  refine bj (aq (bC (cz (bB (aC avG (hr.mono (by decide)) rfl T.as8 T.aax.kp T.akj .nil aF (aa (pv 0) aj)))) (aq lU) aM)) ?_
  refine⟨_,rfl,p,g,rfl,hp,_,rfl,?_⟩
  cases hg:An g with
  | true=>exact cZ (q1 hg)
  | false =>
   have q:=q2 hg
   exact wF (Bool.noConfusion (show false=true from q.1))
inductive HW (CB CD:Addr)(vs:List V)(H:Hp)(Q:VK)(E:XK):Prop
 | mk (x dx L D U d dd T_ B A:Addr) (i:Nat) (ds us xs bs as:List V) (fU:vs=[.ref x,.ref d]) (fV:H x=some (.ins CB dx (Ra L D U))) (iQ:H D=some (.lst ds)) (nZ:H U=some (.lst us)) (xM:H d=some (.ins CD dd (Z6 T_ (i:Int) B A))) (h5_:H T_=some (.lst xs)) (h6_:H B=some (.lst bs)) (h7_:H A=some (.lst as)) (h8_:T_≠A) (h9_:T_≠D) (azI:T_≠U) (aCy:D≠U) (aCz:i+bs.length <= xs.length) (aCA:xs.length+as.length <= 1000) (aCB:ds.length <= 900) (aCC:Q .non (upd (upd (upd H T_ (.lst (xs.take i++as++xs.drop (i+bs.length)))) D (.lst (ds++[.ref d]))) U (.lst []))):HW CB CD vs H Q E
theorem pA (T:Txt K w mg t):bU P w K mg base jt (0+2) t.eZ t.yV ["self","deed"] (HW t.bI t.bR):=by
 have Vo:=aaP (P:=P) (w:=w) (base:=base) T
 refine T.rC.ok Yv (fun vs H Q E h=>?_) (fun cdv A outer s H vs Q E hr h=>?_)
 ·obtain⟨_,_,_,_,_,_,_,_,_,_,_,_,_,_,_,_,rfl,_⟩:=h
  rfl
 ·obtain⟨x,dx,L,D,U,d,dd,T_,B,A_,i,ds,us,xs,bs,as,rfl,hx,hD,hU,hd,hT,hB,hA,n1,n2,n3,n4,hi,hz,hds,q⟩:=h
  refine bj (ak (bh (ir (pv 1) T.iJ T.aaw Vo (hr.mono (by decide)) T.Mh .nil aF)) (ak (bh (jh PySem.F.plainAttrs_list PySem.F.slot_list_append PySem.F.type_list_append bK (cY (pv 0) rfl) (aa (pv 1) aj))) (aq (bh (aeV PySem.F.plainAttrs_list PySem.F.slot_list_clear PySem.F.type_list_clear aqf (cY (pv 0) rfl)))))) ?_
  have xT:x≠T_:=vL hx hT (by intro z;cases z)
  have xD:x≠D:=vL hx hD (by intro z;cases z)
  refine⟨_,rfl,d,dd,_,rfl,hd,aed _ _ _ _,?_⟩
  refine⟨d,dd,T_,B,A_,i,xs,bs,as,rfl,hd,hT,hB,hA,n1,hi,hz,?_⟩
  refine⟨_,rfl,x,_,dx,_,_,rfl,by rw[aA xT];exact hx,T.aX,T.fY,Rb _ _ _,?_⟩
  refine⟨.inl ⟨rfl,_,bu.of (show upd H T_ _ D=some (.lst ds) by rw[aA (Ne.symm n2)];exact hD)⟩,_,rfl,D,_,_,rfl,rfl,by rw[aA (Ne.symm n2)];exact hD,bx (by omega),?_⟩
  refine⟨_,rfl,x,_,dx,_,_,rfl,by rw[aA xD,aA xT];exact hx,T.aX,T.dJ,Fe _ _ _,?_⟩
  have hU2:upd (upd H T_ (.lst (xs.take i++as++xs.drop (i+bs.length)))) D (.lst (ds++[.ref d])) U=some (.lst us):=by rw[aA (Ne.symm n4),aA (Ne.symm n3)];exact hU
  exact⟨.inl ⟨rfl,_,bu.of hU2⟩,U,_,rfl,rfl,hU2,q⟩
inductive aiH (vs:List V)(H:Hp)(Q:VK)(E:XK):Prop
 | mk (p:Addr) (s:Sg) (fU:vs=[.ref p]) (fV:H p=some (.tup [.str s.1.str,.int s.2])) (iQ:Q (.bl s.1.small) H):aiH vs H Q E
theorem RV (k:Kd):inV (.str k.str) [.str "s",.str "d",.str "r"]=k.small:=by cases k <;> decide +kernel
theorem aiI (T:Txt K w mg t):bU P w K mg base jt (0+1) t.Fw t.afg ["sign"] aiH:=by
 refine T.Mi.ok aqX (fun vs H Q E h=>?_) (fun cdv A outer s H vs Q E hr h=>?_)
 ·obtain⟨_,_,rfl,_⟩:=h
  rfl
 ·obtain⟨p,s,rfl,hp,q⟩:=h
  rw[← RV] at q
  refine bj (aq (aG (dz (eF.or eE) (bH bc (pv 0) az (fun _ _=>rfl)) (cO (v:=.ref t.iV) rfl T.ac3 rfl) rfl))) ?_
  tm_up
  exact .inl ⟨_,_,rfl,.inr (T.ac4 _),rfl,rfl,q⟩
inductive aaQ (K:Frag)(vs:List V)(H:Hp)(Q:VK)(E:XK):Prop
 | mk (l:Addr) (xs:List V) (ss:List Sg) (i:Nat) (fU:vs=[.ref l,.int (i:Int)]) (fV:bu K H l xs) (iQ:lY H xs ss) (nZ:ss.length <= 200) (xM:i <= ss.length) (h5_:∀ r:Int,Q (.int r) H):aaQ K vs H Q E
theorem akq (T:Txt K w mg t):bU P w K mg base jt (0+2) t.um t.U6 ["line","at"] (aaQ K):=by
 have afv:=aiI (P:=P) (w:=w) (base:=base) T
 refine T.Ef.ok Fo (fun vs H Q E h=>?_) (fun cdv A outer s H vs Q E hr h=>?_)
 ·obtain⟨_,_,_,_,rfl,_⟩:=h
  rfl
 ·obtain⟨l,xs,ss,i,rfl,hS,g,hl,hi,q⟩:=h
  refine bj (ak (aU (i:=2) Fo.nd rfl (Or.inl rfl) az) (ak (gw PassesOwn.never rfl (anz rfl T.rK (aa (aW lV (pv 1) az) (aa (XJ Il az) (aa (XJ Il az) aj)))) (aY (i:=3) Fo.nd rfl (Or.inl rfl)) (ak (qJ (bC (cz (bB (aC afv (hr.mono (by decide)) rfl T.aiz T.Mi.kp T.Zr .nil aF (aa (bH bc (pv 0) (pv 3) (fun _ _=>rfl)) aj)))) (aq (apQ (i:=2) Fo.nd rfl (Or.inl rfl) az apR)) aM)) (aq (bC (aJ (cX.or (bV (aZ hr))) (pv 2) az (aR _)) (aq (aG (pv 3))) aM)))) (aq (aG az)))) ?_
  tm_up
  have xl:=cj g
  refine⟨(i:Int) - 1,-1,rfl,⟨by omega,by omega,by omega,by omega⟩,aqC (fun j σ H'=>∃ (met:Int) (v:Option V),σ=[some (.ref l),some (.int (i:Int)),some (.int met),v]/\H'=H) ⟨0,none,rfl,rfl⟩ ?_ ?_⟩
  ·rintro j σ H1 hj ⟨met,v,rfl,eH⟩
   have eH:=eH.symm
   subst eH
   obtain⟨sg,hsg⟩:∃ sg,ss[i - 1 - j]? = some sg:=⟨_,List.getElem?_eq_getElem (by omega)⟩
   refine⟨fun σ H'=>∃ (met:Int),σ=[some (.ref l),some (.int (i:Int)),some (.int met),some (.int ((i:Int) - 1 - (j:Int)))]/\H'=H,?_,?_⟩
   ·tm_up
    refine acW hS g (n:=i - 1 - j) (by omega) hsg fun b hb=>?_
    refine⟨b,sg,rfl,hb,?_⟩
    refine⟨_,rfl,?_⟩
    refine bJ (fun _=>?_) (fun _=>?_)
    ·tm_up
     rfl
    ·exact⟨_,rfl,rfl⟩
   ·rintro _ H1 ⟨met,rfl,eH⟩
    have eH:=eH.symm
    subst eH
    tm_up
    refine bJ (fun _=>?_) (fun _=>?_)
    ·exact⟨_,rfl,q _⟩
    ·exact⟨_,_,rfl,rfl⟩
  ·rintro σ H1 ⟨met,v,rfl,eH⟩
   have eH:=eH.symm
   subst eH
   exact q _
inductive Yd (K:Frag)(vs:List V)(H:Hp)(Q:VK)(E:XK):Prop
 | mk (l kp:Addr) (xs kv:List V) (ss:List Sg) (i:Nat) (fU:vs=[.ref l,.int (i:Int),.ref kp]) (fV:bu K H l xs) (iQ:lY H xs ss) (nZ:ss.length <= 200) (xM:pP K H kp kv) (h5_:kv.all HD=true) (h6_:i <= 1000) (h7_:∀ r:Int,Q (.int r) H):Yd K vs H Q E
theorem aiJ (T:Txt K w mg t):bU P w K mg base jt (0+1) t.pC t.N8 ["line","first","kinds"] (Yd K):=by
 refine T.zu.ok X5 (fun vs H Q E h=>?_) (fun cdv A outer s H vs Q E hr h=>?_)
 ·obtain⟨_,_,_,_,_,_,rfl,_⟩:=h
  rfl
 ·obtain⟨l,kp,xs,kv,ss,i,rfl,hS,g,hl,hT,hf,hi,q⟩:=h
  refine bj (ak (gw PassesOwn.never rfl (am9 rfl T.rK (aa (pv 1) (aa (aL (aN.or aO) rfl T.cB cA (aa (pv 0) aj)) aj))) (aY (i:=3) X5.nd rfl (Or.inl rfl)) (aq (bC (aJ (eF.or eE) (bH bc (bH bc (pv 0) (pv 3) (fun _ _=>rfl)) az (fun _ _=>rfl)) (pv 2) rfl) (aq (aG (pv 3))) aM))) (aq (aG (aL (aN.or aO) rfl T.cB cA (aa (pv 0) aj))))) ?_
  have xl:=cj g
  tm_up
  refine .inl ⟨l,xs,rfl,.inl hS,?_⟩
  refine⟨(i:Int),(xs.length:Int),rfl,⟨by omega,by omega,by omega,by omega⟩,yp (fun j σ H'=>∃ (v:Option V),σ=[some (.ref l),some (.int (i:Int)),some (.ref kp),v]/\H'=H) ⟨none,rfl,rfl⟩ ?_ ?_⟩
  ·rintro j σ H1 hj ⟨v,rfl,eH⟩
   have eH:=eH.symm
   subst eH
   obtain⟨sg,hsg⟩:∃ sg,ss[i+j]? = some sg:=⟨_,List.getElem?_eq_getElem (by omega)⟩
   tm_up
   refine acW hS g (n:=i+j) (by omega) hsg fun b hb=>?_
   tm_up
   refine .inl ⟨kp,kv,rfl,.inr hT,rfl,hf,_,rfl,?_⟩
   refine bJ (fun _=>?_) (fun _=>?_)
   ·exact⟨_,rfl,q _⟩
   ·exact⟨_,rfl,rfl⟩
  ·rintro σ H1 ⟨v,rfl,eH⟩
   have eH:=eH.symm
   subst eH
   exact⟨_,rfl,.inl ⟨l,_,rfl,.inl hS,q _⟩⟩
inductive HX (vs:List V)(H:Hp)(Q:VK)(E:XK):Prop
 | mk (p:Addr) (s:Sg) (fU:vs=[.ref p]) (fV:H p=some (.tup [.str s.1.str,.int s.2])) (iQ:Q (.bl s.1.meas) H):HX vs H Q E
theorem avH (k:Kd):inV (.str k.str) [.str "3",.str "2"]=k.meas:=by cases k <;> decide +kernel
theorem HY (T:Txt K w mg t):bU P w K mg base jt (0+1) t.gB t.yW ["sign"] HX:=by
 refine T.jo.ok Yw (fun vs H Q E h=>?_) (fun cdv A outer s H vs Q E hr h=>?_)
 ·obtain⟨_,_,rfl,_⟩:=h
  rfl
 ·obtain⟨p,s,rfl,hp,q⟩:=h
  rw[← avH] at q
  refine bj (aq (aG (dz (eF.or eE) (bH bc (pv 0) az (fun _ _=>rfl)) (cO (v:=.ref t.dU) rfl T.HN rfl) rfl))) ?_
  tm_up
  exact .inl ⟨_,_,rfl,.inr (T.HQ _),rfl,rfl,q⟩
inductive aer (K:Frag)(vs:List V)(H:Hp)(Q:VK)(E:XK):Prop
 | mk (l ch:Addr) (xs cx:List V) (ss cs:List Sg) (i b:Nat) (fU:vs=[.ref l,.int (i:Int),.int (b:Int),.ref ch]) (fV:bu K H l xs) (iQ:lY H xs ss) (nZ:ss.length <= 200) (xM:i <= ss.length) (h5_:b <= 1000) (h6_:bu K H ch cx) (h7_:lY H cx cs) (h8_:cs.length <= 100) (h9_:∀ (p:Addr) (H':Hp),aB H H'->Q (.ref p) H'):aer K vs H Q E
theorem Vp (T:Txt K w mg t):bU P w K mg base jt (0+3) t.yX t.aam ["line","at","behind","changed"] (aer K):=by
 have anV:=akq (P:=P) (w:=w) (base:=base) T
 have akr:=aiJ (P:=P) (w:=w) (base:=base) T
 have zG:=HY (P:=P) (w:=w) (base:=base) T
 refine T.zx.ok aej (fun vs H Q E h=>?_) (fun cdv A outer s H vs Q E hr h=>?_)
 ·obtain⟨_,_,_,_,_,_,_,_,rfl,_⟩:=h
  rfl
 ·obtain⟨l,ch,xs,cx,ss,cs,i,b,rfl,hS,g,hl,hi,hb,hC,gc,hcl,q⟩:=h
  refine bj (ak (aU (i:=4) aej.nd rfl (Or.inl rfl) (fM (jg (bB (aL aql rfl T.avw au6 (aa (vC (cn:=["sign"]) rfl (fW.of rfl) (ik (pv 3)) (fun _=>(aY (i:=0) aiy rfl (Or.inl rfl))) (fun _=>yK) (fun _=>(aC zG (hr.mono (by decide)) rfl T.HJ T.jo.kp T.rD .nil aF (aa (pv 0) aj)))) aj))) (cO (v:=.ref t.dU) rfl T.HN rfl) (cO (v:=.ref t.fP) rfl T.Yy rfl)))) (aq (aG (gA (aa (aC anV (hr.mono (by decide)) rfl T.akk T.Ef.kp T.Vf .nil aF (aa (pv 0) (aa (pv 1) aj))) (aa (aC akr (hr.mono (by decide)) rfl T.aiA T.zu.kp T.Oe .nil aF (aa (pv 0) (aa (pv 2) (aa (pv 4) aj)))) aj)))))) ?_
  have cl:=cj gc
  refine⟨fun v H'=>∃ kp kv,v=.ref kp/\(∀ H'' ,pP K H'' kp kv)/\kv.all HD=true/\aB H H',?_,?_⟩
  ·refine⟨_,rfl,ch,rfl,⟨_,hC⟩,fun D b2 hD=>?_⟩
   refine mY (K:=K) (xs:=cx) (fun ii ys σ H'=>∃ v,σ=[v,some (.ref l),some (.int (i:Int)),some (.int (b:Int)),some (.ref ch),none]/\H'=upd H D (.lst ys)/\∃ bs:List Bool,ys=bs.map V.bl/\bs.length=ii) ⟨none,rfl,rfl,[],rfl,rfl⟩ ?_ ?_ ?_
   ·rintro ii ys σ H' ⟨v,rfl,rfl,_⟩
    exact lD hC hD
   ·rintro ii ys x σ H' hx ⟨v,rfl,rfl,bs,rfl,hbs⟩ N hN
    obtain⟨sg,e1,p,rfl,hp⟩:=Cd gc hx
    have hii:ii < cs.length:=(List.getElem?_eq_some_iff.mp e1).1
    refine jF ?_
    refine⟨_,rfl,p,sg,rfl,(by rw[aA (aD hp hD)];exact hp),ao,?_,?_⟩
    ·rw[List.length_map]
     exact bx (by omega)
    ·exact hN _ _ _ ⟨_,rfl,eU,bs++[sg.1.meas],by simp,by simp[hbs]⟩
   ·rintro ys σ H' ⟨v,rfl,rfl,bs,rfl,hbs⟩
    refine⟨rfl,D,bs,rfl,bu.of ao,_,rfl,?_⟩
    refine bJ (fun _=>?_) (fun _=>?_)
    ·exact⟨_,_,rfl,fun H''=>T.HQ H'',rfl,aB.upd hD⟩
    ·exact⟨_,_,rfl,fun H''=>T.Yz H'',rfl,aB.upd hD⟩
  ·rintro _ H1 ⟨kp,kv,rfl,hk,hf,s1⟩
   refine⟨_,rfl,_,rfl,l,xs,ss,i,rfl,s1.seq hS,g.same s1,hl,hi,fun r=>?_⟩
   refine⟨_,rfl,_,rfl,_,rfl,l,kp,xs,kv,ss,b,rfl,s1.seq hS,g.same s1,hl,hk _,hf,hb,fun r2=>?_⟩
   refine⟨by show 2 <= sizeLine;decide,fun p hp=>q p _ (s1.trans (aB.upd hp))⟩
inductive wj (c:Cs)(vs:List V)(H:Hp)(Q:VK)(E:XK):Prop
 | mk (x dx L D U:Addr) (xs:List V) (vx:List Vx) (n:Str) (fU:vs=[.ref x,.str n]) (fV:H x=some (.ins c.B dx (Ra L D U))) (iQ:H L=some (.lst xs)) (nZ:Paired (as6 c.V H) xs vx) (xM:match vx.find? (fun a=>decide (a.n=n)) with
 | none=>RX E c .vD H
 | some a=>Q (.ref a.o) H):wj c vs H Q E
theorem anW {vx:List Vx}{n:Str}:∀ {i:Nat},(∀ j a,j < i->vx[j]? = some a->a.n≠n)->∀ {b},vx[i]? = some b->b.n=n->vx.find? (fun a=>decide (a.n=n))=some b:=by
 induction vx with
 | nil=>intro i _ b h;simp at h
 | cons v vs ih =>
  intro i hi b hb he
  cases i with
  | zero =>
   simp at hb
   subst hb
   exact List.find?_cons_of_pos (decide_eq_true he)
  | succ i =>
   have h0:=hi 0 v (by omega) rfl
   have h1:(v :: vs).find? (fun a=>decide (a.n=n))=vs.find? (fun a=>decide (a.n=n)):=List.find?_cons_of_neg (fun z=>h0 (of_decide_eq_true z))
   rw[h1]
   exact ih (i:=i) (fun j a hj ha=>hi (j+1) a (Nat.succ_lt_succ hj) (by simpa using ha)) (by simpa using hb) he
theorem iK (T:Txt K w mg t):bU P w K mg base jt (0+1) t.cD t.n8 ["self","name"] (wj (cs t)):=by
 refine T.jb.ok vP (fun vs H Q E h=>?_) (fun cdv A outer s H vs Q E hr h=>?_)
 ·obtain⟨_,_,_,_,_,_,_,_,rfl,_⟩:=h
  rfl
 ·obtain⟨x,dx,L,D,U,xs,vx,n,rfl,hx,hL,g,q⟩:=h
  refine bj (ak (gw PassesOwn.never rfl (ik (cY (pv 0) rfl)) (aY (i:=2) vP.nd rfl (Or.inl rfl)) (aq (bC (aJ (cX.or (bV (aZ hr))) (cY (pv 2) rfl) (pv 1) (aR _)) (aq (aG (pv 2))) aM))) (aq lU)) ?_
  have xl:=cj g
  refine⟨_,rfl,x,_,dx,_,_,rfl,hx,T.aX,T.dg,yO _ _ _,L,rfl,⟨_,bu.of hL⟩,vM (K:=K) (xs:=xs) (fun i σ H'=>∃ v,σ=[some (.ref x),some (.str n),v]/\H'=H/\∀ j a,j < i->vx[j]? = some a->a.n≠n) ⟨none,rfl,rfl,fun j a hj=>by omega⟩ ?_ ?_ ?_⟩
  ·rintro i σ H1 _ ⟨v,rfl,eH,_⟩
   rw[eH]
   exact bu.of hL
  ·rintro i y σ H1 hy ⟨v,rfl,eH,hi⟩
   have eH:=eH.symm
   subst eH
   obtain⟨b,e1,rfl,hb⟩:=Cd g hy
   refine⟨_,rfl,b.o,_,b.d,_,_,rfl,hb,T.jZ,T.iW,ais _ _ _,?_⟩
   refine⟨_,rfl,.inl ⟨rfl,_,rfl,?_⟩⟩
   refine bJ (fun h=>?_) (fun h=>?_)
   ·have e:b.n=n:=V.str.inj (of_decide_eq_true h)
    rw[anW hi e1 e] at q
    exact⟨_,rfl,q⟩
   ·refine⟨_,rfl,rfl,fun j a hj ha=>?_⟩
    rcases Nat.lt_or_ge j i with z | z
    ·exact hi j a z ha
    ·have hij:j=i:=by omega
     rw[hij,e1] at ha
     cases ha
     exact fun z=>h (decide_eq_true (congrArg V.str z))
  ·rintro σ H1 ⟨v,rfl,eH,hi⟩
   have eH:=eH.symm
   subst eH
   have hn:vx.find? (fun a=>decide (a.n=n))=none:=List.find?_eq_none.mpr fun a ha z=>by
    obtain⟨j,hj⟩:=List.getElem?_of_mem ha
    have hjl:j < vx.length:=(List.getElem?_eq_some_iff.mp hj).1
    exact hi j a (by omega) hj (of_decide_eq_true z)
   rw[hn] at q
   exact (Bool.noConfusion (show false=true from q.1))
inductive xO (c:Cs)(vs:List V)(H:Hp)(Q:VK)(E:XK):Prop
 | mk (x dx L D U:Addr) (xs:List V) (vx:List Vx) (n:Str) (fU:vs=[.ref x,.str n]) (fV:H x=some (.ins c.B dx (Ra L D U))) (iQ:H L=some (.lst xs)) (nZ:Paired (as6 c.V H) xs vx) (xM:match vx.find? (fun a=>decide (a.n=n)) with
 | none=>RX E c .vD H
 | some a=>(a.tm=.non->Q (.ref a.o) H)/\(∀ p,a.tm=.ref p->RX E c .Dw H)/\(a.tm=.non ∨ ∃ p,a.tm=.ref p)):xO c vs H Q E
theorem jd (T:Txt K w mg t):bU P w K mg base jt (0+2) t.cN t.pF ["self","name"] (xO (cs t)):=by
 have cT:=iK (P:=P) (w:=w) (base:=base) T
 refine T.jT.ok xN (fun vs H Q E h=>?_) (fun cdv A outer s H vs Q E hr h=>?_)
 ·obtain⟨_,_,_,_,_,_,_,_,rfl,_⟩:=h
  rfl
 ·obtain⟨x,dx,L,D,U,xs,vx,n,rfl,hx,hL,g,q⟩:=h
  refine bj (ak (aU (i:=2) xN.nd rfl (Or.inl rfl) (bL (pv 0) T.aX T.iC cT (hr.mono (by decide)) T.dN .nil aF (aa (pv 1) aj))) (ak (bC (aJ amk (cY (pv 2) rfl) Ni (aR _)) (aq lU) aM) (aq (aG (pv 2))))) ?_
  refine⟨_,rfl,x,dx,_,rfl,hx,iZ _ _ _,_,rfl,x,dx,L,D,U,xs,vx,n,rfl,hx,hL,g,?_⟩
  cases hf:vx.find? (fun a=>decide (a.n=n)) with
  | none =>
   rw[hf] at q
   exact (Bool.noConfusion (show false=true from q.1))
  | some a =>
   rw[hf] at q
   obtain⟨q1,q2,q3⟩:=q
   obtain⟨j,hj⟩:=List.getElem?_of_mem (List.mem_of_find?_eq_some hf)
   obtain⟨v,hv,rfl,ha⟩:=HF g hj
   refine⟨_,rfl,a.o,_,a.d,_,_,rfl,ha,T.jZ,T.gG,aeb _ _ _,?_⟩
   rcases q3 with e | ⟨p,e⟩
   ·rw[e]
    refine⟨rfl,_,rfl,?_⟩
    exact bJ (fun h=>absurd h (by decide)) (fun _=>⟨_,rfl,q1 e⟩)
   ·have q:=q2 p e
    rw[e]
    refine⟨rfl,_,rfl,?_⟩
    exact bJ (fun _=>(Bool.noConfusion (show false=true from q.1))) (fun h=>absurd (show (!decide (V.ref p=V.non))=true by rw[decide_eq_false (fun z=>nomatch z)];rfl) h)
inductive RW (C:Addr)(vs:List V)(H:Hp)(Q:VK)(E:XK):Prop
 | mk (x dx:Addr) (T_:Addr) (i:Int) (B A:Addr) (fU:vs=[.ref x,.ref T_,.int i,.ref B,.ref A]) (fV:H x=some (.ins C dx [])) (iQ:Q .non (upd H x (.ins C dx (Z6 T_ i B A)))):RW C vs H Q E
theorem nQ (T:Txt K w mg t):bU P w K mg base jt (0+1) t.dO t.wG ["self","things","at","before","after"] (RW t.bR):=by
 refine T.o8.ok UT (fun vs H Q E h=>?_) (fun cdv A outer s H vs Q E hr h=>?_)
 ·obtain⟨_,_,_,_,_,_,rfl,_⟩:=h
  rfl
 ·obtain⟨x,dx,T_,i,B,A_,rfl,hx,q⟩:=h
  refine bj (ak (BW (pv 0) (pv 1) rfl) (ak (BW (pv 0) (pv 2) rfl) (ak (BW (pv 0) (pv 3) rfl) (aq (BW (pv 0) (pv 4) rfl))))) ?_
  refine⟨_,rfl,_,rfl,x,_,dx,_,rfl,hx,T.iJ,T.gH,by show 0 < 1000;decide,?_⟩
  refine⟨_,rfl,_,rfl,x,_,dx,_,rfl,ao,T.iJ,T.jV,by rw[Zm];show 1 < 1000;decide,?_⟩
  refine⟨_,rfl,_,rfl,x,_,dx,_,rfl,ao,T.iJ,T.gJ,by rw[Zm,afa];show 2 < 1000;decide,?_⟩
  refine⟨_,rfl,_,rfl,x,_,dx,_,rfl,ao,T.iJ,T.iY,by rw[Zm,afa,amG];show 3 < 1000;decide,?_⟩
  rw[Zm,afa,amG,as4]
  simp only [eU]
  exact q
inductive RZ (c:Cs)(vs:List V)(H:Hp)(Q:VK)(E:XK):Prop
 | mk (x:Addr) (F:Addr->Prop) (vw:Vw) (ps fs:List Vw) (n:Str) (i:Int) (p:Addr) (sn:Sn) (fU:vs=[.ref x,.str n,.int i,.ref p]) (fV:Nz c H x F vw ps fs) (iQ:H p=some (.tup [.str sn.1,.int sn.2])) (nZ:ps.length <= 900) (xM:match bM vw n with
 | none=>RX E c .vD H
 | some (.cn _ _ _ _)=>RX E c .Dw H
 | some (.pl ss)=>(¬ (0 <= i/\i <= (ss.length:Int) - 1)->RX E c .Rg H)/\((0 <= i/\i <= (ss.length:Int) - 1)->An sn=false->RX E c .Zn H) /\
  ((0 <= i/\i <= (ss.length:Int) - 1)->An sn=true->∀ (s:Sg) (w:Addr) F' H',s.1.str=sn.1->s.2=sn.2->Gr F F' H->Fr F H H'->Nz c H' x F' (Dv vw n (.pl (ss.take i.toNat++[s]++ss.drop (i.toNat+1)))) (ps++[vw]) []->Q (.ref w) H')):RZ c vs H Q E
theorem axA {α:Type}{xs:List α}{i:Nat}{y:α}(h:xs[i]? = some y):xs.drop i=y :: xs.drop (i+1):=by
 obtain⟨h1,h2⟩:=List.getElem?_eq_some_iff.mp h
 rw[List.drop_eq_getElem_cons h1,h2]
theorem afx (T:Txt K w mg t):bU P w K mg base jt (0+4) t.jA t.Jk ["self","name","at","sign"] (RZ (cs t)):=by
 have dZ:=jW (P:=P) (w:=w) (base:=base) T
 have rN:=zF (P:=P) (w:=w) (base:=base) T
 have gK:=pA (P:=P) (w:=w) (base:=base) T
 have JG:=Vp (P:=P) (w:=w) (base:=base) T
 have dh:=jd (P:=P) (w:=w) (base:=base) T
 have fQ:=nQ (P:=P) (w:=w) (base:=base) T
 refine T.Ba.ok Fp (fun vs H Q E h=>?_) (fun cdv A outer s H vs Q E hr h=>?_)
 ·obtain⟨_,_,_,_,_,_,_,_,_,rfl,_⟩:=h
  rfl
 ·obtain⟨x,F,vw,ps,fs,n,iz,p,sn,rfl,B,hp,hps,q⟩:=h
  refine bj (ak (aU (i:=4) Fp.nd rfl (Or.inl rfl) (cY (bL (pv 0) T.aX T.jc dh (hr.mono (by decide)) T.eQ .nil aF (aa (pv 1) aj)) rfl)) (ak (bh (aC dZ (hr.mono (by decide)) rfl T.jR T.cJ.kp T.dX .nil aF (aa (pv 2) (aa (aW lV (aL (aN.or aO) rfl T.cB cA (aa (pv 4) aj)) az) aj)))) (ak (bh (aC rN (hr.mono (by decide)) rfl T.zr T.fK.kp T.lJ .nil aF (aa (pv 3) aj))) (ak (aU (i:=5) Fp.nd rfl (Or.inl rfl) (bH bc (pv 4) (pv 2) (fun _ _=>rfl))) (ak (bh (bL (pv 0) T.aX T.oZ gK (hr.mono (by decide)) T.jm .nil aF (aa (Ls T.Zv fQ (hr.mono (by decide)) rfl T.Zu T.gY .nil aF (aa (pv 4) (aa (pv 2) (aa (bZ (aa (pv 5) aj)) (aa (bZ (aa (pv 3) aj)) aj))))) aj))) (aq (aG (aC JG (hr.mono (by decide)) rfl T.Vg T.zx.kp T.Jw .nil aF (aa (pv 4) (aa (pv 2) (aa (aW (bO.or (aQ.or bQ)) (pv 2) az) (aa (bZ (aa (pv 5) (aa (pv 3) aj))) aj)))))))))))) ?_
  obtain⟨L,D,U,all,M,Ps,Fs,es,us,b,iM,pp,pf,f⟩:=B.ex
  obtain⟨dx,hx⟩:=b.hx
  obtain⟨vx,g,gv⟩:=b.IW iM
  obtain⟨ds,hD,pD⟩:=b.hD
  obtain⟨ux,hU,pU⟩:=b.hU
  have dl:=cj pD
  have pl:=cj pp
  have pe:=b.past.len
  refine⟨_,rfl,x,dx,_,rfl,hx,jJ _ _ _,_,rfl,x,dx,L,D,U,M L,vx,n,rfl,hx,b.hL,g,?_⟩
  rcases aac gv (fun _ _ r=>r.2.1) n with ⟨f1,f2⟩ | ⟨a,th,j,f1,f2,r,an,fj,fw⟩
  ·rw[f1]
   rw[f2] at q
   exact (Bool.noConfusion (show false=true from q.1))
  rw[f1]
  rw[f2] at q
  subst an
  cases th with
  | cn ld lt sl tn =>
   obtain⟨pt,hpt,_⟩:=r.2.2
   refine⟨fun z=>?_,fun _ _=>(Bool.noConfusion (show false=true from q.1)),.inr ⟨pt,hpt⟩⟩
   rw[hpt] at z
   cases z
  | pl ss =>
   obtain⟨htm,hg⟩:=r.2.2
   obtain⟨q1,q2,q4⟩:=q
   have haa:=r.1
   obtain⟨ha,hl⟩:=b.ha a haa
   have yl:=cj hg
   have hj:(M L)[j]? = some (.ref a.o):=by
    obtain⟨v,hv,e1,_⟩:=HF g fj
    rw[← e1];exact hv
   refine⟨fun _=>?_,(fun pz z=>by rw[htm] at z;cases z),.inl htm⟩
   refine⟨a.o,_,a.d,_,_,rfl,ha,T.jZ,T.c7,Dt _ _ _,?_⟩
   refine⟨_,rfl,_,rfl,.inl ⟨a.l,M a.l,rfl,.inl (bu.of hl),?_⟩⟩
   refine⟨_,_,rfl,rfl,?_⟩
   refine⟨iz,((M a.l).length:Int) - 1,rfl,fun hi=>?_,fun hi=>?_⟩
   rotate_left
   ·have q:=q1 (by rw[← yl];exact hi)
    exact (Bool.noConfusion (show false=true from q.1))
   rw[yl] at hi
   refine⟨_,rfl,p,sn,rfl,hp,fun hgd=>?_,fun hgd=>?_⟩
   rotate_left
   ·have q:=q2 hi hgd
    exact (Bool.noConfusion (show false=true from q.1))
   obtain⟨sg,e1,e2,gt⟩:=amK hgd
   rw[← e1,← e2] at hp
   obtain⟨i,rfl⟩:∃ i:Nat,iz=(i:Int):=⟨iz.toNat,by omega⟩
   have hi:i < ss.length:=by omega
   have hlt:ss.length <= 200:=((B.wv vw (.inr (.inl rfl))).gd _ _ (List.mem_of_getElem? fw)).1
   have q4:=q4 (by omega) hgd sg
   rw[Int.toNat_natCast] at q4
   obtain⟨sg0,hsg⟩:∃ sg,ss[i]? = some sg:=⟨_,List.getElem?_eq_getElem hi⟩
   obtain⟨vp,hvp,p0,rfl,hp0⟩:=HF hg hsg
   refine⟨_,rfl,_,rfl,ixL (bu.of hl) (n:=i) rfl hvp ?_⟩
   refine⟨_,rfl,x,dx,_,rfl,hx,qN _ _ _,?_⟩
   refine⟨_,rfl,_,rfl,_,rfl,big (by show 1 <= 1000;omega),fun B' hB=>?_⟩
   refine⟨_,rfl,big (by show 1 <= 1000;omega),fun A_ hA=>?_⟩
   have hA0:=Zo hA
   have sB:=(aB.upd (o:=.lst [V.ref p0]) hB).trans (aB.upd (o:=.lst [V.ref p]) hA)
   have hB2:=aB.upd (o:=.lst [V.ref p]) hA _ _ (ao (H:=H) (a:=B') (o:=.lst [V.ref p0]))
   have hA2:=ao (H:=upd H B' (.lst [V.ref p0])) (a:=A_) (o:=.lst [V.ref p])
   have lA:a.l≠A_:=aD hl hA0
   generalize upd (upd H B' (.lst [V.ref p0])) A_ (.lst [V.ref p])=H2 at sB hB2 hA2
   intro d dd nd ndd ne
   refine⟨d,dd,a.l,(i:Int),B',A_,rfl,ao,rfl,?_⟩
   rw[eU]
   have s3:aB H2 (upd (upd H2 dd (.own d)) d (.ins t.bR dd (Z6 a.l (i:Int) B' A_))):=fun y o hy=>by
    rw[aA (aD hy nd),aA (aD hy ndd)]
    exact hy
   have hd3:=ao (H:=upd H2 dd (.own d)) (a:=d) (o:=.ins t.bR dd (Z6 a.l (i:Int) B' A_))
   generalize upd (upd H2 dd (.own d)) d (.ins t.bR dd (Z6 a.l (i:Int) B' A_))=H3 at s3 hd3
   have s4:=sB.trans s3
   obtain⟨_,d1,d2⟩:=b.lists (.inr ⟨a,haa,rfl⟩)
   refine⟨x,dx,L,D,U,d,dd,a.l,B',A_,i,ds,ux,M a.l,[.ref p0],[.ref p],rfl,s4 _ _ hx,s4 _ _ hD,s4 _ _ hU,hd3,s4 _ _ hl,s3 _ _ hB2,s3 _ _ hA2,lA,d1,d2,b.DU,by simp;omega,by simp;omega,by omega,?_⟩
   have hM:Mp ⟨d,dd,a.l,i,B',A_,[.ref p0],[.ref p]⟩ M a.l=(M a.l).take i++[.ref p]++(M a.l).drop (i+1):=jK
   have keep:∀ y o,H3 y=some o->y≠a.l->y≠D->y≠U->(upd (upd (upd H3 a.l (.lst ((M a.l).take i++[.ref p]++(M a.l).drop (i+1)))) D (.lst (ds++[.ref d]))) U (.lst [])) y=some o:=fun y o hy y1 y2 y3=>by
    rw[aA y3,aA y2,aA y1]
    exact hy
   have k1:(upd (upd (upd H3 a.l (.lst ((M a.l).take i++[.ref p]++(M a.l).drop (i+1)))) D (.lst (ds++[.ref d]))) U (.lst [])) a.l=some (.lst ((M a.l).take i++[.ref p]++(M a.l).drop (i+1))):=by
    rw[aA d2,aA d1,ao]
   have k2:(upd (upd (upd H3 a.l (.lst ((M a.l).take i++[.ref p]++(M a.l).drop (i+1)))) D (.lst (ds++[.ref d]))) U (.lst [])) D=some (.lst (ds++[.ref d])):=by
    rw[aA b.DU,ao]
   have k3:(upd (upd (upd H3 a.l (.lst ((M a.l).take i++[.ref p]++(M a.l).drop (i+1)))) D (.lst (ds++[.ref d]))) U (.lst [])) U=some (.lst []):=ao
   generalize (upd (upd (upd H3 a.l (.lst ((M a.l).take i++[.ref p]++(M a.l).drop (i+1)))) D (.lst (ds++[.ref d]))) U (.lst []))=H4 at keep k1 k2 k3
   have g3:=hg.same s4
   have sgN:lY H3 ((M a.l).take i++[.ref p]++(M a.l).drop (i+1)) (ss.take i++[sg]++ss.drop (i+1)):=Nr (Nr (XX i g3) (.cons ⟨p,rfl,s4 _ _ hp⟩ .nil)) (Z2 (i+1) g3)
   obtain⟨F',gr,fr,B4⟩:=Bk.aqU b iM pp f B.wv haa hj fw htm (e:=⟨d,dd,a.l,i,B',A_,[.ref p0],[.ref p]⟩) rfl ⟨by show i+1 <= (M a.l).length;omega,by rw[show ([V.ref p0]:List V).length=1 from rfl,axA hvp];rfl⟩ (by simp) (by simp) s4 hB hA0 ⟨rfl,hd3,s3 _ _ hB2,s3 _ _ hA2⟩ (by rw[hM];exact sgN) (by simp;omega) (fun s hs=>by
    have wg:=((B.wv vw (.inr (.inl rfl))).gd _ _ (List.mem_of_getElem? fw)).2
    rcases List.mem_append.mp hs with hs | hs
    ·rcases List.mem_append.mp hs with hs | hs
     ·exact wg s (List.mem_of_mem_take hs)
     ·rw[List.mem_singleton.mp hs];exact gt
    ·exact wg s (List.mem_of_mem_drop hs)) hD pD keep (by rw[hM];exact k1) k2 k3
   have nT:∀ {y us},H3 y=some (.tup us)->H4 y=some (.tup us):=fun {y us} hy=>keep y _ hy (vL hy (s4 _ _ hl) (by intro z;cases z)) (vL hy (s4 _ _ hD) (by intro z;cases z)) (vL hy (s4 _ _ hU) (by intro z;cases z))
   have sg4:lY H4 ((M a.l).take i++[.ref p]++(M a.l).drop (i+1)) (ss.take i++[sg]++ss.drop (i+1)):=cu (fun _ _ ⟨z,e1,e2⟩=>⟨z,e1,nT e2⟩) sgN
   refine⟨_,rfl,_,rfl,_,rfl,.inl ⟨_,_,rfl,rfl,_,rfl,_,rfl,big (by show 2 <= 1000;omega),fun lc hlc=>?_⟩⟩
   have sc:=aB.upd (o:=.lst [V.ref p0,V.ref p]) hlc
   refine⟨a.l,lc,_,[.ref p0,.ref p],ss.take i++[sg]++ss.drop (i+1),[sg0,sg],i,i+1,rfl,bu.of (sc _ _ k1),sg4.same sc,by simp;omega,by simp;omega,by omega,bu.of ao,.cons ⟨p0,rfl,sc _ _ (nT (s4 _ _ hp0))⟩ (.cons ⟨p,rfl,sc _ _ (nT (s4 _ _ hp))⟩ .nil),by simp,fun w H5 s5=>?_⟩
   have s6:=sc.trans s5
   exact q4 w F' H5 e1 e2 gr (fun y o hy hn=>s6 _ _ (fr y o hy hn)) (B4.same s6)
inductive Ye (c:Cs)(vs:List V)(H:Hp)(Q:VK)(E:XK):Prop
 | mk (x:Addr) (F:Addr->Prop) (vw:Vw) (ps fs:List Vw) (n:Str) (i:Int) (p:Addr) (sn:Sn) (fU:vs=[.ref x,.str n,.int i,.ref p]) (fV:Nz c H x F vw ps fs) (iQ:H p=some (.tup [.str sn.1,.int sn.2])) (nZ:ps.length <= 900) (xM:match bM vw n with
 | none=>RX E c .vD H
 | some (.cn _ _ _ _)=>RX E c .Dw H
 | some (.pl ss)=>(¬ (0 <= i/\i <= (ss.length:Int))->RX E c .Rg H)/\((0 <= i/\i <= (ss.length:Int))->An sn=false->RX E c .Zn H)/\((0 <= i/\i <= (ss.length:Int))->An sn=true->200 <= ss.length->RX E c .Full H) /\
  ((0 <= i/\i <= (ss.length:Int))->An sn=true->ss.length < 200->∀ (s:Sg) (w:Addr) F' H',s.1.str=sn.1->s.2=sn.2->Gr F F' H->Fr F H H'->Nz c H' x F' (Dv vw n (.pl (ss.take i.toNat++[s]++ss.drop i.toNat))) (ps++[vw]) []->Q (.ref w) H')):Ye c vs H Q E
theorem Yg (T:Txt K w mg t):bU P w K mg base jt (0+4) t.mz t.Oa ["self","name","at","sign"] (Ye (cs t)):=by
 have dZ:=jW (P:=P) (w:=w) (base:=base) T
 have rN:=zF (P:=P) (w:=w) (base:=base) T
 have gK:=pA (P:=P) (w:=w) (base:=base) T
 have JG:=Vp (P:=P) (w:=w) (base:=base) T
 have dh:=jd (P:=P) (w:=w) (base:=base) T
 have fQ:=nQ (P:=P) (w:=w) (base:=base) T
 refine T.FZ.ok X6 (fun vs H Q E h=>?_) (fun cdv A outer s H vs Q E hr h=>?_)
 ·obtain⟨_,_,_,_,_,_,_,_,_,rfl,_⟩:=h
  rfl
 ·obtain⟨x,F,vw,ps,fs,n,iz,p,sn,rfl,B,hp,hps,q⟩:=h
  refine bj (ak (aU (i:=4) X6.nd rfl (Or.inl rfl) (cY (bL (pv 0) T.aX T.jc dh (hr.mono (by decide)) T.eQ .nil aF (aa (pv 1) aj)) rfl)) (ak (bh (aC dZ (hr.mono (by decide)) rfl T.jR T.cJ.kp T.dX .nil aF (aa (pv 2) (aa (aL (aN.or aO) rfl T.cB cA (aa (pv 4) aj)) aj)))) (ak (bh (aC rN (hr.mono (by decide)) rfl T.zr T.fK.kp T.lJ .nil aF (aa (pv 3) aj))) (ak (bC (aJ atU (aL (aN.or aO) rfl T.cB cA (aa (pv 4) aj)) (cO (v:=.int 200) rfl T.afs ⟨_,rfl⟩) (aR _)) (aq lU) aM) (ak (bh (bL (pv 0) T.aX T.oZ gK (hr.mono (by decide)) T.jm .nil aF (aa (Ls T.Zv fQ (hr.mono (by decide)) rfl T.Zu T.gY .nil aF (aa (pv 4) (aa (pv 2) (aa (bZ aj) (aa (bZ (aa (pv 3) aj)) aj))))) aj))) (aq (aG (aC JG (hr.mono (by decide)) rfl T.Vg T.zx.kp T.Jw .nil aF (aa (pv 4) (aa (pv 2) (aa (aW (bO.or (aQ.or bQ)) (pv 2) az) (aa (bZ (aa (pv 3) aj)) aj)))))))))))) ?_
  obtain⟨L,D,U,all,M,Ps,Fs,es,us,b,iM,pp,pf,f⟩:=B.ex
  obtain⟨dx,hx⟩:=b.hx
  obtain⟨vx,g,gv⟩:=b.IW iM
  obtain⟨ds,hD,pD⟩:=b.hD
  obtain⟨ux,hU,pU⟩:=b.hU
  have dl:=cj pD
  have pl:=cj pp
  have pe:=b.past.len
  refine⟨_,rfl,x,dx,_,rfl,hx,jJ _ _ _,_,rfl,x,dx,L,D,U,M L,vx,n,rfl,hx,b.hL,g,?_⟩
  rcases aac gv (fun _ _ r=>r.2.1) n with ⟨f1,f2⟩ | ⟨a,th,j,f1,f2,r,an,fj,fw⟩
  ·rw[f1]
   rw[f2] at q
   exact (Bool.noConfusion (show false=true from q.1))
  rw[f1]
  rw[f2] at q
  subst an
  cases th with
  | cn ld lt sl tn =>
   obtain⟨pt,hpt,_⟩:=r.2.2
   refine⟨fun z=>?_,fun _ _=>(Bool.noConfusion (show false=true from q.1)),.inr ⟨pt,hpt⟩⟩
   rw[hpt] at z
   cases z
  | pl ss =>
   obtain⟨htm,hg⟩:=r.2.2
   obtain⟨q1,q2,q3,q4⟩:=q
   have haa:=r.1
   obtain⟨ha,hl⟩:=b.ha a haa
   have yl:=cj hg
   have hj:(M L)[j]? = some (.ref a.o):=by
    obtain⟨v,hv,e1,_⟩:=HF g fj
    rw[← e1];exact hv
   refine⟨fun _=>?_,(fun pz z=>by rw[htm] at z;cases z),.inl htm⟩
   refine⟨a.o,_,a.d,_,_,rfl,ha,T.jZ,T.c7,Dt _ _ _,?_⟩
   refine⟨_,rfl,_,rfl,.inl ⟨a.l,M a.l,rfl,.inl (bu.of hl),?_⟩⟩
   refine⟨iz,((M a.l).length:Int),rfl,fun hi=>?_,fun hi=>?_⟩
   rotate_left
   ·have q:=q1 (by rw[← yl];exact hi)
    exact (Bool.noConfusion (show false=true from q.1))
   rw[yl] at hi
   refine⟨_,rfl,p,sn,rfl,hp,fun hgd=>?_,fun hgd=>?_⟩
   rotate_left
   ·have q:=q2 hi hgd
    exact (Bool.noConfusion (show false=true from q.1))
   refine⟨_,rfl,.inl ⟨a.l,M a.l,rfl,.inl (bu.of hl),?_⟩⟩
   refine⟨_,_,rfl,rfl,_,rfl,?_⟩
   refine bJ (fun h=>?_) (fun h=>?_)
   ·have h':=of_decide_eq_true h
    have q:=q3 hi hgd (by omega)
    exact (Bool.noConfusion (show false=true from q.1))
   have hlt:ss.length < 200:=by
    rcases Nat.lt_or_ge ss.length 200 with z | z
    ·exact z
    ·exact absurd (decide_eq_true (by omega)) h
   obtain⟨sg,e1,e2,gt⟩:=amK hgd
   rw[← e1,← e2] at hp
   obtain⟨i,rfl⟩:∃ i:Nat,iz=(i:Int):=⟨iz.toNat,by omega⟩
   have hi:i <= ss.length:=by omega
   have q4:=q4 (by omega) hgd hlt sg
   rw[Int.toNat_natCast] at q4
   refine⟨_,rfl,x,dx,_,rfl,hx,qN _ _ _,?_⟩
   refine⟨_,rfl,_,rfl,big (by show 0 <= 1000;omega),fun B' hB=>?_⟩
   refine⟨_,rfl,big (by show 1 <= 1000;omega),fun A_ hA=>?_⟩
   have hA0:=Zo hA
   have sB:=(aB.upd (o:=.lst []) hB).trans (aB.upd (o:=.lst [V.ref p]) hA)
   have hB2:=aB.upd (o:=.lst [V.ref p]) hA _ _ (ao (H:=H) (a:=B') (o:=.lst []))
   have hA2:=ao (H:=upd H B' (.lst [])) (a:=A_) (o:=.lst [V.ref p])
   have lA:a.l≠A_:=aD hl hA0
   generalize upd (upd H B' (.lst [])) A_ (.lst [V.ref p])=H2 at sB hB2 hA2
   intro d dd nd ndd ne
   refine⟨d,dd,a.l,(i:Int),B',A_,rfl,ao,rfl,?_⟩
   rw[eU]
   have s3:aB H2 (upd (upd H2 dd (.own d)) d (.ins t.bR dd (Z6 a.l (i:Int) B' A_))):=fun y o hy=>by
    rw[aA (aD hy nd),aA (aD hy ndd)]
    exact hy
   have hd3:=ao (H:=upd H2 dd (.own d)) (a:=d) (o:=.ins t.bR dd (Z6 a.l (i:Int) B' A_))
   generalize upd (upd H2 dd (.own d)) d (.ins t.bR dd (Z6 a.l (i:Int) B' A_))=H3 at s3 hd3
   have s4:=sB.trans s3
   obtain⟨_,d1,d2⟩:=b.lists (.inr ⟨a,haa,rfl⟩)
   refine⟨x,dx,L,D,U,d,dd,a.l,B',A_,i,ds,ux,M a.l,[],[.ref p],rfl,s4 _ _ hx,s4 _ _ hD,s4 _ _ hU,hd3,s4 _ _ hl,s3 _ _ hB2,s3 _ _ hA2,lA,d1,d2,b.DU,by simp;omega,by simp;omega,by omega,?_⟩
   have hM:Mp ⟨d,dd,a.l,i,B',A_,[],[.ref p]⟩ M a.l=(M a.l).take i++[.ref p]++(M a.l).drop (i+0):=jK
   have keep:∀ y o,H3 y=some o->y≠a.l->y≠D->y≠U->(upd (upd (upd H3 a.l (.lst ((M a.l).take i++[.ref p]++(M a.l).drop (i+0)))) D (.lst (ds++[.ref d]))) U (.lst [])) y=some o:=fun y o hy y1 y2 y3=>by
    rw[aA y3,aA y2,aA y1]
    exact hy
   have k1:(upd (upd (upd H3 a.l (.lst ((M a.l).take i++[.ref p]++(M a.l).drop (i+0)))) D (.lst (ds++[.ref d]))) U (.lst [])) a.l=some (.lst ((M a.l).take i++[.ref p]++(M a.l).drop (i+0))):=by
    rw[aA d2,aA d1,ao]
   have k2:(upd (upd (upd H3 a.l (.lst ((M a.l).take i++[.ref p]++(M a.l).drop (i+0)))) D (.lst (ds++[.ref d]))) U (.lst [])) D=some (.lst (ds++[.ref d])):=by
    rw[aA b.DU,ao]
   have k3:(upd (upd (upd H3 a.l (.lst ((M a.l).take i++[.ref p]++(M a.l).drop (i+0)))) D (.lst (ds++[.ref d]))) U (.lst [])) U=some (.lst []):=ao
   generalize (upd (upd (upd H3 a.l (.lst ((M a.l).take i++[.ref p]++(M a.l).drop (i+0)))) D (.lst (ds++[.ref d]))) U (.lst []))=H4 at keep k1 k2 k3
   have g3:=hg.same s4
   have sgN:lY H3 ((M a.l).take i++[.ref p]++(M a.l).drop (i+0)) (ss.take i++[sg]++ss.drop i):=Nr (Nr (XX i g3) (.cons ⟨p,rfl,s4 _ _ hp⟩ .nil)) (Z2 i g3)
   obtain⟨F',gr,fr,B4⟩:=Bk.aqU b iM pp f B.wv haa hj fw htm (e:=⟨d,dd,a.l,i,B',A_,[],[.ref p]⟩) rfl ⟨by simp;omega,by simp⟩ (by simp) (by simp) s4 hB hA0 ⟨rfl,hd3,s3 _ _ hB2,s3 _ _ hA2⟩ (by rw[hM];exact sgN) (by simp;omega) (fun s hs=>by
    have wg:=((B.wv vw (.inr (.inl rfl))).gd _ _ (List.mem_of_getElem? fw)).2
    rcases List.mem_append.mp hs with hs | hs
    ·rcases List.mem_append.mp hs with hs | hs
     ·exact wg s (List.mem_of_mem_take hs)
     ·rw[List.mem_singleton.mp hs];exact gt
    ·exact wg s (List.mem_of_mem_drop hs)) hD pD keep (by rw[hM];exact k1) k2 k3
   have nT:∀ {y us},H3 y=some (.tup us)->H4 y=some (.tup us):=fun {y us} hy=>keep y _ hy (vL hy (s4 _ _ hl) (by intro z;cases z)) (vL hy (s4 _ _ hD) (by intro z;cases z)) (vL hy (s4 _ _ hU) (by intro z;cases z))
   have sg4:lY H4 ((M a.l).take i++[.ref p]++(M a.l).drop (i+0)) (ss.take i++[sg]++ss.drop i):=cu (fun _ _ ⟨z,e1,e2⟩=>⟨z,e1,nT e2⟩) sgN
   refine⟨_,rfl,_,rfl,_,rfl,.inl ⟨_,_,rfl,rfl,_,rfl,big (by show 1 <= 1000;omega),fun lc hlc=>?_⟩⟩
   have sc:=aB.upd (o:=.lst [V.ref p]) hlc
   refine⟨a.l,lc,_,[.ref p],ss.take i++[sg]++ss.drop i,[sg],i,i+1,rfl,bu.of (sc _ _ k1),sg4.same sc,by simp;omega,by simp;omega,by omega,bu.of ao,.cons ⟨p,rfl,sc _ _ (nT (s4 _ _ hp))⟩ .nil,by simp,fun w H5 s5=>?_⟩
   have s6:=sc.trans s5
   exact q4 w F' H5 e1 e2 gr (fun y o hy hn=>s6 _ _ (fr y o hy hn)) (B4.same s6)
inductive Yh (c:Cs)(vs:List V)(H:Hp)(Q:VK)(E:XK):Prop
 | mk (x:Addr) (F:Addr->Prop) (vw:Vw) (ps fs:List Vw) (n:Str) (i:Int) (fU:vs=[.ref x,.str n,.int i]) (fV:Nz c H x F vw ps fs) (iQ:ps.length <= 900) (nZ:match bM vw n with
 | none=>RX E c .vD H
 | some (.cn _ _ _ _)=>RX E c .Dw H
 | some (.pl ss)=>(¬ (0 <= i/\i <= (ss.length:Int) - 1)->RX E c .Rg H) /\
  ((0 <= i/\i <= (ss.length:Int) - 1)->∀ (w:Addr) F' H',Gr F F' H->Fr F H H'->Nz c H' x F' (Dv vw n (.pl (ss.take i.toNat++[]++ss.drop (i.toNat+1)))) (ps++[vw]) []->Q (.ref w) H')):Yh c vs H Q E
theorem avJ {α:Type}{xs:List α}{i:Nat}{y:α}(h:xs[i]? = some y):xs.drop i=y :: xs.drop (i+1):=by
 obtain⟨h1,h2⟩:=List.getElem?_eq_some_iff.mp h
 rw[List.drop_eq_getElem_cons h1,h2]
theorem aiK (T:Txt K w mg t):bU P w K mg base jt (0+4) t.mC t.Ob ["self","name","at"] (Yh (cs t)):=by
 have dZ:=jW (P:=P) (w:=w) (base:=base) T
 have gK:=pA (P:=P) (w:=w) (base:=base) T
 have JG:=Vp (P:=P) (w:=w) (base:=base) T
 have dh:=jd (P:=P) (w:=w) (base:=base) T
 have fQ:=nQ (P:=P) (w:=w) (base:=base) T
 refine T.Gb.ok Ja (fun vs H Q E h=>?_) (fun cdv A outer s H vs Q E hr h=>?_)
 ·obtain⟨_,_,_,_,_,_,_,rfl,_⟩:=h
  rfl
 ·obtain⟨x,F,vw,ps,fs,n,iz,rfl,B,hps,q⟩:=h
  refine bj (ak (aU (i:=3) Ja.nd rfl (Or.inl rfl) (cY (bL (pv 0) T.aX T.jc dh (hr.mono (by decide)) T.eQ .nil aF (aa (pv 1) aj)) rfl)) (ak (bh (aC dZ (hr.mono (by decide)) rfl T.jR T.cJ.kp T.dX .nil aF (aa (pv 2) (aa (aW lV (aL (aN.or aO) rfl T.cB cA (aa (pv 3) aj)) az) aj)))) (ak (aU (i:=4) Ja.nd rfl (Or.inl rfl) (bH bc (pv 3) (pv 2) (fun _ _=>rfl))) (ak (bh (bL (pv 0) T.aX T.oZ gK (hr.mono (by decide)) T.jm .nil aF (aa (Ls T.Zv fQ (hr.mono (by decide)) rfl T.Zu T.gY .nil aF (aa (pv 3) (aa (pv 2) (aa (bZ (aa (pv 4) aj)) (aa (bZ aj) aj))))) aj))) (aq (aG (aC JG (hr.mono (by decide)) rfl T.Vg T.zx.kp T.Jw .nil aF (aa (pv 3) (aa (pv 2) (aa (pv 2) (aa (bZ (aa (pv 4) aj)) aj))))))))))) ?_
  obtain⟨L,D,U,all,M,Ps,Fs,es,us,b,iM,pp,pf,f⟩:=B.ex
  obtain⟨dx,hx⟩:=b.hx
  obtain⟨vx,g,gv⟩:=b.IW iM
  obtain⟨ds,hD,pD⟩:=b.hD
  obtain⟨ux,hU,pU⟩:=b.hU
  have dl:=cj pD
  have pl:=cj pp
  have pe:=b.past.len
  refine⟨_,rfl,x,dx,_,rfl,hx,jJ _ _ _,_,rfl,x,dx,L,D,U,M L,vx,n,rfl,hx,b.hL,g,?_⟩
  rcases aac gv (fun _ _ r=>r.2.1) n with ⟨f1,f2⟩ | ⟨a,th,j,f1,f2,r,an,fj,fw⟩
  ·rw[f1]
   rw[f2] at q
   exact (Bool.noConfusion (show false=true from q.1))
  rw[f1]
  rw[f2] at q
  subst an
  cases th with
  | cn ld lt sl tn =>
   obtain⟨pt,hpt,_⟩:=r.2.2
   refine⟨fun z=>?_,fun _ _=>(Bool.noConfusion (show false=true from q.1)),.inr ⟨pt,hpt⟩⟩
   rw[hpt] at z
   cases z
  | pl ss =>
   obtain⟨htm,hg⟩:=r.2.2
   obtain⟨q1,q4⟩:=q
   have haa:=r.1
   obtain⟨ha,hl⟩:=b.ha a haa
   have yl:=cj hg
   have hj:(M L)[j]? = some (.ref a.o):=by
    obtain⟨v,hv,e1,_⟩:=HF g fj
    rw[← e1];exact hv
   refine⟨fun _=>?_,(fun pz z=>by rw[htm] at z;cases z),.inl htm⟩
   refine⟨a.o,_,a.d,_,_,rfl,ha,T.jZ,T.c7,Dt _ _ _,?_⟩
   refine⟨_,rfl,_,rfl,.inl ⟨a.l,M a.l,rfl,.inl (bu.of hl),?_⟩⟩
   refine⟨_,_,rfl,rfl,?_⟩
   refine⟨iz,((M a.l).length:Int) - 1,rfl,fun hi=>?_,fun hi=>?_⟩
   rotate_left
   ·have q:=q1 (by rw[← yl];exact hi)
    exact (Bool.noConfusion (show false=true from q.1))
   rw[yl] at hi
   obtain⟨i,rfl⟩:∃ i:Nat,iz=(i:Int):=⟨iz.toNat,by omega⟩
   have hi:i < ss.length:=by omega
   have hlt:ss.length <= 200:=((B.wv vw (.inr (.inl rfl))).gd _ _ (List.mem_of_getElem? fw)).1
   have q4:=q4 (by omega)
   rw[Int.toNat_natCast] at q4
   obtain⟨sg0,hsg⟩:∃ sg,ss[i]? = some sg:=⟨_,List.getElem?_eq_getElem hi⟩
   obtain⟨vp,hvp,p0,rfl,hp0⟩:=HF hg hsg
   refine⟨_,rfl,_,rfl,ixL (bu.of hl) (n:=i) rfl hvp ?_⟩
   refine⟨_,rfl,x,dx,_,rfl,hx,qN _ _ _,?_⟩
   refine⟨_,rfl,_,rfl,_,rfl,big (by show 1 <= 1000;omega),fun B' hB=>?_⟩
   refine⟨big (by show 0 <= 1000;omega),fun A_ hA=>?_⟩
   have hA0:=Zo hA
   have sB:=(aB.upd (o:=.lst [V.ref p0]) hB).trans (aB.upd (o:=.lst []) hA)
   have hB2:=aB.upd (o:=.lst []) hA _ _ (ao (H:=H) (a:=B') (o:=.lst [V.ref p0]))
   have hA2:=ao (H:=upd H B' (.lst [V.ref p0])) (a:=A_) (o:=.lst [])
   have lA:a.l≠A_:=aD hl hA0
   generalize upd (upd H B' (.lst [V.ref p0])) A_ (.lst [])=H2 at sB hB2 hA2
   intro d dd nd ndd ne
   refine⟨d,dd,a.l,(i:Int),B',A_,rfl,ao,rfl,?_⟩
   rw[eU]
   have s3:aB H2 (upd (upd H2 dd (.own d)) d (.ins t.bR dd (Z6 a.l (i:Int) B' A_))):=fun y o hy=>by
    rw[aA (aD hy nd),aA (aD hy ndd)]
    exact hy
   have hd3:=ao (H:=upd H2 dd (.own d)) (a:=d) (o:=.ins t.bR dd (Z6 a.l (i:Int) B' A_))
   generalize upd (upd H2 dd (.own d)) d (.ins t.bR dd (Z6 a.l (i:Int) B' A_))=H3 at s3 hd3
   have s4:=sB.trans s3
   obtain⟨_,d1,d2⟩:=b.lists (.inr ⟨a,haa,rfl⟩)
   refine⟨x,dx,L,D,U,d,dd,a.l,B',A_,i,ds,ux,M a.l,[.ref p0],[],rfl,s4 _ _ hx,s4 _ _ hD,s4 _ _ hU,hd3,s4 _ _ hl,s3 _ _ hB2,s3 _ _ hA2,lA,d1,d2,b.DU,by simp;omega,by simp;omega,by omega,?_⟩
   have hM:Mp ⟨d,dd,a.l,i,B',A_,[.ref p0],[]⟩ M a.l=(M a.l).take i++[]++(M a.l).drop (i+1):=jK
   have keep:∀ y o,H3 y=some o->y≠a.l->y≠D->y≠U->(upd (upd (upd H3 a.l (.lst ((M a.l).take i++[]++(M a.l).drop (i+1)))) D (.lst (ds++[.ref d]))) U (.lst [])) y=some o:=fun y o hy y1 y2 y3=>by
    rw[aA y3,aA y2,aA y1]
    exact hy
   have k1:(upd (upd (upd H3 a.l (.lst ((M a.l).take i++[]++(M a.l).drop (i+1)))) D (.lst (ds++[.ref d]))) U (.lst [])) a.l=some (.lst ((M a.l).take i++[]++(M a.l).drop (i+1))):=by
    rw[aA d2,aA d1,ao]
   have k2:(upd (upd (upd H3 a.l (.lst ((M a.l).take i++[]++(M a.l).drop (i+1)))) D (.lst (ds++[.ref d]))) U (.lst [])) D=some (.lst (ds++[.ref d])):=by
    rw[aA b.DU,ao]
   have k3:(upd (upd (upd H3 a.l (.lst ((M a.l).take i++[]++(M a.l).drop (i+1)))) D (.lst (ds++[.ref d]))) U (.lst [])) U=some (.lst []):=ao
   generalize (upd (upd (upd H3 a.l (.lst ((M a.l).take i++[]++(M a.l).drop (i+1)))) D (.lst (ds++[.ref d]))) U (.lst []))=H4 at keep k1 k2 k3
   have g3:=hg.same s4
   have sgN:lY H3 ((M a.l).take i++[]++(M a.l).drop (i+1)) (ss.take i++[]++ss.drop (i+1)):=Nr (Nr (XX i g3) .nil) (Z2 (i+1) g3)
   obtain⟨F',gr,fr,B4⟩:=Bk.aqU b iM pp f B.wv haa hj fw htm (e:=⟨d,dd,a.l,i,B',A_,[.ref p0],[]⟩) rfl ⟨by show i+1 <= (M a.l).length;omega,by rw[show ([V.ref p0]:List V).length=1 from rfl,avJ hvp];rfl⟩ (by simp) (by simp) s4 hB hA0 ⟨rfl,hd3,s3 _ _ hB2,s3 _ _ hA2⟩ (by rw[hM];exact sgN) (by simp;omega) (fun s hs=>by
    have wg:=((B.wv vw (.inr (.inl rfl))).gd _ _ (List.mem_of_getElem? fw)).2
    rcases List.mem_append.mp hs with hs | hs
    ·rcases List.mem_append.mp hs with hs | hs
     ·exact wg s (List.mem_of_mem_take hs)
     ·cases hs
    ·exact wg s (List.mem_of_mem_drop hs)) hD pD keep (by rw[hM];exact k1) k2 k3
   have nT:∀ {y us},H3 y=some (.tup us)->H4 y=some (.tup us):=fun {y us} hy=>keep y _ hy (vL hy (s4 _ _ hl) (by intro z;cases z)) (vL hy (s4 _ _ hD) (by intro z;cases z)) (vL hy (s4 _ _ hU) (by intro z;cases z))
   have sg4:lY H4 ((M a.l).take i++[]++(M a.l).drop (i+1)) (ss.take i++[]++ss.drop (i+1)):=cu (fun _ _ ⟨z,e1,e2⟩=>⟨z,e1,nT e2⟩) sgN
   refine⟨_,rfl,_,rfl,_,rfl,_,rfl,big (by show 1 <= 1000;omega),fun lc hlc=>?_⟩
   have sc:=aB.upd (o:=.lst [V.ref p0]) hlc
   refine⟨a.l,lc,_,[.ref p0],ss.take i++[]++ss.drop (i+1),[sg0],i,i,rfl,bu.of (sc _ _ k1),sg4.same sc,by simp;omega,by simp;omega,by omega,bu.of ao,.cons ⟨p0,rfl,sc _ _ (nT (s4 _ _ hp0))⟩ .nil,by simp,fun w H5 s5=>?_⟩
   have s6:=sc.trans s5
   exact q4 w F' H5 gr (fun y o hy hn=>s6 _ _ (fr y o hy hn)) (B4.same s6)
structure Bw (c:Cs)(H0 H:Hp)(x:Addr)(own:List Addr)(vw:Vw)(ps fs:List Vw):Prop where
 ex:∃ F,Nz c H x F vw ps fs/\(∀ y,F y->∃ xs,H y=some (.lst xs))/\(∀ y,F y->H0 y=none)/\∀ a∈own,¬ F a/\∃ o,H a=some o
 sm:aB H0 H
section
variable {c:Cs} {H0 H H' H1:Hp} {x:Addr} {own:List Addr} {vw vw':Vw} {ps ps' fs fs':List Vw} {F F':Addr->Prop}
theorem Bw.mk' (b:Nz c H' x F' vw' ps' fs')(sm:aB H0 H)(hF:∀ y,F y->∃ xs,H y=some (.lst xs))(h0:∀ y,F y->H0 y=none)(ho:∀ a∈own,¬ F a/\∃ o,H a=some o)(g:Gr F F' H)(fr:Fr F H H'):Bw c H0 H' x own vw' ps' fs'/\anG own H H':=by
 obtain⟨F0,h1,h2,b0⟩:=b.axt
 refine⟨⟨⟨F0,b0,h2,fun y z=>?_,fun a ha=>?_⟩,fun y o e=>fr y o (sm y o e) fun z=>?_⟩,fun y o e k=>fr y o e fun z=>?_⟩
 ·rcases g y (h1 y z) with q | q
  ·exact h0 y q
  ·exact sm.free q
 ·obtain⟨n,o,e⟩:=ho a ha
  refine⟨fun z=>?_,o,fr a o e n⟩
  rcases g a (h1 a z) with q | q
  ·exact n q
  ·rw[e] at q;cases q
 ·rw[h0 y z] at e;cases e
 ·rcases k with k | k
  ·obtain⟨xs,q⟩:=hF y z
   rw[e] at q
   cases q
   exact k _ rfl
  ·exact (ho y k).1 z
theorem Bw.same (h:Bw c H0 H x own vw ps fs)(s:aB H H'):Bw c H0 H' x own vw ps fs:=by
 obtain⟨F,b,hF,h0,ho⟩:=h.ex
 exact⟨⟨F,b.same s,fun y z=>let ⟨xs,e⟩:=hF y z;⟨xs,s _ _ e⟩,h0,fun a ha=>⟨(ho a ha).1,let ⟨o,e⟩:=(ho a ha).2;⟨o,s _ _ e⟩⟩⟩,h.sm.trans s⟩
theorem Bw.add (h:Bw c H0 H x own vw ps fs)(s:aB H H'){l:Addr}(n:H l=none){o:HO}(e:H' l=some o):Bw c H0 H' x (l :: own) vw ps fs:=by
 obtain⟨F,b,hF,h0,ho⟩:=h.ex
 refine⟨⟨F,b.same s,fun y z=>let ⟨xs,e⟩:=hF y z;⟨xs,s _ _ e⟩,h0,fun a ha=>?_⟩,h.sm.trans s⟩
 rcases List.mem_cons.mp ha with rfl | ha
 ·refine⟨fun z=>?_,o,e⟩
  obtain⟨xs,q⟩:=hF _ z
  rw[n] at q
  cases q
 ·exact⟨(ho a ha).1,let ⟨o,e⟩:=(ho a ha).2;⟨o,s _ _ e⟩⟩
theorem Bw.wv (h:Bw c H0 H x own vw ps fs):Lz vw:=by
 obtain⟨F,b,_⟩:=h.ex
 exact b.wv vw (.inr (.inl rfl))
theorem Bw.hx (h:Bw c H0 H x own vw ps fs):∃ dx L D U,H x=some (.ins c.B dx (Ra L D U)):=by
 obtain⟨F,b,_⟩:=h.ex
 obtain⟨L,D,U,all,M,Ps,Fs,es,us,b,_⟩:=b.ex
 obtain⟨dx,e⟩:=b.hx
 exact⟨dx,L,D,U,e⟩
theorem Bw.new {dx L D U:Addr}(hx:H' x=some (.ins c.B dx (Ra L D U)))(hL:H' L=some (.lst []))(hD:H' D=some (.lst []))(hU:H' U=some (.lst []))(LD:L≠D)(LU:L≠U)(DU:D≠U)(s:aB H H')(nL:H L=none)(nD:H D=none)(nU:H U=none):Bw c H H' x [] [] [] []:=by
 refine⟨⟨_,Bk.new hx hL hD hU LD LU DU,fun y hy=>?_,fun y hy=>?_,fun a ha=>nomatch ha⟩,s⟩
 ·rcases hy with rfl | rfl | rfl
  ·exact⟨_,hL⟩
  ·exact⟨_,hD⟩
  ·exact⟨_,hU⟩
 ·rcases hy with rfl | rfl | rfl
  ·exact nL
  ·exact nD
  ·exact nU
end
def afy (vw:Vw):Vw:=vw++[(("zed":Str),Th.pl [])]
theorem Bw.rebase {c:Cs}{H0 H:Hp}{x:Addr}{own:List Addr}{vw:Vw}{ps fs:List Vw}(h:Bw c H0 H x own vw ps fs):∃ H1,Bw c H1 H x [] vw ps fs/\aB H0 H1/\anG own H H1:=by
 obtain⟨F,b,hF,h0,ho⟩:=h.ex
 classical
 refine⟨fun y=>if F y then none else H y,⟨⟨F,b,hF,fun y hy=>if_pos hy,fun a ha=>nomatch ha⟩,fun y o e=>?_⟩,fun y o e=>?_,fun y o e k=>?_⟩
 ·have e:(if F y then none else H y)=some o:=e
  by_cases hy:F y
  ·rw[if_pos hy] at e;exact nomatch e
  ·rwa [if_neg hy] at e
 ·show (if F y then none else H y)=some o
  rw[if_neg (fun hy=>by rw[h0 y hy] at e;exact nomatch e)]
  exact h.sm _ _ e
 ·show (if F y then none else H y)=some o
  rw[if_neg ?_,e]
  intro hy
  rcases k with k | k
  ·obtain⟨xs,q⟩:=hF y hy
   rw[e] at q
   cases q
   exact k _ rfl
  ·exact (ho y k).1 hy
theorem good3 {ss:List Sg}{sg:Sg}{i j:Nat}(h:∀ s∈ss,qP s)(g:qP sg):∀ s∈ss.take i++[sg]++ss.drop j,qP s:=fun s hs=>by
 rcases List.mem_append.mp hs with hs | hs
 ·rcases List.mem_append.mp hs with hs | hs
  ·exact h s (List.mem_of_mem_take hs)
  ·rw[List.mem_singleton.mp hs];exact g
 ·exact h s (List.mem_of_mem_drop hs)
theorem good2 {ss:List Sg}{i j:Nat}(h:∀ s∈ss,qP s):∀ s∈ss.take i++[]++ss.drop j,qP s:=fun s hs=>by
 rcases List.mem_append.mp hs with hs | hs
 ·rcases List.mem_append.mp hs with hs | hs
  ·exact h s (List.mem_of_mem_take hs)
  ·exact nomatch hs
 ·exact h s (List.mem_of_mem_drop hs)
inductive M3 (K:Frag)(c:Cs)(vs:List V)(H:Hp)(Q:VK)(E:XK):Prop
 | mk (a x l:Addr) (n:Str) (ns:List Int) (ys:List V) (ss:List Sg) (H0:Hp) (vw:Vw) (ps fs:List Vw) (fU:vs=[.ref a,.ref x,.str n,.ref l]) (fV:bu K H0 a (ns.map V.int)) (iQ:ns.length <= 63) (nZ:Bw c H0 H x [] vw ps fs) (xM:H0 l=some (.lst ys)) (h5_:lY H0 ys ss) (h6_:bM vw n=some (.pl ss)) (h7_:ss.length <= 24) (h8_:ps.length <= 890) (h9_:∀ (l':Addr) (ys':List V) (ss':List Sg) (H':Hp),Bw c H0 H' x [l'] (Dv vw n (.pl ss')) (ps++[vw]) []->H' l'=some (.lst ys')->lY H' ys' ss'->ss'.length <= 25->(∀ s∈ss',qP s)->Q (.ref l') H'):M3 K c vs H Q E
theorem ac6 (T:Txt K w mg t):bU P w K mg base jt (0+5) t.jO t.Fx ["_law_script","_law_book","_law_name","_law_line_here"] (M3 K (cs t)):=by
 have v8:=Gk (P:=P) (w:=w) (base:=base) T
 have aiL:=afx (P:=P) (w:=w) (base:=base) T
 have bT:=yh (P:=P) (w:=w) (base:=base) T
 have uI:=Om (P:=P) (w:=w) (base:=base) T
 have Oq:=Yg (P:=P) (w:=w) (base:=base) T
 have akt:=aiK (P:=P) (w:=w) (base:=base) T
 refine T.rE.ok oN (fun vs H Q E h=>?_) (fun cdv A outer s H vs Q E hr h=>?_)
 ·obtain⟨_,_,_,_,_,_,_,_,_,_,_,rfl,_⟩:=h
  rfl
 ·obtain⟨a,x,l,n,ns,ys,ss,H0,vw,ps,fs,rfl,hS,hl,B,h0,g0,hf,sl,pl,q⟩:=h
  refine bj (ak (aU (i:=4) oN.nd rfl (Or.inl rfl) (aW d7 (aC bT (hr.mono (by decide)) rfl T.bY T.bN.kp T.bW .nil aF (aa (pv 0) (aa az aj))) (aW (bO.or (aQ.or bQ)) (aL (aN.or aO) rfl T.cB cA (aa (pv 3) aj)) az))) (ak (aU (i:=5) oN.nd rfl (Or.inl rfl) (aC v8 (hr.mono (by decide)) rfl T.FW T.mJ.kp T.vR .nil aF (aa (aC uI (hr.mono (by decide)) rfl T.zq T.nq.kp T.uD .nil aF (aa (aC bT (hr.mono (by decide)) rfl T.bY T.bN.kp T.bW .nil aF (aa (pv 0) (aa az aj))) (aa az aj))) aj))) (ak (aU (i:=6) oN.nd rfl (Or.inl rfl) (aW d7 (aC uI (hr.mono (by decide)) rfl T.zq T.nq.kp T.uD .nil aF (aa (aC bT (hr.mono (by decide)) rfl T.bY T.bN.kp T.bW .nil aF (aa (pv 0) (aa az aj))) (aa az aj))) az)) (ak (bC (cG (PW.pt (lR (aJ (cX.or (bV (aZ hr))) (pv 6) az (aR _)) (jf (aJ (Uw (aZ hr)) (pv 3) (bZ aj) (aR _)))))) (ak (bh (bL (pv 1) T.aX T.X8 Oq (hr.mono (by decide)) T.Ga .nil aF (aa (pv 2) (aa (pv 4) (aa (pv 5) aj))))) (aq (aG (aW (bO.or (aQ.or bQ)) (aW (bO.or (aQ.or bQ)) (oG (vB.or (BX.or BZ)) (pv 3) vA (lC (pv 4))) (bZ (aa (pv 5) aj))) (oG (vB.or (BX.or BZ)) (pv 3) (lC (pv 4)) vA))))) aM) (ak (aU (i:=4) oN.nd rfl (Or.inl rfl) (aW d7 (pv 4) (aL (aN.or aO) rfl T.cB cA (aa (pv 3) aj)))) (ak (bC (aJ (cX.or (bV (aZ hr))) (pv 6) az (aR _)) (ak (bh (bL (pv 1) T.aX T.aiB akt (hr.mono (by decide)) T.Og .nil aF (aa (pv 2) (aa (pv 4) aj)))) (aq (aG (aW (bO.or (aQ.or bQ)) (oG (vB.or (BX.or BZ)) (pv 3) vA (lC (pv 4))) (oG (vB.or (BX.or BZ)) (pv 3) (lC (aW (bO.or (aQ.or bQ)) (pv 4) az)) vA))))) aM) (ak (bh (bL (pv 1) T.aX T.afn aiL (hr.mono (by decide)) T.Jx .nil aF (aa (pv 2) (aa (pv 4) (aa (pv 5) aj))))) (aq (aG (aW (bO.or (aQ.or bQ)) (aW (bO.or (aQ.or bQ)) (oG (vB.or (BX.or BZ)) (pv 3) vA (lC (pv 4))) (bZ (aa (pv 5) aj))) (oG (vB.or (BX.or BZ)) (pv 3) (lC (aW (bO.or (aQ.or bQ)) (pv 4) az)) vA))))))))))) ?_
  have yl:=cj g0
  have gd:=(B.wv.gd _ _ (di hf)).2
  tm_up
  refine⟨a,ns,6,rfl,B.sm.seq hS,hl,?_⟩
  refine⟨_,rfl,.inl ⟨l,ys,rfl,.inl (bu.of (B.sm _ _ h0)),.inl ⟨_,_,rfl,rfl,_,_,rfl,rfl,(by omega),?_⟩⟩⟩
  obtain⟨k,hkI,hk⟩:=acX (jD ns 6) (k:=(ys.length:Int)+1) (by omega)
  rw[show V.int ((jD ns 6) % ((ys.length:Int)+1))=V.int (k:Int) from congrArg V.int hkI]
  tm_up
  refine⟨a,ns,5,rfl,B.sm.seq hS,hl,?_⟩
  tm_up
  refine⟨_,_,rfl,fun m1 _ _=>?_⟩
  tm_up
  refine fun pq sg gts hpq=>?_
  have s1:=aB.upd (o:=.tup [.str sg.1.str,.int sg.2]) hpq
  have hp1:=ao (H:=H) (a:=pq) (o:=.tup [.str sg.1.str,.int sg.2])
  generalize upd H pq (.tup [.str sg.1.str,.int sg.2])=H1 at s1 hp1
  have B1:=B.same s1
  tm_up
  refine⟨a,ns,5,rfl,B1.sm.seq hS,hl,?_⟩
  tm_up
  refine⟨_,_,rfl,fun m2 _ _=>?_⟩
  obtain⟨wy,hwy,aCE⟩:=acX m2 (k:=3) (by decide)
  refine⟨_,_,rfl,rfl,(by decide:(0:Int) < 3),?_⟩
  rw[show V.int (m2 % 3)=V.int (wy:Int) from congrArg V.int hwy]
  refine⟨fun b H'=>aB H1 H'/\(b=false->0 < ys.length),?_,?_⟩
  ·tm_up
   refine bJ (fun _=>⟨aB.refl _,fun z=>nomatch z⟩) (fun _=>?_)
   tm_up
   refine⟨big (by show 0 <= 1000;omega),fun e0 he0=>?_⟩
   refine⟨l,e0,ys,rfl,rfl,bu.of (aB.upd he0 _ _ (B1.sm _ _ h0)),bu.of ao,_,rfl,aB.upd he0,fun z=>?_⟩
   cases ys with
   | nil=>exact nomatch z
   | cons _ _=>exact Nat.succ_pos _
  rintro b H2 ⟨s2,hb⟩
  have B2:=B1.same s2
  have hp2:=s2 _ _ hp1
  clear B1 s1 s2 hp1 B
  obtain⟨dx,L,D,U,hx⟩:=B2.hx
  obtain⟨F2,b2,f2,z2,o2⟩:=B2.ex
  have gsg:=amL gts
  cases b with
  | true =>
   refine wF ?_
   tm_up
   refine⟨x,dx,_,rfl,hx,Z9 _ _ _,_,rfl,_,rfl,_,rfl,?_⟩
   refine⟨x,F2,vw,ps,fs,n,(k:Int),pq,(sg.1.str,sg.2),rfl,b2,hp2,by omega,?_⟩
   rw[hf]
   refine⟨(fun z=>absurd ⟨by omega,by omega⟩ z),(fun _ z=>by rw[gsg] at z;cases z),(fun _ _ z=>by omega),fun _ _ _ s11 w F11 H11 e1 e2 aq9 afz b11=>?_⟩
   have es:s11=sg:=Prod.ext (str_inj.mp e1) e2
   subst es
   rw[Int.toNat_natCast] at b11
   obtain⟨B11,k11⟩:=Bw.mk' b11 B2.sm f2 z2 o2 aq9 afz
   have avK:=k11.tup hp2
   have l11:=B11.sm _ _ h0
   have g11:=g0.same B11.sm
   refine⟨_,rfl,_,rfl,k,rfl,.inl ⟨l,ys,rfl,bu.of l11,fun c1 hc1=>?_⟩⟩
   rw[amE]
   have S1:=aB.upd (o:=.lst (ys.take k)) hc1
   have k1:=ao (H:=H11) (a:=c1) (o:=.lst (ys.take k))
   generalize upd H11 c1 (.lst (ys.take k))=H13 at S1 k1
   refine⟨_,rfl,big (by show 1 <= 1000;omega),fun c2 hc2=>?_⟩
   have S2:=aB.upd (o:=.lst [V.ref pq]) hc2
   have k2:=ao (H:=H13) (a:=c2) (o:=.lst [V.ref pq])
   generalize upd H13 c2 (.lst [V.ref pq])=H14 at S2 k2
   refine .inr (.inr ⟨c1,c2,_,_,rfl,rfl,S2 _ _ k1,k2,?_,fun c3 hc3=>?_⟩)
   ·exact big (by rw[List.length_take];show _+1 <= 1000;omega)
   have S3':=aB.upd (o:=.lst (ys.take k++[V.ref pq])) hc3
   have k3:=ao (H:=H14) (a:=c3) (o:=.lst (ys.take k++[V.ref pq]))
   generalize upd H14 c3 (.lst (ys.take k++[V.ref pq]))=H15 at S3' k3
   have SS:=(S1.trans S2).trans S3'
   refine⟨_,rfl,_,rfl,k,rfl,.inl ⟨l,ys,rfl,bu.of (SS _ _ l11),fun c4 hc4=>?_⟩⟩
   rw[Zk ys k (by omega)]
   have S4:=aB.upd (o:=.lst (ys.drop k)) hc4
   have k4:=ao (H:=H15) (a:=c4) (o:=.lst (ys.drop k))
   generalize upd H15 c4 (.lst (ys.drop k))=H16 at S4 k4
   refine .inr (.inr ⟨c3,c4,_,_,rfl,rfl,S4 _ _ k3,k4,?_,fun c5 hc5=>?_⟩)
   ·exact big (by simp only [List.length_append,List.length_take,List.length_drop,List.length_singleton];omega)
   have S5:=aB.upd (o:=.lst (ys.take k++[V.ref pq]++ys.drop k)) hc5
   have k5:=ao (H:=H16) (a:=c5) (o:=.lst (ys.take k++[V.ref pq]++ys.drop k))
   have B16:=B11.same (SS.trans S4)
   have gg:=lY.same ((SS.trans S4).trans S5) (Nr (Nr (XX k g11) (.cons ⟨pq,rfl,avK⟩ .nil)) (Z2 k g11))
   generalize upd H16 c5 (.lst (ys.take k++[V.ref pq]++ys.drop k))=H17 at S5 k5 gg
   exact q c5 _ _ H17 (B16.add S5 hc5 k5) k5 gg (by simp only [List.length_append,List.length_take,List.length_drop,List.length_singleton];omega) (good3 gd gts)
  | false =>
   refine cZ ?_
   have y0:=hb rfl
   tm_up
   refine .inl ⟨l,ys,rfl,.inl (bu.of (B2.sm _ _ h0)),?_⟩
   obtain⟨j,hj,hjl⟩:=acX (k:Int) (k:=(ys.length:Int)) (by omega)
   refine⟨_,_,rfl,rfl,(by omega:(0:Int) < (ys.length:Int)),?_⟩
   rw[show V.int ((k:Int) % (ys.length:Int))=V.int (j:Int) from congrArg V.int hj]
   tm_up
   refine bJ (fun _=>?_) (fun _=>?_)
   ·tm_up
    refine⟨x,dx,_,rfl,hx,aka _ _ _,_,rfl,_,rfl,?_⟩
    refine⟨x,F2,vw,ps,fs,n,(j:Int),rfl,b2,by omega,?_⟩
    rw[hf]
    refine⟨(fun z=>absurd ⟨by omega,by omega⟩ z),fun _ w F11 H11 aq9 afz b11=>?_⟩
    rw[Int.toNat_natCast] at b11
    obtain⟨B11,k11⟩:=Bw.mk' b11 B2.sm f2 z2 o2 aq9 afz
    have l11:=B11.sm _ _ h0
    have g11:=g0.same B11.sm
    refine⟨_,rfl,_,rfl,j,rfl,.inl ⟨l,ys,rfl,bu.of l11,fun c1 hc1=>?_⟩⟩
    rw[amE]
    have S1:=aB.upd (o:=.lst (ys.take j)) hc1
    have k1:=ao (H:=H11) (a:=c1) (o:=.lst (ys.take j))
    generalize upd H11 c1 (.lst (ys.take j))=H15 at S1 k1
    refine⟨_,rfl,_,rfl,.inl ⟨_,_,rfl,rfl,_,rfl,.inl ⟨l,ys,rfl,bu.of (S1 _ _ l11),fun c4 hc4=>?_⟩⟩⟩
    rw[show Nj ys (some ((j:Int)+1)) none=ys.drop (j+1) from Zk ys (j+1) (by omega)]
    have S4:=aB.upd (o:=.lst (ys.drop (j+1))) hc4
    have k4:=ao (H:=H15) (a:=c4) (o:=.lst (ys.drop (j+1)))
    generalize upd H15 c4 (.lst (ys.drop (j+1)))=H16 at S4 k4
    refine .inr (.inr ⟨c1,c4,_,_,rfl,rfl,S4 _ _ k1,k4,?_,fun c5 hc5=>?_⟩)
    ·exact big (by simp only [List.length_take,List.length_drop];omega)
    have S5:=aB.upd (o:=.lst (ys.take j++ys.drop (j+1))) hc5
    have k5:=ao (H:=H16) (a:=c5) (o:=.lst (ys.take j++ys.drop (j+1)))
    have B16:=B11.same (S1.trans S4)
    have gg:=lY.same ((S1.trans S4).trans S5) (Nr (XX j g11) (Z2 (j+1) g11))
    generalize upd H16 c5 (.lst (ys.take j++ys.drop (j+1)))=H17 at S5 k5 gg
    exact q c5 _ _ H17 (B16.add S5 hc5 k5) k5 (by rw[List.append_nil];exact gg) (by simp only [List.length_append,List.length_take,List.length_drop,List.length_nil];omega) (good2 gd)
   ·tm_up
    refine⟨x,dx,_,rfl,hx,aiu _ _ _,_,rfl,_,rfl,_,rfl,?_⟩
    refine⟨x,F2,vw,ps,fs,n,(j:Int),pq,(sg.1.str,sg.2),rfl,b2,hp2,by omega,?_⟩
    rw[hf]
    refine⟨(fun z=>absurd ⟨by omega,by omega⟩ z),(fun _ z=>by rw[gsg] at z;cases z),fun _ _ s11 w F11 H11 e1 e2 aq9 afz b11=>?_⟩
    have es:s11=sg:=Prod.ext (str_inj.mp e1) e2
    subst es
    rw[Int.toNat_natCast] at b11
    obtain⟨B11,k11⟩:=Bw.mk' b11 B2.sm f2 z2 o2 aq9 afz
    have avK:=k11.tup hp2
    have l11:=B11.sm _ _ h0
    have g11:=g0.same B11.sm
    refine⟨_,rfl,_,rfl,j,rfl,.inl ⟨l,ys,rfl,bu.of l11,fun c1 hc1=>?_⟩⟩
    rw[amE]
    have S1:=aB.upd (o:=.lst (ys.take j)) hc1
    have k1:=ao (H:=H11) (a:=c1) (o:=.lst (ys.take j))
    generalize upd H11 c1 (.lst (ys.take j))=H13 at S1 k1
    refine⟨_,rfl,big (by show 1 <= 1000;omega),fun c2 hc2=>?_⟩
    have S2:=aB.upd (o:=.lst [V.ref pq]) hc2
    have k2:=ao (H:=H13) (a:=c2) (o:=.lst [V.ref pq])
    generalize upd H13 c2 (.lst [V.ref pq])=H14 at S2 k2
    refine .inr (.inr ⟨c1,c2,_,_,rfl,rfl,S2 _ _ k1,k2,?_,fun c3 hc3=>?_⟩)
    ·exact big (by rw[List.length_take];show _+1 <= 1000;omega)
    have S3':=aB.upd (o:=.lst (ys.take j++[V.ref pq])) hc3
    have k3:=ao (H:=H14) (a:=c3) (o:=.lst (ys.take j++[V.ref pq]))
    generalize upd H14 c3 (.lst (ys.take j++[V.ref pq]))=H15 at S3' k3
    have SS:=(S1.trans S2).trans S3'
    refine⟨_,rfl,_,rfl,.inl ⟨_,_,rfl,rfl,_,rfl,.inl ⟨l,ys,rfl,bu.of (SS _ _ l11),fun c4 hc4=>?_⟩⟩⟩
    rw[show Nj ys (some ((j:Int)+1)) none=ys.drop (j+1) from Zk ys (j+1) (by omega)]
    have S4:=aB.upd (o:=.lst (ys.drop (j+1))) hc4
    have k4:=ao (H:=H15) (a:=c4) (o:=.lst (ys.drop (j+1)))
    generalize upd H15 c4 (.lst (ys.drop (j+1)))=H16 at S4 k4
    refine .inr (.inr ⟨c3,c4,_,_,rfl,rfl,S4 _ _ k3,k4,?_,fun c5 hc5=>?_⟩)
    ·exact big (by simp only [List.length_append,List.length_take,List.length_drop,List.length_singleton];omega)
    have S5:=aB.upd (o:=.lst (ys.take j++[V.ref pq]++ys.drop (j+1))) hc5
    have k5:=ao (H:=H16) (a:=c5) (o:=.lst (ys.take j++[V.ref pq]++ys.drop (j+1)))
    have B16:=B11.same (SS.trans S4)
    have gg:=lY.same ((SS.trans S4).trans S5) (Nr (Nr (XX j g11) (.cons ⟨pq,rfl,avK⟩ .nil)) (Z2 (j+1) g11))
    generalize upd H16 c5 (.lst (ys.take j++[V.ref pq]++ys.drop (j+1)))=H17 at S5 k5 gg
    exact q c5 _ _ H17 (B16.add S5 hc5 k5) k5 gg (by simp only [List.length_append,List.length_take,List.length_drop,List.length_singleton];omega) (good3 gd gts)
inductive M4 (c:Cs)(vs:List V)(H:Hp)(Q:VK)(E:XK):Prop
 | mk (x:Addr) (F:Addr->Prop) (vw:Vw) (ps fs:List Vw) (n:Str) (fU:vs=[.ref x,.str n]) (fV:Nz c H x F vw ps fs) (iQ:match bM vw n with
 | none=>RX E c .vD H
 | some (.pl _)=>Q .non H
 | some (.cn ld lt sl tn)=>∀ p,H p=some (.tup [.str ld,.int lt,.int sl,.bl tn])->Q (.ref p) H):M4 c vs H Q E
theorem oW (T:Txt K w mg t):bU P w K mg base jt (0+2) t.iw t.Fy ["self","name"] (M4 (cs t)):=by
 have cT:=iK (P:=P) (w:=w) (base:=base) T
 refine T.yc.ok acY (fun vs H Q E h=>?_) (fun cdv A outer s H vs Q E hr h=>?_)
 ·obtain⟨_,_,_,_,_,_,rfl,_⟩:=h
  rfl
 ·obtain⟨x,F,vw,ps,fs,n,rfl,B,q⟩:=h
  refine bj (aq (aG (cY (bL (pv 0) T.aX T.iC cT (hr.mono (by decide)) T.dN .nil aF (aa (pv 1) aj)) rfl))) ?_
  obtain⟨L,D,U,all,M,Ps,Fs,es,us,b,iM,pp,pf,f⟩:=B.ex
  obtain⟨dx,hx⟩:=b.hx
  obtain⟨vx,g,gv⟩:=b.IW iM
  refine⟨_,rfl,x,dx,_,rfl,hx,iZ _ _ _,_,rfl,x,dx,L,D,U,M L,vx,n,rfl,hx,b.hL,g,?_⟩
  rcases aac gv (fun _ _ r=>r.2.1) n with ⟨f1,f2⟩ | ⟨a,th,j,f1,f2,r,an,fj,fw⟩
  ·rw[f1]
   rw[f2] at q
   exact (Bool.noConfusion (show false=true from q.1))
  rw[f1]
  rw[f2] at q
  refine⟨a.o,_,a.d,_,_,rfl,(b.ha a r.1).1,T.jZ,T.gG,aeb _ _ _,?_⟩
  cases th with
  | pl ss=>rw[r.2.2.1];exact q
  | cn ld lt sl tn =>
   obtain⟨p,e1,e2⟩:=r.2.2
   rw[e1]
   exact q p e2
def Mq:Th->Int
 | .pl _=>0
 | .cn _ lt _ _=>lt
theorem bw3 (m:Int)(k:Kd)(n:Option Kd):0 <= bw m k n/\bw m k n <= 3:=by
 unfold bw
 split
 ·omega
 ·cases k <;> unfold pw <;> first | omega | (split <;> omega)
theorem axF (m:Int)(ks:List Kd):∀ x∈lF m ks,0 <= x/\x <= (3:Int):=by
 induction ks generalizing m with
 | nil=>intro x hx;cases hx
 | cons k t ih =>
  intro x hx
  rcases List.mem_cons.mp hx with rfl | hx
  ·exact bw3 (nm m k) k t.head?
  ·exact ih _ x hx
theorem avL {f:List Int}{j:Nat}(h:∀ x∈f,0 <= x/\x <= (3:Int)):∀ x∈f.set j 2,0 <= x/\x <= (3:Int):=fun x hx=>by
 rcases List.mem_or_eq_of_mem_set hx with z | z
 ·exact h x z
 ·omega
theorem ati {ks:List Kd}{f:List Int}{a z:Nat}(h:∀ x∈f,0 <= x/\x <= (3:Int)):∀ x∈(settle ks f a z).2,0 <= x/\x <= (3:Int):=by
 unfold settle Lx Ly
 repeat' split
 all_goals first | exact h | exact avL h | exact avL (avL h)
theorem axG (ks:List Kd)(rs:List (Nat×Nat))(c:RdS)(h:∀ x∈c.1,0 <= x/\x <= (3:Int)):∀ x∈(rs.foldl (yM ks) c).1,0 <= x/\x <= (3:Int):=by
 induction rs generalizing c with
 | nil=>exact h
 | cons p t ih=>exact ih _ (ati h)
theorem auz (m:Int)(ks:List Kd):∀ x∈(oM m ks).1,0 <= x/\x <= (3:Int):=axG _ _ _ (axF m ks)
theorem R0 {vw:Vw}(w:Lz vw){n:Str}{th:Th}(hf:bM vw n=some th):(∀ x∈ju vw n,0 <= x/\x <= (27:Int))/\(ju vw n).length=(pX vw n).length/\(pX vw n).length <= 200/\0 <= Mq th/\Mq th <= 999:=by
 cases th with
 | pl ss =>
  rw[Rh hf,Dy hf]
  refine⟨fun x hx=>?_,by rw[yr,List.length_map],(w.gd _ _ (di hf)).1,by show (0:Int) <= 0;omega,by show (0:Int) <= 999;omega⟩
  have:=auz _ _ x hx
  omega
 | cn ld lt sl tn =>
  obtain⟨⟨ss,hld⟩,lt0,lt1,sl0,sl1⟩:=w.ld n ld lt sl tn (di hf)
  have hfl:=w.find hld
  have gl:=(w.gd _ _ hld).1
  rw[Ri hf hfl,Dz hf hfl]
  refine⟨fun x hx=>?_,by rw[List.length_map,yr,List.length_map],?_,lt0,lt1⟩
  ·obtain⟨y,hy,rfl⟩:=List.mem_map.mp hx
   have:=auz _ _ y hy
   have h1:0 <= sl * y:=Int.mul_nonneg (by omega) this.1
   have h2:sl * y <= 9 * 3:=Int.mul_le_mul sl1 this.2 this.1 (by omega)
   exact⟨h1,by omega⟩
  ·split
   ·rw[List.length_map];omega
   ·omega
def mU:List Sg->List Int->Int->List (Int×Int×Int)
 | s :: ss,w :: ws,b=>(if s.1.lX=true then [(b,b+w,s.2)] else [])++mU ss ws (b+w)
 | _,_,_=>[]
def zH (H:Hp)(y:V)(t:Int×Int×Int):Prop:=∃ p,y=.ref p/\H p=some (.tup [.int t.1,.int t.2.1,.int t.2.2])
theorem zH.same {H H':Hp}(s:aB H H'){y:V}{t:Int×Int×Int}(h:zH H y t):zH H' y t:=by
 obtain⟨p,e1,e2⟩:=h
 exact⟨p,e1,s _ _ e2⟩
theorem zH.write {H:Hp}{l:Addr}{xs:List V}{o:HO}(hl:H l=some (.lst xs)){y:V}{t:Int×Int×Int}(h:zH H y t):zH (upd H l o) y t:=by
 obtain⟨p,e1,e2⟩:=h
 exact⟨p,e1,by rw[aA (fun e=>by rw[e,hl] at e2;exact nomatch e2)];exact e2⟩
theorem aku (ss:List Sg):∀ (ws:List Int) (b:Int),(mU ss ws b).length <= ss.length:=by
 induction ss with
 | nil=>intro ws b;cases ws <;> exact Nat.le_refl _
 | cons s t ih =>
  intro ws b
  cases ws with
  | nil=>exact Nat.zero_le _
  | cons w ws =>
   have:=ih ws (b+w)
   show ((if s.1.lX=true then [(b,b+w,s.2)] else [])++mU t ws (b+w)).length <= t.length+1
   rw[List.length_append]
   split
   ·show 1+_ <= _;omega
   ·show 0+_ <= _;omega
theorem Yi {ss:List Sg}{ws:List Int}{i:Nat}{s:Sg}{w:Int}(hs:ss[i]? = some s)(hw:ws[i]? = some w)(b:Int):mU (ss.drop i) (ws.drop i) b=(if s.1.lX=true then [(b,b+w,s.2)] else [])++mU (ss.drop (i+1)) (ws.drop (i+1)) (b+w):=by
 rw[qL hs,qL hw]
 rfl
inductive R1 (c:Cs)(vs:List V)(H:Hp)(Q:VK)(E:XK):Prop
 | mk (x:Addr) (F:Addr->Prop) (vw:Vw) (ps fs:List Vw) (n:Str) (th:Th) (fU:vs=[.ref x,.str n]) (fV:Nz c H x F vw ps fs) (iQ:bM vw n=some th) (nZ:Q (.int (Mq th)) H):R1 c vs H Q E
theorem R3 (T:Txt K w mg t):bU P w K mg base jt (0+3) t.mD t.Jl ["book","name"] (R1 (cs t)):=by
 have fZ:=oW (P:=P) (w:=w) (base:=base) T
 refine T.qz.ok Rn (fun vs H Q E h=>?_) (fun cdv A outer s H vs Q E hr h=>?_)
 ·obtain⟨_,_,_,_,_,_,_,rfl,_⟩:=h
  rfl
 ·obtain⟨x,F,vw,ps,fs,n,th,rfl,B,hf,q⟩:=h
  refine bj (ak (aU (i:=2) Rn.nd rfl (Or.inl rfl) (bL (pv 0) T.aX T.oO fZ (hr.mono (by decide)) T.jU .nil aF (aa (pv 1) aj))) (ak (bC (aJ aeS (pv 2) Ni (aR _)) (aq (aG az)) aM) (aq (aG (bH bc (pv 2) az (fun _ _=>rfl)))))) ?_
  obtain⟨L,D,U,all,M,Ps,Fs,es,us,b,_⟩:=B.ex
  obtain⟨dx,hx⟩:=b.hx
  tm_up
  refine⟨x,dx,_,rfl,hx,qM _ _ _,_,rfl,x,F,vw,ps,fs,n,rfl,B,?_⟩
  rw[hf]
  cases th with
  | pl ss =>
   tm_up
   exact⟨rfl,true,by rw[decide_eq_true rfl],wF q⟩
  | cn ld lt sl tn =>
   intro p hp
   tm_up
   refine⟨rfl,false,by rw[decide_eq_false (fun e=>nomatch e)],cZ ?_⟩
   tm_up
   exact .inr (.inl ⟨p,_,1,_,rfl,rfl,pP.of hp,rfl,q⟩)
theorem arb (k:Kd):(([(Str.ofString "3",V.str "2"),(Str.ofString "2",V.str "3")]:List (Str×V)).lookup k.str).getD (.str k.str)=.str (aeg k).str:=by cases k <;> decide +kernel
inductive aet (K:Frag)(vs:List V)(H:Hp)(Q:VK)(E:XK):Prop
 | mk (l:Addr) (xs:List V) (ss:List Sg) (fU:vs=[.ref l]) (fV:bu K H l xs) (iQ:lY H xs ss) (nZ:ss.length <= 400) (xM:∀ (f:Addr) (ys:List V) (H':Hp),aB H H'->H f=none->H' f=some (.lst ys)->lY H' ys (ss.map Ao)->Q (.ref f) H'):aet K vs H Q E
theorem aeu (T:Txt K w mg t):bU P w K mg base jt (0+1) t.yZ t.aan ["line"] (aet K):=by
 refine T.Eg.ok anI (fun vs H Q E h=>?_) (fun cdv A outer s H vs Q E hr h=>?_)
 ·obtain⟨_,_,_,rfl,_⟩:=h
  rfl
 ·obtain⟨l,xs,ss,rfl,hS,hg,hn,q⟩:=h
  refine bj (aq (aG (vC (cn:=["kind","tone"]) rfl (fW.of rfl) (ik (pv 0)) (fun _=>(kE rfl (bD (aY (i:=0) X7 rfl (Or.inl rfl)) (bD (aY (i:=1) X7 rfl (Or.inl rfl)) gM)))) (fun _=>yK) (fun _=>(gA (aa (aqy (cO (v:=.ref t.fc) rfl T.aaI rfl) (pv 0) (pv 0)) (aa (pv 1) aj))))))) ?_
  tm_up
  refine⟨⟨xs,hS⟩,fun D b hD=>?_⟩
  refine mY (K:=K) (xs:=xs) (fun i ys σ H'=>∃ (v w:Option V),σ=[v,w,some (.ref l)]/\aB H H'/\H' D=some (.lst ys)/\lY H' ys ((ss.take i).map Ao))
   ⟨none,none,rfl,aB.upd hD,ao,.nil⟩ ?_ ?_ ?_
  ·rintro i ys σ H' ⟨v,w,rfl,s2,_⟩
   exact s2.seq hS
  ·rintro i ys x σ H' hx ⟨v,w,rfl,s2,hDl,hsg⟩ N hN
   obtain⟨s,hs,p,rfl,hp⟩:=Cd hg hx
   have hi:i < ss.length:=(List.getElem?_eq_some_iff.mp hs).1
   refine⟨p,_,rfl,pP.of (s2 _ _ hp),rfl,_,_,rfl,_,_,rfl,rfl,?_⟩
   refine⟨_,_,rfl,T.YB,?_⟩
   tm_up
   rw[arb]
   refine⟨by show 2 <= sizeLine;decide,fun z hz=>?_⟩
   have sz:=aB.upd (o:=.tup [.str (aeg s.1).str,.int s.2]) hz
   have hD3:=sz _ _ hDl
   refine⟨hD3,?_,?_⟩
   ·rw[cj hsg,List.length_map,List.length_take]
    exact bx (by omega)
   ·refine hN _ _ _ ⟨_,_,rfl,gO (s2.trans sz) hD,ao,?_⟩
    rw[List.take_succ,hs,List.map_append]
    exact pQ (ae6 hD3 (hsg.same sz)) (aio hD3 ⟨z,rfl,ao⟩)
  ·rintro ys σ H' ⟨v,w,rfl,s2,hDl,hsg⟩
   rw[cj hg,List.take_length] at hsg
   exact q D ys H' s2 hD hDl hsg
inductive M5 (c:Cs)(vs:List V)(H:Hp)(Q:VK)(E:XK):Prop
 | mk (x:Addr) (F:Addr->Prop) (vw:Vw) (ps fs:List Vw) (n:Str) (ss:List Sg) (fU:vs=[.ref x,.str n]) (fV:Nz c H x F vw ps fs) (iQ:bM vw n=some (.pl ss)) (nZ:∀ (l:Addr) (ys:List V) (H':Hp),H l=none->aB H H'->H' l=some (.lst ys)->lY H' ys ss->Q (.ref l) H'):M5 c vs H Q E
theorem ac7 (T:Txt K w mg t):bU P w K mg base jt (0+3) t.iy t.Ar ["self","name"] (M5 (cs t)):=by
 have fZ:=oW (P:=P) (w:=w) (base:=base) T
 have aaR:=aeu (P:=P) (w:=w) (base:=base) T
 have cT:=iK (P:=P) (w:=w) (base:=base) T
 refine T.vW.ok cM (fun vs H Q E h=>?_) (fun cdv A outer s H vs Q E hr h=>?_)
 ·obtain⟨_,_,_,_,_,_,_,rfl,_⟩:=h
  rfl
 ·obtain⟨x,F,vw,ps,fs,n,ss,rfl,B,hf,q⟩:=h
  refine bj (ak (aU (i:=2) cM.nd rfl (Or.inl rfl) (bL (pv 0) T.aX T.oO fZ (hr.mono (by decide)) T.jU .nil aF (aa (pv 1) aj))) (ak (bC (aJ aeS (pv 2) Ni (aR _)) (aq (aG (cC Q6 rfl T.iI iu (aa (cY (bL (pv 0) T.aX T.iC cT (hr.mono (by decide)) T.dN .nil aF (aa (pv 1) aj)) rfl) aj)))) aM) (ak (qH (pv 2) (kE rfl (bD (aY (i:=3) cM.nd rfl (Or.inl rfl)) (bD (aY (i:=4) cM.nd rfl (Or.inl rfl)) (bD (aY (i:=5) cM.nd rfl (Or.inl rfl)) (bD (aY (i:=6) cM.nd rfl (Or.inl rfl)) gM)))))) (ak (aU (i:=7) cM.nd rfl (Or.inl rfl) aqD) (aq (aG (fM (jg (bB (pv 6)) (aC aaR (hr.mono (by decide)) rfl T.ael T.Eg.kp T.Rx .nil aF (aa (pv 7) aj)) (pv 7))))))))) ?_
  obtain⟨L,D,U,all,M,Ps,Fs,es,us,b,iM,pp,pf,f⟩:=B.ex
  obtain⟨dx,hx⟩:=b.hx
  obtain⟨vx,g,gv⟩:=b.IW iM
  refine⟨_,rfl,x,dx,_,rfl,hx,qM _ _ _,_,rfl,x,F,vw,ps,fs,n,rfl,B,?_⟩
  rw[hf]
  refine⟨_,rfl,rfl,_,rfl,?_⟩
  refine bJ (fun _=>?_) (fun h=>absurd (by decide) h)
  refine⟨_,rfl,x,dx,_,rfl,hx,iZ _ _ _,_,rfl,x,dx,L,D,U,M L,vx,n,rfl,hx,b.hL,g,?_⟩
  rcases aac gv (fun _ _ r=>r.2.1) n with ⟨f1,f2⟩ | ⟨a,th,j,f1,f2,r,an,fj,fw⟩
  ·rw[f2] at hf
   cases hf
  rw[f1]
  rw[f2] at hf
  cases hf
  refine⟨a.o,_,a.d,_,_,rfl,(b.ha a r.1).1,T.jZ,T.c7,Dt _ _ _,?_⟩
  refine⟨_,_,rfl,.inl (bu.of (b.ha a r.1).2),fun l hl=>?_⟩
  exact q l _ _ hl (aB.upd hl) ao (r.2.2.2.same (aB.upd hl))
inductive R4 (c:Cs)(vs:List V)(H:Hp)(Q:VK)(E:XK):Prop
 | mk (x:Addr) (F:Addr->Prop) (vw:Vw) (ps fs:List Vw) (n:Str) (fU:vs=[.ref x,.str n]) (fV:Nz c H x F vw ps fs) (iQ:match bM vw n with
 | none=>RX E c .vD H
 | some _=>∀ (l:Addr) (ys:List V) (H':Hp),H l=none->aB H H'->H' l=some (.lst ys)->lY H' ys (pX vw n)->Q (.ref l) H'):R4 c vs H Q E
theorem Gn (T:Txt K w mg t):bU P w K mg base jt (0+4) t.iy t.Ar ["self","name"] (R4 (cs t)):=by
 have afA:=ac7 (P:=P) (w:=w) (base:=base) T
 have fZ:=oW (P:=P) (w:=w) (base:=base) T
 have aaR:=aeu (P:=P) (w:=w) (base:=base) T
 have cT:=iK (P:=P) (w:=w) (base:=base) T
 refine T.vW.ok cM (fun vs H Q E h=>?_) (fun cdv A outer s H vs Q E hr h=>?_)
 ·obtain⟨_,_,_,_,_,_,rfl,_⟩:=h
  rfl
 ·obtain⟨x,F,vw,ps,fs,n,rfl,B,q⟩:=h
  refine bj (ak (aU (i:=2) cM.nd rfl (Or.inl rfl) (bL (pv 0) T.aX T.oO fZ (hr.mono (by decide)) T.jU .nil aF (aa (pv 1) aj))) (ak (bC (aJ aeS (pv 2) Ni (aR _)) (aq (aG (cC Q6 rfl T.iI iu (aa (cY (bL (pv 0) T.aX T.iC cT (hr.mono (by decide)) T.dN .nil aF (aa (pv 1) aj)) rfl) aj)))) aM) (ak (qH (pv 2) (kE rfl (bD (aY (i:=3) cM.nd rfl (Or.inl rfl)) (bD (aY (i:=4) cM.nd rfl (Or.inl rfl)) (bD (aY (i:=5) cM.nd rfl (Or.inl rfl)) (bD (aY (i:=6) cM.nd rfl (Or.inl rfl)) gM)))))) (ak (aU (i:=7) cM.nd rfl (Or.inl rfl) (bL (pv 0) T.aX T.nu afA (hr.mono (by decide)) T.jC .nil aF (aa (pv 3) aj))) (aq (aG (fM (jg (bB (pv 6)) (aC aaR (hr.mono (by decide)) rfl T.ael T.Eg.kp T.Rx .nil aF (aa (pv 7) aj)) (pv 7))))))))) ?_
  obtain⟨L,D,U,all,M,Ps,Fs,es,us,b,iM,pp,pf,f⟩:=B.ex
  obtain⟨dx,hx⟩:=b.hx
  obtain⟨vx,g,gv⟩:=b.IW iM
  have wv:=B.wv vw (.inr (.inl rfl))
  refine⟨_,rfl,x,dx,_,rfl,hx,qM _ _ _,_,rfl,x,F,vw,ps,fs,n,rfl,B,?_⟩
  cases hf:bM vw n with
  | none =>
   rw[hf] at q
   exact (Bool.noConfusion (show false=true from q.1))
  | some th =>
   rw[hf] at q
   cases th with
   | pl ss =>
    refine⟨_,rfl,rfl,_,rfl,?_⟩
    refine bJ (fun _=>?_) (fun h=>absurd (by decide) h)
    refine⟨_,rfl,x,dx,_,rfl,hx,iZ _ _ _,_,rfl,x,dx,L,D,U,M L,vx,n,rfl,hx,b.hL,g,?_⟩
    rcases aac gv (fun _ _ r=>r.2.1) n with ⟨f1,f2⟩ | ⟨a,th,j,f1,f2,r,an,fj,fw⟩
    ·rw[f2] at hf
     cases hf
    rw[f1]
    rw[f2] at hf
    cases hf
    refine⟨a.o,_,a.d,_,_,rfl,(b.ha a r.1).1,T.jZ,T.c7,Dt _ _ _,?_⟩
    refine⟨_,_,rfl,.inl (bu.of (b.ha a r.1).2),fun l hl=>?_⟩
    exact q l _ _ hl (aB.upd hl) ao (by rw[Dy f2];exact r.2.2.2.same (aB.upd hl))
   | cn ld lt sl tn =>
    intro p hp
    refine⟨_,rfl,rfl,_,rfl,?_⟩
    refine bJ (fun h=>by have:=of_decide_eq_true h;cases this) (fun _=>?_)
    obtain⟨⟨ss,hld⟩,_⟩:=wv.ld n ld lt sl tn (di hf)
    have hfl:=wv.find hld
    have gl:=(wv.gd _ _ hld).1
    rw[Dz hf hfl] at q
    refine⟨_,rfl,p,_,rfl,pP.of hp,rfl,_,_,rfl,_,_,rfl,_,_,rfl,_,_,rfl,rfl,?_⟩
    refine⟨_,rfl,x,dx,_,rfl,hx,pR _ _ _,_,rfl,x,F,vw,ps,fs,ld,ss,rfl,B,hfl,fun l ys H1 hl s1 h1 g1=>?_⟩
    refine⟨fun v H'=>∃ l' ys',v=.ref l'/\H l'=none/\aB H H'/\H' l'=some (.lst ys')/\lY H' ys' (if tn=true then ss.map Ao else ss),?_,?_⟩
    ·refine⟨_,rfl,_,rfl,?_⟩
     cases tn with
     | true =>
      refine wF ⟨_,rfl,l,ys,ss,rfl,bu.of h1,g1,by omega,fun f' ys' H2 s2 hf' h2 g2=>⟨f',ys',rfl,s1.free hf',s1.trans s2,h2,g2⟩⟩
     | false=>exact cZ ⟨_,rfl,l,ys,rfl,hl,s1,h1,g1⟩
    ·rintro v H' ⟨l',ys',rfl,a1,a2,a3,a4⟩
     exact q l' ys' H' a1 a2 a3 a4
inductive Yj (K:Frag)(vs:List V)(H:Hp)(Q:VK)(E:XK):Prop
 | mk (l:Addr) (b:Int) (xs:List V) (ss:List Sg) (fU:vs=[.ref l,.int b]) (fV:bu K H l xs) (iQ:lY H xs ss) (nZ:ss.length <= 400) (xM:∀ (f:Addr) (H':Hp),aB H H'->H f=none->H' f=some (.lst ((lE b (cg ss)).map V.int))->Q (.ref f) H'):Yj K vs H Q E
theorem axI {k:Kd}(h:k.meas=true)(m:Int):intText? k.str=some (nm m k)/\k.str.length <= 640:=by
 cases k <;> first | (cases h;done) | exact⟨by first | exact (show intText? Kd.three.str=some 3 by decide +kernel) | exact (show intText? Kd.two.str=some 2 by decide +kernel),by decide +kernel⟩
theorem avM {k:Kd}(h:¬ k.meas=true)(m:Int):nm m k=m:=by
 cases k <;> first | rfl | exact absurd rfl h
theorem Yk (T:Txt K w mg t):bU P w K mg base jt (0+2) t.pG t.Fz ["line","begin"] (Yj K):=by
 have zG:=HY (P:=P) (w:=w) (base:=base) T
 refine T.pI.ok vQ (fun vs H Q E h=>?_) (fun cdv A outer s H vs Q E hr h=>?_)
 ·obtain⟨_,_,_,_,rfl,_⟩:=h
  rfl
 ·obtain⟨l,b,xs,ss,rfl,hS,hg,hn,q⟩:=h
  refine bj (ak (aU (i:=2) vQ.nd rfl (Or.inl rfl) (bZ aj)) (ak (aU (i:=3) vQ.nd rfl (Or.inl rfl) (pv 1)) (ak (gw PassesOwn.never rfl (ik (pv 0)) (aY (i:=4) vQ.nd rfl (Or.inl rfl)) (ak (qJ (bC (bB (aC zG (hr.mono (by decide)) rfl T.HJ T.jo.kp T.rD .nil aF (aa (pv 4) aj))) (aq (aU (i:=3) vQ.nd rfl (Or.inl rfl) (cC (yq.or j0) rfl T.Ol Nk (aa (bH bc (pv 4) az (fun _ _=>rfl)) aj)))) aM)) (aq (bh (jh PySem.F.plainAttrs_list PySem.F.slot_list_append PySem.F.type_list_append bK (pv 2) (aa (pv 3) aj)))))) (aq (aG (pv 2)))))) ?_
  refine⟨big (by show 0 <= 1000;omega),fun f hf=>?_⟩
  tm_up
  refine⟨⟨xs,lD hS hf⟩,vM (K:=K) (xs:=xs) (fun i σ H'=>∃ (m:Int) (v:Option V) (fs:List Int),σ=[some (.ref l),some (.int b),some (.ref f),some (.int m),v]/\H'=upd H f (.lst (fs.map V.int))/\fs++lE m ((cg ss).drop i)=lE b (cg ss))
   ⟨b,none,[],rfl,rfl,rfl⟩ ?_ ?_ ?_⟩
  ·rintro i σ H' _ ⟨m,v,fs,rfl,rfl,_⟩
   exact lD hS hf
  ·rintro i x σ H' hx ⟨m,v,fs,rfl,rfl,hm⟩
   obtain⟨s,hs,p,rfl,hp⟩:=Cd hg hx
   have hd:=qL (IV (f:=Prod.fst) hs)
   rw[hd] at hm
   have hp':upd H f (.lst (fs.map V.int)) p=some (.tup [.str s.1.str,.int s.2]):=by rw[aA (aD hp hf)];exact hp
   have hl:=congrArg List.length hm
   simp only [List.length_append,lE,List.length_cons,Ux,List.length_map] at hl
   refine aqz [some (.ref l),some (.int b),some (.ref f),some (.int (nm m s.1)),some (.ref p)] (upd H f (.lst (fs.map V.int))) ?_ ?_
   ·refine⟨_,rfl,p,s,rfl,hp',_,rfl,?_⟩
    refine bJ (fun h=>?_) (fun h=>?_)
    ·obtain⟨e1,e2⟩:=axI h m
     tm_up
     exact .inr ⟨_,_,rfl,e1,e2,rfl,rfl⟩
    ·rw[avM h]
     exact⟨rfl,rfl⟩
   ·tm_up
    refine⟨.inl ⟨rfl,_,bu.of ao⟩,?_⟩
    tm_up
    refine⟨_,_,_,rfl,rfl,ao,by rw[List.length_map];exact bx (by omega),?_⟩
    exact⟨_,_,fs++[nm m s.1],rfl,by rw[eU,List.map_append];rfl,by rw[List.append_assoc];exact hm⟩
  ·rintro σ H' ⟨m,v,fs,rfl,rfl,hm⟩
   rw[List.drop_eq_nil_of_le (by rw[List.length_map,cj hg];exact Nat.le_refl _)] at hm
   tm_up
   have e:fs=lE b (cg ss):=by rw[← hm];simp[lE]
   subst e
   exact q f _ (aB.upd hf) hf ao
inductive aaS (K:Frag)(vs:List V)(H:Hp)(Q:VK)(E:XK):Prop
 | mk (l:Addr) (i:Int) (xs:List V) (ss:List Sg) (fU:vs=[.ref l,.int i]) (fV:bu K H l xs) (iQ:lY H xs ss) (nZ:Q (.str (Ah (kAt (cg ss) i))) H):aaS K vs H Q E
theorem Gp (T:Txt K w mg t):bU P w K mg base jt (0+1) t.uo t.U8 ["line","at"] (aaS K):=by
 refine T.gZ.ok akf (fun vs H Q E h=>?_) (fun cdv A outer s H vs Q E hr h=>?_)
 ·obtain⟨_,_,_,_,rfl,_⟩:=h
  rfl
 ·obtain⟨l,i,xs,ss,rfl,hS,hg,q⟩:=h
  have out:¬ (0 <= i/\i < ss.length)->kAt (cg ss) i=none:=fun z=>by
   unfold kAt
   split
   ·exact List.getElem?_eq_none (by rw[List.length_map];omega)
   ·rfl
  refine bj (ak (bC (QX Im Dp az (pv 1) (aL (aN.or aO) rfl T.cB cA (aa (pv 0) aj))) (aq (aG (bH bc (bH bc (pv 0) (pv 1) (fun _ _=>rfl)) az (fun _ _=>rfl)))) aM) (aq (aG cF))) ?_
  tm_up
  refine bJ (fun h0=>?_) (fun h0=>?_)
  ·have h0':=of_decide_eq_true h0
   tm_up
   refine .inl ⟨_,_,rfl,.inl hS,?_⟩
   rw[cj hg]
   tm_up
   refine bJ (fun h1=>?_) (fun h1=>?_)
   ·have h1':=of_decide_eq_true h1
    have hi:i.toNat < ss.length:=by omega
    have e:kAt (cg ss) i=some (ss[i.toNat]).1:=by
     unfold kAt
     rw[if_pos h0',List.getElem?_map,List.getElem?_eq_getElem hi]
     rfl
    rw[e] at q
    tm_up
    refine acW hS hg (n:=i.toNat) (by omega) (List.getElem?_eq_getElem hi) fun b hb=>?_
    tm_up
    exact q
   ·rw[out fun z=>h1 (decide_eq_true z.2)] at q
    exact q
  ·rw[out fun z=>h0 (decide_eq_true z.1)] at q
   exact⟨_,rfl,cZ q⟩
inductive JH (vs:List V)(H:Hp)(Q:VK)(E:XK):Prop
 | mk (k:Kd) (m:Int) (fU:vs=[.str k.str,.int m]) (fV:Q (.int (pw k m)) H):JH vs H Q E
theorem aaT (T:Txt K w mg t):bU P w K mg base jt (0+1) t.iR t.Ci ["kind","measure"] JH:=by
 refine T.oR.ok aae (fun vs H Q E h=>?_) (fun cdv A outer s H vs Q E hr h=>?_)
 ·obtain⟨_,_,rfl,_⟩:=h
  rfl
 ·obtain⟨k,m,rfl,q⟩:=h
  refine bj (ak (bC (cG (PW.pt (fL (aJ (cX.or (bV (aZ hr))) (pv 1) az (aR _)) (ig (aJ aqx (pv 0) (cO (v:=.ref t.cP) rfl T.Er rfl) rfl))))) (aq (aG (bH aui (cO (v:=.ref t.cP) rfl T.Er rfl) (pv 0) (fun _ _=>rfl)))) aM) (aq (aG (bH aui (cO (v:=.ref t.fu) rfl T.aaJ rfl) (pv 0) (fun _ _=>rfl))))) ?_
  refine oH (decide (m=2) && (decide (k=.G) || decide (k=.R))) ?_ ?_
  ·tm_up
   rw[ji]
   refine bJ (fun h=>?_) (fun h=>?_)
   ·tm_up
    refine⟨_,_,_,rfl,rfl,T.Bh,_,rfl,eY ?_⟩
    rw[h]
    cases k <;> decide +kernel
   ·exact eY (by rw[Bool.eq_false_iff.mpr h];rfl)
  ·refine bJ (fun h=>?_) (fun h=>?_)
   ·tm_up
    obtain⟨h1,h2⟩:=Bool.and_eq_true_iff.mp h
    have hm:=of_decide_eq_true h1
    have e:[(Str.ofString "G",V.int 2),(Str.ofString "R",V.int 2)].lookup k.str=some (.int (pw k m)):=by
     rw[hm]
     cases k <;> first | decide +kernel | (exfalso;revert h2;decide)
    exact⟨_,_,_,_,rfl,rfl,T.Bh,e,q⟩
   ·tm_up
    have e:[(Str.ofString "G",V.int 3),(Str.ofString "D",V.int 2),(Str.ofString "R",V.int 3),(Str.ofString "s",V.int 1),(Str.ofString "d",V.int 1),(Str.ofString "r",V.int 1),(Str.ofString ".",V.int 0),(Str.ofString "3",V.int 0),(Str.ofString "2",V.int 0)].lookup k.str=some (.int (pw k m)):=by
     by_cases hm:m=2
     ·rw[hm] at h ⊢
      cases k <;> first | decide +kernel | (exfalso;revert h;decide)
     ·cases k <;> first | decide +kernel | (simp only [pw,if_neg hm];decide +kernel)
    exact⟨_,_,_,_,rfl,rfl,T.YC,e,q⟩
inductive rO (K:Frag)(vs:List V)(H:Hp)(Q:VK)(E:XK):Prop
 | mk (l:Addr) (b:Int) (xs:List V) (ss:List Sg) (fU:vs=[.ref l,.int b]) (fV:bu K H l xs) (iQ:lY H xs ss) (nZ:ss.length <= 400) (xM:∀ (f:Addr) (H':Hp),aB H H'->H f=none->H' f=some (.lst ((lF b (cg ss)).map V.int))->Q (.ref f) H'):rO K vs H Q E
theorem Gq (T:Txt K w mg t):bU P w K mg base jt (0+3) t.cI t.kO ["line","begin"] (rO K):=by
 have Ot:=Yk (P:=P) (w:=w) (base:=base) T
 have jr:=Gp (P:=P) (w:=w) (base:=base) T
 have ac8:=aaT (P:=P) (w:=w) (base:=base) T
 refine T.dY.ok fX (fun vs H Q E h=>?_) (fun cdv A outer s H vs Q E hr h=>?_)
 ·obtain⟨_,_,_,_,rfl,_⟩:=h
  rfl
 ·obtain⟨l,b,xs,ss,rfl,hS,hg,hn,q⟩:=h
  refine bj (ak (aU (i:=2) fX.nd rfl (Or.inl rfl) (bZ aj)) (ak (gw PassesOwn.never rfl (amx rfl T.Gj (aC Ot (hr.mono (by decide)) rfl T.Yc T.pI.kp T.Ge .nil aF (aa (pv 0) (aa (pv 1) aj)))) (kE rfl (bD (aY (i:=3) fX.nd rfl (Or.inl rfl)) (bD (aY (i:=4) fX.nd rfl (Or.inl rfl)) gM))) (aq (bC (cG (PW.pt (fL (aJ (cX.or (bV (aZ hr))) (pv 4) az (aR _)) (fL (aJ (cX.or (bV (aZ hr))) (aC jr (hr.mono (by decide)) rfl T.mL T.gZ.kp T.j9 .nil aF (aa (pv 0) (aa (pv 3) aj))) cF (aR _)) (ig (aJ (cX.or (bV (aZ hr))) (aC jr (hr.mono (by decide)) rfl T.mL T.gZ.kp T.j9 .nil aF (aa (pv 0) (aa (aW (bO.or (aQ.or bQ)) (pv 3) az) aj))) cF (aR _))))))) (aq (bh (jh PySem.F.plainAttrs_list PySem.F.slot_list_append PySem.F.type_list_append bK (pv 2) (aa (cO (v:=.int 3) rfl T.aaK ⟨_,rfl⟩) aj)))) (aq (bh (jh PySem.F.plainAttrs_list PySem.F.slot_list_append PySem.F.type_list_append bK (pv 2) (aa (aC ac8 (hr.mono (by decide)) rfl T.aay T.oR.kp T.Cp .nil aF (aa (aC jr (hr.mono (by decide)) rfl T.mL T.gZ.kp T.j9 .nil aF (aa (pv 0) (aa (pv 3) aj))) (aa (pv 4) aj))) aj))))))) (aq (aG (pv 2))))) ?_
  refine⟨big (by show 0 <= 1000;omega),fun f hf=>?_⟩
  tm_up
  refine⟨l,b,xs,ss,rfl,lD hS hf,hg.same (aB.upd hf),hn,fun f2 H2 s2 n2 h2=>⟨_,rfl,⟨_,bu.of h2⟩,?_⟩⟩
  have ml:(lE b (cg ss)).length=ss.length:=by rw[Ux,List.length_map]
  have nff:f2≠f:=fun e=>by rw[e,ao] at n2;cases n2
  refine aie (K:=K) (xs:=(lE b (cg ss)).map V.int) (fun i σ H'=>∃ (v w:Option V) (fs:List Int),σ=[some (.ref l),some (.int b),some (.ref f),v,w]/\aB H H'/\H' f=some (.lst (fs.map V.int))/\H' f2=some (.lst ((lE b (cg ss)).map V.int))/\fs++Nt ((cg ss).drop i) ((lE b (cg ss)).drop i)=lF b (cg ss))
   ⟨none,none,[],rfl,(aB.upd hf).trans s2,s2 _ _ ao,h2,aip ..⟩ ?_ ?_ ?_
  ·rintro i σ H' ⟨v,w,fs,rfl,_,_,h3,_⟩
   exact bu.of h3
  ·rintro i x t σ H' hx ⟨v,w,fs,rfl,s3,h3,h4,hm⟩ ht
   obtain⟨m,hm1,rfl⟩:=IK hx
   have hil:i < ss.length:=by
    have:=(List.getElem?_eq_some_iff.mp hm1).1
    omega
   have hk:(cg ss)[i]? = some (ss[i]).1:=IV (List.getElem?_eq_getElem hil)
   rw[qL hk,qL hm1] at hm
   simp only [Nt,head_drop] at hm
   have hl:=congrArg List.length hm
   simp only [List.length_append,List.length_cons,Ds,List.length_map] at hl
   have sT:aB H' (upd H' t (.tup [.int i,.int m])):=aB.upd ht
   have hS':bu K (upd H' t (.tup [.int i,.int m])) l xs:=(s3.trans sT).seq hS
   have hg':=hg.same (s3.trans sT)
   have h3':=sT _ _ h3
   have ka:kAt (cg ss) (i:Int)=some (ss[i]).1:=by rw[Ai];exact hk
   have kb:kAt (cg ss) ((i:Int)+1)=(cg ss)[i+1]?:=by rw[← Ai];rfl
   refine⟨t,_,rfl,pP.of ao,rfl,_,_,rfl,_,_,rfl,rfl,?_⟩
   have fin:∀ z:Int,z=bw m (ss[i]).1 (cg ss)[i+1]?->∃ (v w:Option V) (fs':List Int),[some (V.ref l),some (V.int b),some (V.ref f),some (V.int (i:Int)),some (V.int m)]=[some (.ref l),some (.int b),some (.ref f),v,w]/\aB H (upd (upd H' t (.tup [.int i,.int m])) f (.lst (fs.map V.int++[V.int z]))) /\
     (upd (upd H' t (.tup [.int i,.int m])) f (.lst (fs.map V.int++[V.int z]))) f=some (.lst (fs'.map V.int))/\(upd (upd H' t (.tup [.int i,.int m])) f (.lst (fs.map V.int++[V.int z]))) f2=some (.lst ((lE b (cg ss)).map V.int))/\fs'++Nt ((cg ss).drop (i+1)) ((lE b (cg ss)).drop (i+1))=lF b (cg ss):=by
    intro z hz
    refine⟨_,_,fs++[z],rfl,gO (s3.trans sT) hf,by rw[ao,List.map_append];rfl,by rw[aA nff];exact sT _ _ h4,?_⟩
    rw[List.append_assoc,hz]
    exact hm
   refine oH (decide (m=2) && (decide (Ah (kAt (cg ss) (i:Int)) = "G") && decide (Ah (kAt (cg ss) ((i:Int)+1)) = "."))) ?_ ?_
   ·tm_up
    rw[ji]
    refine bJ (fun h=>?_) (fun h=>?_)
    ·tm_up
     refine⟨l,_,xs,ss,rfl,hS',hg',?_⟩
     tm_up
     rw[asY]
     refine bJ (fun h2=>?_) (fun h2=>?_)
     ·tm_up
      refine⟨l,_,xs,ss,rfl,hS',hg',?_⟩
      tm_up
      rw[asY]
      exact eY (by rw[h,h2];rfl)
     ·exact eY (by rw[h,Bool.eq_false_iff.mpr h2];rfl)
    ·exact eY (by rw[Bool.eq_false_iff.mpr h];rfl)
   ·refine bJ (fun h=>?_) (fun h=>?_)
    ·tm_up
     refine⟨.inl ⟨rfl,_,bu.of h3'⟩,?_⟩
     refine⟨_,_,_,rfl,rfl,h3',by rw[List.length_map];exact bx (by omega),fin 3 ?_⟩
     obtain⟨h1,h2⟩:=Bool.and_eq_true_iff.mp h
     obtain⟨h2,h5⟩:=Bool.and_eq_true_iff.mp h2
     have e1:(ss[i]).1=.G:=by
      have:=of_decide_eq_true h2
      rw[ka] at this
      exact str_inj.mp (this.trans (rfl:("G":Str)=Kd.G.str))
     have e2:(cg ss)[i+1]? = some .dot:=by
      have:=of_decide_eq_true h5
      rw[kb] at this
      exact ain.mp (this.trans (rfl:(".":Str)=Ah (some .dot)))
     unfold bw
     rw[if_pos ⟨of_decide_eq_true h1,e1,e2⟩]
    ·tm_up
     refine⟨.inl ⟨rfl,_,bu.of h3'⟩,?_⟩
     tm_up
     refine⟨l,_,xs,ss,rfl,hS',hg',?_⟩
     tm_up
     rw[ka]
     refine⟨_,_,rfl,?_⟩
     refine⟨_,_,_,rfl,rfl,h3',by rw[List.length_map];exact bx (by omega),fin _ ?_⟩
     unfold bw
     rw[if_neg]
     rintro ⟨h1,h2,h5⟩
     refine h ?_
     rw[ka,kb,h2,h5,h1]
     decide +kernel
  ·rintro σ H' ⟨v,w,fs,rfl,s3,h3,_,hm⟩
   rw[List.length_map,ml,List.drop_eq_nil_of_le (by rw[List.length_map];exact Nat.le_refl _)] at hm
   tm_up
   have e:fs=lF b (cg ss):=by rw[← hm];simp[Nt]
   subst e
   exact q f _ s3 hf h3
inductive amR (K:Frag)(vs:List V)(H:Hp)(Q:VK)(E:XK):Prop
 | mk (l:Addr) (b:Int) (xs:List V) (ss:List Sg) (fU:vs=[.ref l,.int b]) (fV:bu K H l xs) (iQ:lY H xs ss) (nZ:ss.length <= 400) (xM:∀ (f:Addr) (ys:List V) (H':Hp),aB H H'->H f=none->H' f=some (.lst ys)->Prs H' ys (HH b (cg ss))->Q (.ref f) H'):amR K vs H Q E
theorem atj (T:Txt K w mg t):bU P w K mg base jt (0+3) t.Oc t.afh ["line","begin"] (amR K):=by
 have Ot:=Yk (P:=P) (w:=w) (base:=base) T
 have afv:=aiI (P:=P) (w:=w) (base:=base) T
 refine T.Vh.ok Fq (fun vs H Q E h=>?_) (fun cdv A outer s H vs Q E hr h=>?_)
 ·obtain⟨_,_,_,_,rfl,_⟩:=h
  rfl
 ·obtain⟨l,b,xs,ss,rfl,hS,hg,hn,q⟩:=h
  refine bj (ak (aU (i:=2) Fq.nd rfl (Or.inl rfl) (bZ aj)) (ak (aU (i:=3) Fq.nd rfl (Or.inl rfl) az) (ak (gw PassesOwn.never rfl (aw4 rfl T.Vm rfl T.Gj (pv 0) (aC Ot (hr.mono (by decide)) rfl T.Yc T.pI.kp T.Ge .nil aF (aa (pv 0) (aa (pv 1) aj)))) (kE rfl (bD (aY (i:=4) Fq.nd rfl (Or.inl rfl)) (bD (kE rfl (bD (aY (i:=5) Fq.nd rfl (Or.inl rfl)) (bD (aY (i:=6) Fq.nd rfl (Or.inl rfl)) gM))) gM))) (aq (bC (cG (PW.pt (lR (aJ (cX.or (bV (aZ hr))) (pv 6) az (aR _)) (jf (cz (bB (aC afv (hr.mono (by decide)) rfl T.aiz T.Mi.kp T.Zr .nil aF (aa (pv 5) aj)))))))) (ak (qJ (bC (aJ Dp (pv 3) (pv 4) (aR _)) (aq (bh (jh PySem.F.plainAttrs_list PySem.F.slot_list_append PySem.F.type_list_append bK (pv 2) (aa (gA (aa (pv 3) (aa (pv 4) aj))) aj)))) aM)) (aq (aU (i:=3) Fq.nd rfl (Or.inl rfl) (aW (bO.or (aQ.or bQ)) (pv 4) az)))) aM))) (ak (qJ (bC (aJ Dp (pv 3) (aL (aN.or aO) rfl T.cB cA (aa (pv 0) aj)) (aR _)) (aq (bh (jh PySem.F.plainAttrs_list PySem.F.slot_list_append PySem.F.type_list_append bK (pv 2) (aa (gA (aa (pv 3) (aa (aL (aN.or aO) rfl T.cB cA (aa (pv 0) aj)) aj))) aj)))) aM)) (aq (aG (pv 2))))))) ?_
  refine⟨big (by show 0 <= 1000;omega),fun f hf=>?_⟩
  tm_up
  refine⟨l,b,xs,ss,rfl,lD hS hf,hg.same (aB.upd hf),hn,fun f2 H2 s2 n2 h2=>⟨_,_,rfl,rfl,⟨xs,((aB.upd hf).trans s2).seq hS⟩,⟨_,bu.of h2⟩,?_⟩⟩
  have ml:(lE b (cg ss)).length=ss.length:=by rw[Ux,List.length_map]
  have nff:f2≠f:=fun e=>by rw[e,ao] at n2;cases n2
  have cnt:(HH b (cg ss)).length <= 401:=by
   have:=vN (oJ b (cg ss)) 0 0
   rw[yL,List.length_map] at this
   exact Nat.le_trans this (by omega)
  refine avc (K:=K) (xs:=xs) (ys:=(lE b (cg ss)).map V.int) (fun i σ H'=>∃ (v w u:Option V) (first:Nat) (ys:List V) (qs:List (Nat×Nat)),σ=[some (.ref l),some (.int b),some (.ref f),some (.int (first:Int)),v,w,u]/\aB H H'/\H' f=some (.lst ys)/\Prs H' ys qs/\H' f2=some (.lst ((lE b (cg ss)).map V.int))/\first <= i/\qs++gP i first (aiq ((cg ss).drop i) ((lE b (cg ss)).drop i))=HH b (cg ss))
   (by rw[List.length_map,ml];exact cj hg) ⟨none,none,none,0,[],[],rfl,(aB.upd hf).trans s2,s2 _ _ ao,.nil,h2,Nat.le_refl _,by rw[List.drop_zero,List.drop_zero,aj7];rfl⟩ ?_ ?_ ?_
  ·rintro i σ H' ⟨v,w,u,first,ys,qs,rfl,s3,_,_,h4,_⟩
   exact⟨s3.seq hS,bu.of h4⟩
  ·rintro i x y t u' σ H' hx hy ⟨v,w,u,first,ys,qs,rfl,s3,h3,hq,h4,hfi,hm⟩ ht hu htu
   obtain⟨s,hs,p,rfl,hp⟩:=Cd hg hx
   obtain⟨m,hm1,rfl⟩:=IK hy
   rw[qL (IV (f:=Prod.fst) hs),qL hm1] at hm
   simp only [aiq] at hm
   have sT:aB H' (upd (upd H' t (.tup [.ref p,.int m])) u' (.tup [.int i,.ref t])):=(aB.upd ht).trans (aB.upd (by rw[aA htu.symm];exact hu))
   have ut:upd (upd H' t (.tup [.ref p,.int m])) u' (.tup [.int i,.ref t]) t=some (.tup [.ref p,.int m]):=by rw[aA htu,ao]
   refine⟨u',_,rfl,pP.of ao,rfl,_,_,rfl,_,_,rfl,t,_,rfl,pP.of ut,rfl,_,_,rfl,_,_,rfl,rfl,rfl,?_⟩
   generalize upd (upd H' t (.tup [.ref p,.int m])) u' (.tup [.int i,.ref t])=H3 at sT
   have hp3:=(s3.trans sT) _ _ hp
   have h33:=sT _ _ h3
   have hq3:=Aj sT hq
   refine oH (!inR m s.1) ?_ ?_
   ·tm_up
    rw[ji]
    refine bJ (fun h=>?_) (fun h=>?_)
    ·refine eY ?_
     unfold inR
     have:=of_decide_eq_true h
     simp[this]
    ·tm_up
     refine⟨p,s,rfl,hp3,_,rfl,eY ?_⟩
     have hm2:m≠2:=fun e=>h (decide_eq_true e)
     unfold inR
     simp[hm2]
   ·cases hin:inR m s.1 with
    | false =>
     rw[hin] at hm
     refine wF ?_
     refine⟨fun σ1 H1=>σ1=[some (.ref l),some (.int b),some (.ref f),some (.int (first:Int)),some (.int i),some (.ref p),some (.int m)]/\aB H H1/\(∃ ys',H1 f=some (.lst ys')/\Prs H1 ys' (qs++if first < i then [(first,i)] else []))/\H1 f2=some (.lst ((lE b (cg ss)).map V.int)),?_,?_⟩
     ·tm_up
      refine bJ (fun h=>?_) (fun h=>?_)
      ·have hlt:first < i:=by have:=of_decide_eq_true h;omega
       have ql:qs.length <= 401:=by
        have:=congrArg List.length hm
        simp only [List.length_append] at this
        omega
       tm_up
       refine⟨.inl ⟨rfl,_,bu.of h33⟩,?_⟩
       tm_up
       refine⟨by show 2 <= sizeLine;decide,fun z hz=>?_⟩
       have sz:aB H3 (upd H3 z (.tup [.int (first:Int),.int i])):=aB.upd hz
       have h3z:=sz _ _ h33
       refine⟨_,_,_,rfl,rfl,h3z,by rw[cj hq3];exact bx (by omega),?_⟩
       rw[if_pos hlt]
       exact⟨rfl,gO ((s3.trans sT).trans sz) hf,⟨_,ao,pQ (yN h3z (Aj sz hq3)) (air h3z ⟨z,rfl,ao⟩)⟩,by rw[aA nff];exact sz _ _ (sT _ _ h4)⟩
      ·have hlt:¬ first < i:=fun z=>h (decide_eq_true (by omega))
       rw[if_neg hlt,List.append_nil]
       exact⟨rfl,s3.trans sT,⟨_,h33,hq3⟩,sT _ _ h4⟩
     ·rintro σ1 H1 ⟨rfl,sa,⟨ys',hb,hc⟩,hd⟩
      tm_up
      refine⟨_,_,_,i+1,ys',_,rfl,sa,hb,hc,hd,Nat.le_refl _,?_⟩
      rw[← hm,List.append_assoc]
      rfl
    | true =>
     rw[hin] at hm
     refine cZ ?_
     exact⟨_,_,_,first,ys,qs,rfl,s3.trans sT,h33,hq3,sT _ _ h4,by omega,hm⟩
  ·rintro σ H' ⟨v,w,u,first,ys,qs,rfl,s3,h3,hq,h4,hfi,hm⟩
   rw[cj hg] at hm hfi
   rw[List.drop_eq_nil_of_le (by rw[List.length_map];exact Nat.le_refl _)] at hm
   have hm':qs++(if first < ss.length then [(first,ss.length)] else [])=HH b (cg ss):=hm
   have ql:qs.length <= 401:=by
    have:=congrArg List.length hm
    simp only [List.length_append] at this
    omega
   refine⟨fun σ1 H1=>σ1=[some (.ref l),some (.int b),some (.ref f),some (.int (first:Int)),v,w,u]/\aB H H1/\∃ ys',H1 f=some (.lst ys')/\Prs H1 ys' (HH b (cg ss)),?_,?_⟩
   ·tm_up
    refine .inl ⟨_,_,rfl,.inl (s3.seq hS),?_⟩
    rw[cj hg]
    tm_up
    refine bJ (fun h=>?_) (fun h=>?_)
    ·have hlt:first < ss.length:=by have:=of_decide_eq_true h;omega
     tm_up
     refine⟨.inl ⟨rfl,_,bu.of h3⟩,?_⟩
     tm_up
     refine .inl ⟨_,_,rfl,.inl (s3.seq hS),?_⟩
     rw[cj hg]
     refine⟨by show 2 <= sizeLine;decide,fun z hz=>?_⟩
     have sz:aB H' (upd H' z (.tup [.int (first:Int),.int (ss.length:Int)])):=aB.upd hz
     have h3z:=sz _ _ h3
     refine⟨_,_,_,rfl,rfl,h3z,by rw[cj hq];exact bx (by omega),?_⟩
     rw[if_pos hlt] at hm'
     rw[← hm']
     exact⟨rfl,gO (s3.trans sz) hf,_,ao,pQ (yN h3z (Aj sz hq)) (air h3z ⟨z,rfl,ao⟩)⟩
    ·have hlt:¬ first < ss.length:=fun z=>h (decide_eq_true (by omega))
     rw[if_neg hlt,List.append_nil] at hm'
     rw[← hm']
     exact⟨rfl,s3,_,h3,hq⟩
   ·rintro σ1 H1 ⟨rfl,sa,ys',hb,hc⟩
    tm_up
    exact q f ys' H1 sa hf hb hc
inductive Es (K:Frag)(vs:List V)(H:Hp)(Q:VK)(E:XK):Prop
 | mk (l f:Addr) (a:Nat) (xs:List V) (ss:List Sg) (fs:List Int) (fU:vs=[.ref l,.ref f,.int (a:Int)]) (fV:bu K H l xs) (iQ:lY H xs ss) (nZ:H f=some (.lst (fs.map V.int))) (xM:fs.length=ss.length) (h5_:Q (.bl (oK (cg ss) fs a)) H):Es K vs H Q E
theorem Et (T:Txt K w mg t):bU P w K mg base jt (0+2) t.fO t.wH ["line","found","first"] (Es K):=by
 have jr:=Gp (P:=P) (w:=w) (base:=base) T
 refine T.ie.ok UW (fun vs H Q E h=>?_) (fun cdv A outer s H vs Q E hr h=>?_)
 ·obtain⟨_,_,_,_,_,_,rfl,_⟩:=h
  rfl
 ·obtain⟨l,f,a,xs,ss,fs,rfl,hS,hg,hf,hl,q⟩:=h
  refine bj (aq (aG (fM (wB (dz (cX.or (bV (aZ hr))) (aC jr (hr.mono (by decide)) rfl T.mL T.gZ.kp T.j9 .nil aF (aa (pv 0) (aa (aW lV (pv 2) az) aj))) cF (aR _)) (wA (dz (cX.or (bV (aZ hr))) (bH bc (pv 1) (aW lV (pv 2) az) (fun _ _=>rfl)) (cO (v:=.int 3) rfl T.afr ⟨_,rfl⟩) (aR _))))))) ?_
  refine ZS (.bl (oK (cg ss) fs a)) ?_ q
  tm_up
  refine⟨l,_,xs,ss,rfl,hS,hg,?_⟩
  tm_up
  rw[o_G]
  refine bJ (fun h=>?_) (fun h=>?_)
  ·have e:=of_decide_eq_true h
   have e':1 <= a/\a - 1 < ss.length:=by
    unfold kAt at e
    split at e
    ·have:=(List.getElem?_eq_some_iff.mp e).1
     rw[List.length_map] at this
     omega
    ·cases e
   tm_up
   refine aqN (bu.of hf) (n:=a - 1) (by omega) (List.getElem?_eq_getElem (by omega)) ?_
   tm_up
   rw[ji]
   refine xV ?_
   unfold oK
   rw[h,List.getD_eq_getElem?_getD,List.getElem?_eq_getElem (by omega)]
   rfl
  ·refine xV ?_
   unfold oK
   rw[Bool.eq_false_iff.mpr h]
   rfl
inductive Bl (K:Frag)(vs:List V)(H:Hp)(Q:VK)(E:XK):Prop
 | mk (l:Addr) (z:Nat) (xs:List V) (ss:List Sg) (fU:vs=[.ref l,.int (z:Int)]) (fV:bu K H l xs) (iQ:lY H xs ss) (nZ:Q (.bl (jH (cg ss) z)) H):Bl K vs H Q E
theorem amS (k:Option Kd):inV (.str (Ah k)) [.str "G",.str "D",.str "R"]=Ce k:=by
 cases k with
 | none=>decide +kernel
 | some k=>cases k <;> decide +kernel
theorem Bm (T:Txt K w mg t):bU P w K mg base jt (0+2) t.eO t.uq ["line","behind"] (Bl K):=by
 have jr:=Gp (P:=P) (w:=w) (base:=base) T
 refine T.gq.ok Ro (fun vs H Q E h=>?_) (fun cdv A outer s H vs Q E hr h=>?_)
 ·obtain⟨_,_,_,_,rfl,_⟩:=h
  rfl
 ·obtain⟨l,z,xs,ss,rfl,hS,hg,q⟩:=h
  refine bj (aq (aG (fM (wB (dz (cX.or (bV (aZ hr))) (aC jr (hr.mono (by decide)) rfl T.mL T.gZ.kp T.j9 .nil aF (aa (pv 0) (aa (pv 1) aj))) cF (aR _)) (wA (dz (Q4.or Q5) (aC jr (hr.mono (by decide)) rfl T.mL T.gZ.kp T.j9 .nil aF (aa (pv 0) (aa (aW (bO.or (aQ.or bQ)) (pv 1) az) aj))) (cO (v:=.ref t.gh) rfl T.MP rfl) rfl)))))) ?_
  refine ZS (.bl (jH (cg ss) z)) ?_ q
  tm_up
  refine⟨l,_,xs,ss,rfl,hS,hg,?_⟩
  tm_up
  rw[o_G]
  refine bJ (fun h=>?_) (fun h=>?_)
  ·tm_up
   refine⟨l,_,xs,ss,rfl,hS,hg,?_⟩
   tm_up
   refine .inl ⟨_,_,rfl,.inr (T.MT _),rfl,rfl,xV ?_⟩
   unfold jH
   rw[Ai] at h
   have e:kAt (cg ss) ((z:Int)+1)=(cg ss)[z+1]?:=by rw[← Ai];rfl
   rw[h,← amS,← e]
   rfl
  ·refine xV ?_
   unfold jH
   rw[Ai] at h
   rw[Bool.eq_false_iff.mpr h]
   rfl
def arc (K:Frag)(g:List Kd->List Int->Nat->Nat->Bool×List Int):Sp:=fun vs H Q _=>∃ (l f:Addr) (a z:Nat) (xs:List V) (ss:List Sg) (fs:List Int),vs=[.ref l,.ref f,.int (a:Int),.int (z:Int)]/\bu K H l xs/\lY H xs ss/\H f=some (.lst (fs.map V.int))/\fs.length=ss.length/\a < z/\z <= ss.length /\
 Q (.bl (g (cg ss) fs a z).1) (upd H f (.lst ((g (cg ss) fs a z).2.map V.int)))
theorem Ou (T:Txt K w mg t):bU P w K mg base jt (0+3) t.dF t.qX ["line","found","first","behind"] (arc K Lx):=by
 have wK:=Et (P:=P) (w:=w) (base:=base) T
 have uJ:=Bm (P:=P) (w:=w) (base:=base) T
 refine T.iD.ok NT (fun vs H Q E h=>?_) (fun cdv A outer s H vs Q E hr h=>?_)
 ·obtain⟨_,_,_,_,_,_,_,rfl,_⟩:=h
  rfl
 ·obtain⟨l,f,a,z,xs,ss,fs,rfl,hS,hg,hf,hl,haz,hz,q⟩:=h
  unfold Lx at q
  refine bj (ak (bC (bB (aC wK (hr.mono (by decide)) rfl T.Eh T.ie.kp T.o9 .nil aF (aa (pv 0) (aa (pv 1) (aa (pv 2) aj))))) (ak (qH (cO (v:=.int 2) rfl T.lM ⟨_,rfl⟩) (Ij (pv 1) (aW lV (pv 2) az) set_list)) (aq (aG dB))) aM) (ak (bC (bB (aC uJ (hr.mono (by decide)) rfl T.Bc T.gq.kp T.nC .nil aF (aa (pv 0) (aa (pv 3) aj)))) (ak (qH (cO (v:=.int 2) rfl T.lM ⟨_,rfl⟩) (Ij (pv 1) (pv 3) set_list)) (aq (aG dB))) aM) (aq (aG dB)))) ?_
  tm_up
  refine⟨l,f,a,xs,ss,fs,rfl,hS,hg,hf,hl,_,rfl,?_⟩
  refine bJ (fun h=>?_) (fun h=>?_)
  ·rw[if_pos h] at q
   have hp:=Uy h
   rw[List.length_map] at hp
   tm_up
   refine⟨_,_,_,_,rfl,rfl,hf,Ak (j:=a - 1) (by omega) (by rw[List.length_map];omega),?_⟩
   rw[vz]
   exact q
  ·rw[if_neg h] at q
   tm_up
   refine⟨l,z,xs,ss,rfl,hS,hg,_,rfl,?_⟩
   refine bJ (fun h2=>?_) (fun h2=>?_)
   ·rw[if_pos h2] at q
    have hp:=Nv h2
    rw[List.length_map] at hp
    tm_up
    refine⟨_,_,_,_,rfl,rfl,hf,Ak (j:=z) rfl (by rw[List.length_map];omega),?_⟩
    rw[vz]
    exact q
   ·rw[if_neg h2,Q9 hf] at q
    exact q
theorem Ov (T:Txt K w mg t):bU P w K mg base jt (0+3) t.dG t.qY ["line","found","first","behind"] (arc K Ly):=by
 have wK:=Et (P:=P) (w:=w) (base:=base) T
 have uJ:=Bm (P:=P) (w:=w) (base:=base) T
 have jr:=Gp (P:=P) (w:=w) (base:=base) T
 refine T.iG.ok NZ (fun vs H Q E h=>?_) (fun cdv A outer s H vs Q E hr h=>?_)
 ·obtain⟨_,_,_,_,_,_,_,rfl,_⟩:=h
  rfl
 ·obtain⟨l,f,a,z,xs,ss,fs,rfl,hS,hg,hf,hl,haz,hz,q⟩:=h
  unfold Ly at q
  refine bj (ak (bC (cG (PW.pt (fL (aJ (eF.or eE) (aC jr (hr.mono (by decide)) rfl T.mL T.gZ.kp T.j9 .nil aF (aa (pv 0) (aa (pv 3) aj))) (cO (v:=.ref t.gh) rfl T.MP rfl) rfl) (ig (aJ (cX.or (bV (aZ hr))) (aC jr (hr.mono (by decide)) rfl T.mL T.gZ.kp T.j9 .nil aF (aa (pv 0) (aa (aW lV (pv 3) az) aj))) cF (aR _)))))) (ak (qH (cO (v:=.int 2) rfl T.YD ⟨_,rfl⟩) (Ij (pv 1) (aW lV (pv 3) az) set_list)) (aq (aG dB))) aM) (ak (bC (cG (PW.pt (fL (bB (aC wK (hr.mono (by decide)) rfl T.Eh T.ie.kp T.o9 .nil aF (aa (pv 0) (aa (pv 1) (aa (pv 2) aj))))) (ig (bB (aC uJ (hr.mono (by decide)) rfl T.Bc T.gq.kp T.nC .nil aF (aa (pv 0) (aa (pv 3) aj)))))))) (ak (qH (cO (v:=.int 2) rfl T.lM ⟨_,rfl⟩) (Ij (pv 1) (aW lV (pv 2) az) set_list)) (ak (qH (cO (v:=.int 2) rfl T.lM ⟨_,rfl⟩) (Ij (pv 1) (pv 3) set_list)) (aq (aG dB)))) aM) (aq (aG dB)))) ?_
  refine oH (Ce (cg ss)[z]? && decide ((cg ss)[z - 1]? = some .s)) ?_ ?_
  ·tm_up
   refine⟨l,_,xs,ss,rfl,hS,hg,?_⟩
   tm_up
   refine .inl ⟨_,_,rfl,.inr (T.MT _),rfl,rfl,_,rfl,?_⟩
   show if inV (.str (Ah (kAt (cg ss) (z:Int)))) [.str "G",.str "D",.str "R"]=true then _ else _
   rw[amS,Ai]
   refine bJ (fun h=>?_) (fun h=>?_)
   ·tm_up
    refine⟨l,_,xs,ss,rfl,hS,hg,?_⟩
    tm_up
    rw[o_s]
    have e:kAt (cg ss) ((z:Int) - 1)=(cg ss)[z - 1]?:=by rw[← Ai];congr 1;omega
    rw[e]
    exact eY (by rw[h];rfl)
   ·exact eY (by rw[Bool.eq_false_iff.mpr h];rfl)
  ·refine bJ (fun h=>?_) (fun h=>?_)
   ·rw[if_pos h] at q
    tm_up
    refine⟨_,_,_,_,rfl,rfl,hf,Ak (j:=z - 1) (by omega) (by rw[List.length_map];omega),?_⟩
    rw[vz]
    exact q
   ·rw[if_neg h] at q
    refine oH (oK (cg ss) fs a && jH (cg ss) z) ?_ ?_
    ·tm_up
     refine⟨l,f,a,xs,ss,fs,rfl,hS,hg,hf,hl,_,rfl,?_⟩
     refine bJ (fun h=>?_) (fun h=>?_)
     ·tm_up
      refine⟨l,z,xs,ss,rfl,hS,hg,_,rfl,eY ?_⟩
      rw[h];rfl
     ·exact eY (by rw[Bool.eq_false_iff.mpr h];rfl)
    ·refine bJ (fun h2=>?_) (fun h2=>?_)
     ·rw[if_pos h2] at q
      have hp:=Uy (Bool.and_eq_true_iff.mp h2).1
      have hr:=Nv (Bool.and_eq_true_iff.mp h2).2
      rw[List.length_map] at hp hr
      tm_up
      refine⟨_,_,_,_,rfl,rfl,hf,Ak (j:=a - 1) (by omega) (by rw[List.length_map];omega),?_⟩
      rw[vz]
      tm_up
      refine⟨_,_,_,_,rfl,rfl,ao,Ak (j:=z) rfl (by rw[List.length_map,List.length_set];omega),?_⟩
      rw[vz,eU]
      exact q
     ·rw[if_neg h2,Q9 hf] at q
      exact q
theorem ac9 (T:Txt K w mg t):bU P w K mg base jt (0+4) t.jP t.FJ ["line","found","first","behind"] (arc K settle):=by
 have R5:=Ou (P:=P) (w:=w) (base:=base) T
 have R6:=Ov (P:=P) (w:=w) (base:=base) T
 refine T.rH.ok MK (fun vs H Q E h=>?_) (fun cdv A outer s H vs Q E hr h=>?_)
 ·obtain⟨_,_,_,_,_,_,_,rfl,_⟩:=h
  rfl
 ·obtain⟨l,f,a,z,xs,ss,fs,rfl,hS,hg,hf,hl,haz,hz,q⟩:=h
  unfold settle at q
  refine bj (ak (aU (i:=4) MK.nd rfl (Or.inl rfl) (aW d7 (aW lV (pv 3) (pv 2)) az)) (ak (bC (aJ (cX.or (bV (aZ hr))) (pv 4) az (aR _)) (aq (aG (aC R5 (hr.mono (by decide)) rfl T.Oh T.iD.kp T.rF .nil aF (aa (pv 0) (aa (pv 1) (aa (pv 2) (aa (pv 3) aj))))))) aM) (ak (bC (aJ (cX.or (bV (aZ hr))) (pv 4) az (aR _)) (aq (aG (aC R6 (hr.mono (by decide)) rfl T.Oi T.iG.kp T.rG .nil aF (aa (pv 0) (aa (pv 1) (aa (pv 2) (aa (pv 3) aj))))))) aM) (aq (aG dB))))) ?_
  tm_up
  rw[ji]
  have e:((z:Int) - (a:Int)) % 3=(((z - a) % 3:Nat):Int):=by omega
  refine bJ (fun h=>?_) (fun h=>?_)
  ·have h1:(z - a) % 3=1:=by have:((z:Int) - (a:Int)) % 3=1:=of_decide_eq_true h;omega
   rw[if_pos h1] at q
   tm_up
   exact⟨l,f,a,z,xs,ss,fs,rfl,hS,hg,hf,hl,haz,hz,q⟩
  ·have h1:¬ (z - a) % 3=1:=fun c=>h (decide_eq_true (by show ((z:Int) - (a:Int)) % 3=1;omega))
   rw[if_neg h1] at q
   tm_up
   rw[ji]
   refine bJ (fun h=>?_) (fun h=>?_)
   ·have h2:(z - a) % 3=2:=by have:((z:Int) - (a:Int)) % 3=2:=of_decide_eq_true h;omega
    rw[if_pos h2] at q
    tm_up
    exact⟨l,f,a,z,xs,ss,fs,rfl,hS,hg,hf,hl,haz,hz,q⟩
   ·have h2:¬ (z - a) % 3=2:=fun c=>h (decide_eq_true (by show ((z:Int) - (a:Int)) % 3=2;omega))
    rw[if_neg h2,Q9 hf] at q
    exact q
inductive aaU (K:Frag)(vs:List V)(H:Hp)(Q:VK)(E:XK):Prop
 | mk (l:Addr) (b:Int) (xs:List V) (ss:List Sg) (fU:vs=[.ref l,.int b]) (fV:bu K H l xs) (iQ:lY H xs ss) (nZ:ss.length <= 400) (xM:∀ (p f lo:Addr) (ys:List V) (H':Hp),aB H H'->H f=none->H lo=none->f≠lo->H' p=some (.tup [.ref f,.ref lo])->H' f=some (.lst ((oM b (cg ss)).1.map V.int))->H' lo=some (.lst ys)->Prs H' ys (oM b (cg ss)).2->Q (.ref p) H'):aaU K vs H Q E
theorem akv (T:Txt K w mg t):bU P w K mg base jt (0+5) t.ur t.U9 ["line","begin"] (aaU K):=by
 have Ih:=Gq (P:=P) (w:=w) (base:=base) T
 have avO:=atj (P:=P) (w:=w) (base:=base) T
 have afB:=ac9 (P:=P) (w:=w) (base:=base) T
 refine T.Ei.ok yQ (fun vs H Q E h=>?_) (fun cdv A outer s H vs Q E hr h=>?_)
 ·obtain⟨_,_,_,_,rfl,_⟩:=h
  rfl
 ·obtain⟨l,b,xs,ss,rfl,hS,hg,hn,q⟩:=h
  refine bj (ak (aU (i:=2) yQ.nd rfl (Or.inl rfl) (aC Ih (hr.mono (by decide)) rfl T.Gf T.dY.kp T.kW .nil aF (aa (pv 0) (aa (pv 1) aj)))) (ak (aU (i:=3) yQ.nd rfl (Or.inl rfl) (bZ aj)) (ak (gw PassesOwn.never rfl (ik (aC avO (hr.mono (by decide)) rfl T.as9 T.Vh.kp T.akl .nil aF (aa (pv 0) (aa (pv 1) aj)))) (kE rfl (bD (aY (i:=4) yQ.nd rfl (Or.inl rfl)) (bD (aY (i:=5) yQ.nd rfl (Or.inl rfl)) gM))) (aq (bC (cz (bB (aC afB (hr.mono (by decide)) rfl T.ac2 T.rH.kp T.Gg .nil aF (aa (pv 0) (aa (pv 2) (aa (pv 4) (aa (pv 5) aj))))))) (aq (bh (jh PySem.F.plainAttrs_list PySem.F.slot_list_append PySem.F.type_list_append bK (pv 3) (aa (gA (aa (pv 4) (aa (pv 5) aj))) aj)))) aM))) (aq (aG (gA (aa (pv 2) (aa (pv 3) aj)))))))) ?_
  tm_up
  refine⟨l,b,xs,ss,rfl,hS,hg,hn,fun f H1 s1 n1 h1=>?_⟩
  refine⟨big (by show 0 <= 1000;omega),fun lo hlo=>?_⟩
  have s1':=s1.trans (aB.upd (o:=.lst []) hlo)
  tm_up
  refine⟨l,b,xs,ss,rfl,s1'.seq hS,hg.same s1',hn,fun r zs H2 s2 n2 h2 hz=>⟨_,rfl,⟨_,bu.of h2⟩,?_⟩⟩
  have ard:H lo=none:=s1.free hlo
  have nfl:f≠lo:=aD h1 hlo
  have nrf:r≠f:=fun e=>by
   have:=s1'.free n2
   have h1':=aB.upd (o:=.lst []) hlo _ _ h1
   rw[← e,n2] at h1';cases h1'
  have nrl:r≠lo:=fun e=>by rw[e,ao] at n2;cases n2
  have bl:(lF b (cg ss)).length=ss.length:=by rw[Ds,List.length_map]
  have cnt:(HH b (cg ss)).length <= 401:=by
   have:=vN (oJ b (cg ss)) 0 0
   rw[yL,List.length_map] at this
   exact Nat.le_trans this (by omega)
  refine vM (K:=K) (xs:=zs) (fun i σ H'=>∃ (v w:Option V) (c:RdS) (ys:List V),σ=[some (.ref l),some (.int b),some (.ref f),some (.ref lo),v,w]/\aB H H'/\H' f=some (.lst (c.1.map V.int))/\H' lo=some (.lst ys)/\Prs H' ys c.2/\H' r=some (.lst zs)/\Prs H' zs (HH b (cg ss))/\c.1.length=ss.length/\c.2.length <= i/\((HH b (cg ss)).drop i).foldl (yM (cg ss)) c=oM b (cg ss))
   ⟨none,none,(lF b (cg ss),[]),[],rfl,s1'.trans s2,s2 _ _ (aB.upd (o:=.lst []) hlo _ _ h1),s2 _ _ ao,.nil,h2,hz,bl,Nat.le_refl _,rfl⟩ ?_ ?_ ?_
  ·rintro i σ H' _ ⟨v,w,c,ys,rfl,_,_,_,_,hr,_⟩
   exact bu.of hr
  ·rintro i x σ H' hx ⟨v,w,c,ys,rfl,s3,hf3,avQ,hys,hr3,hzs,hcl,hci,Bo⟩
   obtain⟨pr,hpr,p,rfl,hp⟩:=Cd hzs hx
   have hin:=aqP b (cg ss) pr (List.mem_of_getElem? hpr)
   rw[List.length_map] at hin
   rw[qL hpr,List.foldl_cons] at Bo
   have hil:i < 401:=by
    have:=(List.getElem?_eq_some_iff.mp hpr).1
    omega
   refine⟨p,_,rfl,pP.of hp,rfl,_,_,rfl,_,_,rfl,rfl,?_⟩
   tm_up
   refine⟨l,f,pr.1,pr.2,xs,ss,c.1,rfl,s3.seq hS,hg.same s3,hf3,hcl,hin.1,hin.2,?_⟩
   have s4:aB H (upd H' f (.lst ((settle (cg ss) c.1 pr.1 pr.2).2.map V.int))):=gO s3 n1
   have aky:upd H' f (.lst ((settle (cg ss) c.1 pr.1 pr.2).2.map V.int)) lo=some (.lst ys):=by rw[aA nfl.symm];exact avQ
   have hr4:upd H' f (.lst ((settle (cg ss) c.1 pr.1 pr.2).2.map V.int)) r=some (.lst zs):=by rw[aA nrf];exact hr3
   have atd:(settle (cg ss) c.1 pr.1 pr.2).2.length=ss.length:=by rw[Nu];exact hcl
   tm_up
   refine bJ (fun h=>?_) (fun h=>?_)
   ·have hst:(settle (cg ss) c.1 pr.1 pr.2).1=false:=by
     cases e:(settle (cg ss) c.1 pr.1 pr.2).1
     ·rfl
     ·rw[e] at h;cases h
    tm_up
    refine⟨.inl ⟨rfl,_,bu.of aky⟩,?_⟩
    tm_up
    refine⟨by show 2 <= sizeLine;decide,fun z hz=>?_⟩
    have sz:=aB.upd (o:=.tup [.int (pr.1:Int),.int (pr.2:Int)]) hz
    have aiN:=sz _ _ aky
    refine⟨_,_,_,rfl,rfl,aiN,by rw[cj hys];exact bx (by omega),?_⟩
    refine⟨_,_,((settle (cg ss) c.1 pr.1 pr.2).2,c.2++[pr]),_,rfl,gO (s4.trans sz) ard,by rw[aA nfl];exact sz _ _ ao,ao,pQ (yN aiN (Aj sz (yN hf3 hys))) (air aiN ⟨z,rfl,ao⟩),
     by rw[aA nrl];exact sz _ _ hr4,yN aiN (Aj sz (yN hf3 hzs)),atd,by simp;omega,?_⟩
    rw[← Bo]
    unfold yM
    rw[hst]
    rfl
   ·have hst:(settle (cg ss) c.1 pr.1 pr.2).1=true:=by
     cases e:(settle (cg ss) c.1 pr.1 pr.2).1
     ·rw[e] at h;exact absurd rfl h
     ·rfl
    refine⟨_,_,((settle (cg ss) c.1 pr.1 pr.2).2,c.2),ys,rfl,s4,ao,aky,yN hf3 hys,hr4,yN hf3 hzs,atd,by show c.2.length <= i+1;omega,?_⟩
    rw[← Bo]
    unfold yM
    rw[hst]
    rfl
  ·rintro σ H' ⟨v,w,c,ys,rfl,s3,hf3,avQ,hys,hr3,hzs,hcl,hci,Bo⟩
   rw[cj hz,List.drop_length] at Bo
   have e:c=oM b (cg ss):=Bo
   subst e
   tm_up
   refine⟨by show 2 <= sizeLine;decide,fun z hz=>?_⟩
   have sz:=aB.upd (o:=.tup [.ref f,.ref lo]) hz
   exact q z f lo ys _ (s3.trans sz) n1 ard nfl ao (sz _ _ hf3) (sz _ _ avQ) (Aj sz hys)
inductive aev (K:Frag)(vs:List V)(H:Hp)(Q:VK)(E:XK):Prop
 | mk (l:Addr) (b:Int) (xs:List V) (ss:List Sg) (fU:vs=[.ref l,.int b]) (fV:bu K H l xs) (iQ:lY H xs ss) (nZ:ss.length <= 400) (xM:∀ (f:Addr) (H':Hp),aB H H'->H f=none->H' f=some (.lst ((oM b (cg ss)).1.map V.int))->Q (.ref f) H'):aev K vs H Q E
theorem anY (T:Txt K w mg t):bU P w K mg base jt (0+6) t.za t.Rt ["line","begin"] (aev K):=by
 have anZ:=akv (P:=P) (w:=w) (base:=base) T
 refine T.zy.ok anJ (fun vs H Q E h=>?_) (fun cdv A outer s H vs Q E hr h=>?_)
 ·obtain⟨_,_,_,_,rfl,_⟩:=h
  rfl
 ·obtain⟨l,b,xs,ss,rfl,hS,hg,hn,q⟩:=h
  refine bj (aq (aG (bH bc (aC anZ (hr.mono (by decide)) rfl T.akm T.Ei.kp T.Vi .nil aF (aa (pv 0) (aa (pv 1) aj))) az (fun _ _=>rfl)))) ?_
  tm_up
  refine⟨l,b,xs,ss,rfl,hS,hg,hn,fun p f lo ys H' s1 n1 n2 _ hp hf _ _=>?_⟩
  tm_up
  exact q f H' s1 n1 hf
inductive R7 (c:Cs)(vs:List V)(H:Hp)(Q:VK)(E:XK):Prop
 | mk (x:Addr) (F:Addr->Prop) (vw:Vw) (ps fs:List Vw) (n:Str) (fU:vs=[.ref x,.str n]) (fV:Nz c H x F vw ps fs) (iQ:match bM vw n with
 | none=>RX E c .vD H
 | some _=>∀ (l:Addr) (H':Hp),H l=none->aB H H'->H' l=some (.lst ((ju vw n).map V.int))->Q (.ref l) H'):R7 c vs H Q E
theorem Gs (T:Txt K w mg t):bU P w K mg base jt (0+7) t.jB t.Jo ["self","name"] (R7 (cs t)):=by
 have fZ:=oW (P:=P) (w:=w) (base:=base) T
 have aiO:=anY (P:=P) (w:=w) (base:=base) T
 have mV:=Gn (P:=P) (w:=w) (base:=base) T
 refine T.Bd.ok jM (fun vs H Q E h=>?_) (fun cdv A outer s H vs Q E hr h=>?_)
 ·obtain⟨_,_,_,_,_,_,rfl,_⟩:=h
  rfl
 ·obtain⟨x,F,vw,ps,fs,n,rfl,B,q⟩:=h
  refine bj (ak (aU (i:=2) jM.nd rfl (Or.inl rfl) (bL (pv 0) T.aX T.oO fZ (hr.mono (by decide)) T.jU .nil aF (aa (pv 1) aj))) (ak (bC (aJ aeS (pv 2) Ni (aR _)) (aq (aG (aC aiO (hr.mono (by decide)) rfl T.aen T.zy.kp T.Ry .nil aF (aa (bL (pv 0) T.aX T.nu mV (hr.mono (by decide)) T.jC .nil aF (aa (pv 1) aj)) (aa az aj))))) aM) (ak (qH (pv 2) (kE rfl (bD (aY (i:=3) jM.nd rfl (Or.inl rfl)) (bD (aY (i:=4) jM.nd rfl (Or.inl rfl)) (bD (aY (i:=5) jM.nd rfl (Or.inr rfl)) (bD (aY (i:=6) jM.nd rfl (Or.inl rfl)) gM)))))) (ak (aU (i:=7) jM.nd rfl (Or.inl rfl) (fM (jg (bB (pv 6)) az az))) (aq (aG (vC (cn:=["worth"]) rfl (fW.of rfl) (ik (aC aiO (hr.mono (by decide)) rfl T.aen T.zy.kp T.Ry .nil aF (aa (bL (pv 0) T.aX T.nu mV (hr.mono (by decide)) T.jC .nil aF (aa (pv 1) aj)) (aa (pv 7) aj)))) (fun _=>(aY (i:=0) aaj rfl (Or.inl rfl))) (fun _=>yK) (fun _=>(aW (wC.or wD) (pv 6) (pv 0)))))))))) ?_
  obtain⟨L,D,U,all,M,Ps,Fs,es,us,b,iM,pp,pf,f⟩:=B.ex
  obtain⟨dx,hx⟩:=b.hx
  have wv:=B.wv vw (.inr (.inl rfl))
  refine⟨_,rfl,x,dx,_,rfl,hx,qM _ _ _,_,rfl,x,F,vw,ps,fs,n,rfl,B,?_⟩
  cases hf:bM vw n with
  | none =>
   rw[hf] at q
   exact (Bool.noConfusion (show false=true from q.1))
  | some th =>
   rw[hf] at q
   cases th with
   | pl ss =>
    have gl:=(wv.gd _ _ (di hf)).1
    refine⟨_,rfl,rfl,_,rfl,?_⟩
    refine bJ (fun _=>?_) (fun h=>absurd (by decide) h)
    refine⟨_,rfl,x,dx,_,rfl,hx,pR _ _ _,_,rfl,x,F,vw,ps,fs,n,rfl,B,?_⟩
    rw[hf]
    intro l ys H1 hl s1 h1 g1
    rw[Dy hf] at g1
    refine⟨l,3,ys,ss,rfl,bu.of h1,g1,by omega,fun f' H2 s2 n2 h2=>?_⟩
    exact q f' H2 (s1.free n2) (s1.trans s2) (by rw[Rh hf];exact h2)
   | cn ld lt sl tn =>
    intro p hp
    obtain⟨⟨ss,hld⟩,lt0,lt1,sl0,sl1⟩:=wv.ld n ld lt sl tn (di hf)
    have hfl:=wv.find hld
    have gl:=(wv.gd _ _ hld).1
    rw[Ri hf hfl] at q
    refine⟨_,rfl,rfl,_,rfl,?_⟩
    refine bJ (fun h=>by have:=of_decide_eq_true h;cases this) (fun _=>?_)
    refine⟨_,rfl,p,_,rfl,pP.of hp,rfl,_,_,rfl,_,_,rfl,_,_,rfl,_,_,rfl,rfl,?_⟩
    refine⟨fun v H'=>v=.int (if tn=true then 2 else 3)/\H'=H,?_,?_⟩
    ·refine⟨_,rfl,_,rfl,?_⟩
     cases tn with
     | true=>exact wF ⟨rfl,rfl⟩
     | false=>exact cZ ⟨rfl,rfl⟩
    intro v0 H0 ⟨e1,e2⟩
    rw[e1,e2]
    refine⟨_,rfl,x,dx,_,rfl,hx,pR _ _ _,_,rfl,x,F,vw,ps,fs,n,rfl,B,?_⟩
    rw[hf]
    intro l ys H1 hl s1 h1 g1
    rw[Dz hf hfl] at g1
    have gl2:(if tn=true then ss.map Ao else ss).length <= 400:=by
     split
     ·rw[List.length_map];omega
     ·omega
    refine⟨_,rfl,l,(if tn=true then 2 else 3),ys,_,rfl,bu.of h1,g1,gl2,fun f' H2 s2 n2 h2=>?_⟩
    generalize hW:(oM (if tn=true then 2 else 3) (cg (if tn=true then ss.map Ao else ss))).1=W at q h2
    have hWl:W.length <= 400:=by rw[← hW,yr,List.length_map];exact gl2
    refine⟨f',rfl,⟨_,bu.of h2⟩,fun D' b' hD'=>?_⟩
    generalize hbz:(if tn=true then (2:Int) else 3)=bz
    refine mY (K:=K) (xs:=W.map V.int) (fun i ys σ H'=>∃ v,σ=[v,some (.ref x),some (.str n),some (.ref p),some (.str ld),some (.int lt),some (.int sl),some (.bl tn),some (.int bz)]/\H'=upd H2 D' (.lst ys)/\ys=((W.take i).map fun w=>sl * w).map V.int) ⟨none,rfl,rfl,by simp⟩ ?_ ?_ ?_
    ·rintro i ys σ H' ⟨v,rfl,rfl,_⟩
     exact lD (bu.of h2) hD'
    ·rintro i ys y σ H' hy ⟨v,rfl,rfl,rfl⟩ N hN
     obtain⟨z,hz,rfl⟩:=IK hy
     have hi:i < W.length:=(List.getElem?_eq_some_iff.mp hz).1
     refine jF ?_
     refine⟨_,rfl,_,rfl,.inl ⟨_,_,rfl,rfl,.inl ⟨by omega,by omega⟩,ao,?_,?_⟩⟩
     ·rw[List.length_map,List.length_map,List.length_take]
      exact bx (by omega)
     ·refine hN _ _ _ ⟨_,rfl,eU,?_⟩
      rw[List.take_succ,hz,List.map_append,List.map_append]
      rfl
    ·rintro ys σ H' ⟨v,rfl,rfl,rfl⟩
     rw[List.length_map,List.take_length]
     exact q D' _ (s1.free (s2.free hD')) ((s1.trans s2).trans (aB.upd hD')) ao
inductive aew (vs:List V)(H:Hp)(Q:VK)(E:XK):Prop
 | mk (p:Addr) (s:Sg) (fU:vs=[.ref p]) (fV:H p=some (.tup [.str s.1.str,.int s.2])) (iQ:Q (.bl s.1.lX) H):aew vs H Q E
theorem an0 (k:Kd):inV (.str k.str) [.str "G",.str "D",.str "s",.str "d"]=k.lX:=by cases k <;> decide +kernel
theorem an1 (T:Txt K w mg t):bU P w K mg base jt (0+1) t.zc t.aao ["sign"] aew:=by
 refine T.Jy.ok anK (fun vs H Q E h=>?_) (fun cdv A outer s H vs Q E hr h=>?_)
 ·obtain⟨_,_,rfl,_⟩:=h
  rfl
 ·obtain⟨p,s,rfl,hp,q⟩:=h
  rw[← an0] at q
  refine bj (aq (aG (dz (eF.or eE) (bH bc (pv 0) az (fun _ _=>rfl)) (cO (v:=.ref t.du) rfl T.Eo rfl) rfl))) ?_
  tm_up
  exact .inl ⟨_,_,rfl,.inr (T.Ep _),rfl,rfl,q⟩
theorem aaV {H H':Hp}{t:Addr}(s:aB H H')(n:H t=none):aB H (strip t H'):=fun b o h=>v9 (fun e=>by rw[e,n] at h;exact nomatch h) (s _ _ h)
theorem aex {H H':Hp}{t:Addr}{o:HO}(s:aB (strip t H) H'):aB (strip t H) (upd H' t o):=aiG s (by unfold strip;rw[if_pos rfl])
inductive aiP (c:Cs)(vs:List V)(H:Hp)(Q:VK)(E:XK):Prop
 | mk (x:Addr) (F:Addr->Prop) (vw:Vw) (ps fs:List Vw) (n:Str) (th:Th) (fU:vs=[.ref x,.str n]) (fV:Nz c H x F vw ps fs) (iQ:bM vw n=some th) (nZ:∀ (l:Addr) (ys:List V) (H':Hp),H l=none->aB H H'->H' l=some (.lst ys)->Paired (zH H') ys (mU (pX vw n) (ju vw n) (Mq th))->Q (.ref l) H'):aiP c vs H Q E
theorem arf (T:Txt K w mg t):bU P w K mg base jt (0+8) t.FN t.afi ["book","name"] (aiP (cs t)):=by
 have JK:=R3 (P:=P) (w:=w) (base:=base) T
 have mV:=Gn (P:=P) (w:=w) (base:=base) T
 have qG:=Gs (P:=P) (w:=w) (base:=base) T
 have arh:=an1 (P:=P) (w:=w) (base:=base) T
 refine T.Mj.ok Eb (fun vs H Q E h=>?_) (fun cdv A outer s H vs Q E hr h=>?_)
 ·obtain⟨_,_,_,_,_,_,_,rfl,_⟩:=h
  rfl
 ·obtain⟨x,F,vw,ps,fs,n,th,rfl,B,hf,q⟩:=h
  refine bj (ak (aU (i:=2) Eb.nd rfl (Or.inl rfl) (bZ aj)) (ak (aU (i:=3) Eb.nd rfl (Or.inl rfl) (aC JK (hr.mono (by decide)) rfl T.Rw T.qz.kp T.Bb .nil aF (aa (pv 0) (aa (pv 1) aj)))) (ak (gw PassesOwn.never rfl (aeZ rfl T.Vm (bL (pv 0) T.aX T.nu mV (hr.mono (by decide)) T.jC .nil aF (aa (pv 1) aj)) (bL (pv 0) T.aX T.yd qG (hr.mono (by decide)) T.qC .nil aF (aa (pv 1) aj))) (kE rfl (bD (aY (i:=4) Eb.nd rfl (Or.inl rfl)) (bD (aY (i:=5) Eb.nd rfl (Or.inl rfl)) gM))) (ak (qJ (bC (bB (aC arh (hr.mono (by decide)) rfl T.anN T.Jy.kp T.aaz .nil aF (aa (pv 4) aj))) (aq (bh (jh PySem.F.plainAttrs_list PySem.F.slot_list_append PySem.F.type_list_append bK (pv 2) (aa (gA (aa (pv 3) (aa (aW (bO.or (aQ.or bQ)) (pv 3) (pv 5)) (aa (bH bc (pv 4) az (fun _ _=>rfl)) aj)))) aj)))) aM)) (aq (apQ (i:=3) Eb.nd rfl (Or.inl rfl) (pv 5) apR)))) (aq (aG (pv 2)))))) ?_
  have wv:=B.wv vw (.inr (.inl rfl))
  obtain⟨kb,kl,ll,b0,b9⟩:=R0 wv hf
  refine⟨big (by show 0 <= 1000;omega),fun fd hfd=>?_⟩
  have s0:=aB.upd (o:=.lst []) hfd
  have h0:=ao (H:=H) (a:=fd) (o:=.lst [])
  generalize upd H fd (.lst [])=H0 at s0 h0
  tm_up
  refine⟨x,F,vw,ps,fs,n,th,rfl,B.same s0,hf,?_⟩
  obtain⟨L,D,U,all,M,Ps,Fs,es,us,b,_⟩:=B.ex
  obtain⟨dx,hx⟩:=b.hx
  tm_up
  refine⟨x,dx,_,rfl,s0 _ _ hx,pR _ _ _,_,rfl,x,F,vw,ps,fs,n,rfl,B.same s0,?_⟩
  rw[hf]
  intro l1 ys1 H1 nl1 s1 h1 g1
  tm_up
  refine⟨x,dx,_,rfl,s1 _ _ (s0 _ _ hx),Al _ _ _,_,rfl,x,F,vw,ps,fs,n,rfl,(B.same s0).same s1,?_⟩
  rw[hf]
  intro k1 H2 nk1 s2 hk2
  have h12:=s2 _ _ h1
  have g12:=g1.same s2
  have hf2:=s2 _ _ (s1 _ _ h0)
  have nl:l1≠fd:=fun e=>by rw[e,h0] at nl1;exact nomatch nl1
  have nk:k1≠fd:=fun e=>by rw[e,s1 _ _ h0] at nk1;exact nomatch nk1
  have sB:aB H (strip fd H2):=aaV ((s0.trans s1).trans s2) hfd
  have el:ys1.length=((ju vw n).map V.int).length:=by rw[cj g1,List.length_map,kl]
  have g13:lY (strip fd H2) ys1 (pX vw n):=lY.strip hf2 g12
  have h13:=v9 nl h12
  have hk3:=v9 nk hk2
  generalize hss:pX vw n=ss at g13 ll kl q
  generalize hws:ju vw n=ws at hk3 el kb kl q
  generalize hHs:strip fd H2=Hs at sB g13 h13 hk3
  clear hss
  have own:∀ {H':Hp} {o:HO},aB Hs H'->aB Hs (upd H' fd o):=fun s=>by rw[← hHs] at *;exact aex s
  refine⟨_,_,rfl,rfl,⟨_,bu.of h12⟩,⟨_,bu.of hk2⟩,Zi (K:=K) (xs:=ys1) (ys:=ws.map V.int) (fun i σ H'=>∃ (v1 v2:Option V) (zs:List V) (bt:Int) (ts:List (Int×Int×Int)),σ=[some (.ref x),some (.str n),some (.ref fd),some (.int bt),v1,v2]/\aB Hs H'/\H' fd=some (.lst zs)/\Paired (zH H') zs ts/\ts.length <= i/\i <= ss.length/\ts++mU (ss.drop i) (ws.drop i) bt=mU ss ws (Mq th)) el ⟨none,none,[],Mq th,[],rfl,by rw[← hHs];exact aaN fd H2,hf2,.nil,Nat.le_refl _,Nat.zero_le _,rfl⟩ ?_ ?_ ?_⟩
  ·rintro i σ H' ⟨v1,v2,zs,bt,ts,rfl,s3,_⟩
   exact⟨s3.seq (bu.of h13),s3.seq (bu.of hk3)⟩
  ·rintro i y1 y2 tt σ H' hx1 hy1 ⟨v1,v2,zs,bt,ts,rfl,s3,hf3,pt,tl,il,et⟩ hn
   obtain⟨sg,e1,p,rfl,hp⟩:=Cd g13 hx1
   obtain⟨wo,e2,rfl⟩:=IK hy1
   have il2:i < ss.length:=(List.getElem?_eq_some_iff.mp e1).1
   rw[Yi e1 e2] at et
   have s4:=s3.trans (aB.upd (o:=.tup [.ref p,.int wo]) hn)
   have hp4:=s4 _ _ hp
   have hf4:=aB.upd (o:=.tup [.ref p,.int wo]) hn _ _ hf3
   have pt4:=cu (fun _ _ q=>zH.same (aB.upd (o:=.tup [.ref p,.int wo]) hn) q) pt
   refine⟨tt,_,rfl,pP.of ao,rfl,_,_,rfl,_,_,rfl,rfl,?_⟩
   generalize upd H' tt (.tup [.ref p,.int wo])=H4 at s4 hp4 hf4 pt4
   refine⟨fun σ H'=>∃ (zs:List V) (ts:List (Int×Int×Int)),σ=[some (.ref x),some (.str n),some (.ref fd),some (.int bt),some (.ref p),some (.int wo)]/\aB Hs H'/\H' fd=some (.lst zs)/\Paired (zH H') zs ts/\ts.length <= i+1/\ts++mU (ss.drop (i+1)) (ws.drop (i+1)) (bt+wo)=mU ss ws (Mq th),?_,?_⟩
   ·tm_up
    refine⟨p,sg,rfl,hp4,_,rfl,?_⟩
    refine bJ (fun hsd=>?_) (fun hsd=>?_)
    ·rw[if_pos hsd,← List.append_assoc] at et
     tm_up
     refine⟨.inl ⟨rfl,_,bu.of hf4⟩,?_⟩
     tm_up
     refine⟨big (by show 3 <= 1000;omega),fun pp hpp=>?_⟩
     have st:=aB.upd (o:=.tup [.int bt,.int (bt+wo),.int sg.2]) hpp
     refine⟨fd,zs,_,rfl,rfl,st _ _ hf4,bx (by have:=cj pt4;omega),?_⟩
     refine⟨_,_,rfl,own (s4.trans st),ao,?_,?_,et⟩
     ·exact cu (fun _ _ q=>zH.write (st _ _ hf4) q) (pQ (cu (fun _ _ q=>zH.same st q) pt4) ⟨pp,rfl,ao⟩)
     ·rw[List.length_append];show _+1 <= _;omega
    ·rw[if_neg hsd] at et
     exact⟨zs,ts,rfl,s4,hf4,pt4,by omega,et⟩
   rintro _ H5 ⟨zs5,ts5,rfl,s5,hf5,pt5,tl5,et5⟩
   tm_up
   exact⟨_,_,zs5,bt+wo,ts5,rfl,s5,hf5,pt5,tl5,il2,et5⟩
  ·rintro σ H' ⟨v1,v2,zs,bt,ts,rfl,s3,hf3,pt,tl,il,et⟩
   tm_up
   rw[cj g13,List.drop_length] at et
   exact q fd zs H' hfd (sB.trans s3) hf3 (by rw[← et];cases ws.drop ss.length <;> (rw[show mU [] _ bt=[] from rfl,List.append_nil];exact pt))
inductive aey (c:Cs)(vs:List V)(H:Hp)(Q:VK)(E:XK):Prop
 | mk (x:Addr) (F:Addr->Prop) (vw:Vw) (ps fs:List Vw) (n:Str) (th:Th) (fU:vs=[.ref x,.str n]) (fV:Nz c H x F vw ps fs) (iQ:bM vw n=some th) (nZ:∀ H',aB H H'->Q (.int (Mq th+Nq (ju vw n))) H'):aey c vs H Q E
theorem an2 (T:Txt K w mg t):bU P w K mg base jt (0+8) t.zf t.aap ["book","name"] (aey (cs t)):=by
 have JK:=R3 (P:=P) (w:=w) (base:=base) T
 have qG:=Gs (P:=P) (w:=w) (base:=base) T
 refine T.Jz.ok anL (fun vs H Q E h=>?_) (fun cdv A outer s H vs Q E hr h=>?_)
 ·obtain⟨_,_,_,_,_,_,_,rfl,_⟩:=h
  rfl
 ·obtain⟨x,F,vw,ps,fs,n,th,rfl,B,hf,q⟩:=h
  refine bj (aq (aG (aW (bO.or (aQ.or bQ)) (aC JK (hr.mono (by decide)) rfl T.Rw T.qz.kp T.Bb .nil aF (aa (pv 0) (aa (pv 1) aj))) (aL aih rfl T.aq1 aqo (aa (bL (pv 0) T.aX T.yd qG (hr.mono (by decide)) T.qC .nil aF (aa (pv 1) aj)) aj))))) ?_
  have wv:=B.wv vw (.inr (.inl rfl))
  obtain⟨kb,kl,ll,b0,b9⟩:=R0 wv hf
  obtain⟨L,D,U,all,M,Ps,Fs,es,us,b,_⟩:=B.ex
  obtain⟨dx,hx⟩:=b.hx
  tm_up
  refine⟨x,F,vw,ps,fs,n,th,rfl,B,hf,?_⟩
  tm_up
  refine⟨x,dx,_,rfl,hx,Al _ _ _,_,rfl,x,F,vw,ps,fs,n,rfl,B,?_⟩
  rw[hf]
  intro k1 H1 nk1 s1 hk1
  tm_up
  refine⟨rfl,k1,ju vw n,rfl,bu.of hk1,fun x hx=>⟨(kb x hx).1,by have:=(kb x hx).2;omega⟩,by omega,?_⟩
  tm_up
  exact q H1 s1
inductive aaW (vs:List V)(H:Hp)(Q:VK)(E:XK):Prop
 | mk (n:Int) (fU:vs=[.int n]) (fV:Q (.bl true) H):aaW vs H Q E
theorem zJ (T:Txt K w mg t):bU P w K mg base jt (0+1) t.uv t.Va ["_law_found"] aaW:=by
 refine T.kh.ok akg (fun vs H Q E h=>?_) (fun cdv A outer s H vs Q E hr h=>?_)
 ·obtain⟨_,rfl,_⟩:=h
  rfl
 ·obtain⟨n,rfl,q⟩:=h
  refine bj (aq (aG (fM (wB (aL cQ rfl T.bG bF (aa (pv 0) (aa (dW (v:=.ty "int") rfl T.Ol Nk rfl) aj))) (wA (auL (aL cQ rfl T.bG bF (aa (pv 0) (aa (dW (v:=.ty "bool") rfl T.amO amw rfl) aj))))))))) ?_
  refine ZS (.bl true) ?_ q
  exact⟨_,rfl,_,_,_,_,rfl,gQ.int _,rfl,_,rfl,wF ⟨_,rfl,_,_,_,_,rfl,gQ.int _,rfl,_,rfl,xV rfl⟩⟩
def atn (H:Hp)(y:V)(r:List V):Prop:=∃ p,y=.ref p/\H p=some (.tup r)/\∀ v∈r,(∃ i,v=.int i) ∨ ∃ z,v=.str z
theorem zH.row {H:Hp}{y:V}{t:Int×Int×Int}(h:zH H y t):atn H y [.int t.1,.int t.2.1,.int t.2.2]:=by
 obtain⟨p,e1,e2⟩:=h
 refine⟨p,e1,e2,fun v hv=>.inl ?_⟩
 rcases List.mem_cons.mp hv with rfl | hv
 ·exact⟨_,rfl⟩
 rcases List.mem_cons.mp hv with rfl | hv
 ·exact⟨_,rfl⟩
 rw[List.mem_singleton.mp hv]
 exact⟨_,rfl⟩
theorem auA {α β γ:Type}{F:α->β->Prop}{G:α->γ->Prop}{f:β->γ}(h:∀ x y,F x y->G x (f y)):∀ {xs:List α} {ys:List β},Paired F xs ys->Paired G xs (ys.map f)
 | _,_,.nil=>.nil
 | _,_,.cons r t=>.cons (h _ _ r) (auA h t)
theorem Zw {H:Hp}{ys:List V}{ts:List (Int×Int×Int)}(h:Paired (zH H) ys ts):Paired (atn H) ys (ts.map fun t=>[.int t.1,.int t.2.1,.int t.2.2]):=auA (fun _ _ q=>q.row) h
inductive aez (K:Frag)(vs:List V)(H:Hp)(Q:VK)(E:XK):Prop
 | mk (l1 l2:Addr) (xs ys:List V) (rs:List (List V)) (fU:vs=[.ref l1,.ref l2]) (fV:H l1=some (.lst xs)) (iQ:H l2=some (.lst ys)) (nZ:Paired (atn H) xs rs) (xM:Paired (atn H) ys rs) (h5_:∀ H',aB H H'->Q (.bl true) H'):aez K vs H Q E
theorem an3 (T:Txt K w mg t):bU P w K mg base jt (0+2) t.zg t.aaq ["_law_found","_law_due"] (aez K):=by
 have km:=zJ (P:=P) (w:=w) (base:=base) T
 refine T.Ej.ok Ec (fun vs H Q E h=>?_) (fun cdv A outer s H vs Q E hr h=>?_)
 ·obtain⟨_,_,_,_,_,rfl,_⟩:=h
  rfl
 ·obtain⟨l1,l2,xs,ys,rs,rfl,h1,h2,g1,g2,q⟩:=h
  have el:xs.length=ys.length:=(cj g1).trans (cj g2).symm
  refine bj (ak (bC (cG (PW.pt (lR (cz (bB (aL cQ rfl T.bG bF (aa (pv 0) (aa (dW (v:=.ty "list") rfl T.iI iu rfl) aj))))) (jf (aJ (Dn.or (tZ (aZ hr))) (aL (aN.or aO) rfl T.cB cA (aa (pv 0) aj)) (aL (aN.or aO) rfl T.cB cA (aa (pv 1) aj)) (aR _)))))) (aq (aG dB)) aM) (ak (gw PassesOwn.never rfl (aeZ rfl T.Vm (pv 0) (pv 1)) (kE rfl (bD (aY (i:=2) Ec.nd rfl (Or.inl rfl)) (bD (aY (i:=3) Ec.nd rfl (Or.inl rfl)) gM))) (ak (bC (cG (PW.pt (lR (cz (bB (aL cQ rfl T.bG bF (aa (pv 2) (aa (dW (v:=.ty "tuple") rfl T.RG Q8 rfl) aj))))) (jf (aJ (Dn.or (tZ (aZ hr))) (aL (aN.or aO) rfl T.cB cA (aa (pv 2) aj)) (aL (aN.or aO) rfl T.cB cA (aa (pv 3) aj)) (aR _)))))) (aq (aG dB)) aM) (aq (gw PassesOwn.never rfl (asV rfl T.Vm (pv 2) (pv 3)) (kE rfl (bD (aY (i:=4) Ec.nd rfl (Or.inl rfl)) (bD (aY (i:=5) Ec.nd rfl (Or.inl rfl)) gM))) (ak (bC (cG (PW.pt (lR (cG (PW.pt (fL (bB (aL cQ rfl T.bG bF (aa (pv 5) (aa (dW (v:=.ty "str") rfl T.afq aeY rfl) aj)))) (ig (cz (bB (aL cQ rfl T.bG bF (aa (pv 4) (aa (dW (v:=.ty "str") rfl T.afq aeY rfl) aj))))))))) (jf (cG (PW.pt (fL (cz (bB (aL cQ rfl T.bG bF (aa (pv 5) (aa (dW (v:=.ty "str") rfl T.afq aeY rfl) aj))))) (ig (cz (bB (aC km (hr.mono (by decide)) rfl T.uE T.kh.kp T.qD .nil aF (aa (pv 4) aj)))))))))))) (aq (aG dB)) aM) (aq (bC (aJ (Dn.or (tZ (aZ hr))) (pv 4) (pv 5) (aR _)) (aq (aG dB)) aM))))))) (aq (aG dB)))) ?_
  refine oH false ?_ ?_
  ·tm_up
   refine⟨_,_,_,_,rfl,gQ.lst h1,rfl,_,rfl,cZ ?_⟩
   tm_up
   refine .inl ⟨_,_,rfl,.inl (bu.of h1),?_⟩
   tm_up
   refine .inl ⟨_,_,rfl,.inl (bu.of h2),?_⟩
   tm_up
   exact eY (by rw[el];simp)
  refine cZ ?_
  tm_up
  refine⟨⟨_,bu.of h1⟩,⟨_,bu.of h2⟩,Zi (K:=K) (xs:=xs) (ys:=ys) (fun i σ H'=>∃ v1 v2 v3 v4,σ=[some (.ref l1),some (.ref l2),v1,v2,v3,v4]/\aB H H') el ⟨none,none,none,none,rfl,aB.refl _⟩ ?_ ?_ ?_⟩
  ·rintro i σ H' ⟨v1,v2,v3,v4,rfl,s2⟩
   exact⟨s2.seq (bu.of h1),s2.seq (bu.of h2)⟩
  ·rintro i x y tt σ H' hx hy ⟨v1,v2,v3,v4,rfl,s2⟩ hn
   obtain⟨r,e1,p,rfl,hp,hr⟩:=Cd g1 hx
   obtain⟨r',e2,p2,rfl,hp2,_⟩:=Cd g2 hy
   have es:r'=r:=Option.some.inj (e2.symm.trans e1)
   subst es
   have s3:aB H (upd H' tt (.tup [.ref p,.ref p2])):=s2.trans (aB.upd hn)
   have hp':=s3 _ _ hp
   have hp2':=s3 _ _ hp2
   refine⟨tt,_,rfl,pP.of ao,rfl,_,_,rfl,_,_,rfl,rfl,?_⟩
   generalize upd H' tt (.tup [.ref p,.ref p2])=H3 at s3 hp' hp2'
   refine oH false ?_ ?_
   ·tm_up
    refine⟨_,_,_,_,rfl,gQ.tup hp',rfl,_,rfl,cZ ?_⟩
    tm_up
    refine .inl ⟨_,_,rfl,.inr (pP.of hp'),?_⟩
    tm_up
    refine .inl ⟨_,_,rfl,.inr (pP.of hp2'),?_⟩
    tm_up
    exact eY (by simp)
   refine cZ ?_
   refine⟨_,rfl,_,rfl,p,p2,r',r',rfl,rfl,hp',hp2',aqL (xs:=r') (ys:=r') (fun j σ H'=>∃ v3 v4,σ=[some (.ref l1),some (.ref l2),some (.ref p),some (.ref p2),v3,v4]/\aB H H'/\H' p=some (.tup r')/\H' p2=some (.tup r')) rfl ⟨_,_,rfl,s3,hp',hp2'⟩ ?_ ?_ ?_⟩
   ·rintro j σ H4 ⟨v3,v4,rfl,s4,k1,k2⟩
    exact⟨k1,k2⟩
   ·rintro j a b tt2 σ H4 ha hb ⟨v3,v4,rfl,s4,k1,k2⟩ hn2
    have eab:b=a:=Option.some.inj (hb.symm.trans ha)
    subst eab
    have st:=aB.upd (o:=.tup [b,b]) hn2
    have s5:=s4.trans st
    have k15:=st _ _ k1
    have k25:=st _ _ k2
    refine⟨tt2,_,rfl,pP.of ao,rfl,_,_,rfl,_,_,rfl,rfl,?_⟩
    clear st
    generalize upd H4 tt2 (.tup [b,b])=H5 at s5 k15 k25
    rcases hr b (List.mem_of_getElem? hb) with ⟨n,rfl⟩ | ⟨z,rfl⟩
    ·refine oH false ?_ ?_
     ·refine oH false ?_ ?_
      ·tm_up
       refine⟨_,_,_,_,rfl,gQ.int _,rfl,_,rfl,cZ ?_⟩
       exact eY rfl
      refine cZ ?_
      refine oH false ?_ ?_
      ·tm_up
       refine⟨_,_,_,_,rfl,gQ.int _,rfl,_,rfl,wF ?_⟩
       exact⟨_,rfl,n,rfl,_,rfl,eY rfl⟩
      exact⟨rfl,rfl⟩
     refine cZ ?_
     tm_up
     have e0:(!decide (V.int n=V.int n))=false:=by rw[decide_eq_true rfl];rfl
     rw[e0]
     exact cZ ⟨_,_,rfl,s5,k15,k25⟩
    ·refine oH false ?_ ?_
     ·refine oH false ?_ ?_
      ·tm_up
       refine⟨_,_,_,_,rfl,gQ.str _,rfl,_,rfl,wF ?_⟩
       tm_up
       exact⟨_,_,_,_,rfl,gQ.str _,rfl,_,rfl,eY rfl⟩
      refine cZ ?_
      refine oH false ?_ ?_
      ·tm_up
       exact⟨_,_,_,_,rfl,gQ.str _,rfl,_,rfl,cZ (eY rfl)⟩
      exact⟨rfl,rfl⟩
     refine cZ ?_
     tm_up
     have e0:(!decide (V.str z=V.str z))=false:=by rw[decide_eq_true rfl];rfl
     rw[e0]
     exact cZ ⟨_,_,rfl,s5,k15,k25⟩
   ·rintro σ H4 ⟨v3,v4,rfl,s4,_,_⟩
    exact⟨_,_,_,_,rfl,s4⟩
  ·rintro σ H' ⟨v1,v2,v3,v4,rfl,s2⟩
   exact q _ s2
theorem _root_.L2.Z0.same {H H':Hp}{a:Addr}{y:V}{r:Option V}(s:aB H H')(h:Z0 H a y r):Z0 H' a y r:=by
 have rd:∀ {u},Rd H a u->Rd H' a u:=fun z=>z.imp (fun e=>s _ _ e) fun ⟨o,e⟩=>⟨o,s _ _ e⟩
 rcases h with ⟨kvs,k,e,e2,e3⟩ | ⟨kvs,k,b,e,e2,e3,e4⟩
 ·exact .inl ⟨kvs,k,rd e,e2,e3⟩
 ·exact .inr ⟨kvs,k,b,rd e,e2,s _ _ e3,e4⟩
theorem R8 {K:Frag}{H:Hp}{p:Addr}{a b c d:V}{i:Nat}{v:V}{Q:VK}(h:H p=some (.tup [a,b,c,d]))(e:[a,b,c,d][i]? = some v)(q:Q v H):ah7 K (.ref p) (.int (i:Int)) H Q∨ah8 K (.ref p) (.int (i:Int)) H Q∨ah9 (.ref p) (.int (i:Int)) H Q:=.inr (.inl ⟨p,_,i,v,rfl,rfl,pP.of h,Q0 e,q⟩)
inductive R9 (K:Frag)(vs:List V)(H:Hp)(Q:VK)(E:XK):Prop
 | mk (d:Addr) (vw:Vw) (n:Str) (th:Th) (fU:vs=[.ref d,.str n]) (fV:NB H d vw) (iQ:Lz vw) (nZ:bM vw n=some th) (xM:∀ (l:Addr) (ys:List V) (H':Hp),aB H H'->H' l=some (.lst ys)->lY H' ys (pX vw n)->Q (.ref l) H'):R9 K vs H Q E
theorem Gu (T:Txt K w mg t):bU P w K mg base jt (0+1) t.mF t.Jp ["_law_voices","_law_name"] (R9 K):=by
 refine T.mO.ok qR (fun vs H Q E h=>?_) (fun cdv A outer s H vs Q E hr h=>?_)
 ·obtain⟨_,_,_,_,rfl,_⟩:=h
  rfl
 ·obtain⟨d,vw,n,th,rfl,hd,wv,hf,q⟩:=h
  refine bj (ak (aU (i:=2) qR.nd rfl (Or.inl rfl) (qK (Ir hr) (pv 0) (pv 1) (fun _ _=>rfl))) (ak (bC (bB (aL cQ rfl T.bG bF (aa (pv 2) (aa (dW (v:=.ty "list") rfl T.iI iu rfl) aj)))) (aq (aG (pv 2))) aM) (ak (bC (cz (bB (bH bc (pv 2) az (fun _ _=>rfl)))) (aq (aG (qK (Ir hr) (pv 0) (bH bc (pv 2) az (fun _ _=>rfl)) (fun _ _=>rfl)))) aM) (ak (aU (i:=3) qR.nd rfl (Or.inl rfl) (bZ aj)) (ak (gw PassesOwn.never rfl (ik (qK (Ir hr) (pv 0) (bH bc (pv 2) az (fun _ _=>rfl)) (fun _ _=>rfl))) (aY (i:=4) qR.nd rfl (Or.inl rfl)) (ak (aU (i:=5) qR.nd rfl (Or.inl rfl) (fM (jg (aJ (cX.or (bV (aZ hr))) (bH bc (pv 4) az (fun _ _=>rfl)) cF (aR _)) cF (fM (jg (aJ (cX.or (bV (aZ hr))) (bH bc (pv 4) az (fun _ _=>rfl)) cF (aR _)) cF (bH bc (pv 4) az (fun _ _=>rfl))))))) (aq (bh (jh PySem.F.plainAttrs_list PySem.F.slot_list_append PySem.F.type_list_append bK (pv 3) (aa (gA (aa (pv 5) (aa (bH bc (pv 4) az (fun _ _=>rfl)) aj))) aj)))))) (aq (aG (pv 3)))))))) ?_
  obtain⟨v,hg,hv⟩:=hd.get hf
  refine⟨_,rfl,_,rfl,d,v,rfl,hg,?_⟩
  cases th with
  | pl ss =>
   obtain⟨l,ys,rfl,h1,h2⟩:=hv
   tm_up
   refine⟨_,_,_,_,rfl,gQ.lst h1,rfl,_,rfl,wF ?_⟩
   exact⟨_,rfl,q l ys H (aB.refl _) h1 (by rw[Dy hf];exact h2)⟩
  | cn ld lt sl tn =>
   obtain⟨p,rfl,hp⟩:=hv
   obtain⟨⟨ss,hld⟩,_⟩:=wv.ld n ld lt sl tn (di hf)
   have hfl:=wv.find hld
   have gl:=(wv.gd _ _ hld).1
   rw[Dz hf hfl] at q
   obtain⟨v2,hg2,l,ys,rfl,h1,h2⟩:=hd.get hfl
   tm_up
   refine⟨_,_,_,_,rfl,gQ.tup hp,rfl,_,rfl,cZ ?_⟩
   refine⟨_,rfl,R8 (i:=3) hp rfl ?_⟩
   refine⟨_,rfl,?_⟩
   cases tn with
   | false =>
    refine wF ?_
    refine⟨_,rfl,_,rfl,R8 (i:=0) hp rfl ?_⟩
    exact⟨d,_,rfl,hg2,q l ys H (aB.refl _) h1 h2⟩
   | true =>
    refine cZ ?_
    refine⟨big (by show 0 <= 1000;omega),fun told ari=>?_⟩
    have s1:=aB.upd (o:=.lst []) ari
    have ht1:=ao (H:=H) (a:=told) (o:=.lst [])
    generalize upd H told (.lst [])=H1 at s1 ht1
    have y3:=cj h2
    refine⟨_,rfl,_,rfl,R8 (i:=0) (s1 _ _ hp) rfl ?_⟩
    have nlt:l≠told:=aD h1 ari
    have hg3:Z0 H1 d (.str ld) (some (.ref l)):=hg2.same s1
    refine⟨d,_,rfl,hg3,l,rfl,⟨_,bu.of (s1 _ _ h1)⟩,vM (K:=K) (xs:=ys) (fun i σ H'=>∃ (u k:Option V) (zs:List V),σ=[some (.ref d),some (.str n),some (.ref p),some (.ref told),u,k]/\aB H H'/\H' told=some (.lst zs)/\lY H' zs ((ss.take i).map Ao)) ⟨none,none,[],rfl,s1,ht1,.nil⟩ ?_ ?_ ?_⟩
    ·rintro i σ H' _ ⟨u,k,zs,rfl,s2,_⟩
     exact bu.of (s2 _ _ h1)
    ·rintro i y σ H' hy ⟨u,k,zs,rfl,s2,ht2,gz⟩
     obtain⟨sg,hsg,ps,rfl,hps⟩:=Cd h2 hy
     have hi:i < ss.length:=(List.getElem?_eq_some_iff.mp hsg).1
     have ato:=s2 _ _ hps
     have zl:=cj gz
     rw[List.length_map,List.length_take] at zl
     refine⟨fun v Hx=>v=.str (aeg sg.1).str/\Hx=H',?_,?_⟩
     ·refine⟨_,rfl,ix0 ato ?_⟩
      refine .inl ⟨rfl,_,rfl,?_⟩
      rw[aqM]
      refine bJ (fun h=>?_) (fun h=>?_)
      ·rw[of_decide_eq_true h]
       exact⟨rfl,rfl⟩
      ·have h':sg.1≠.two:=fun z=>h (decide_eq_true z)
       refine⟨fun v Hx=>v=.str (aeg sg.1).str/\Hx=H',?_,fun _ _ z=>z⟩
       refine⟨_,rfl,ix0 ato ?_⟩
       refine .inl ⟨rfl,_,rfl,?_⟩
       rw[ae5]
       refine bJ (fun h3=>?_) (fun h3=>?_)
       ·rw[of_decide_eq_true h3]
        exact⟨rfl,rfl⟩
       ·have h3':sg.1≠.three:=fun z=>h3 (decide_eq_true z)
        refine⟨_,rfl,ix0 ato ⟨?_,rfl⟩⟩
        cases hk:sg.1 <;> first | rfl | exact absurd hk h' | exact absurd hk h3'
     intro v Hx ⟨e1,e2⟩
     rw[e1,e2]
     refine⟨_,rfl,.inl ⟨rfl,_,bu.of ht2⟩,_,rfl,_,rfl,ix1 ato ?_⟩
     refine⟨by show 2 <= sizeLine;decide,fun tp htp=>?_⟩
     have s3:=aB.upd (o:=.tup [V.str (aeg sg.1).str,V.int sg.2]) htp
     refine⟨told,_,_,rfl,rfl,s3 _ _ ht2,bx (by omega),?_⟩
     refine⟨_,_,zs++[.ref tp],rfl,gO (s2.trans s3) ari,ao,?_⟩
     rw[List.take_succ,hsg,List.map_append]
     exact pQ (ae6 (s3 _ _ ht2) (gz.same s3)) (aio (s3 _ _ ht2) ⟨tp,rfl,ao⟩)
    ·rintro σ H' ⟨u,k,zs,rfl,s2,ht2,gz⟩
     rw[y3,List.take_length] at gz
     exact⟨_,rfl,q told zs H' s2 ht2 gz⟩
theorem avR {k:Kd}(h:k.meas=true)(m:Int):intText? k.str=some (nm m k)/\k.str.length <= 640:=by
 cases k <;> first | (cases h;done) | exact⟨by first | exact (show intText? Kd.three.str=some 3 by decide +kernel) | exact (show intText? Kd.two.str=some 2 by decide +kernel),by decide +kernel⟩
theorem axO {k:Kd}(h:¬ k.meas=true)(m:Int):nm m k=m:=by
 cases k <;> first | rfl | exact absurd rfl h
theorem aiR (k:Kd):k.meas=(decide (k=.three) || decide (k=.two)):=by cases k <;> rfl
theorem amT (k:Kd):inS k.str ".32" = k.parting:=by cases k <;> decide +kernel
theorem Sd (k:Kd):inS k.str "sdr" = k.small:=by cases k <;> decide +kernel
theorem atp {k:Kd}(h:k.parting=true)(m:Int)(n:Option Kd):bw m k n=0:=by cases k <;> first | (cases h;done) | (unfold bw;rw[if_neg (by rintro ⟨_,z,_⟩;cases z)];rfl)
theorem arj {k:Kd}(h:k.small=true)(m:Int)(n:Option Kd):bw m k n=1:=by cases k <;> first | (cases h;done) | (unfold bw;rw[if_neg (by rintro ⟨_,z,_⟩;cases z)];rfl)
theorem azY (m:Int)(n:Option Kd):bw m .D n=2:=by unfold bw;rw[if_neg (by rintro ⟨_,z,_⟩;cases z)];rfl
theorem atq {k:Kd}{m:Int}{n:Option Kd}(hm:Ms m)(h1:k.parting=false)(h2:k.small=false)(h3:k≠.D)(h4:¬ (m=2/\k=.G/\n=some .dot)):bw m k n=m:=by
 unfold bw
 rw[if_neg h4]
 rcases hm with rfl | rfl <;> cases k <;> first | (cases h1;done) | (cases h2;done) | rfl | exact absurd rfl h3
inductive aeA (K:Frag)(vs:List V)(H:Hp)(Q:VK)(E:XK):Prop
 | mk (l:Addr) (b:Int) (xs:List V) (ss:List Sg) (fU:vs=[.ref l,.int b]) (fV:Ms b) (iQ:bu K H l xs) (nZ:lY H xs ss) (xM:ss.length <= 400) (h5_:∀ (f:Addr) (H':Hp),aB H H'->H f=none->H' f=some (.lst ((lF b (cg ss)).map V.int))->Q (.ref f) H'):aeA K vs H Q E
theorem an4 (T:Txt K w mg t):bU P w K mg base jt (0+1) t.zj t.aar ["_law_line_here","_law_begin"] (aeA K):=by
 refine T.JB.ok yH (fun vs H Q E h=>?_) (fun cdv A outer s H vs Q E hr h=>?_)
 ·obtain⟨_,_,_,_,rfl,_⟩:=h
  rfl
 ·obtain⟨l,b,xs,ss,rfl,hMs,hS,hg,hn,q⟩:=h
  have p62:(2:Int) ^ 62=4611686018427387904:=by decide
  refine bj (ak (aU (i:=2) yH.nd rfl (Or.inl rfl) (bZ aj)) (ak (aU (i:=3) yH.nd rfl (Or.inl rfl) (pv 1)) (ak (gw PassesOwn.never rfl (tY rfl T.rK (aa (aL (aN.or aO) rfl T.cB cA (aa (pv 0) aj)) aj)) (aY (i:=4) yH.nd rfl (Or.inl rfl)) (ak (aU (i:=5) yH.nd rfl (Or.inl rfl) (bH bc (bH bc (pv 0) (pv 4) (fun _ _=>rfl)) az (fun _ _=>rfl))) (ak (qJ (bC (cG (PW.pt (lR (aJ (cX.or (bV (aZ hr))) (pv 5) cF (aR _)) (jf (aJ (cX.or (bV (aZ hr))) (pv 5) cF (aR _)))))) (aq (aU (i:=3) yH.nd rfl (Or.inl rfl) (cC (yq.or j0) rfl T.Ol Nk (aa (pv 5) aj)))) aM)) (aq (bC (aJ (eF.or eE) (pv 5) cF rfl) (aq (bh (jh PySem.F.plainAttrs_list PySem.F.slot_list_append PySem.F.type_list_append bK (pv 2) (aa az aj)))) (aq (bC (aJ (eF.or eE) (pv 5) cF rfl) (aq (bh (jh PySem.F.plainAttrs_list PySem.F.slot_list_append PySem.F.type_list_append bK (pv 2) (aa az aj)))) (aq (bC (aJ (cX.or (bV (aZ hr))) (pv 5) cF (aR _)) (aq (bh (jh PySem.F.plainAttrs_list PySem.F.slot_list_append PySem.F.type_list_append bK (pv 2) (aa az aj)))) (aq (bC (cG (PW.pt (fL (aJ (cX.or (bV (aZ hr))) (pv 3) az (aR _)) (fL (aJ (cX.or (bV (aZ hr))) (pv 5) cF (aR _)) (fL (aJ Dp (aW (bO.or (aQ.or bQ)) (pv 4) az) (aL (aN.or aO) rfl T.cB cA (aa (pv 0) aj)) (aR _)) (ig (aJ (cX.or (bV (aZ hr))) (bH bc (bH bc (pv 0) (aW (bO.or (aQ.or bQ)) (pv 4) az) (fun _ _=>rfl)) az (fun _ _=>rfl)) cF (aR _)))))))) (aq (bh (jh PySem.F.plainAttrs_list PySem.F.slot_list_append PySem.F.type_list_append bK (pv 2) (aa az aj)))) (aq (bh (jh PySem.F.plainAttrs_list PySem.F.slot_list_append PySem.F.type_list_append bK (pv 2) (aa (pv 3) aj))))))))))))))) (aq (aG (pv 2)))))) ?_
  refine⟨big (by show 0 <= 1000;omega),fun f hf=>?_⟩
  tm_up
  refine .inl ⟨_,_,rfl,.inl (lD hS hf),?_⟩
  rw[cj hg]
  refine⟨(ss.length:Int),rfl,by rw[p62];omega,by rw[p62];omega,?_⟩
  refine yp (n:=((ss.length:Int)).toNat) (fun i σ H'=>∃ (m:Int) (v w:Option V) (fs:List Int),σ=[some (.ref l),some (.int b),some (.ref f),some (.int m),v,w]/\Ms m/\H'=upd H f (.lst (fs.map V.int))/\fs++lF m ((cg ss).drop i)=lF b (cg ss))
   ⟨b,none,none,[],rfl,hMs,rfl,rfl⟩ ?_ ?_
  ·rintro i σ H' hi ⟨m,v,w,fs,rfl,hm3,rfl,hm⟩
   have hil:i < ss.length:=by omega
   have hd:=qL (IV (f:=Prod.fst) (List.getElem?_eq_getElem hil))
   rw[hd] at hm
   have hS':bu K (upd H f (.lst (fs.map V.int))) l xs:=lD hS hf
   have hg':lY (upd H f (.lst (fs.map V.int))) xs ss:=hg.same (aB.upd hf)
   have hl:=congrArg List.length hm
   simp only [List.length_append,lF,List.length_cons,Ds,List.length_map] at hl
   simp only [lF,head_drop] at hm
   tm_up
   refine acW hS' hg' (n:=i) (by omega) (List.getElem?_eq_getElem hil) fun p hp=>?_
   generalize hk:(ss[i]).1=k at hm hp
   tm_up
   refine aqz [some (.ref l),some (.int b),some (.ref f),some (.int (nm m k)),some (.int (0+(i:Int))),some (.str k.str)] (upd H f (.lst (fs.map V.int))) ?_ ?_
   ·refine oH k.meas ?_ ?_
    ·tm_up
     rw[ae5]
     refine bJ (fun h=>?_) (fun h=>?_)
     ·exact eY (by rw[aiR,h];rfl)
     ·tm_up
      rw[aqM]
      exact eY (by rw[aiR,Bool.eq_false_iff.mpr h];rfl)
    refine bJ (fun h=>?_) (fun h=>?_)
    ·obtain⟨e1,e2⟩:=avR h m
     tm_up
     exact .inr ⟨_,_,rfl,e1,e2,rfl,rfl⟩
    ·rw[axO h]
     exact⟨rfl,rfl⟩
   have hm4:=hm3.nm k
   have fin:∀ (z:Int),z=bw (nm m k) k (cg ss)[i+1]?->∃ (m':Int) (v w:Option V) (fs':List Int),[some (V.ref l),some (V.int b),some (V.ref f),some (V.int (nm m k)),some (V.int (0+(i:Int))),some (V.str k.str)]=[some (.ref l),some (.int b),some (.ref f),some (.int m'),v,w]/\Ms m'/\upd (upd H f (.lst (fs.map V.int))) f (.lst (fs.map V.int++[V.int z]))=upd H f (.lst (fs'.map V.int))/\fs'++lF m' ((cg ss).drop (i+1))=lF b (cg ss):=by
    intro z hz
    exact⟨nm m k,_,_,fs++[z],rfl,hm4,by rw[eU,List.map_append];rfl,by rw[List.append_assoc,hz];exact hm⟩
   tm_up
   refine bJ (fun h=>?_) (fun h=>?_)
   ·have h':k.parting=true:=by rw[← amT];exact h
    tm_up
    refine⟨.inl ⟨rfl,_,bu.of ao⟩,?_⟩
    refine⟨_,_,_,rfl,rfl,ao,by rw[List.length_map];exact bx (by omega),fin 0 (atp h' ..).symm⟩
   ·have h1:k.parting=false:=by rw[← amT];exact Bool.eq_false_iff.mpr h
    tm_up
    refine bJ (fun h=>?_) (fun h=>?_)
    ·have h':k.small=true:=by rw[← Sd];exact h
     tm_up
     refine⟨.inl ⟨rfl,_,bu.of ao⟩,?_⟩
     refine⟨_,_,_,rfl,rfl,ao,by rw[List.length_map];exact bx (by omega),fin 1 (arj h' ..).symm⟩
    ·have h2:k.small=false:=by rw[← Sd];exact Bool.eq_false_iff.mpr h
     tm_up
     rw[k_D]
     refine bJ (fun h=>?_) (fun h=>?_)
     ·have h':k=.D:=of_decide_eq_true h
      tm_up
      refine⟨.inl ⟨rfl,_,bu.of ao⟩,?_⟩
      refine⟨_,_,_,rfl,rfl,ao,by rw[List.length_map];exact bx (by omega),fin 2 (by rw[h'];exact (azY ..).symm)⟩
     ·have h3:k≠.D:=fun z=>h (decide_eq_true z)
      refine oH (decide (nm m k=2/\k=.G/\(cg ss)[i+1]? = some .dot)) ?_ ?_
      ·tm_up
       rw[ji]
       refine bJ (fun h=>?_) (fun h=>?_)
       ·have e1:=of_decide_eq_true h
        tm_up
        rw[k_G]
        refine bJ (fun h=>?_) (fun h=>?_)
        ·have e2:=of_decide_eq_true h
         tm_up
         refine .inl ⟨_,_,rfl,.inl hS',?_⟩
         rw[cj hg]
         tm_up
         refine bJ (fun h=>?_) (fun h=>?_)
         ·have hlt:i+1 < ss.length:=by have:=of_decide_eq_true h;omega
          tm_up
          refine acW hS' hg' (n:=i+1) (by omega) (List.getElem?_eq_getElem hlt) fun p2 hp2=>?_
          tm_up
          rw[axk]
          refine eY ?_
          have e3:(cg ss)[i+1]? = some (ss[i+1]).1:=IV (List.getElem?_eq_getElem hlt)
          rw[e3]
          subst e2
          simp[e1]
         ·refine eY ?_
          have e3:(cg ss)[i+1]? = none:=List.getElem?_eq_none (by rw[List.length_map];have:¬ (0+(i:Int)+1 < ss.length):=fun z=>h (decide_eq_true z);omega)
          rw[e3]
          simp
        ·refine eY ?_
         have e2:k≠.G:=fun z=>h (decide_eq_true z)
         simp[e2]
       ·refine eY ?_
        have e1:nm m k≠2:=fun z=>h (decide_eq_true z)
        simp[e1]
      ·refine bJ (fun h=>?_) (fun h=>?_)
       ·have h':=of_decide_eq_true h
        tm_up
        refine⟨.inl ⟨rfl,_,bu.of ao⟩,?_⟩
        refine⟨_,_,_,rfl,rfl,ao,by rw[List.length_map];exact bx (by omega),fin 3 (by unfold bw;rw[if_pos h'])⟩
       ·have h':¬ (nm m k=2/\k=.G/\(cg ss)[i+1]? = some .dot):=fun z=>h (decide_eq_true z)
        tm_up
        refine⟨.inl ⟨rfl,_,bu.of ao⟩,?_⟩
        tm_up
        refine⟨_,_,_,rfl,rfl,ao,by rw[List.length_map];exact bx (by omega),fin _ (atq hm4 h1 h2 h3 h').symm⟩
  ·rintro σ H' ⟨m,v,w,fs,rfl,_,rfl,hm⟩
   have e0:((ss.length:Int)).toNat=ss.length:=by omega
   rw[e0,List.drop_eq_nil_of_le (by rw[List.length_map];exact Nat.le_refl _)] at hm
   tm_up
   have e:fs=lF b (cg ss):=by rw[← hm];simp[lF]
   subst e
   exact q f _ (aB.upd hf) hf ao
inductive aaX (K:Frag)(vs:List V)(H:Hp)(Q:VK)(E:XK):Prop
 | mk (l:Addr) (b:Int) (xs:List V) (ss:List Sg) (fU:vs=[.ref l,.int b]) (fV:bu K H l xs) (iQ:lY H xs ss) (nZ:ss.length <= 400) (xM:∀ (f:Addr) (H':Hp),aB H H'->H f=none->H' f=some (.lst ((pB b (cg ss)).map V.bl))->Q (.ref f) H'):aaX K vs H Q E
theorem axP {k:Kd}(h:k.meas=true)(m:Int):intText? k.str=some (nm m k)/\k.str.length <= 640:=by
 cases k <;> first | (cases h;done) | exact⟨by first | exact (show intText? Kd.three.str=some 3 by decide +kernel) | exact (show intText? Kd.two.str=some 2 by decide +kernel),by decide +kernel⟩
theorem azZ {k:Kd}(h:¬ k.meas=true)(m:Int):nm m k=m:=by
 cases k <;> first | rfl | exact absurd rfl h
theorem amU (k:Kd):k.meas=(decide (k=.three) || decide (k=.two)):=by cases k <;> rfl
theorem akz (T:Txt K w mg t):bU P w K mg base jt (0+1) t.uw t.Vb ["_law_line_here","_law_begin"] (aaX K):=by
 refine T.Ek.ok yR (fun vs H Q E h=>?_) (fun cdv A outer s H vs Q E hr h=>?_)
 ·obtain⟨_,_,_,_,rfl,_⟩:=h
  rfl
 ·obtain⟨l,b,xs,ss,rfl,hS,hg,hn,q⟩:=h
  refine bj (ak (aU (i:=2) yR.nd rfl (Or.inl rfl) (bZ aj)) (ak (aU (i:=3) yR.nd rfl (Or.inl rfl) (pv 1)) (ak (gw PassesOwn.never rfl (ik (pv 0)) (aY (i:=4) yR.nd rfl (Or.inl rfl)) (ak (qJ (bC (cG (PW.pt (lR (aJ (cX.or (bV (aZ hr))) (bH bc (pv 4) az (fun _ _=>rfl)) cF (aR _)) (jf (aJ (cX.or (bV (aZ hr))) (bH bc (pv 4) az (fun _ _=>rfl)) cF (aR _)))))) (aq (aU (i:=3) yR.nd rfl (Or.inl rfl) (cC (yq.or j0) rfl T.Ol Nk (aa (bH bc (pv 4) az (fun _ _=>rfl)) aj)))) aM)) (aq (bh (jh PySem.F.plainAttrs_list PySem.F.slot_list_append PySem.F.type_list_append bK (pv 2) (aa (dz (cX.or (bV (aZ hr))) (pv 3) az (aR _)) aj)))))) (aq (aG (pv 2)))))) ?_
  refine⟨big (by show 0 <= 1000;omega),fun f hf=>?_⟩
  tm_up
  refine⟨⟨xs,lD hS hf⟩,vM (K:=K) (xs:=xs) (fun i σ H'=>∃ (m:Int) (v:Option V) (fs:List Bool),σ=[some (.ref l),some (.int b),some (.ref f),some (.int m),v]/\H'=upd H f (.lst (fs.map V.bl))/\fs++pB m ((cg ss).drop i)=pB b (cg ss))
   ⟨b,none,[],rfl,rfl,rfl⟩ ?_ ?_ ?_⟩
  ·rintro i σ H' _ ⟨m,v,fs,rfl,rfl,_⟩
   exact lD hS hf
  ·rintro i x σ H' hx ⟨m,v,fs,rfl,rfl,hm⟩
   obtain⟨s,hs,p,rfl,hp⟩:=Cd hg hx
   have hd:=qL (IV (f:=Prod.fst) hs)
   rw[hd] at hm
   have hp':upd H f (.lst (fs.map V.bl)) p=some (.tup [.str s.1.str,.int s.2]):=by rw[aA (aD hp hf)];exact hp
   have hl:=congrArg List.length hm
   simp only [List.length_append,pB,List.length_cons,aj9,List.length_map] at hl
   refine aqz [some (.ref l),some (.int b),some (.ref f),some (.int (nm m s.1)),some (.ref p)] (upd H f (.lst (fs.map V.bl))) ?_ ?_
   ·refine oH s.1.meas ?_ ?_
    ·tm_up
     rw[ae5]
     refine bJ (fun h=>?_) (fun h=>?_)
     ·exact eY (by rw[amU,h];rfl)
     ·tm_up
      rw[aqM]
      exact eY (by rw[amU,Bool.eq_false_iff.mpr h];rfl)
    refine bJ (fun h=>?_) (fun h=>?_)
    ·obtain⟨e1,e2⟩:=axP h m
     tm_up
     exact .inr ⟨_,_,rfl,e1,e2,rfl,rfl⟩
    ·rw[azZ h]
     exact⟨rfl,rfl⟩
   ·tm_up
    refine⟨.inl ⟨rfl,_,bu.of ao⟩,?_⟩
    tm_up
    rw[ji]
    refine⟨_,_,_,rfl,rfl,ao,by rw[List.length_map];exact bx (by omega),?_⟩
    exact⟨_,_,fs++[decide (nm m s.1=3)],rfl,by rw[eU,List.map_append];rfl,by rw[List.append_assoc];exact hm⟩
  ·rintro σ H' ⟨m,v,fs,rfl,rfl,hm⟩
   rw[List.drop_eq_nil_of_le (by rw[List.length_map,cj hg];exact Nat.le_refl _)] at hm
   tm_up
   have e:fs=pB b (cg ss):=by rw[← hm];simp[pB]
   subst e
   exact q f _ (aB.upd hf) hf ao
def az0 (K:Frag)(g:List Kd->List Int->Nat->Nat->Bool×List Int):Sp:=fun vs H Q _=>∃ (l f:Addr) (a z:Nat) (xs:List V) (ss:List Sg) (fs:List Int),vs=[.ref l,.ref f,.int (a:Int),.int (z:Int)]/\bu K H l xs/\lY H xs ss/\l≠f/\H f=some (.lst (fs.map V.int))/\fs.length=ss.length/\a < z/\z <= ss.length /\
 Q (.bl (g (cg ss) fs a z).1) (upd H f (.lst ((g (cg ss) fs a z).2.map V.int)))
theorem aaY (k:Kd):inS k.str "GDR" = k.great:=by cases k <;> decide +kernel
theorem Vq (o:Option Kd):(o.getD .dot).great=Ce o:=by cases o <;> rfl
theorem az1 (o:Option Kd):decide (o.getD .dot=.G)=decide (o=some .G):=by
 cases o with
 | none=>decide
 | some k=>simp
theorem an5 {ks:List Kd}{f:List Int}{a z:Nat}{r:Nat}(hr:(z - a) % 3=r)(hr3:r < 3) :
  settle ks f a z=if decide (r=2) && (Ce ks[z]? && decide (ks[z - 1]? = some .s)) then (true,f.set (z - 1) 2) else
   (decide (r=0) || ((decide (r=1) && (oK ks f a || jH ks z)) || (decide (r=2) && (oK ks f a && jH ks z))),
    let g:=if (decide (r=1) && oK ks f a) || (decide (r=2) && (oK ks f a && jH ks z)) then f.set (a - 1) 2 else f
    if (decide (r=1) && (jH ks z && !oK ks f a)) || (decide (r=2) && (oK ks f a && jH ks z)) then g.set z 2 else g):=by
 unfold settle Lx Ly
 rw[hr]
 have:r=0∨r=1∨r=2:=by omega
 rcases this with rfl | rfl | rfl <;> cases oK ks f a <;> cases jH ks z <;> cases Ce ks[z]? <;> cases decide (ks[z - 1]? = some .s) <;> rfl
theorem ark (T:Txt K w mg t):bU P w K mg base jt (0+1) t.FP t.afj ["_law_line_here","_law_told","_law_low","_law_high"] (az0 K settle):=by
 refine T.RB.ok Ed (fun vs H Q E h=>?_) (fun cdv A outer s H vs Q E hr h=>?_)
 ·obtain⟨_,_,_,_,_,_,_,rfl,_⟩:=h
  rfl
 ·obtain⟨l,f,a,z,xs,ss,fs,rfl,hS,hg,hlf,hf,hl,haz,hz,q⟩:=h
  obtain⟨r,hrr⟩:∃ r:Nat,(z - a) % 3=r:=⟨_,rfl⟩
  have hr3:r < 3:=by omega
  rw[an5 hrr hr3] at q
  have hri:((z:Int) - (a:Int)) % 3=(r:Int):=by omega
  have dI:∀ n:Nat,decide (V.int (((z:Int) - (a:Int)) % 3)=V.int (n:Int))=decide (r=n):=fun n=>by
   rw[hri,ji]
   by_cases e:r=n
   ·simp[e]
   ·have:¬ ((r:Int)=(n:Int)):=by omega
    simp[e,this]
  have d0:decide (V.int (((z:Int) - (a:Int)) % 3)=V.int 0)=decide (r=0):=dI 0
  have d1:decide (V.int (((z:Int) - (a:Int)) % 3)=V.int 1)=decide (r=1):=dI 1
  have d2:decide (V.int (((z:Int) - (a:Int)) % 3)=V.int 2)=decide (r=2):=dI 2
  refine bj (ak (aU (i:=4) Ed.nd rfl (Or.inl rfl) (aW d7 (aW lV (pv 3) (pv 2)) az)) (ak (aU (i:=5) Ed.nd rfl (Or.inl rfl) (fM (jg (aJ Dp (pv 3) (aL (aN.or aO) rfl T.cB cA (aa (pv 0) aj)) (aR _)) (bH bc (bH bc (pv 0) (pv 3) (fun _ _=>rfl)) az (fun _ _=>rfl)) cF))) (ak (aU (i:=6) Ed.nd rfl (Or.inl rfl) (fM (jg (aJ Dp (aW (bO.or (aQ.or bQ)) (pv 3) az) (aL (aN.or aO) rfl T.cB cA (aa (pv 0) aj)) (aR _)) (bH bc (bH bc (pv 0) (aW (bO.or (aQ.or bQ)) (pv 3) az) (fun _ _=>rfl)) az (fun _ _=>rfl)) cF))) (ak (aU (i:=7) Ed.nd rfl (Or.inl rfl) (fM (wB (dz ah3 (pv 2) az (aR _)) (wB (dz (cX.or (bV (aZ hr))) (bH bc (bH bc (pv 0) (aW lV (pv 2) az) (fun _ _=>rfl)) az (fun _ _=>rfl)) cF (aR _)) (wA (dz (cX.or (bV (aZ hr))) (bH bc (pv 1) (aW lV (pv 2) az) (fun _ _=>rfl)) az (aR _))))))) (ak (aU (i:=8) Ed.nd rfl (Or.inl rfl) (fM (wB (dz (cX.or (bV (aZ hr))) (pv 5) cF (aR _)) (wA (dz (Q4.or Q5) (pv 6) cF rfl))))) (ak (bC (cG (PW.pt (fL (aJ (cX.or (bV (aZ hr))) (pv 4) az (aR _)) (fL (aJ (eF.or eE) (pv 5) cF rfl) (ig (aJ (cX.or (bV (aZ hr))) (bH bc (bH bc (pv 0) (aW lV (pv 3) az) (fun _ _=>rfl)) az (fun _ _=>rfl)) cF (aR _))))))) (ak (qH az (Ij (pv 1) (aW lV (pv 3) az) set_list)) (aq (aG dB))) aM) (ak (qJ (bC (cG (PW.pt (lR (cG (PW.pt (fL (aJ (cX.or (bV (aZ hr))) (pv 4) az (aR _)) (ig (bB (pv 7)))))) (jf (cG (PW.pt (fL (aJ (cX.or (bV (aZ hr))) (pv 4) az (aR _)) (fL (bB (pv 7)) (ig (bB (pv 8))))))))))) (aq (qH az (Ij (pv 1) (aW lV (pv 2) az) set_list))) aM)) (ak (qJ (bC (cG (PW.pt (lR (cG (PW.pt (fL (aJ (cX.or (bV (aZ hr))) (pv 4) az (aR _)) (fL (bB (pv 8)) (ig (cz (bB (pv 7)))))))) (jf (cG (PW.pt (fL (aJ (cX.or (bV (aZ hr))) (pv 4) az (aR _)) (fL (bB (pv 7)) (ig (bB (pv 8))))))))))) (aq (qH az (Ij (pv 1) (pv 3) set_list))) aM)) (aq (aG (fM (apO (dz (cX.or (bV (aZ hr))) (pv 4) az (aR _)) (apO (fM (wB (dz (cX.or (bV (aZ hr))) (pv 4) az (aR _)) (wA (fM (apO (pv 7) (wA (pv 8))))))) (wA (fM (wB (dz (cX.or (bV (aZ hr))) (pv 4) az (aR _)) (wB (pv 7) (wA (pv 8))))))))))))))))))) ?_
  tm_up
  refine ZS (.str ((cg ss)[z]?.getD .dot).str) ?_ ?_
  ·tm_up
   refine .inl ⟨_,_,rfl,.inl hS,?_⟩
   rw[cj hg]
   tm_up
   refine bJ (fun h=>?_) (fun h=>?_)
   ·have hlt:z < ss.length:=by have:=of_decide_eq_true h;omega
    tm_up
    refine acW hS hg (n:=z) rfl (List.getElem?_eq_getElem hlt) fun p hp=>?_
    tm_up
    refine xV ?_
    rw[List.getElem?_map,List.getElem?_eq_getElem hlt]
    rfl
   ·refine xV ?_
    have hge:¬ z < ss.length:=fun c=>h (decide_eq_true (by omega))
    rw[List.getElem?_eq_none (by rw[List.length_map];omega)]
    rfl
  refine ZS (.str ((cg ss)[z+1]?.getD .dot).str) ?_ ?_
  ·tm_up
   refine .inl ⟨_,_,rfl,.inl hS,?_⟩
   rw[cj hg]
   tm_up
   refine bJ (fun h=>?_) (fun h=>?_)
   ·have hlt:z+1 < ss.length:=by have:=of_decide_eq_true h;omega
    tm_up
    refine acW hS hg (n:=z+1) (by omega) (List.getElem?_eq_getElem hlt) fun p hp=>?_
    tm_up
    refine xV ?_
    rw[List.getElem?_map,List.getElem?_eq_getElem hlt]
    rfl
   ·refine xV ?_
    have hge:¬ z+1 < ss.length:=fun c=>h (decide_eq_true (by omega))
    rw[List.getElem?_eq_none (by rw[List.length_map];omega)]
    rfl
  refine ZS (.bl (oK (cg ss) fs a)) ?_ ?_
  ·tm_up
   refine bJ (fun h=>?_) (fun h=>?_)
   ·have hp:0 < a:=by have:=of_decide_eq_true h;omega
    have hlt:a - 1 < ss.length:=by omega
    have ek:kAt (cg ss) ((a:Int) - 1)=some (ss[a - 1]).1:=by
     have:(a:Int) - 1=((a - 1:Nat):Int):=by omega
     rw[this,Ai,List.getElem?_map,List.getElem?_eq_getElem hlt]
     rfl
    tm_up
    refine acW hS hg (n:=a - 1) (by omega) (List.getElem?_eq_getElem hlt) fun p hp=>?_
    tm_up
    rw[k_G]
    refine bJ (fun h2=>?_) (fun h2=>?_)
    ·tm_up
     refine aqN (bu.of hf) (n:=a - 1) (by omega) (List.getElem?_eq_getElem (by omega)) ?_
     tm_up
     rw[ji]
     refine xV ?_
     unfold oK
     rw[ek,of_decide_eq_true h2,List.getD_eq_getElem?_getD,List.getElem?_eq_getElem (by omega)]
     simp
    ·refine xV ?_
     unfold oK
     rw[ek]
     have:(ss[a - 1]).1≠.G:=fun c=>h2 (decide_eq_true c)
     simp[this]
   ·refine xV ?_
    have hp:a=0:=by
     have:¬ 0 < a:=fun c=>h (decide_eq_true (by omega))
     omega
    subst hp
    unfold oK kAt
    simp
  refine ZS (.bl (jH (cg ss) z)) ?_ ?_
  ·tm_up
   rw[k_G,az1]
   refine bJ (fun h=>?_) (fun h=>?_)
   ·tm_up
    refine xV ?_
    unfold jH
    rw[h]
    show V.bl (!inS _ _)=_
    rw[aaY,Vq]
    rfl
   ·refine xV ?_
    unfold jH
    rw[Bool.eq_false_iff.mpr h]
    rfl
  generalize hL:oK (cg ss) fs a=L at q
  generalize hR:jH (cg ss) z=R at q
  refine oH (decide (r=2) && (Ce (cg ss)[z]? && decide ((cg ss)[z - 1]? = some .s))) ?_ ?_
  ·tm_up
   rw[d2]
   refine bJ (fun h=>?_) (fun h=>?_)
   ·rw[h]
    tm_up
    refine bJ (fun h2=>?_) (fun h2=>?_)
    ·have h2':Ce (cg ss)[z]? = true:=by
      have:inS ((cg ss)[z]?.getD .dot).str "GDR" = true:=h2
      rwa [aaY,Vq] at this
     rw[h2']
     tm_up
     have hlt:z - 1 < ss.length:=by omega
     refine acW hS hg (n:=z - 1) (by omega) (List.getElem?_eq_getElem hlt) fun p hp=>?_
     tm_up
     rw[k_s]
     refine eY ?_
     rw[List.getElem?_map,List.getElem?_eq_getElem hlt]
     simp
    ·have h2':Ce (cg ss)[z]? = false:=by
      have:inS ((cg ss)[z]?.getD .dot).str "GDR" = false:=Bool.eq_false_iff.mpr h2
      rwa [aaY,Vq] at this
     rw[h2']
     exact eY rfl
   ·exact eY (by rw[Bool.eq_false_iff.mpr h];rfl)
  refine bJ (fun h=>?_) (fun h=>?_)
  ·rw[if_pos h] at q
   tm_up
   refine⟨_,_,_,_,rfl,rfl,hf,Ak (j:=z - 1) (by omega) (by rw[List.length_map];omega),?_⟩
   rw[vz]
   exact q
  ·rw[if_neg h] at q
   dsimp only at q
   have hLp:L=true->1 <= a/\a - 1 < ss.length:=fun e=>by
    have:=Uy (hL.trans e)
    rwa [List.length_map] at this
   have hRp:R=true->z < ss.length:=fun e=>by
    have:=Nv (hR.trans e)
    rwa [List.length_map] at this
   generalize hg1:(if (decide (r=1) && L || decide (r=2) && (L && R))=true then fs.set (a - 1) 2 else fs)=g1 at q
   have g1l:g1.length=ss.length:=by rw[← hg1];split <;> simp[hl]
   refine aqz [some (.ref l),some (.ref f),some (.int (a:Int)),some (.int (z:Int)),some (.int (((z:Int) - (a:Int)) % 3)),some (.str ((cg ss)[z]?.getD .dot).str),some (.str ((cg ss)[z+1]?.getD .dot).str),some (.bl L),some (.bl R)] (upd H f (.lst (g1.map V.int))) ?_ ?_
   ·refine oH (decide (r=1) && L || decide (r=2) && (L && R)) ?_ ?_
    ·refine oH (decide (r=1) && L) ?_ ?_
     ·tm_up
      rw[d1]
      refine bJ (fun h=>?_) (fun h=>?_)
      ·tm_up
       exact eY (by rw[h];rfl)
      ·exact eY (by rw[Bool.eq_false_iff.mpr h];rfl)
     ·refine bJ (fun h=>eY (by rw[h];rfl)) (fun h=>?_)
      rw[Bool.eq_false_iff.mpr h,Bool.false_or]
      refine oH (decide (r=2) && (L && R)) ?_ (eY rfl)
      tm_up
      rw[d2]
      refine bJ (fun h=>?_) (fun h=>?_)
      ·tm_up
       refine bJ (fun h2=>?_) (fun h2=>?_)
       ·tm_up
        exact eY (by rw[h,h2];rfl)
       ·exact eY (by rw[h,Bool.eq_false_iff.mpr h2];rfl)
      ·exact eY (by rw[Bool.eq_false_iff.mpr h];rfl)
    ·refine bJ (fun h=>?_) (fun h=>?_)
     ·rw[if_pos h] at hg1
      have hp:=hLp (by cases L <;> simp_all)
      tm_up
      refine⟨_,_,_,_,rfl,rfl,hf,Ak (j:=a - 1) (by omega) (by rw[List.length_map];omega),?_⟩
      rw[vz,hg1]
      exact⟨rfl,rfl⟩
     ·rw[if_neg h] at hg1
      subst hg1
      rw[Q9 hf]
      exact⟨rfl,rfl⟩
   generalize hg2:(if (decide (r=1) && (R && !L) || decide (r=2) && (L && R))=true then g1.set z 2 else g1)=g2 at q
   refine aqz [some (.ref l),some (.ref f),some (.int (a:Int)),some (.int (z:Int)),some (.int (((z:Int) - (a:Int)) % 3)),some (.str ((cg ss)[z]?.getD .dot).str),some (.str ((cg ss)[z+1]?.getD .dot).str),some (.bl L),some (.bl R)] (upd H f (.lst (g2.map V.int))) ?_ ?_
   ·refine oH (decide (r=1) && (R && !L) || decide (r=2) && (L && R)) ?_ ?_
    ·refine oH (decide (r=1) && (R && !L)) ?_ ?_
     ·tm_up
      rw[d1]
      refine bJ (fun h=>?_) (fun h=>?_)
      ·tm_up
       refine bJ (fun h2=>?_) (fun h2=>?_)
       ·tm_up
        exact eY (by rw[h,h2];rfl)
       ·exact eY (by rw[h,Bool.eq_false_iff.mpr h2];rfl)
      ·exact eY (by rw[Bool.eq_false_iff.mpr h];rfl)
     ·refine bJ (fun h=>eY (by rw[h];rfl)) (fun h=>?_)
      rw[Bool.eq_false_iff.mpr h,Bool.false_or]
      refine oH (decide (r=2) && (L && R)) ?_ (eY rfl)
      tm_up
      rw[d2]
      refine bJ (fun h=>?_) (fun h=>?_)
      ·tm_up
       refine bJ (fun h2=>?_) (fun h2=>?_)
       ·tm_up
        exact eY (by rw[h,h2];rfl)
       ·exact eY (by rw[h,Bool.eq_false_iff.mpr h2];rfl)
      ·exact eY (by rw[Bool.eq_false_iff.mpr h];rfl)
    ·refine bJ (fun h=>?_) (fun h=>?_)
     ·rw[if_pos h] at hg2
      have hp:=hRp (by cases R <;> simp_all)
      tm_up
      refine⟨_,_,_,_,rfl,rfl,ao,Ak (j:=z) rfl (by rw[List.length_map];omega),?_⟩
      rw[vz,hg2,eU]
      exact⟨rfl,rfl⟩
     ·rw[if_neg h] at hg2
      subst hg2
      exact⟨rfl,rfl⟩
   refine ZS (.bl (decide (r=0) || (decide (r=1) && (L || R) || decide (r=2) && (L && R)))) ?_ q
   tm_up
   rw[d0]
   refine bJ (fun h=>xV (by rw[h];rfl)) (fun h=>?_)
   rw[Bool.eq_false_iff.mpr h,Bool.false_or]
   refine ZS (.bl (decide (r=1) && (L || R))) ?_ ?_
   ·tm_up
    rw[d1]
    refine bJ (fun h=>?_) (fun h=>xV (by rw[Bool.eq_false_iff.mpr h];rfl))
    refine ZS (.bl (L || R)) ?_ (xV (by rw[h];rfl))
    tm_up
    refine bJ (fun h=>xV (by rw[h];rfl)) (fun h=>?_)
    tm_up
    exact xV (by rw[Bool.eq_false_iff.mpr h];rfl)
   ·refine⟨_,rfl,?_⟩
    refine bJ (fun h=>xV (by rw[h];rfl)) (fun h=>?_)
    rw[Bool.eq_false_iff.mpr h,Bool.false_or]
    refine ZS (.bl (decide (r=2) && (L && R))) ?_ (xV rfl)
    tm_up
    rw[d2]
    refine bJ (fun h=>?_) (fun h=>xV (by rw[Bool.eq_false_iff.mpr h];rfl))
    tm_up
    refine bJ (fun h2=>?_) (fun h2=>?_)
    ·tm_up
     exact xV (by rw[h,h2];rfl)
    ·exact xV (by rw[h,Bool.eq_false_iff.mpr h2];rfl)
inductive aeB (K:Frag)(vs:List V)(H:Hp)(Q:VK)(E:XK):Prop
 | mk (l:Addr) (b:Int) (xs:List V) (ss:List Sg) (fU:vs=[.ref l,.int b]) (fV:Ms b) (iQ:H l=some (.lst xs)) (nZ:lY H xs ss) (xM:ss.length <= 400) (h5_:∀ (p f lo:Addr) (ys:List V) (H':Hp),aB H H'->H f=none->H lo=none->f≠lo->H' p=some (.tup [.ref f,.ref lo])->H' f=some (.lst ((oM b (cg ss)).1.map V.int))->H' lo=some (.lst ys)->Prs H' ys (oM b (cg ss)).2->Q (.ref p) H'):aeB K vs H Q E
theorem an6 (T:Txt K w mg t):bU P w K mg base jt (0+2) t.zm t.aas ["_law_line_here","_law_begin"] (aeB K):=by
 have arl:=an4 (P:=P) (w:=w) (base:=base) T
 have an7:=akz (P:=P) (w:=w) (base:=base) T
 have atr:=ark (P:=P) (w:=w) (base:=base) T
 refine T.El.ok qx (fun vs H Q E h=>?_) (fun cdv A outer s H vs Q E hr h=>?_)
 ·obtain⟨_,_,_,_,rfl,_⟩:=h
  rfl
 ·obtain⟨l,b,xs,ss,rfl,hMs,hS,hg,hn,q⟩:=h
  refine bj (ak (aU (i:=2) qx.nd rfl (Or.inl rfl) (aC arl (hr.mono (by decide)) rfl T.anP T.JB.kp T.aaB .nil aF (aa (pv 0) (aa (pv 1) aj)))) (ak (aU (i:=3) qx.nd rfl (Or.inl rfl) (aC an7 (hr.mono (by decide)) rfl T.akn T.Ek.kp T.Vj .nil aF (aa (pv 0) (aa (pv 1) aj)))) (ak (aU (i:=4) qx.nd rfl (Or.inl rfl) (bZ aj)) (ak (aU (i:=5) qx.nd rfl (Or.inl rfl) az) (ak (ZC PassesOwn.never (aJ Dp (pv 5) (aL (aN.or aO) rfl T.cB cA (aa (pv 0) aj)) (aR _)) (ak (aU (i:=6) qx.nd rfl (Or.inl rfl) (pv 5)) (ak (ZC PassesOwn.never (cG (PW.pt (fL (aJ Dp (pv 6) (aL (aN.or aO) rfl T.cB cA (aa (pv 0) aj)) (aR _)) (fL (aJ (eF.or eE) (bH bc (bH bc (pv 0) (pv 6) (fun _ _=>rfl)) az (fun _ _=>rfl)) cF rfl) (ig (bB (bH bc (pv 3) (pv 6) (fun _ _=>rfl)))))))) (aq (aU (i:=6) qx.nd rfl (Or.inl rfl) (aW (bO.or (aQ.or bQ)) (pv 6) az)))) (ak (qJ (bC (cG (PW.pt (fL (aJ ah3 (pv 6) (pv 5) (aR _)) (ig (cz (bB (aC atr (hr.mono (by decide)) rfl T.aq0 T.RB.kp T.afo .nil aF (aa (pv 0) (aa (pv 2) (aa (pv 5) (aa (pv 6) aj))))))))))) (aq (bh (jh PySem.F.plainAttrs_list PySem.F.slot_list_append PySem.F.type_list_append bK (pv 4) (aa (gA (aa (pv 5) (aa (pv 6) aj))) aj)))) aM)) (aq (aU (i:=5) qx.nd rfl (Or.inl rfl) (aL (anb rfl) rfl T.avx au5 (aa (pv 6) (aa (aW (bO.or (aQ.or bQ)) (pv 5) az) aj))))))))) (aq (aG (gA (aa (pv 2) (aa (pv 4) aj)))))))))) ?_
  tm_up
  refine⟨l,b,xs,ss,rfl,hMs,bu.of hS,hg,hn,fun f H1 s1 n1 h1=>?_⟩
  tm_up
  refine⟨l,b,xs,ss,rfl,bu.of (s1 _ _ hS),hg.same s1,hn,fun th H2 s2 n2 h2=>?_⟩
  refine⟨big (by show 0 <= 1000;omega),fun lo hlo=>?_⟩
  have s3:=s2.trans (aB.upd (o:=.lst []) hlo)
  have ard:H lo=none:=s1.free (s2.free hlo)
  have nfl:f≠lo:=aD (s2 _ _ h1) hlo
  have ntl:th≠lo:=aD h2 hlo
  have ntf:th≠f:=fun e=>by rw[e,h1] at n2;cases n2
  have nlf:l≠f:=aD hS n1
  have bl:(lF b (cg ss)).length=ss.length:=by rw[Ds,List.length_map]
  have cnt:(HH b (cg ss)).length <= 401:=by
   have:=vN (oJ b (cg ss)) 0 0
   rw[yL,List.length_map] at this
   exact Nat.le_trans this (by omega)
  tm_up
  refine⟨fun mm σ H'=>∃ (low:Nat) (v:Option V) (c:RdS) (ys:List V),mm=ss.length - low/\low <= ss.length/\σ=[some (.ref l),some (.int b),some (.ref f),some (.ref th),some (.ref lo),some (.int (low:Int)),v]/\aB H H'/\H' f=some (.lst (c.1.map V.int))/\H' lo=some (.lst ys)/\Prs H' ys c.2/\H' th=some (.lst ((pB b (cg ss)).map V.bl))/\c.1.length=ss.length/\c.2.length+(gP low low ((oJ b (cg ss)).drop low)).length <= 401/\(gP low low ((oJ b (cg ss)).drop low)).foldl (yM (cg ss)) c=oM b (cg ss),
   ⟨_,0,none,(lF b (cg ss),[]),[],rfl,Nat.zero_le _,rfl,s1.trans s3,s3 _ _ h1,ao,.nil,by rw[aA ntl];exact h2,bl,by show 0+(HH b (cg ss)).length <= 401;omega,rfl⟩,?_⟩
  rintro mm σ H' ⟨low,v,c,ys,rfl,hlow,rfl,s4,hf4,aky,hys,hth,hcl,axQ,Bo⟩
  have hl4:=s4 _ _ hS
  have hg4:=hg.same s4
  tm_up
  refine .inl ⟨_,_,rfl,.inl (bu.of hl4),?_⟩
  rw[cj hg]
  tm_up
  refine bJ (fun h=>?_) (fun h=>?_)
  ·have hlt:low < ss.length:=by have:=of_decide_eq_true h;omega
   refine⟨fun σ' H''=>∃ m',m' < ss.length - low/\∃ (low:Nat) (v:Option V) (c:RdS) (ys:List V),m'=ss.length - low/\low <= ss.length/\σ'=[some (.ref l),some (.int b),some (.ref f),some (.ref th),some (.ref lo),some (.int (low:Int)),v]/\aB H H''/\H'' f=some (.lst (c.1.map V.int))/\H'' lo=some (.lst ys)/\Prs H'' ys c.2/\H'' th=some (.lst ((pB b (cg ss)).map V.bl))/\c.1.length=ss.length/\c.2.length+(gP low low ((oJ b (cg ss)).drop low)).length <= 401/\(gP low low ((oJ b (cg ss)).drop low)).foldl (yM (cg ss)) c=oM b (cg ss),fun _ _ h=>h,?_⟩
   generalize hn':lead ((oJ b (cg ss)).drop low)=n
   have hnle:n <= ss.length - low:=by
    have:=amB ((oJ b (cg ss)).drop low)
    rw[List.length_drop,yL,List.length_map,hn'] at this
    exact this
   tm_up
   refine⟨fun mm σ H''=>∃ j:Nat,mm=n - j/\j <= n/\σ=[some (.ref l),some (.int b),some (.ref f),some (.ref th),some (.ref lo),some (.int (low:Int)),some (.int ((low+j:Nat):Int))]/\H''=H',⟨n,0,rfl,Nat.zero_le _,rfl,rfl⟩,?_⟩
   rintro mm σ H'' ⟨j,rfl,hj,rfl,rfl⟩
   have hla:=amD ((oJ b (cg ss)).drop low) j (by rw[hn'];exact hj)
   rw[hn',avo] at hla
   refine oH (decide (j < n)) ?_ ?_
   ·tm_up
    refine .inl ⟨_,_,rfl,.inl (bu.of hl4),?_⟩
    rw[cj hg]
    tm_up
    refine bJ (fun h=>?_) (fun h=>?_)
    ·have hjl:low+j < ss.length:=by have:=of_decide_eq_true h;omega
     have hk:(cg ss)[low+j]? = some (ss[low+j]).1:=IV (List.getElem?_eq_getElem hjl)
     obtain⟨tb,ht1,ht2⟩:=amC hMs (cg ss) (low+j) _ hk
     rw[ht2] at hla
     tm_up
     refine acW (bu.of hl4) hg4 (n:=low+j) rfl (List.getElem?_eq_getElem hjl) fun p hp=>?_
     tm_up
     refine bJ (fun h=>?_) (fun h=>?_)
     ·have h':(ss[low+j]).1.small=true:=by rw[← Sd];exact h
      rw[h',Bool.true_and] at hla
      tm_up
      refine ixL (bu.of hth) (n:=low+j) rfl (IV ht1) ?_
      tm_up
      refine eY ?_
      cases tb with
      | true=>exact (decide_eq_true (hla.mpr rfl)).symm
      | false=>exact (decide_eq_false (fun z=>by have:=hla.mp z;cases this)).symm
     ·have h':(ss[low+j]).1.small=false:=by rw[← Sd];exact Bool.eq_false_iff.mpr h
      rw[h',Bool.false_and] at hla
      exact eY (decide_eq_false (fun z=>by have:=hla.mp z;cases this)).symm
    ·have hjl:¬ low+j < ss.length:=fun z=>h (decide_eq_true (by omega))
     exact eY (decide_eq_false (by omega)).symm
   refine bJ (fun h=>?_) (fun h=>?_)
   ·have hjn:=of_decide_eq_true h
    refine⟨fun σ' Hx=>∃ m',m' < n - j/\∃ j:Nat,m'=n - j/\j <= n/\σ'=[some (.ref l),some (.int b),some (.ref f),some (.ref th),some (.ref lo),some (.int (low:Int)),some (.int ((low+j:Nat):Int))]/\Hx=H'',fun _ _ h=>h,?_⟩
    tm_up
    exact⟨n - (j+1),by omega,j+1,rfl,by omega,rfl,rfl⟩
   ·have hjn:j=n:=by
     have:¬ j < n:=fun z=>h (decide_eq_true z)
     omega
    subst hjn
    have hrf:=Z4 ((oJ b (cg ss)).drop low) low low (by rw[hn'];omega) (Nat.le_refl _)
    rw[hn',List.drop_drop] at hrf
    refine⟨fun σ1 H1=>σ1=[some (.ref l),some (.int b),some (.ref f),some (.ref th),some (.ref lo),some (.int (low:Int)),some (.int ((low+j:Nat):Int))]/\∃ (c:RdS) (ys:List V),aB H H1/\H1 f=some (.lst (c.1.map V.int))/\H1 lo=some (.lst ys)/\Prs H1 ys c.2/\H1 th=some (.lst ((pB b (cg ss)).map V.bl))/\c.1.length=ss.length/\c.2.length+(gP (low+j) (low+j) ((oJ b (cg ss)).drop (low+j))).length <= 401/\(gP (low+j) (low+j) ((oJ b (cg ss)).drop (low+j))).foldl (yM (cg ss)) c=oM b (cg ss),?_,?_⟩
    ·by_cases hj0:j=0
     ·subst hj0
      refine oH false ?_ ?_
      ·tm_up
       rw[decide_eq_false (show ¬ ((low:Int) < ((low+0:Nat):Int)) by omega)]
       exact eY rfl
      ·exact cZ ⟨rfl,c,ys,s4,hf4,aky,hys,hth,hcl,axQ,Bo⟩
     ·have hlt2:low < low+j:=by omega
      rw[if_pos hlt2,List.singleton_append] at hrf
      rw[hrf,List.foldl_cons] at Bo
      rw[hrf,List.length_cons] at axQ
      have s5:aB H (upd H'' f (.lst ((settle (cg ss) c.1 low (low+j)).2.map V.int))):=gO s4 n1
      have aiN:upd H'' f (.lst ((settle (cg ss) c.1 low (low+j)).2.map V.int)) lo=some (.lst ys):=by rw[aA nfl.symm];exact aky
      have axR:upd H'' f (.lst ((settle (cg ss) c.1 low (low+j)).2.map V.int)) th=some (.lst ((pB b (cg ss)).map V.bl)):=by rw[aA ntf];exact hth
      have aq6:(settle (cg ss) c.1 low (low+j)).2.length=ss.length:=by rw[Nu];exact hcl
      refine⟨fun bb H3=>bb = !(settle (cg ss) c.1 low (low+j)).1/\H3=upd H'' f (.lst ((settle (cg ss) c.1 low (low+j)).2.map V.int)),?_,?_⟩
      ·tm_up
       rw[decide_eq_true (show ((low:Int) < ((low+j:Nat):Int)) by omega)]
       refine wF ?_
       tm_up
       refine⟨l,f,low,low+j,xs,ss,c.1,rfl,bu.of hl4,hg4,nlf,hf4,hcl,hlt2,by omega,?_⟩
       tm_up
       exact⟨rfl,rfl⟩
      ·rintro bb H3 ⟨rfl,rfl⟩
       refine bJ (fun h=>?_) (fun h=>?_)
       ·have hst:(settle (cg ss) c.1 low (low+j)).1=false:=by
         cases e:(settle (cg ss) c.1 low (low+j)).1
         ·rfl
         ·rw[e] at h;cases h
        tm_up
        refine⟨.inl ⟨rfl,_,bu.of aiN⟩,?_⟩
        tm_up
        refine⟨by show 2 <= sizeLine;decide,fun z hz=>?_⟩
        have sz:=aB.upd (o:=.tup [.int (low:Int),.int ((low+j:Nat):Int)]) hz
        have an8:=sz _ _ aiN
        refine⟨_,_,_,rfl,rfl,an8,by rw[cj hys];exact bx (by omega),?_⟩
        refine⟨rfl,((settle (cg ss) c.1 low (low+j)).2,c.2++[(low,low+j)]),_,gO (s5.trans sz) ard,by rw[aA nfl];exact sz _ _ ao,ao,pQ (yN an8 (Aj sz (yN hf4 hys))) (air an8 ⟨z,rfl,ao⟩),
         by rw[aA ntl];exact sz _ _ axR,aq6,by simp only [List.length_append,List.length_singleton];omega,?_⟩
        rw[← Bo]
        unfold yM
        rw[hst]
        rfl
       ·have hst:(settle (cg ss) c.1 low (low+j)).1=true:=by
         cases e:(settle (cg ss) c.1 low (low+j)).1
         ·rw[e] at h;exact absurd rfl h
         ·rfl
        refine⟨rfl,((settle (cg ss) c.1 low (low+j)).2,c.2),ys,s5,ao,aiN,yN hf4 hys,axR,aq6,by show c.2.length+_ <= 401;omega,?_⟩
        rw[← Bo]
        unfold yM
        rw[hst]
        rfl
    ·rintro σ1 H1 ⟨rfl,c',ys',s6,hf6,an8,axS,axT,axU,amV,afC⟩
     tm_up
     refine⟨_,_,rfl,?_⟩
     by_cases hj0:j=0
     ·subst hj0
      have hbl:(oJ b (cg ss))[low]? = some false:=by
       have h1:low < (oJ b (cg ss)).length:=by rw[yL,List.length_map];exact hlt
       have h2:¬ (oJ b (cg ss))[low+0]? = some true:=fun z=>Nat.lt_irrefl _ (hla.mpr z)
       rw[Nat.add_zero,List.getElem?_eq_getElem h1] at h2
       rw[List.getElem?_eq_getElem h1]
       cases e:(oJ b (cg ss))[low]
       ·rfl
       ·rw[e] at h2;exact absurd rfl h2
      rw[Nat.add_zero,qL hbl] at afC amV
      have er:gP low low (false :: (oJ b (cg ss)).drop (low+1))=gP (low+1) (low+1) ((oJ b (cg ss)).drop (low+1)):=by
       show (if low < low then [(low,low)] else [])++gP (low+1) (low+1) ((oJ b (cg ss)).drop (low+1))=_
       rw[if_neg (Nat.lt_irrefl _),List.nil_append]
      rw[er] at afC amV
      have em:(if (low:Int)+1 > ((low+0:Nat):Int) then (low:Int)+1 else ((low+0:Nat):Int))=((low+1:Nat):Int):=by rw[if_pos (by omega)];rfl
      rw[em]
      exact⟨ss.length - (low+1),by omega,low+1,_,c',ys',rfl,by omega,rfl,s6,hf6,an8,axS,axT,axU,amV,afC⟩
     ·have em:(if (low:Int)+1 > ((low+j:Nat):Int) then (low:Int)+1 else ((low+j:Nat):Int))=((low+j:Nat):Int):=by
       split <;> omega
      rw[em]
      exact⟨ss.length - (low+j),by omega,low+j,_,c',ys',rfl,by omega,rfl,s6,hf6,an8,axS,axT,axU,amV,afC⟩
  ·have hlt:low=ss.length:=by
    have:¬ low < ss.length:=fun z=>h (decide_eq_true (by omega))
    omega
   subst hlt
   rw[List.drop_eq_nil_of_le (by rw[yL,List.length_map];exact Nat.le_refl _)] at Bo
   have e:c=oM b (cg ss):=by
    have:gP ss.length ss.length []=[]:=by unfold gP;rw[if_neg (Nat.lt_irrefl _)]
    rw[this] at Bo
    exact Bo
   subst e
   tm_up
   refine⟨by show 2 <= sizeLine;decide,fun z hz=>?_⟩
   have sz:=aB.upd (o:=.tup [.ref f,.ref lo]) hz
   exact q z f lo ys _ (s4.trans sz) n1 ard nfl ao (sz _ _ hf4) (sz _ _ aky) (Aj sz hys)
inductive Sh (K:Frag)(vs:List V)(H:Hp)(Q:VK)(E:XK):Prop
 | mk (d:Addr) (vw:Vw) (n:Str) (th:Th) (fU:vs=[.ref d,.str n]) (fV:NB H d vw) (iQ:Lz vw) (nZ:bM vw n=some th) (xM:∀ (l:Addr) (H':Hp),aB H H'->H' l=some (.lst ((ju vw n).map V.int))->Q (.ref l) H'):Sh K vs H Q E
theorem Gv (T:Txt K w mg t):bU P w K mg base jt (0+3) t.mG t.Jq ["_law_voices","_law_name"] (Sh K):=by
 have wk:=Gu (P:=P) (w:=w) (base:=base) T
 have aiS:=an6 (P:=P) (w:=w) (base:=base) T
 refine T.mQ.ok Ft (fun vs H Q E h=>?_) (fun cdv A outer s H vs Q E hr h=>?_)
 ·obtain⟨_,_,_,_,rfl,_⟩:=h
  rfl
 ·obtain⟨d,vw,n,th,rfl,hd,wv,hf,q⟩:=h
  refine bj (ak (aU (i:=2) Ft.nd rfl (Or.inr rfl) (qK (Ir hr) (pv 0) (pv 1) (fun _ _=>rfl))) (ak (aU (i:=3) Ft.nd rfl (Or.inl rfl) (aC wk (hr.mono (by decide)) rfl T.Gh T.mO.kp T.vX .nil aF (aa (pv 0) (aa (pv 1) aj)))) (ak (bC (bB (aL cQ rfl T.bG bF (aa (pv 2) (aa (dW (v:=.ty "list") rfl T.iI iu rfl) aj)))) (aq (aG (bH bc (aC aiS (hr.mono (by decide)) rfl T.aep T.El.kp T.RC .nil aF (aa (pv 3) (aa az aj))) az (fun _ _=>rfl)))) aM) (aq (aG (vC (cn:=["_law_worth"]) rfl (fW.of rfl) (ik (bH bc (aC aiS (hr.mono (by decide)) rfl T.aep T.El.kp T.RC .nil aF (aa (pv 3) (aa (fM (jg (bB (bH bc (pv 2) az (fun _ _=>rfl))) az az)) aj))) az (fun _ _=>rfl))) (fun _=>(aY (i:=0) aak rfl (Or.inl rfl))) (fun _=>yK) (fun _=>(aW (wC.or wD) (bH bc (pv 3) az (fun _ _=>rfl)) (pv 0))))))))) ?_
  obtain⟨v,hg,hv⟩:=hd.get hf
  refine⟨_,rfl,_,rfl,d,v,rfl,hg,?_⟩
  refine⟨_,rfl,_,rfl,d,vw,n,th,rfl,hd,wv,hf,fun l ys H1 s1 h1 g1=>?_⟩
  cases th with
  | pl ss =>
   obtain⟨l0,ys0,rfl,h0,_⟩:=hv
   have gl:=(wv.gd _ _ (di hf)).1
   rw[Dy hf] at g1
   tm_up
   refine⟨_,_,_,_,rfl,gQ.lst (s1 _ _ h0),rfl,_,rfl,wF ?_⟩
   refine⟨_,rfl,l,3,ys,ss,rfl,.inl rfl,h1,g1,by omega,fun p f lo zs H2 s2 _ _ _ hp hf2 _ _=>ix0 hp ?_⟩
   exact q f H2 (s1.trans s2) (by rw[Rh hf];exact hf2)
  | cn ld lt sl tn =>
   obtain⟨p,rfl,hp⟩:=hv
   obtain⟨⟨ss,hld⟩,lt0,lt1,sl0,sl1⟩:=wv.ld n ld lt sl tn (di hf)
   have hfl:=wv.find hld
   have gl:=(wv.gd _ _ hld).1
   rw[Dz hf hfl] at g1
   rw[Ri hf hfl] at q
   have gl2:(if tn=true then ss.map Ao else ss).length <= 400:=by
    split
    ·rw[List.length_map];omega
    ·omega
   tm_up
   refine⟨_,_,_,_,rfl,gQ.tup (s1 _ _ hp),rfl,_,rfl,cZ ?_⟩
   refine⟨_,rfl,?_⟩
   refine⟨fun v H'=>v=.int (if tn=true then 2 else 3)/\H'=H1,?_,?_⟩
   ·refine⟨_,rfl,R8 (i:=3) (s1 _ _ hp) rfl ⟨_,rfl,?_⟩⟩
    cases tn with
    | true=>exact wF ⟨rfl,rfl⟩
    | false=>exact cZ ⟨rfl,rfl⟩
   intro v0 H0 ⟨e1,e2⟩
   rw[e1,e2]
   have hMs:Ms (if tn=true then 2 else 3):=by cases tn;exact .inl rfl;exact .inr rfl
   refine⟨l,_,ys,_,rfl,hMs,h1,g1,gl2,fun p2 f lo zs H2 s2 _ _ _ hp2 hf2 _ _=>ix0 hp2 ?_⟩
   generalize hW:(oM (if tn=true then 2 else 3) (cg (if tn=true then ss.map Ao else ss))).1=W at q hf2
   have hWl:W.length <= 400:=by rw[← hW,yr,List.length_map];exact gl2
   refine⟨f,rfl,⟨_,bu.of hf2⟩,fun D' b' hD'=>?_⟩
   have hpD:=s2 _ _ (s1 _ _ hp)
   refine mY (K:=K) (xs:=W.map V.int) (fun i ys' σ H'=>∃ v,σ=[v,some (.ref d),some (.str n),some (.ref p),some (.ref l)]/\H'=upd H2 D' (.lst ys')/\ys'=((W.take i).map fun w=>sl * w).map V.int) ⟨none,rfl,rfl,by simp⟩ ?_ ?_ ?_
   ·rintro i ys σ H' ⟨v,rfl,rfl,_⟩
    exact lD (bu.of hf2) hD'
   ·rintro i ys' y σ H' hy ⟨v,rfl,rfl,rfl⟩ N hN
    obtain⟨z,hz,rfl⟩:=IK hy
    have hi:i < W.length:=(List.getElem?_eq_some_iff.mp hz).1
    refine jF ?_
    refine⟨_,rfl,R8 (i:=2) (by rw[aA (aD hpD hD')];exact hpD) rfl ?_⟩
    refine⟨_,rfl,.inl ⟨_,_,rfl,rfl,.inl ⟨by omega,by omega⟩,ao,?_,?_⟩⟩
    ·rw[List.length_map,List.length_map,List.length_take]
     exact bx (by omega)
    ·refine hN _ _ _ ⟨_,rfl,eU,?_⟩
     rw[List.take_succ,hz,List.map_append,List.map_append]
     rfl
   ·rintro ys' σ H' ⟨v,rfl,rfl,rfl⟩
    rw[List.length_map,List.take_length]
    exact q D' _ ((s1.trans s2).trans (aB.upd hD')) ao
inductive M6 (K:Frag)(vs:List V)(H:Hp)(Q:VK)(E:XK):Prop
 | mk (d:Addr) (vw:Vw) (n:Str) (th:Th) (fU:vs=[.ref d,.str n]) (fV:NB H d vw) (iQ:Lz vw) (nZ:bM vw n=some th) (xM:∀ (l:Addr) (ys:List V) (H':Hp),H l=none->aB H H'->H' l=some (.lst ys)->Paired (zH H') ys (mU (pX vw n) (ju vw n) (Mq th))->Q (.ref l) H'):M6 K vs H Q E
theorem ada (T:Txt K w mg t):bU P w K mg base jt (0+4) t.jQ t.FQ ["_law_voices","_law_name"] (M6 K):=by
 have wk:=Gu (P:=P) (w:=w) (base:=base) T
 have wu:=Gv (P:=P) (w:=w) (base:=base) T
 refine T.nF.ok j8 (fun vs H Q E h=>?_) (fun cdv A outer s H vs Q E hr h=>?_)
 ·obtain⟨_,_,_,_,rfl,_⟩:=h
  rfl
 ·obtain⟨d,vw,n,th,rfl,hd,wv,hf,q⟩:=h
  refine bj (ak (aU (i:=2) j8.nd rfl (Or.inl rfl) (fM (jg (bB (aL cQ rfl T.bG bF (aa (qK (Ir hr) (pv 0) (pv 1) (fun _ _=>rfl)) (aa (dW (v:=.ty "list") rfl T.iI iu rfl) aj)))) az (bH bc (qK (Ir hr) (pv 0) (pv 1) (fun _ _=>rfl)) az (fun _ _=>rfl))))) (ak (aU (i:=3) j8.nd rfl (Or.inl rfl) (bZ aj)) (ak (gw PassesOwn.never rfl (aeZ rfl T.Vm (aC wk (hr.mono (by decide)) rfl T.Gh T.mO.kp T.vX .nil aF (aa (pv 0) (aa (pv 1) aj))) (aC wu (hr.mono (by decide)) rfl T.Gi T.mQ.kp T.vY .nil aF (aa (pv 0) (aa (pv 1) aj)))) (kE rfl (bD (aY (i:=4) j8.nd rfl (Or.inl rfl)) (bD (aY (i:=5) j8.nd rfl (Or.inl rfl)) gM))) (ak (qJ (bC (aJ (eF.or eE) (bH bc (pv 4) az (fun _ _=>rfl)) cF rfl) (aq (bh (jh PySem.F.plainAttrs_list PySem.F.slot_list_append PySem.F.type_list_append bK (pv 3) (aa (gA (aa (pv 2) (aa (aW (bO.or (aQ.or bQ)) (pv 2) (pv 5)) (aa (bH bc (pv 4) az (fun _ _=>rfl)) aj)))) aj)))) aM)) (aq (aU (i:=2) j8.nd rfl (Or.inl rfl) (aW (bO.or (aQ.or bQ)) (pv 2) (pv 5)))))) (aq (aG (pv 3)))))) ?_
  obtain⟨kb,kl,ll,b0,b9⟩:=R0 wv hf
  obtain⟨v,hg,hv⟩:=hd.get hf
  refine⟨fun x H'=>x=.int (Mq th)/\H'=H,?_,?_⟩
  ·tm_up
   refine⟨d,v,rfl,hg,?_⟩
   cases th with
   | pl ss =>
    obtain⟨l0,ys0,rfl,h0,_⟩:=hv
    tm_up
    refine⟨_,_,_,_,rfl,gQ.lst h0,rfl,_,rfl,wF ?_⟩
    exact⟨rfl,rfl⟩
   | cn ld lt sl tn =>
    obtain⟨p,rfl,hp⟩:=hv
    tm_up
    refine⟨_,_,_,_,rfl,gQ.tup hp,rfl,_,rfl,cZ ?_⟩
    tm_up
    refine⟨d,_,rfl,hg,?_⟩
    exact R8 (i:=1) hp rfl ⟨rfl,rfl⟩
  intro x0 H0 ⟨e1,e2⟩
  rw[e1,e2]
  clear e1 e2 x0 H0
  refine⟨big (by show 0 <= 1000;omega),fun fd hfd=>?_⟩
  have s0:=aB.upd (o:=.lst []) hfd
  have h0:=ao (H:=H) (a:=fd) (o:=.lst [])
  generalize upd H fd (.lst [])=H0 at s0 h0
  tm_up
  refine⟨d,vw,n,th,rfl,hd.same s0,wv,hf,fun l1 ys1 H1 s1 h1 g1=>?_⟩
  tm_up
  refine⟨d,vw,n,th,rfl,(hd.same s0).same s1,wv,hf,fun k1 H2 s2 hk2=>?_⟩
  have h12:=s2 _ _ h1
  have g12:=g1.same s2
  have hf2:=s2 _ _ (s1 _ _ h0)
  have sB:aB H (strip fd H2):=aaV ((s0.trans s1).trans s2) hfd
  have yl:=cj g1
  have el:ys1.length=((ju vw n).map V.int).length:=by rw[cj g1,List.length_map,kl]
  have g13:lY (strip fd H2) ys1 (pX vw n):=lY.strip hf2 g12
  have nl:0 < (pX vw n).length->l1≠fd:=fun hp e=>by
   rw[e,hf2] at h12
   cases h12
   rw[← yl] at hp
   exact absurd hp (by decide)
  have nk:0 < (pX vw n).length->k1≠fd:=fun hp e=>by
   rw[e,hf2] at hk2
   have:(ju vw n).map V.int=[]:=by injection (Option.some.inj hk2) with e;exact e.symm
   rw[← kl,← List.length_map (f:=V.int),this] at hp
   exact absurd hp (by decide)
  generalize hss:pX vw n=ss at g13 ll kl q nl nk yl
  generalize hws:ju vw n=ws at hk2 el kb kl q
  generalize hHs:strip fd H2=Hs at sB g13
  clear hss
  have own:∀ {H':Hp} {o:HO},aB Hs H'->aB Hs (upd H' fd o):=fun s=>by rw[← hHs] at *;exact aex s
  refine⟨_,_,rfl,rfl,⟨_,bu.of h12⟩,⟨_,bu.of hk2⟩,Zi (K:=K) (xs:=ys1) (ys:=ws.map V.int) (fun i σ H'=>∃ (v1 v2:Option V) (zs:List V) (bt:Int) (ts:List (Int×Int×Int)),σ=[some (.ref d),some (.str n),some (.int bt),some (.ref fd),v1,v2]/\aB Hs H'/\H' l1=some (.lst ys1)/\H' k1=some (.lst (ws.map V.int))/\H' fd=some (.lst zs)/\Paired (zH H') zs ts/\ts.length <= i/\i <= ss.length/\ts++mU (ss.drop i) (ws.drop i) bt=mU ss ws (Mq th)) el ⟨none,none,[],Mq th,[],rfl,by rw[← hHs];exact aaN fd H2,h12,hk2,hf2,.nil,Nat.le_refl _,Nat.zero_le _,rfl⟩ ?_ ?_ ?_⟩
  ·rintro i σ H' ⟨v1,v2,zs,bt,ts,rfl,s3,j1,j2,_⟩
   exact⟨bu.of j1,bu.of j2⟩
  ·rintro i y1 y2 tt σ H' hx1 hy1 ⟨v1,v2,zs,bt,ts,rfl,s3,j1,j2,hf3,pt,tl,il,et⟩ hn
   obtain⟨sg,e1,p,rfl,hp⟩:=Cd g13 hx1
   obtain⟨wo,e2,rfl⟩:=IK hy1
   have il2:i < ss.length:=(List.getElem?_eq_some_iff.mp e1).1
   rw[Yi e1 e2] at et
   have st0:=aB.upd (o:=.tup [.ref p,.int wo]) hn
   have s4:=s3.trans st0
   have hp4:=s4 _ _ hp
   have hf4:=st0 _ _ hf3
   have j14:=st0 _ _ j1
   have j24:=st0 _ _ j2
   have pt4:=cu (fun _ _ q=>zH.same st0 q) pt
   refine⟨tt,_,rfl,pP.of ao,rfl,_,_,rfl,_,_,rfl,rfl,?_⟩
   clear st0
   generalize upd H' tt (.tup [.ref p,.int wo])=H4 at s4 hp4 hf4 pt4 j14 j24
   refine⟨fun σ H'=>∃ (zs:List V) (ts:List (Int×Int×Int)),σ=[some (.ref d),some (.str n),some (.int bt),some (.ref fd),some (.ref p),some (.int wo)]/\aB Hs H'/\H' l1=some (.lst ys1)/\H' k1=some (.lst (ws.map V.int))/\H' fd=some (.lst zs)/\Paired (zH H') zs ts/\ts.length <= i+1/\ts++mU (ss.drop (i+1)) (ws.drop (i+1)) (bt+wo)=mU ss ws (Mq th),?_,?_⟩
   ·tm_up
    refine bJ (fun hsd=>?_) (fun hsd=>?_)
    ·have hsd':sg.1.lX=true:=by rw[← v7];exact hsd
     rw[if_pos hsd',← List.append_assoc] at et
     tm_up
     refine⟨.inl ⟨rfl,_,bu.of hf4⟩,?_⟩
     tm_up
     refine⟨big (by show 3 <= 1000;omega),fun pp hpp=>?_⟩
     have st:=aB.upd (o:=.tup [.int bt,.int (bt+wo),.int sg.2]) hpp
     refine⟨fd,zs,_,rfl,rfl,st _ _ hf4,bx (by have:=cj pt4;omega),?_⟩
     refine⟨_,_,rfl,own (s4.trans st),?_,?_,ao,?_,?_,et⟩
     ·rw[aA (nl (by omega))];exact st _ _ j14
     ·rw[aA (nk (by omega))];exact st _ _ j24
     ·exact cu (fun _ _ q=>zH.write (st _ _ hf4) q) (pQ (cu (fun _ _ q=>zH.same st q) pt4) ⟨pp,rfl,ao⟩)
     ·rw[List.length_append];show _+1 <= _;omega
    ·have hsd':¬ sg.1.lX=true:=by rw[← v7];exact hsd
     rw[if_neg hsd'] at et
     exact⟨zs,ts,rfl,s4,j14,j24,hf4,pt4,by omega,et⟩
   rintro _ H5 ⟨zs5,ts5,rfl,s5,j15,j25,hf5,pt5,tl5,et5⟩
   tm_up
   exact⟨_,_,zs5,bt+wo,ts5,rfl,s5,j15,j25,hf5,pt5,tl5,il2,et5⟩
  ·rintro σ H' ⟨v1,v2,zs,bt,ts,rfl,s3,_,_,hf3,pt,tl,il,et⟩
   tm_up
   rw[yl,List.drop_length] at et
   exact q fd zs H' hfd (sB.trans s3) hf3 (by rw[← et];cases ws.drop ss.length <;> (rw[show mU [] _ bt=[] from rfl,List.append_nil];exact pt))
inductive JL (K:Frag)(vs:List V)(H:Hp)(Q:VK)(E:XK):Prop
 | mk (d:Addr) (vw:Vw) (n:Str) (th:Th) (fU:vs=[.ref d,.str n]) (fV:NB H d vw) (iQ:Lz vw) (nZ:bM vw n=some th) (xM:∀ H',aB H H'->Q (.int (Mq th+Nq (ju vw n))) H'):JL K vs H Q E
theorem aaZ (T:Txt K w mg t):bU P w K mg base jt (0+4) t.iT t.Cj ["_law_voices","_law_name"] (JL K):=by
 have wu:=Gv (P:=P) (w:=w) (base:=base) T
 refine T.oU.ok Jb (fun vs H Q E h=>?_) (fun cdv A outer s H vs Q E hr h=>?_)
 ·obtain⟨_,_,_,_,rfl,_⟩:=h
  rfl
 ·obtain⟨d,vw,n,th,rfl,hd,wv,hf,q⟩:=h
  refine bj (ak (aU (i:=2) Jb.nd rfl (Or.inl rfl) (fM (jg (bB (aL cQ rfl T.bG bF (aa (qK (Ir hr) (pv 0) (pv 1) (fun _ _=>rfl)) (aa (dW (v:=.ty "list") rfl T.iI iu rfl) aj)))) az (bH bc (qK (Ir hr) (pv 0) (pv 1) (fun _ _=>rfl)) az (fun _ _=>rfl))))) (aq (aG (aW (bO.or (aQ.or bQ)) (pv 2) (aL aih rfl T.aq1 aqo (aa (aC wu (hr.mono (by decide)) rfl T.Gi T.mQ.kp T.vY .nil aF (aa (pv 0) (aa (pv 1) aj))) aj)))))) ?_
  obtain⟨kb,kl,ll,b0,b9⟩:=R0 wv hf
  obtain⟨v,hg,hv⟩:=hd.get hf
  refine⟨fun x H'=>x=.int (Mq th)/\H'=H,?_,?_⟩
  ·tm_up
   refine⟨d,v,rfl,hg,?_⟩
   cases th with
   | pl ss =>
    obtain⟨l0,ys0,rfl,h0,_⟩:=hv
    tm_up
    refine⟨_,_,_,_,rfl,gQ.lst h0,rfl,_,rfl,wF ?_⟩
    exact⟨rfl,rfl⟩
   | cn ld lt sl tn =>
    obtain⟨p,rfl,hp⟩:=hv
    tm_up
    refine⟨_,_,_,_,rfl,gQ.tup hp,rfl,_,rfl,cZ ?_⟩
    tm_up
    refine⟨d,_,rfl,hg,?_⟩
    exact R8 (i:=1) hp rfl ⟨rfl,rfl⟩
  intro x0 H0 ⟨e1,e2⟩
  rw[e1,e2]
  clear e1 e2 x0 H0
  tm_up
  refine⟨d,vw,n,th,rfl,hd,wv,hf,fun k1 H1 s1 hk1=>?_⟩
  tm_up
  refine⟨rfl,k1,ju vw n,rfl,bu.of hk1,fun x hx=>⟨(kb x hx).1,by have:=(kb x hx).2;omega⟩,by omega,?_⟩
  tm_up
  exact q H1 s1
inductive aa0 (K:Frag)(c:Cs)(vs:List V)(H:Hp)(Q:VK)(E:XK):Prop
 | mk (a x d:Addr) (ns:List Int) (F:Addr->Prop) (vw:Vw) (ps fs:List Vw) (fU:vs=[.ref a,.ref x,.ref d]) (fV:bu K H a (ns.map V.int)) (iQ:ns.length <= 63) (nZ:Nz c H x F vw ps fs) (xM:NB H d vw) (h5_:∀ H',aB H H'->Q (.bl true) H'):aa0 K c vs H Q E
theorem aa1 (T:Txt K w mg t):bU P w K mg base jt (0+9) t.uy t.Vc ["_law_script","_law_book","_law_voices"] (aa0 K (cs t)):=by
 have amW:=arf (P:=P) (w:=w) (base:=base) T
 have arn:=an2 (P:=P) (w:=w) (base:=base) T
 have aiT:=an3 (P:=P) (w:=w) (base:=base) T
 have Sq:=ada (P:=P) (w:=w) (base:=base) T
 have km:=zJ (P:=P) (w:=w) (base:=base) T
 have adb:=aaZ (P:=P) (w:=w) (base:=base) T
 refine T.kj.ok Fv (fun vs H Q E h=>?_) (fun cdv A outer s H vs Q E hr h=>?_)
 ·obtain⟨_,_,_,_,_,_,_,_,rfl,_⟩:=h
  rfl
 ·obtain⟨a,x,d,ns,F,vw,ps,fs,rfl,hS,hl,B,hd,q⟩:=h
  refine bj (ak (gw PassesOwn.never rfl (ik (cC Fd rfl T.iI iu (aa (pv 2) aj))) (aY (i:=3) Fv.nd rfl (Or.inl rfl)) (ak (aU (i:=4) Fv.nd rfl (Or.inl rfl) (aC amW (hr.mono (by decide)) rfl T.aiC T.Mj.kp T.Zt .nil aF (aa (pv 1) (aa (pv 3) aj)))) (ak (bC (cz (bB (aC aiT (hr.mono (by decide)) rfl T.aeo T.Ej.kp T.Rz .nil aF (aa (pv 4) (aa (aC Sq (hr.mono (by decide)) rfl T.MN T.nF.kp T.ye .nil aF (aa (pv 2) (aa (pv 3) aj))) aj))))) (aq (aG dB)) aM) (ak (bh (jh PySem.F.plainAttrs_list PySem.F.slot_list_append PySem.F.type_list_append bK (pv 4) (aa (gA (aa az (aa az (aa az aj)))) aj))) (ak (bC (cz (bB (aC aiT (hr.mono (by decide)) rfl T.aeo T.Ej.kp T.Rz .nil aF (aa (aC amW (hr.mono (by decide)) rfl T.aiC T.Mj.kp T.Zt .nil aF (aa (pv 1) (aa (pv 3) aj))) (aa (aC Sq (hr.mono (by decide)) rfl T.MN T.nF.kp T.ye .nil aF (aa (pv 2) (aa (pv 3) aj))) aj))))) (aq (aG dB)) aM) (ak (aU (i:=5) Fv.nd rfl (Or.inl rfl) (aC arn (hr.mono (by decide)) rfl T.anO T.Jz.kp T.aaA .nil aF (aa (pv 1) (aa (pv 3) aj)))) (aq (bC (cG (PW.pt (lR (cz (bB (aC km (hr.mono (by decide)) rfl T.uE T.kh.kp T.qD .nil aF (aa (pv 5) aj)))) (jf (aJ (Dn.or (tZ (aZ hr))) (pv 5) (aC adb (hr.mono (by decide)) rfl T.aaC T.oU.kp T.Cq .nil aF (aa (pv 2) (aa (pv 3) aj))) (aR _)))))) (aq (aG dB)) aM)))))))) (aq (aG dB))) ?_
  have wv:=B.wv vw (.inr (.inl rfl))
  have wl:=wv.len
  obtain⟨kvs,hk,ek⟩:=hd.keys
  refine⟨_,rfl,rfl,d,kvs,rfl,.inl hk,fun l7 hl7=>?_⟩
  have S7:=aB.upd (o:=.lst (kvs.map fun kv=>kV kv.1)) hl7
  have h7:=ao (H:=H) (a:=l7) (o:=.lst (kvs.map fun kv=>kV kv.1))
  rw[ek] at S7 h7 ⊢
  generalize upd H l7 (.lst (vw.map fun q=>V.str q.1))=H7 at S7 h7
  refine⟨l7,rfl,⟨_,bu.of h7⟩,vM (K:=K) (xs:=vw.map fun q=>V.str q.1) (fun i σ H'=>∃ (u v w:Option V),σ=[some (.ref a),some (.ref x),some (.ref d),u,v,w]/\aB H7 H') ⟨none,none,none,rfl,aB.refl _⟩ ?_ ?_ ?_⟩
  ·rintro i σ H' _ ⟨u,v,w,rfl,s8⟩
   exact bu.of (s8 _ _ h7)
  ·rintro i y σ H8 hy ⟨u,v,w,rfl,s8⟩
   obtain⟨qn,hq,rfl⟩:∃ qn,vw[i]? = some qn/\y=.str qn.1:=by
    rw[List.getElem?_map] at hy
    cases e:vw[i]? with
    | none=>rw[e] at hy;cases hy
    | some z=>rw[e] at hy;exact⟨z,rfl,(Option.some.inj hy).symm⟩
   obtain⟨n,th⟩:=qn
   have hf:=wv.find (List.mem_of_getElem? hq)
   have S8:=S7.trans s8
   have B8:=B.same S8
   have hd8:=hd.same S8
   obtain⟨kb,kl,ll,b0,b9⟩:=R0 wv hf
   have sll:=aku (pX vw n) (ju vw n) (Mq th)
   tm_up
   refine⟨x,F,vw,ps,fs,n,th,rfl,B8,hf,fun l9 ys9 H9 n9 s9 h9 g9=>?_⟩
   tm_up
   refine⟨d,vw,n,th,rfl,hd8.same s9,wv,hf,fun l10 az5 H10 n10 s10 h10 g10=>?_⟩
   have y9:=cj g9
   refine⟨l9,l10,ys9,az5,_,rfl,s10 _ _ h9,h10,Zw (cu (fun _ _ q=>zH.same s10 q) g9),Zw g10,fun H11 s11=>?_⟩
   refine⟨_,rfl,cZ ?_⟩
   have h11:=s11 _ _ (s10 _ _ h9)
   refine⟨_,rfl,.inl ⟨rfl,_,bu.of h11⟩,big (by show 3 <= 1000;omega),fun tp htp=>?_⟩
   have st:=aB.upd (o:=.tup [V.int 0,V.int 1,V.int 2]) htp
   refine⟨l9,_,_,rfl,rfl,st _ _ h11,bx (by omega),?_⟩
   have s12:aB H8 (upd (upd H11 tp (.tup [V.int 0,V.int 1,V.int 2])) l9 (.lst (ys9++[.ref tp]))):=gO (((s9.trans s10).trans s11).trans st) n9
   generalize upd (upd H11 tp (.tup [V.int 0,V.int 1,V.int 2])) l9 (.lst (ys9++[.ref tp]))=H12 at s12
   have S12:=S8.trans s12
   tm_up
   refine⟨x,F,vw,ps,fs,n,th,rfl,B.same S12,hf,fun l13 avU H13 n13 s13 h13 g13=>?_⟩
   tm_up
   refine⟨d,vw,n,th,rfl,(hd.same S12).same s13,wv,hf,fun l14 avV H14 n14 s14 h14 g14=>?_⟩
   refine⟨l13,l14,avU,avV,_,rfl,s14 _ _ h13,h14,Zw (cu (fun _ _ q=>zH.same s14 q) g13),Zw g14,fun H15 s15=>?_⟩
   refine⟨_,rfl,cZ ?_⟩
   have s16:=((s12.trans s13).trans s14).trans s15
   have S16:=S8.trans s16
   tm_up
   refine⟨x,F,vw,ps,fs,n,th,rfl,B.same S16,hf,fun H17 s17=>?_⟩
   refine⟨fun b H'=>b=false/\aB H17 H',?_,?_⟩
   ·tm_up
    refine⟨d,vw,n,th,rfl,(hd.same S16).same s17,wv,hf,fun H18 s18=>?_⟩
    refine .inl ⟨rfl,_,rfl,?_,s18⟩
    rw[decide_eq_true rfl]
    rfl
   rintro _ H18 ⟨rfl,s18⟩
   refine cZ ?_
   exact⟨_,_,_,rfl,s8.trans ((s16.trans s17).trans s18)⟩
  ·rintro σ H8 ⟨u,v,w,rfl,s8⟩
   exact q _ (S7.trans s8)
inductive M7 (c:Cs)(vs:List V)(H:Hp)(Q:VK)(E:XK):Prop
 | mk (x:Addr) (F:Addr->Prop) (vw:Vw) (ps fs:List Vw) (fU:vs=[.ref x]) (fV:Nz c H x F vw ps fs) (iQ:∀ (l:Addr) (H':Hp),H l=none->aB H H'->H' l=some (.lst (vw.map fun a=>V.str a.1))->Q (.ref l) H'):M7 c vs H Q E
theorem Cu (T:Txt K w mg t):bU P w K mg base jt (0+1) t.iB t.FT ["self"] (M7 (cs t)):=by
 refine T.yf.ok acZ (fun vs H Q E h=>?_) (fun cdv A outer s H vs Q E hr h=>?_)
 ·obtain⟨_,_,_,_,_,rfl,_⟩:=h
  rfl
 ·obtain⟨x,F,vw,ps,fs,rfl,B,q⟩:=h
  refine bj (aq (aG (vC (cn:=["voice"]) rfl (fW.of rfl) (ik (cY (pv 0) rfl)) (fun _=>(aY (i:=0) Yx rfl (Or.inl rfl))) (fun _=>yK) (fun _=>(cY (pv 0) rfl))))) ?_
  obtain⟨L,D,U,all,M,Ps,Fs,es,us,b,i,pp,pf,f⟩:=B.ex
  obtain⟨dx,hx⟩:=b.hx
  obtain⟨vx,g,gv⟩:=b.IW i
  have hL:=b.hL
  have xl:=cj g
  have vl:=cj gv
  have ln:=(b.wf M (.inr (.inl rfl))).len
  have hn:=avu gv fun _ _ r=>r.2.1
  refine⟨_,rfl,x,_,dx,_,_,rfl,hx,T.aX,T.dg,yO _ _ _,L,rfl,⟨_,bu.of hL⟩,fun D' b' hD'=>?_⟩
  refine mY (K:=K) (xs:=M L) (fun i ys σ H'=>∃ v,σ=[v,some (.ref x)]/\H'=upd H D' (.lst ys)/\ys=(vx.take i).map fun a=>V.str a.n) ⟨none,rfl,rfl,by simp⟩ ?_ ?_ ?_
  ·rintro i ys σ H' ⟨v,rfl,rfl,_⟩
   exact lD (bu.of hL) hD'
  ·rintro i ys y σ H' hy ⟨v,rfl,rfl,rfl⟩ N hN
   obtain⟨a,e1,rfl,ha⟩:=Cd g hy
   have hi:i < vx.length:=(List.getElem?_eq_some_iff.mp e1).1
   refine jF ?_
   refine⟨_,rfl,a.o,_,a.d,_,_,rfl,by rw[aA (aD ha hD')];exact ha,T.jZ,T.iW,ais _ _ _,ao,?_,?_⟩
   ·rw[List.length_map,List.length_take]
    exact bx (by omega)
   ·refine hN _ _ _ ⟨_,rfl,eU,?_⟩
    rw[List.take_succ,e1]
    simp
  ·rintro ys σ H' ⟨v,rfl,rfl,rfl⟩
   rw[xl,List.take_length,hn]
   exact q D' _ hD' (aB.upd hD') ao
inductive aa2 (K:Frag)(vs:List V)(H:Hp)(Q:VK)(E:XK):Prop
 | mk (l1 l2:Addr) (xs ys:List V) (ss:List Sg) (fU:vs=[.ref l1,.ref l2]) (fV:H l1=some (.lst xs)) (iQ:bu K H l2 ys) (nZ:lY H xs ss) (xM:lY H ys ss) (h5_:∀ H',aB H H'->Q (.bl true) H'):aa2 K vs H Q E
theorem akA (T:Txt K w mg t):bU P w K mg base jt (0+2) t.uz t.Vd ["_law_found","_law_due"] (aa2 K):=by
 have km:=zJ (P:=P) (w:=w) (base:=base) T
 refine T.Em.ok N5 (fun vs H Q E h=>?_) (fun cdv A outer s H vs Q E hr h=>?_)
 ·obtain⟨_,_,_,_,_,rfl,_⟩:=h
  rfl
 ·obtain⟨l1,l2,xs,ys,ss,rfl,h1,h2,g1,g2,q⟩:=h
  have el:xs.length=ys.length:=(cj g1).trans (cj g2).symm
  refine bj (ak (bC (cG (PW.pt (lR (cz (bB (aL cQ rfl T.bG bF (aa (pv 0) (aa (dW (v:=.ty "list") rfl T.iI iu rfl) aj))))) (jf (aJ (Dn.or (tZ (aZ hr))) (aL (aN.or aO) rfl T.cB cA (aa (pv 0) aj)) (aL (aN.or aO) rfl T.cB cA (aa (pv 1) aj)) (aR _)))))) (aq (aG dB)) aM) (ak (gw PassesOwn.never rfl (aeZ rfl T.Vm (pv 0) (pv 1)) (kE rfl (bD (aY (i:=2) N5.nd rfl (Or.inl rfl)) (bD (aY (i:=3) N5.nd rfl (Or.inl rfl)) gM))) (ak (bC (cG (PW.pt (lR (cz (bB (aL cQ rfl T.bG bF (aa (pv 2) (aa (dW (v:=.ty "tuple") rfl T.RG Q8 rfl) aj))))) (jf (aJ (Dn.or (tZ (aZ hr))) (aL (aN.or aO) rfl T.cB cA (aa (pv 2) aj)) az (aR _)))))) (aq (aG dB)) aM) (aq (bC (cG (PW.pt (lR (cz (bB (aL cQ rfl T.bG bF (aa (bH bc (pv 2) az (fun _ _=>rfl)) (aa (dW (v:=.ty "str") rfl T.afq aeY rfl) aj))))) (lR (cz (bB (aC km (hr.mono (by decide)) rfl T.uE T.kh.kp T.qD .nil aF (aa (bH bc (pv 2) az (fun _ _=>rfl)) aj)))) (jf (aJ (Dn.or (tZ (aZ hr))) (pv 2) (pv 3) (aR _))))))) (aq (aG dB)) aM)))) (aq (aG dB)))) ?_
  refine oH false ?_ ?_
  ·tm_up
   refine⟨_,_,_,_,rfl,gQ.lst h1,rfl,_,rfl,cZ ?_⟩
   tm_up
   refine .inl ⟨_,_,rfl,.inl (bu.of h1),?_⟩
   tm_up
   refine .inl ⟨_,_,rfl,.inl h2,?_⟩
   tm_up
   exact eY (by rw[el];simp)
  refine cZ ?_
  tm_up
  refine⟨⟨_,bu.of h1⟩,⟨_,h2⟩,Zi (K:=K) (xs:=xs) (ys:=ys) (fun i σ H'=>∃ v1 v2,σ=[some (.ref l1),some (.ref l2),v1,v2]/\aB H H') el ⟨none,none,rfl,aB.refl _⟩ ?_ ?_ ?_⟩
  ·rintro i σ H' ⟨v1,v2,rfl,s2⟩
   exact⟨s2.seq (bu.of h1),s2.seq h2⟩
  ·rintro i x y tt σ H' hx hy ⟨v1,v2,rfl,s2⟩ hn
   obtain⟨sg,e1,p,rfl,hp⟩:=Cd g1 hx
   obtain⟨sg',e2,p2,rfl,hp2⟩:=Cd g2 hy
   have es:sg'=sg:=Option.some.inj (e2.symm.trans e1)
   subst es
   have s3:aB H (upd H' tt (.tup [.ref p,.ref p2])):=s2.trans (aB.upd hn)
   have hp':=s3 _ _ hp
   have hp2':=s3 _ _ hp2
   refine⟨tt,_,rfl,pP.of ao,rfl,_,_,rfl,_,_,rfl,rfl,?_⟩
   generalize upd H' tt (.tup [.ref p,.ref p2])=H3 at s3 hp' hp2'
   refine oH false ?_ ?_
   ·tm_up
    refine⟨_,_,_,_,rfl,gQ.tup hp',rfl,_,rfl,cZ ?_⟩
    tm_up
    refine .inl ⟨_,_,rfl,.inr (pP.of hp'),?_⟩
    tm_up
    exact eY rfl
   refine cZ ?_
   refine oH false ?_ ?_
   ·tm_up
    refine⟨_,_,_,_,rfl,gQ.str _,rfl,_,rfl,cZ ?_⟩
    tm_up
    refine⟨axl 59 hp' hp2',?_⟩
    tm_up
    exact eY rfl
   refine cZ ?_
   exact⟨_,_,rfl,s3⟩
  ·rintro σ H' ⟨v1,v2,rfl,s2⟩
   exact q _ s2
inductive aeC (K:Frag)(vs:List V)(H:Hp)(Q:VK)(E:XK):Prop
 | mk (f d:Addr) (fs ds:List Int) (fU:vs=[.ref f,.ref d]) (fV:H f=some (.lst (fs.map V.int))) (iQ:bu K H d (ds.map V.int)) (nZ:ds.length <= 1000) (xM:Q (.bl (decide (fs=ds))) H):aeC K vs H Q E
theorem an9 (T:Txt K w mg t):bU P w K mg base jt (0+2) t.zp t.aat ["_law_found","_law_due"] (aeC K):=by
 have km:=zJ (P:=P) (w:=w) (base:=base) T
 refine T.JC.ok aek (fun vs H Q E h=>?_) (fun cdv A outer s H vs Q E hr h=>?_)
 ·obtain⟨_,_,_,_,rfl,_⟩:=h
  rfl
 ·obtain⟨f,d,fs,ds,rfl,hf,hd,hn,q⟩:=h
  refine bj (ak (bC (cG (PW.pt (lR (cz (bB (aL cQ rfl T.bG bF (aa (pv 0) (aa (dW (v:=.ty "list") rfl T.iI iu rfl) aj))))) (jf (aJ (Dn.or (tZ (aZ hr))) (aL (aN.or aO) rfl T.cB cA (aa (pv 0) aj)) (aL (aN.or aO) rfl T.cB cA (aa (pv 1) aj)) (aR _)))))) (aq (aG dB)) aM) (ak (gw PassesOwn.never rfl (tY rfl T.rK (aa (aL (aN.or aO) rfl T.cB cA (aa (pv 1) aj)) aj)) (aY (i:=2) aek.nd rfl (Or.inl rfl)) (aq (bC (cG (PW.pt (lR (cz (bB (aC km (hr.mono (by decide)) rfl T.uE T.kh.kp T.qD .nil aF (aa (bH bc (pv 0) (pv 2) (fun _ _=>rfl)) aj)))) (jf (aJ (Dn.or (tZ (aZ hr))) (bH bc (pv 0) (pv 2) (fun _ _=>rfl)) (bH bc (pv 1) (pv 2) (fun _ _=>rfl)) (aR _)))))) (aq (aG dB)) aM))) (aq (aG dB)))) ?_
  refine oH (decide (fs.length≠ds.length)) ?_ ?_
  ·tm_up
   refine⟨_,_,_,_,rfl,gQ.lst hf,rfl,_,rfl,?_⟩
   refine cZ ?_
   tm_up
   refine .inl ⟨_,_,rfl,.inl (bu.of hf),?_⟩
   tm_up
   refine .inl ⟨_,_,rfl,.inl hd,?_⟩
   tm_up
   rw[List.length_map,List.length_map]
   refine eY ?_
   rw[ji]
   by_cases e:fs.length=ds.length
   ·simp[e]
   ·have:¬ ((fs.length:Int)=(ds.length:Int)):=by omega
    simp[e,this]
  ·refine bJ (fun h=>?_) (fun h=>?_)
   ·have e:fs≠ds:=fun z=>by
     have:=of_decide_eq_true h
     rw[z] at this
     exact this rfl
    rw[decide_eq_false e] at q
    exact q
   ·have el:fs.length=ds.length:=by
     by_cases e:fs.length=ds.length
     ·exact e
     ·exact absurd (decide_eq_true e) h
    tm_up
    refine .inl ⟨_,_,rfl,.inl hd,?_⟩
    rw[List.length_map]
    have p62:(2:Int) ^ 62=4611686018427387904:=by decide
    refine⟨(ds.length:Int),rfl,by rw[p62];omega,by rw[p62];omega,?_⟩
    refine yp (n:=((ds.length:Int)).toNat) (fun i σ H'=>∃ v,σ=[some (.ref f),some (.ref d),v]/\H'=H/\fs.take i=ds.take i) ⟨none,rfl,rfl,rfl⟩ ?_ ?_
    ·rintro i σ H' hi ⟨v,rfl,rfl,ht⟩
     have hid:i < ds.length:=by omega
     have hif:i < fs.length:=by omega
     refine oH (decide (fs[i]≠ds[i])) ?_ ?_
     ·tm_up
      refine aqN (bu.of hf) (n:=i) (by omega) (List.getElem?_eq_getElem hif) ?_
      tm_up
      refine aqN (bu.of hf) (n:=i) (by omega) (List.getElem?_eq_getElem hif) ?_
      tm_up
      refine aqN hd (n:=i) (by omega) (List.getElem?_eq_getElem hid) ?_
      tm_up
      refine eY ?_
      rw[ji]
      simp
     ·refine bJ (fun h=>?_) (fun h=>?_)
      ·have e:fs≠ds:=fun z=>by
        subst z
        exact (of_decide_eq_true h) rfl
       rw[decide_eq_false e] at q
       exact q
      ·have e:fs[i]=ds[i]:=by
        by_cases z:fs[i]=ds[i]
        ·exact z
        ·exact absurd (decide_eq_true z) h
       refine⟨_,rfl,rfl,?_⟩
       rw[List.take_succ_eq_append_getElem hif,List.take_succ_eq_append_getElem hid,ht,e]
    ·rintro σ H' ⟨v,rfl,rfl,ht⟩
     have e:fs=ds:=by
      have h1:((ds.length:Int)).toNat=ds.length:=by omega
      rw[h1,List.take_length,← el,List.take_length] at ht
      exact ht
     rw[decide_eq_true e] at q
     exact q
theorem amX {K:Frag}{H:Hp}{a b:Addr}{ys:List V}(ha:bu K H a ys)(hb:bu K H b ys)(hf:∀ v∈ys,∃ x,v=.str x):Deq K H 60 (.ref a) (.ref b):=by
 refine .lst ha hb rfl fun i x y e1 e2=>?_
 have e:x=y:=Option.some.inj (e1.symm.trans e2)
 subst e
 obtain⟨z,rfl⟩:=hf x (List.mem_of_getElem? e1)
 exact .flat rfl
theorem axX {K:Frag}{H:Hp}{p p2:Addr}{ld:Str}{lt sl:Int}{tn:Bool}(n:Nat)(h1:H p=some (.tup [.str ld,.int lt,.int sl,.bl tn]))(h2:H p2=some (.tup [.str ld,.int lt,.int sl,.bl tn])):Deq K H (n+1) (.ref p) (.ref p2):=by
 refine .tup (pP.of h1) (pP.of h2) rfl fun i x y e1 e2=>?_
 have e:x=y:=Option.some.inj (e1.symm.trans e2)
 subst e
 match i,e1 with
 | 0,e1=>cases e1;exact .flat rfl
 | 1,e1=>cases e1;exact .flat rfl
 | 2,e1=>cases e1;exact .flat rfl
 | 3,e1=>cases e1;exact .flat rfl
 | n+4,e1=>simp at e1
theorem aro {vw:Vw}(w:Lz vw)(n:Str):(ju vw n).length <= 400:=by
 cases hf:bM vw n with
 | none=>unfold ju;rw[hf];exact Nat.zero_le _
 | some th =>
  cases th with
  | pl ss =>
   rw[Rh hf,yr,List.length_map]
   have:=(w.gd _ _ (di hf)).1
   omega
  | cn ld lt sl tn =>
   obtain⟨⟨ss,hld⟩,_⟩:=w.ld n ld lt sl tn (di hf)
   rw[Ri hf (w.find hld),List.length_map,yr,List.length_map]
   have:=(w.gd _ _ hld).1
   split
   ·rw[List.length_map];omega
   ·omega
theorem arp {vw:Vw}(w:Lz vw)(n:Str):(pX vw n).length <= 200:=by
 cases hf:bM vw n with
 | none=>unfold pX;rw[hf];exact Nat.zero_le _
 | some th =>
  cases th with
  | pl ss =>
   rw[Dy hf]
   exact (w.gd _ _ (di hf)).1
  | cn ld lt sl tn =>
   obtain⟨⟨ss,hld⟩,_⟩:=w.ld n ld lt sl tn (di hf)
   rw[Dz hf (w.find hld)]
   have:=(w.gd _ _ hld).1
   split
   ·rw[List.length_map];exact this
   ·exact this
inductive Yl (K:Frag)(c:Cs)(vs:List V)(H:Hp)(Q:VK)(E:XK):Prop
 | mk (x d:Addr) (F:Addr->Prop) (vw:Vw) (ps fs:List Vw) (fU:vs=[.ref x,.ref d]) (fV:Nz c H x F vw ps fs) (iQ:NB H d vw) (nZ:∀ H',aB H H'->Q (.bl true) H'):Yl K c vs H Q E
theorem Ym (T:Txt K w mg t):bU P w K mg base jt (0+8) t.pH t.Od ["_law_book","_law_voices"] (Yl K (cs t)):=by
 have nR:=Cu (P:=P) (w:=w) (base:=base) T
 have fZ:=oW (P:=P) (w:=w) (base:=base) T
 have aoa:=akA (P:=P) (w:=w) (base:=base) T
 have arq:=an9 (P:=P) (w:=w) (base:=base) T
 have qG:=Gs (P:=P) (w:=w) (base:=base) T
 have mV:=Gn (P:=P) (w:=w) (base:=base) T
 have wk:=Gu (P:=P) (w:=w) (base:=base) T
 have wu:=Gv (P:=P) (w:=w) (base:=base) T
 have km:=zJ (P:=P) (w:=w) (base:=base) T
 refine T.mR.ok Aq (fun vs H Q E h=>?_) (fun cdv A outer s H vs Q E hr h=>?_)
 ·obtain⟨_,_,_,_,_,_,rfl,_⟩:=h
  rfl
 ·obtain⟨x,d,F,vw,ps,fs,rfl,B,hd,q⟩:=h
  refine bj (ak (aU (i:=2) Aq.nd rfl (Or.inl rfl) (ir (pv 0) T.aX T.vH nR (hr.mono (by decide)) T.nG .nil aF)) (ak (bC (cG (PW.pt (lR (cz (bB (aL cQ rfl T.bG bF (aa (pv 2) (aa (dW (v:=.ty "list") rfl T.iI iu rfl) aj))))) (jf (aJ (Dn.or (tZ (aZ hr))) (pv 2) (cC Fd rfl T.iI iu (aa (pv 1) aj)) (aR _)))))) (aq (aG dB)) aM) (ak (bh (aeV PySem.F.plainAttrs_list PySem.F.slot_list_reverse PySem.F.type_list_reverse ajZ (pv 2))) (ak (bh (jh PySem.F.plainAttrs_list PySem.F.slot_list_append PySem.F.type_list_append bK (pv 2) (aa cF aj))) (ak (bC (aJ (Dn.or (tZ (aZ hr))) (ir (pv 0) T.aX T.vH nR (hr.mono (by decide)) T.nG .nil aF) (cC Fd rfl T.iI iu (aa (pv 1) aj)) (aR _)) (aq (aG dB)) aM) (ak (gw PassesOwn.never rfl (ik (cC Fd rfl T.iI iu (aa (pv 1) aj))) (aY (i:=3) Aq.nd rfl (Or.inl rfl)) (ak (bh (jh PySem.F.plainAttrs_list PySem.F.slot_list_append PySem.F.type_list_append bK (bL (pv 0) T.aX T.yd qG (hr.mono (by decide)) T.qC .nil aF (aa (pv 3) aj)) (aa az aj))) (ak (bh (jh PySem.F.plainAttrs_list PySem.F.slot_list_append PySem.F.type_list_append bK (bL (pv 0) T.aX T.nu mV (hr.mono (by decide)) T.jC .nil aF (aa (pv 3) aj)) (aa (gA (aa cF (aa az aj))) aj))) (ak (bC (cz (bB (aC aoa (hr.mono (by decide)) rfl T.ako T.Em.kp T.Vk .nil aF (aa (bL (pv 0) T.aX T.nu mV (hr.mono (by decide)) T.jC .nil aF (aa (pv 3) aj)) (aa (aC wk (hr.mono (by decide)) rfl T.Gh T.mO.kp T.vX .nil aF (aa (pv 1) (aa (pv 3) aj))) aj))))) (aq (aG dB)) aM) (ak (bC (cz (bB (aC arq (hr.mono (by decide)) rfl T.anQ T.JC.kp T.aaD .nil aF (aa (bL (pv 0) T.aX T.yd qG (hr.mono (by decide)) T.qC .nil aF (aa (pv 3) aj)) (aa (aC wu (hr.mono (by decide)) rfl T.Gi T.mQ.kp T.vY .nil aF (aa (pv 1) (aa (pv 3) aj))) aj))))) (aq (aG dB)) aM) (ak (aU (i:=4) Aq.nd rfl (Or.inl rfl) (bL (pv 0) T.aX T.oO fZ (hr.mono (by decide)) T.jU .nil aF (aa (pv 3) aj))) (aq (bC (bB (aL cQ rfl T.bG bF (aa (qK (Ir hr) (pv 1) (pv 3) (fun _ _=>rfl)) (aa (dW (v:=.ty "list") rfl T.iI iu rfl) aj)))) (aq (bC (aJ amk (pv 4) Ni (aR _)) (aq (aG dB)) aM)) (aq (bC (cG (PW.pt (lR (cz (bB (aL cQ rfl T.bG bF (aa (pv 4) (aa (dW (v:=.ty "tuple") rfl T.RG Q8 rfl) aj))))) (lR (aJ (Dn.or (tZ (aZ hr))) (aL (aN.or aO) rfl T.cB cA (aa (pv 4) aj)) az (aR _)) (jf (aJ (Dn.or (tZ (aZ hr))) (pv 4) (qK (Ir hr) (pv 1) (pv 3) (fun _ _=>rfl)) (aR _))))))) (aq (aG dB)) (aq (bC (cG (PW.pt (lR (cz (bB (aC km (hr.mono (by decide)) rfl T.uE T.kh.kp T.qD .nil aF (aa (bH bc (pv 4) az (fun _ _=>rfl)) aj)))) (lR (cz (bB (aC km (hr.mono (by decide)) rfl T.uE T.kh.kp T.qD .nil aF (aa (bH bc (pv 4) az (fun _ _=>rfl)) aj)))) (jf (cz (bB (aL cQ rfl T.bG bF (aa (bH bc (pv 4) az (fun _ _=>rfl)) (aa (dW (v:=.ty "bool") rfl T.amO amw rfl) aj)))))))))) (aq (aG dB)) aM)))))))))))) (aq (aG dB)))))))) ?_
  have wv:=B.wv vw (.inr (.inl rfl))
  have hx:∃ dx L D U,H x=some (.ins t.bI dx (Ra L D U)):=by
   obtain⟨L,D,U,all,M,Ps,Fs,es,us,b,_⟩:=B.ex
   obtain⟨dx,e⟩:=b.hx
   exact⟨dx,L,D,U,e⟩
  obtain⟨dx,L,D,U,hx⟩:=hx
  have wl:=wv.len
  have hstr:∀ v∈vw.map (fun q=>V.str q.1),∃ z,v=.str z:=fun v hv=>by
   obtain⟨q,_,e⟩:=List.mem_map.mp hv
   exact⟨_,e.symm⟩
  refine⟨_,rfl,x,dx,_,rfl,hx,xW _ _ _,x,F,vw,ps,fs,rfl,B,fun l1 H1 nl1 s1 h1=>?_⟩
  obtain⟨kvs,hk,ek⟩:=hd.keys
  refine⟨fun b H'=>b=false/\aB H1 H',?_,?_⟩
  ·tm_up
   refine⟨_,_,_,_,rfl,gQ.lst h1,rfl,_,rfl,cZ ?_⟩
   refine⟨_,rfl,_,rfl,rfl,d,kvs,rfl,.inl (s1 _ _ hk),fun l2 hl2=>?_⟩
   have s2:=aB.upd (o:=.lst (kvs.map fun kv=>kV kv.1)) hl2
   have h2:=ao (H:=H1) (a:=l2) (o:=.lst (kvs.map fun kv=>kV kv.1))
   rw[ek] at s2 h2 ⊢
   refine .inr ⟨l1,l2,rfl,rfl,amX (bu.of (s2 _ _ h1)) (bu.of h2) hstr,?_⟩
   exact⟨_,rfl,rfl,s2⟩
  rintro b H2 ⟨rfl,s2⟩
  refine cZ ?_
  have h12:=s2 _ _ h1
  refine⟨_,rfl,.inl ⟨rfl,_,bu.of h12⟩,l1,_,rfl,rfl,h12,?_⟩
  have s3:aB H (upd H2 l1 (.lst (vw.map fun a=>V.str a.1).reverse)):=gO (s1.trans s2) nl1
  have h3:=ao (H:=H2) (a:=l1) (o:=.lst (vw.map fun a=>V.str a.1).reverse)
  generalize upd H2 l1 (.lst (vw.map fun a=>V.str a.1).reverse)=H3 at s3 h3
  refine⟨_,rfl,.inl ⟨rfl,_,bu.of h3⟩,l1,_,_,rfl,rfl,h3,bx (by rw[List.length_reverse,List.length_map];omega),?_⟩
  have s4:aB H (upd H3 l1 (.lst ((vw.map fun a=>V.str a.1).reverse++[V.str "x"]))):=gO s3 nl1
  generalize upd H3 l1 (.lst ((vw.map fun a=>V.str a.1).reverse++[V.str "x"]))=H4 at s4
  refine⟨_,rfl,x,dx,_,rfl,s4 _ _ hx,xW _ _ _,x,F,vw,ps,fs,rfl,B.same s4,fun l5 H5 nl5 s5 h5=>?_⟩
  refine⟨_,rfl,rfl,d,kvs,rfl,.inl (s5 _ _ (s4 _ _ hk)),fun l6 hl6=>?_⟩
  have s6:=aB.upd (o:=.lst (kvs.map fun kv=>kV kv.1)) hl6
  have h6:=ao (H:=H5) (a:=l6) (o:=.lst (kvs.map fun kv=>kV kv.1))
  rw[ek] at s6 h6 ⊢
  refine .inr ⟨l5,l6,rfl,rfl,amX (bu.of (s6 _ _ h5)) (bu.of h6) hstr,?_⟩
  refine⟨_,rfl,cZ ?_⟩
  have S6:=(s4.trans s5).trans s6
  generalize upd H5 l6 (.lst (vw.map fun q=>V.str q.1))=H6 at S6
  refine⟨_,rfl,rfl,d,kvs,rfl,.inl (S6 _ _ hk),fun l7 hl7=>?_⟩
  have s7:=aB.upd (o:=.lst (kvs.map fun kv=>kV kv.1)) hl7
  have h7:=ao (H:=H6) (a:=l7) (o:=.lst (kvs.map fun kv=>kV kv.1))
  rw[ek] at s7 h7 ⊢
  have S7:=S6.trans s7
  generalize upd H6 l7 (.lst (vw.map fun q=>V.str q.1))=H7 at S7 h7
  refine⟨l7,rfl,⟨_,bu.of h7⟩,vM (K:=K) (xs:=vw.map fun q=>V.str q.1) (fun i σ H'=>∃ (u v:Option V),σ=[some (.ref x),some (.ref d),some (.ref l1),u,v]/\aB H7 H') ⟨none,none,rfl,aB.refl _⟩ ?_ ?_ ?_⟩
  ·rintro i σ H' _ ⟨u,v,rfl,s8⟩
   exact bu.of (s8 _ _ h7)
  ·rintro i y σ H8 hy ⟨u,v,rfl,s8⟩
   obtain⟨qn,hq,rfl⟩:∃ qn,vw[i]? = some qn/\y=.str qn.1:=by
    rw[List.getElem?_map] at hy
    cases e:vw[i]? with
    | none=>rw[e] at hy;cases hy
    | some z=>rw[e] at hy;exact⟨z,rfl,(Option.some.inj hy).symm⟩
   obtain⟨n,th⟩:=qn
   have hf:=wv.find (List.mem_of_getElem? hq)
   have kl:=aro wv n
   have ll:=arp wv n
   have S8:=S7.trans s8
   have B8:=B.same S8
   have hd8:=hd.same S8
   refine⟨_,rfl,x,dx,_,rfl,S8 _ _ hx,Al _ _ _,_,rfl,x,F,vw,ps,fs,n,rfl,B8,?_⟩
   rw[hf]
   intro k1 H9 nk1 s9 hk1
   refine⟨.inl ⟨rfl,_,bu.of hk1⟩,k1,_,_,rfl,rfl,hk1,bx (by rw[List.length_map];omega),?_⟩
   have s10:aB H8 (upd H9 k1 (.lst ((ju vw n).map V.int++[V.int 7]))):=gO s9 nk1
   generalize upd H9 k1 (.lst ((ju vw n).map V.int++[V.int 7]))=H10 at s10
   have B10:=B8.same s10
   refine⟨_,rfl,x,dx,_,rfl,s10 _ _ (S8 _ _ hx),pR _ _ _,_,rfl,x,F,vw,ps,fs,n,rfl,B10,?_⟩
   rw[hf]
   intro l11 axY H11 aAc s11 h11 g11
   have y11:=cj g11
   refine⟨.inl ⟨rfl,_,bu.of h11⟩,(by show 2 <= sizeLine;decide),fun tp htp=>?_⟩
   have st:=aB.upd (o:=.tup [V.str "R",V.int 0]) htp
   refine⟨l11,_,_,rfl,rfl,st _ _ h11,bx (by omega),?_⟩
   have s12:aB H10 (upd (upd H11 tp (.tup [V.str "R",V.int 0])) l11 (.lst (axY++[.ref tp]))):=gO (s11.trans st) aAc
   generalize upd (upd H11 tp (.tup [V.str "R",V.int 0])) l11 (.lst (axY++[.ref tp]))=H12 at s12
   have S12:=s10.trans s12
   have B12:=B8.same S12
   have aAd:=hd8.same S12
   refine⟨_,rfl,x,dx,_,rfl,S12 _ _ (S8 _ _ hx),pR _ _ _,_,rfl,x,F,vw,ps,fs,n,rfl,B12,?_⟩
   rw[hf]
   intro l13 avU H13 aCX s13 h13 g13
   refine⟨_,rfl,_,rfl,d,vw,n,th,rfl,aAd.same s13,wv,hf,fun l14 avV H14 s14 h14 g14=>?_⟩
   refine⟨l13,l14,avU,avV,pX vw n,rfl,s14 _ _ h13,bu.of h14,g13.same s14,g14,fun H15 s15=>?_⟩
   refine⟨_,rfl,cZ ?_⟩
   have S15:=((S12.trans s13).trans s14).trans s15
   have B15:=B8.same S15
   refine⟨_,rfl,x,dx,_,rfl,S15 _ _ (S8 _ _ hx),Al _ _ _,_,rfl,x,F,vw,ps,fs,n,rfl,B15,?_⟩
   rw[hf]
   intro k16 H16 aCZ s16 h16
   refine⟨_,rfl,_,rfl,d,vw,n,th,rfl,(hd8.same S15).same s16,wv,hf,fun l17 H17 s17 h17=>?_⟩
   refine⟨k16,l17,ju vw n,ju vw n,rfl,s17 _ _ h16,bu.of h17,by omega,?_⟩
   rw[decide_eq_true rfl]
   refine⟨_,rfl,cZ ?_⟩
   have S17:=(S15.trans s16).trans s17
   have B17:=B8.same S17
   have aAe:=hd8.same S17
   have fin:∀ {u v:Option V},∃ (u' v':Option V),[some (V.ref x),some (V.ref d),some (V.ref l1),u,v]=[some (V.ref x),some (V.ref d),some (V.ref l1),u',v']/\aB H7 H17:=⟨_,_,rfl,s8.trans S17⟩
   obtain⟨v18,avW,axZ⟩:=aAe.get hf
   refine⟨_,rfl,x,dx,_,rfl,S17 _ _ (S8 _ _ hx),qM _ _ _,_,rfl,x,F,vw,ps,fs,n,rfl,B17,?_⟩
   rw[hf]
   cases th with
   | pl ss =>
    obtain⟨l0,ys0,rfl,h0,_⟩:=axZ
    refine⟨_,rfl,_,rfl,d,_,rfl,avW,?_⟩
    refine⟨_,_,_,_,rfl,gQ.lst h0,rfl,_,rfl,wF ?_⟩
    refine⟨_,rfl,rfl,_,rfl,?_⟩
    exact bJ (fun h=>absurd h (by decide)) (fun _=>fin)
   | cn ld lt sl tn =>
    intro p hp
    obtain⟨p2,rfl,hp2⟩:=axZ
    refine⟨_,rfl,_,rfl,d,_,rfl,avW,?_⟩
    refine⟨_,_,_,_,rfl,gQ.tup hp2,rfl,_,rfl,cZ ?_⟩
    refine⟨fun b H'=>b=false/\H'=H17,?_,?_⟩
    ·tm_up
     refine⟨_,_,_,_,rfl,gQ.tup hp,rfl,_,rfl,cZ ?_⟩
     refine⟨_,rfl,.inl ⟨p,_,rfl,.inr (pP.of hp),?_⟩⟩
     refine .inl ⟨rfl,_,rfl,cZ ?_⟩
     refine⟨_,rfl,_,rfl,_,rfl,d,_,rfl,avW,.inr ⟨p,p2,rfl,rfl,axX 59 hp hp2,?_⟩⟩
     exact⟨_,rfl,rfl,rfl⟩
    intro b H18 ⟨e1,e2⟩
    rw[e1,e2]
    refine cZ ?_
    refine⟨fun b H'=>b=false/\H'=H17,?_,?_⟩
    ·refine⟨_,rfl,R8 (i:=1) hp rfl ⟨lt,rfl,_,rfl,cZ ?_⟩⟩
     refine⟨_,rfl,R8 (i:=2) hp rfl ⟨sl,rfl,_,rfl,cZ ?_⟩⟩
     refine⟨_,rfl,R8 (i:=3) hp rfl ?_⟩
     exact⟨_,_,_,_,rfl,gQ.bl _,rfl,_,rfl,rfl,rfl⟩
    intro b H18 ⟨e1,e2⟩
    rw[e1,e2]
    refine cZ ?_
    exact fin
  ·rintro σ H' ⟨u,v,rfl,s8⟩
   exact q _ (S7.trans s8)
theorem Bw.fresh {c:Cs}{H0 H H':Hp}{x:Addr}{vw:Vw}{ps fs:List Vw}(h:Bw c H0 H x [] vw ps fs)(s:aB H H'):∃ H1,Bw c H1 H' x [] vw ps fs/\aB H0 H1/\(∀ y o,H' y=some o->H y=none->H1 y=some o)/\(∀ y o,H' y=some o->(∀ xs,o≠.lst xs)->H1 y=some o):=by
 obtain⟨F,b,hF,h0,ho⟩:=h.ex
 classical
 refine⟨fun y=>if F y then none else H' y,⟨⟨F,b.same s,fun y z=>let ⟨xs,e⟩:=hF y z;⟨xs,s _ _ e⟩,fun y hy=>if_pos hy,fun a ha=>nomatch ha⟩,fun y o e=>?_⟩,fun y o e=>?_,fun y o e n=>?_,fun y o e k=>?_⟩
 ·have e:(if F y then none else H' y)=some o:=e
  by_cases hy:F y
  ·rw[if_pos hy] at e;exact nomatch e
  ·rwa [if_neg hy] at e
 ·show (if F y then none else H' y)=some o
  rw[if_neg (fun hy=>by rw[h0 y hy] at e;exact nomatch e)]
  exact s _ _ (h.sm _ _ e)
 ·show (if F y then none else H' y)=some o
  rw[if_neg ?_,e]
  intro hy
  obtain⟨xs,q⟩:=hF y hy
  rw[n] at q
  exact nomatch q
 ·show (if F y then none else H' y)=some o
  rw[if_neg ?_,e]
  intro hy
  obtain⟨xs,q⟩:=hF y hy
  rw[s _ _ q] at e
  exact k xs (Option.some.inj e).symm
def TvB (B H:Hp)(y:V)(q:Str×Th):Prop:=∃ p v,y=.ref p/\H p=some (.tup [.str q.1,v])/\ThV B v q.2
theorem TvB.same {B H H':Hp}(s:aB H H'){y:V}{q:Str×Th}(h:TvB B H y q):TvB B H' y q:=by
 obtain⟨p,v,e1,e2,e3⟩:=h
 exact⟨p,v,e1,s _ _ e2,e3⟩
theorem TvB.write {B H:Hp}{l:Addr}{xs:List V}{o:HO}(hl:H l=some (.lst xs)){y:V}{q:Str×Th}(h:TvB B H y q):TvB B (upd H l o) y q:=by
 obtain⟨p,v,e1,e2,e3⟩:=h
 exact⟨p,v,e1,by rw[aA (fun e=>by rw[e,hl] at e2;exact nomatch e2)];exact e2,e3⟩
theorem aeD {B H:Hp}:∀ {ys:List V} {vw:Vw},Paired (TvB B H) ys vw->∃ kvs:List (Key×V),Paired (fun y kv=>∃ q,y=.ref q/\H q=some (.tup [kV kv.1,kv.2])) ys kvs/\Paired (aiw B) kvs vw
 | _,_,.nil=>⟨[],.nil,.nil⟩
 | _,_,.cons ⟨p,v,e1,e2,e3⟩ t=>by
  obtain⟨kvs,h1,h2⟩:=aeD t
  exact⟨(Sum.inr _,v) :: kvs,.cons ⟨p,e1,e2⟩ h1,.cons ⟨rfl,e3⟩ h2⟩
inductive zK (K:Frag)(c:Cs)(vs:List V)(H:Hp)(Q:VK)(E:XK):Prop
 | mk (a x tl:Addr) (ns:List Int) (H0:Hp) (vw:Vw) (ps fs:List Vw) (fU:vs=[.ref a,.ref x,.ref tl]) (fV:bu K H0 a (ns.map V.int)) (iQ:ns.length <= 63) (nZ:Bw c H0 H x [] vw ps fs) (xM:t7 H0 tl vw) (h5_:aeh vw) (h6_:ps.length <= 800) (h7_:∀ (H':Hp) (fs':List Vw),Bw c H0 H' x [] vw ps fs'->fs'.length <= fs.length+1->Q (.bl true) H'):zK K c vs H Q E
theorem Ow (T:Txt K w mg t):bU P w K mg base jt (0+10) t.dH t.qZ ["_law_script","_law_book","_law_told"] (zK K (cs t)):=by
 have afD:=ac6 (P:=P) (w:=w) (base:=base) T
 have Bj:=yj (P:=P) (w:=w) (base:=base) T
 have mW:=Gm (P:=P) (w:=w) (base:=base) T
 have JM:=RT (P:=P) (w:=w) (base:=base) T
 have uK:=aa1 (P:=P) (w:=w) (base:=base) T
 have bT:=yh (P:=P) (w:=w) (base:=base) T
 have zL:=Ym (P:=P) (w:=w) (base:=base) T
 refine T.iH.ok jN (fun vs H Q E h=>?_) (fun cdv A outer s H vs Q E hr h=>?_)
 ·obtain⟨_,_,_,_,_,_,_,_,rfl,_⟩:=h
  rfl
 ·obtain⟨a,x,tl,ns,H0,vw,ps,fs,rfl,hS,hl,B,⟨ys,ht,pvt⟩,ek,pl,q⟩:=h
  refine bj (ak (asL 4 ["_law_script","_law_book","_law_told","_law_plain","","_law_line_here","_law_voices"] (ZV (i:=3) Ig rfl rfl (cn:=["_law_name","_law_thing"]) rfl (fW.of rfl) (ik (pv 2)) (fun _=>(kE rfl (bD (aY (i:=0) tV rfl (Or.inl rfl)) (bD (aY (i:=1) tV rfl (Or.inl rfl)) gM)))) (fun _=>(au1 (bB (aL cQ rfl T.bG bF (aa (pv 1) (aa (dW (v:=.ty "list") rfl T.iI iu rfl) aj)))))) (fun _=>(pv 0)))) (ak (bC (aJ (Uw (aZ hr)) (pv 3) (bZ aj) (aR _)) (aq (aG dB)) aM) (ak (aU (i:=4) jN.nd rfl (Or.inr rfl) (bH bc (pv 3) (aW d7 (aC bT (hr.mono (by decide)) rfl T.bY T.bN.kp T.bW .nil aF (aa (pv 0) (aa az aj))) (aL (aN.or aO) rfl T.cB cA (aa (pv 3) aj))) (fun _ _=>rfl))) (ak (aU (i:=5) jN.nd rfl (Or.inr rfl) (aC afD (hr.mono (by decide)) rfl T.ac1 T.rE.kp T.Gd .nil aF (aa (pv 0) (aa (pv 1) (aa (pv 4) (aa (qK (Ir hr) (cC jG rfl T.yg xR (aa (pv 2) aj)) (pv 4) (fun _ _=>rfl)) aj)))))) (ak (aU (i:=6) jN.nd rfl (Or.inl rfl) (cC jG rfl T.yg xR (aa (vC (cn:=["_law_one","_law_thing"]) rfl (fW.of rfl) (ik (pv 2)) (fun _=>(kE rfl (bD (aY (i:=0) tW rfl (Or.inl rfl)) (bD (aY (i:=1) tW rfl (Or.inl rfl)) gM)))) (fun _=>yK) (fun _=>(gA (aa (pv 0) (aa (fM (jg (aJ (cX.or (bV (aZ hr))) (pv 0) (pv 6) (aR _)) (pv 7) (pv 1))) aj))))) aj))) (ak (bC (cG (PW.pt (lR (cz (bB (aC uK (hr.mono (by decide)) rfl T.uF T.kj.kp T.qF .nil aF (aa (pv 0) (aa (pv 1) (aa (pv 6) aj)))))) (jf (cz (bB (aC zL (hr.mono (by decide)) rfl T.Be T.mR.kp T.uG .nil aF (aa (pv 1) (aa (pv 6) aj))))))))) (aq (aG dB)) aM) (ak (bh (ir (pv 1) T.aX T.rB mW (hr.mono (by decide)) T.mK .nil aF)) (ak (bC (cz (bB (aC uK (hr.mono (by decide)) rfl T.uF T.kj.kp T.qF .nil aF (aa (pv 0) (aa (pv 1) (aa (cC jG rfl T.yg xR (aa (pv 2) aj)) aj)))))) (aq (aG dB)) aM) (ak (bh (ir (pv 1) T.aX T.Rv JM (hr.mono (by decide)) T.Az .nil aF)) (ak (bC (cz (bB (aC uK (hr.mono (by decide)) rfl T.uF T.kj.kp T.qF .nil aF (aa (pv 0) (aa (pv 1) (aa (pv 6) aj)))))) (aq (aG dB)) aM) (ak (bh (ir (pv 1) T.aX T.rB mW (hr.mono (by decide)) T.mK .nil aF)) (aq (aG (aC uK (hr.mono (by decide)) rfl T.uF T.kj.kp T.qF .nil aF (aa (pv 0) (aa (pv 1) (aa (cC jG rfl T.yg xR (aa (pv 2) aj)) aj))))))))))))))))) ?_
  have yl:=cj pvt
  have wl:=ek.w.len
  refine⟨rfl,_,rfl,tl,rfl,⟨_,bu.of (B.sm _ _ ht)⟩,fun D b hD=>?_⟩
  refine mY (K:=K) (xs:=ys) (fun i zs σ H'=>∃ (u v:Option V) (pns:List Str),σ=[u,v,some (.ref a),some (.ref x),some (.ref tl),none,none,none,none]/\aB H H'/\H' D=some (.lst zs)/\zs=pns.map V.str/\pns.length <= i/\i <= vw.length/\∀ m∈pns,∃ ss,(m,Th.pl ss)∈vw)
   ⟨none,none,[],rfl,aB.upd hD,ao,rfl,Nat.le_refl _,Nat.zero_le _,fun _ h=>nomatch h⟩ ?_ ?_ ?_
  ·rintro i zs σ H' ⟨u,v,pns,rfl,s2,_⟩
   exact bu.of (s2 _ _ (B.sm _ _ ht))
  ·rintro i zs y σ H' hy ⟨u,v,pns,rfl,s2,hDl,rfl,pl2,il,hpn⟩ N hN
   obtain⟨⟨n,th⟩,hq,p,w0,rfl,hp,hv⟩:=Cd pvt hy
   have il2:i < vw.length:=(List.getElem?_eq_some_iff.mp hq).1
   unfold ZP
   refine⟨p,_,rfl,pP.of (s2 _ _ (B.sm _ _ hp)),rfl,_,_,rfl,_,_,rfl,rfl,?_⟩
   cases th with
   | pl ss =>
    obtain⟨l,ls,rfl,hl1,_⟩:=hv
    tm_up
    refine⟨_,_,_,_,rfl,gQ.lst (s2 _ _ (B.sm _ _ hl1)),rfl,_,rfl,wF ?_⟩
    refine⟨_,rfl,hDl,bx (by rw[List.length_map];omega),hN _ _ _ ⟨_,_,pns++[n],rfl,gO s2 hD,ao,by rw[List.map_append];rfl,by rw[List.length_append];show _+1 <= _;omega,il2,fun m hm=>?_⟩⟩
    rcases List.mem_append.mp hm with hm | hm
    ·exact hpn m hm
    ·rw[List.mem_singleton.mp hm]
     exact⟨ss,List.mem_of_getElem? hq⟩
   | cn ld lt sl tn =>
    obtain⟨tp,rfl,hl1⟩:=hv
    tm_up
    refine⟨_,_,_,_,rfl,gQ.tup (s2 _ _ (B.sm _ _ hl1)),rfl,_,rfl,cZ ?_⟩
    exact hN _ _ _ ⟨_,_,pns,rfl,s2,hDl,rfl,by omega,il2,hpn⟩
  ·rintro zs σ H1 ⟨u,v,pns,rfl,s1,hDl,rfl,pl2,il,hpn⟩
   have B1:=B.same s1
   refine⟨rfl,?_⟩
   refine⟨_,rfl,big (by show 0 <= 1000;omega),fun e0 he0=>?_⟩
   have s2:=aB.upd (o:=.lst []) he0
   have h2:=ao (H:=H1) (a:=e0) (o:=.lst [])
   generalize upd H1 e0 (.lst [])=H2 at s2 h2
   have hD2:=s2 _ _ hDl
   have B2:=B1.same s2
   refine⟨D,e0,pns.map V.str,rfl,rfl,bu.of hD2,bu.of h2,_,rfl,?_⟩
   refine bJ (fun hem=>?_) (fun hem=>?_)
   ·exact q _ fs B2 (Nat.le_succ _)
   have pn0:0 < pns.length:=by
    cases pns with
    | nil=>exact absurd rfl hem
    | cons _ _=>exact Nat.succ_pos _
   tm_up
   refine⟨a,ns,7,rfl,B2.sm.seq hS,hl,?_⟩
   refine⟨_,rfl,.inl ⟨D,_,rfl,.inl (bu.of hD2),?_⟩⟩
   obtain⟨k,hkI,hk⟩:=acX (jD ns 7) (k:=(pns.length:Int)) (by omega)
   refine⟨_,_,rfl,rfl,by rw[List.length_map];show (0:Int) < pns.length;omega,?_⟩
   obtain⟨n,hn⟩:∃ n,pns[k]? = some n:=⟨_,List.getElem?_eq_getElem (by omega)⟩
   obtain⟨ss,hss⟩:=hpn n (List.mem_of_getElem? hn)
   have hf:=ek.w.find hss
   refine ixL (bu.of hD2) (n:=k) (by rw[List.length_map];exact hkI) (by rw[List.getElem?_map,hn];rfl) ?_
   tm_up
   obtain⟨kvs,k1,k2⟩:=NK pvt
   have kl:=cj k2
   have knd:=aad k2 ek.w.nd
   obtain⟨v,hval,hv⟩:=aqW k2 hf
   obtain⟨l,ls,rfl,hl0,gl0⟩:=hv
   refine⟨rfl,tl,ys,kvs,rfl,bu.of (B2.sm _ _ ht),cu (fun _ _ ⟨q,e1,e2⟩=>⟨q,e1,B2.sm _ _ e2⟩) k1,by omega,fun d hd=>?_⟩
   rw[Fj kvs [] (by simpa using knd)]
   have s3:=aB.upd (o:=.dK kvs) hd
   have h3:=ao (H:=H2) (a:=d) (o:=.dK kvs)
   rw[List.nil_append]
   generalize upd H2 d (.dK kvs)=H3 at s3 h3
   have B3:=B2.same s3
   refine⟨_,rfl,d,.ref l,rfl,.inl ⟨kvs,Sum.inr n,.inl h3,rfl,hval.symm⟩,?_⟩
   have ssl:=ek.sh n ss hss
   refine⟨a,x,l,n,ns,ls,ss,H0,vw,ps,fs,rfl,hS,hl,B3,hl0,gl0,hf,ssl,by omega,fun l4 ys4 ss4 H4 B4 h4 g4 atd gd4=>?_⟩
   obtain⟨H0',B4',s00,kp4⟩:=B4.rebase
   have h40:=kp4 _ _ h4 (.inr (List.mem_singleton_self _))
   have g40:lY H0' ys4 ss4:=kp4.sgs g4
   have ax0:=s00 _ _ ht
   tm_up
   refine⟨⟨_,bu.of (B4'.sm _ _ ax0)⟩,fun D2 b2 hD2=>?_⟩
   refine mY (K:=K) (xs:=ys) (fun i zs σ H'=>∃ (u v:Option V),σ=[u,v,some (.ref a),some (.ref x),some (.ref tl),some (.ref D),some (.str n),some (.ref l4),none]/\aB H4 H'/\H' D2=some (.lst zs)/\Paired (TvB H0' H') zs ((Dv vw n (.pl ss4)).take i)/\i <= vw.length)
    ⟨none,none,rfl,aB.upd hD2,ao,.nil,Nat.zero_le _⟩ ?_ ?_ ?_
   ·rintro i zs σ H' ⟨u,v,rfl,s5,_⟩
    exact bu.of (s5 _ _ (B4'.sm _ _ ax0))
   ·rintro i zs y σ H5 hy ⟨u,v,rfl,s5,hD5,pv5,il5⟩ N hN
    obtain⟨⟨m,th⟩,hq,p,w0,rfl,hp,hv⟩:=Cd pvt hy
    have il6:i < vw.length:=(List.getElem?_eq_some_iff.mp hq).1
    have hp5:=s5 _ _ (B4'.sm _ _ (s00 _ _ hp))
    have zl5:=cj pv5
    rw[List.length_take] at zl5
    have eq6:(Dv vw n (.pl ss4))[i]? = some (m,if m=n then Th.pl ss4 else th):=by
     unfold Dv
     rw[List.getElem?_map,hq]
     show some (if m=n then (n,Th.pl ss4) else (m,th))=_
     by_cases e:m=n
     ·rw[if_pos e,if_pos e,e]
     ·rw[if_neg e,if_neg e]
    unfold ZP
    refine⟨p,_,rfl,pP.of hp5,rfl,_,_,rfl,_,_,rfl,rfl,?_⟩
    tm_up
    refine⟨fun vv H'=>H'=H5/\ThV H0' vv (if m=n then Th.pl ss4 else th),?_,?_⟩
    ·tm_up
     refine bJ (fun he=>?_) (fun he=>?_)
     ·have e:m=n:=by injection (of_decide_eq_true he)
      refine⟨_,rfl,rfl,?_⟩
      rw[if_pos e]
      exact⟨l4,ys4,rfl,h40,g40⟩
     ·have e:m≠n:=fun e=>he (decide_eq_true (by rw[e]))
      refine⟨_,rfl,rfl,?_⟩
      rw[if_neg e]
      exact hv.same s00
    rintro vv H6 ⟨e6,hvv⟩
    rw[e6]
    clear e6 H6
    refine⟨big (by show 2 <= 1000;omega),fun p7 hp7=>?_⟩
    have st:=aB.upd (o:=.tup [V.str m,vv]) hp7
    refine⟨st _ _ hD5,bx (by omega),hN _ _ _ ⟨_,_,rfl,gO (s5.trans st) hD2,ao,?_,il6⟩⟩
    rw[List.take_succ,eq6]
    exact cu (fun _ _ q=>TvB.write (st _ _ hD5) q) (pQ (cu (fun _ _ q=>TvB.same st q) pv5) ⟨p7,vv,rfl,ao,hvv⟩)
   ·rintro zs σ H5 ⟨u,v,rfl,s5,hD5,pv5,_⟩
    have vl5:(Dv vw n (.pl ss4)).length=vw.length:=by unfold Dv;rw[List.length_map]
    rw[yl,← vl5,List.take_length] at pv5
    obtain⟨aob,j1,j2⟩:=aeD pv5
    have kl5:=cj j2
    have aAh:=aad j2 (by rw[Ny];exact ek.w.nd)
    refine⟨rfl,D2,zs,aob,rfl,bu.of hD5,j1,by omega,fun d5 hd5=>?_⟩
    rw[Fj aob [] (by simpa using aAh),List.nil_append]
    have s6:=aB.upd (o:=.dK aob) hd5
    have h6:=ao (H:=H5) (a:=d5) (o:=.dK aob)
    generalize upd H5 d5 (.dK aob)=H6 at s6 h6
    obtain⟨H1,B6,s01,fr1,fr2⟩:=B4'.fresh (s5.trans s6)
    have dv:NB H1 d5 (Dv vw n (.pl ss4)):=⟨aob,fr2 _ _ h6 (fun _ z=>nomatch z),cu (fun _ _ q=>q.same s01) j2⟩
    have tld:t7 H1 tl vw:=t7.same (s00.trans s01) ⟨ys,ht,pvt⟩
    have hS1:=(s00.trans s01).seq hS
    refine⟨fun b H'=>b=false/\aB H6 H',?_,?_⟩
    ·obtain⟨F6,b6,_⟩:=B6.ex
     tm_up
     refine⟨a,x,d5,ns,F6,_,_,_,rfl,B6.sm.seq hS1,hl,b6,dv.same B6.sm,fun H7 s7=>⟨_,rfl,cZ ?_⟩⟩
     have B7:=B6.same s7
     obtain⟨F7,b7,_⟩:=B7.ex
     tm_up
     exact⟨x,d5,F7,_,_,_,rfl,b7,dv.same B7.sm,fun H8 s8=>⟨_,rfl,rfl,s7.trans s8⟩⟩
    rintro _ H7 ⟨rfl,s7⟩
    refine cZ ?_
    have B7:=B6.same s7
    obtain⟨dx7,L7,D7,U7,hx7⟩:=B7.hx
    obtain⟨F7,b7,f7,z7,o7⟩:=B7.ex
    refine⟨_,rfl,x,dx7,_,rfl,hx7,vO _ _ _,?_⟩
    refine⟨x,F7,_,_,[],rfl,b7,by rw[List.length_append];show ps.length+1+0 <= 900;omega,(fun z=>by simp at z),fun X4 v0 e0 H8 fr8 b8=>?_⟩
    obtain⟨e01,e02⟩:=qO e0
    subst e01 e02
    obtain⟨B8,_⟩:=Bw.mk' b8 B7.sm f7 z7 o7 (Gr.refl _ _) fr8
    obtain⟨zs8,ax1,hz8,pk8,kl8,dk8⟩:=(tld.same B8.sm).dict ek.w.nd
    tm_up
    refine⟨rfl,tl,zs8,ax1,rfl,bu.of hz8,pk8,by omega,fun d8 hd8=>?_⟩
    obtain⟨s9,d9⟩:=dk8 d8 hd8
    generalize upd H8 d8 (.dK (lW [] ax1))=H9 at s9 d9
    have B9:=B8.same s9
    obtain⟨F9,b9,_⟩:=B9.ex
    refine⟨a,x,d8,ns,F9,_,_,_,rfl,B9.sm.seq hS1,hl,b9,d9,fun H10 s10=>⟨_,rfl,cZ ?_⟩⟩
    have B10:=B9.same s10
    obtain⟨aAi,L10,D10,U10,aAj⟩:=B10.hx
    obtain⟨F10,b10,f10,z10,o10⟩:=B10.ex
    refine⟨_,rfl,x,aAi,_,rfl,aAj,X3 _ _ _,?_⟩
    refine⟨x,F10,_,_,_,rfl,b10,by show _+1 <= 900;omega,(fun z=>by simp at z),fun fs0 v0 e0 H11 afz b11=>?_⟩
    obtain⟨e01,e02⟩:=qO e0
    subst e01 e02
    obtain⟨B11,_⟩:=Bw.mk' b11 B10.sm f10 z10 o10 (Gr.refl _ _) afz
    obtain⟨F11,aAk,_⟩:=B11.ex
    tm_up
    refine⟨a,x,d5,ns,F11,_,_,_,rfl,B11.sm.seq hS1,hl,aAk,dv.same B11.sm,fun H12 s12=>⟨_,rfl,cZ ?_⟩⟩
    have B12:=B11.same s12
    obtain⟨aAl,L12,D12,U12,aAm⟩:=B12.hx
    obtain⟨F12,b12,f12,z12,o12⟩:=B12.ex
    refine⟨_,rfl,x,aAl,_,rfl,aAm,vO _ _ _,?_⟩
    refine⟨x,F12,_,_,_,rfl,b12,by rw[List.length_append];show _+1+0 <= 900;omega,(fun z=>by simp at z),fun ps1 v1 e1 H13 aAn b13=>?_⟩
    obtain⟨e11,e12⟩:=qO e1
    subst e11 e12
    obtain⟨B13,_⟩:=Bw.mk' b13 B12.sm f12 z12 o12 (Gr.refl _ _) aAn
    obtain⟨aAo,auC,aAp,aAq,aDr,aAr⟩:=(tld.same B13.sm).dict ek.w.nd
    tm_up
    refine⟨rfl,tl,aAo,auC,rfl,bu.of aAp,aAq,by omega,fun d13 aAt=>?_⟩
    obtain⟨s14,d14⟩:=aAr d13 aAt
    generalize upd H13 d13 (.dK (lW [] auC))=H14 at s14 d14
    have B14:=B13.same s14
    obtain⟨F14,b14,f14,z14,o14⟩:=B14.ex
    refine⟨a,x,d13,ns,F14,_,_,_,rfl,B14.sm.seq hS1,hl,b14,d14,fun H15 s15=>?_⟩
    have B15:=B14.same s15
    obtain⟨F15,b15,f15,z15,o15⟩:=B15.ex
    have s0H:aB H0 H1:=s00.trans s01
    exact q H15 _ ⟨⟨F15,b15,f15,fun y hy=>s0H.free (z15 y hy),o15⟩,s0H.trans B15.sm⟩ (by show 1 <= fs.length+1;omega)
theorem aa3 (vw:Vw)(n:Str):jL (vw++[(n,.pl [])])=vw:=by
 unfold jL
 rw[List.getLast?_concat]
 show (if ([]:List Sg)=[] then _ else _)=_
 rw[if_pos rfl,List.dropLast_concat]
theorem aeE (vw:Vw)(n ld:Str)(lt sl:Int)(tn:Bool):jL (vw++[(n,.cn ld lt sl tn)])=vw:=by
 unfold jL
 rw[List.getLast?_concat]
 exact List.dropLast_concat
theorem aoc (vw:Vw)(n:Str){ss:List Sg}{j:Nat}{s:Sg}(h:ss[j]? = some s):jL (vw++[(n,.pl (ss.take (j+1)))])=vw++[(n,.pl (ss.take j))]:=by
 have e:ss.take (j+1)=ss.take j++[s]:=by rw[List.take_succ,h];rfl
 unfold jL
 rw[List.getLast?_concat,e]
 show (if ss.take j++[s]=[] then _ else _)=_
 rw[if_neg (by simp),List.dropLast_concat,List.dropLast_concat]
theorem akB (vw:Vw)(n:Str){ss:List Sg}(h:ss≠[]):jL (vw++[(n,.pl ss)])=vw++[(n,.pl ss.dropLast)]:=by
 unfold jL
 rw[List.getLast?_concat]
 show (if ss=[] then _ else _)=_
 rw[if_neg h,List.dropLast_concat]
theorem afE {α β:Type}{F:α->β->Prop}:∀ {ys:List α} {vs:List β} {q:β},Paired F ys (vs++[q])->∃ ys0 y,ys=ys0++[y]/\Paired F ys0 vs/\F y q
 | _,[],_,.cons r .nil=>⟨[],_,rfl,.nil,r⟩
 | _,_ :: vs,_,.cons r t=>by
  obtain⟨ys0,y,rfl,h1,h2⟩:=afE t
  exact⟨_ :: ys0,y,rfl,.cons r h1,h2⟩
theorem amZ (xs:List V)(v:V):Nj (xs++[v]) none (some (-1))=xs:=by
 unfold Nj
 have e:HT.tQ (xs++[v]).length (xs++[v]).length (some (-1))=xs.length:=by
  rw[List.length_append]
  show HT.tQ (xs.length+1) (xs.length+1) (some (-1))=xs.length
  unfold HT.tQ
  first | omega | (simp;omega) | (split <;> omega)
 rw[HT.ZG,e,Nat.sub_zero,List.drop_zero,List.take_left']
 rfl
inductive JN (K:Frag)(c:Cs)(vs:List V)(H:Hp)(Q:VK)(E:XK):Prop
 | mk (a x tl:Addr) (ns:List Int) (H0:Hp) (vw:Vw) (ps:List Vw) (fU:vs=[.ref a,.ref x,.ref tl]) (fV:bu K H0 a (ns.map V.int)) (iQ:ns.length <= 63) (nZ:Bw c H0 H x [] vw ps (if vw.length < 12 then [afy vw] else [])) (xM:t7 H0 tl vw) (h5_:aeh vw) (h6_:ps.length <= 400) (h7_:(vw≠[]->∃ X4,ps=X4++[jL vw])) (h8_:∀ H',Q (.bl true) H'):JN K c vs H Q E
theorem aa4 (T:Txt K w mg t):bU P w K mg base jt (0+11) t.iU t.Ck ["_law_script","_law_book","_law_told"] (JN K (cs t)):=by
 have Bj:=yj (P:=P) (w:=w) (base:=base) T
 have mW:=Gm (P:=P) (w:=w) (base:=base) T
 have JM:=RT (P:=P) (w:=w) (base:=base) T
 have Ss:=Ow (P:=P) (w:=w) (base:=base) T
 have uK:=aa1 (P:=P) (w:=w) (base:=base) T
 have zL:=Ym (P:=P) (w:=w) (base:=base) T
 have nR:=Cu (P:=P) (w:=w) (base:=base) T
 refine T.oV.ok yS (fun vs H Q E h=>?_) (fun cdv A outer s H vs Q E hr h=>?_)
 ·obtain⟨_,_,_,_,_,_,_,rfl,_⟩:=h
  rfl
 ·obtain⟨a,x,tl,ns,H0,vw,ps,rfl,hS,hl,B,tld,ek,pl,bf,q⟩:=h
  refine bj (ak (bC (cG (PW.pt (lR (cz (bB (aC uK (hr.mono (by decide)) rfl T.uF T.kj.kp T.qF .nil aF (aa (pv 0) (aa (pv 1) (aa (cC jG rfl T.yg xR (aa (pv 2) aj)) aj)))))) (jf (cz (bB (aC zL (hr.mono (by decide)) rfl T.Be T.mR.kp T.uG .nil aF (aa (pv 1) (aa (cC jG rfl T.yg xR (aa (pv 2) aj)) aj))))))))) (aq (aG dB)) aM) (ak (qJ (bC (aJ Dp (aL (aN.or aO) rfl T.cB cA (aa (pv 2) aj)) az (aR _)) (ak (bh (ir (pv 1) T.aX T.Rv JM (hr.mono (by decide)) T.Az .nil aF)) (ak (bC (cz (bB (aC zL (hr.mono (by decide)) rfl T.Be T.mR.kp T.uG .nil aF (aa (pv 1) (aa (cC jG rfl T.yg xR (aa (aW (bO.or (aQ.or bQ)) (pv 2) (bZ (aa (gA (aa cF (aa (bZ aj) aj))) aj))) aj)) aj))))) (aq (aG dB)) aM) (aq (bh (ir (pv 1) T.aX T.rB mW (hr.mono (by decide)) T.mK .nil aF))))) aM)) (ak (bC (cz (bB (aC Ss (hr.mono (by decide)) rfl T.Oj T.iH.kp T.rJ .nil aF (aa (pv 0) (aa (pv 1) (aa (pv 2) aj)))))) (aq (aG dB)) aM) (ak (bC (aJ (Uw (aZ hr)) (pv 2) (bZ aj) (aR _)) (aq (aG (dz (Uw (aZ hr)) (ir (pv 1) T.aX T.vH nR (hr.mono (by decide)) T.nG .nil aF) (bZ aj) (aR _)))) aM) (ak (aU (i:=3) yS.nd rfl (Or.inl rfl) (oG (vB.or (BX.or BZ)) (pv 2) vA (lC (XJ Il az)))) (ak (qJ (bC (cG (PW.pt (fL (bB (aL cQ rfl T.bG bF (aa (bH bc (bH bc (pv 2) (XJ Il az) (fun _ _=>rfl)) az (fun _ _=>rfl)) (aa (dW (v:=.ty "list") rfl T.iI iu rfl) aj)))) (ig (aJ (ave (aZ hr)) (bH bc (bH bc (pv 2) (XJ Il az) (fun _ _=>rfl)) az (fun _ _=>rfl)) (bZ aj) (aR _)))))) (aq (aU (i:=3) yS.nd rfl (Or.inl rfl) (aW (bO.or (aQ.or bQ)) (pv 3) (bZ (aa (gA (aa (bH bc (bH bc (pv 2) (XJ Il az) (fun _ _=>rfl)) az (fun _ _=>rfl)) (aa (oG (vB.or (BX.or BZ)) (bH bc (bH bc (pv 2) (XJ Il az) (fun _ _=>rfl)) az (fun _ _=>rfl)) vA (lC (XJ Il az))) aj))) aj))))) aM)) (ak (bh (ir (pv 1) T.aX T.rB mW (hr.mono (by decide)) T.mK .nil aF)) (aq (aG (fM (wB (aC uK (hr.mono (by decide)) rfl T.uF T.kj.kp T.qF .nil aF (aa (pv 0) (aa (pv 1) (aa (cC jG rfl T.yg xR (aa (pv 3) aj)) aj)))) (wA (aC zL (hr.mono (by decide)) rfl T.Be T.mR.kp T.uG .nil aF (aa (pv 1) (aa (cC jG rfl T.yg xR (aa (pv 3) aj)) aj))))))))))))))) ?_
  have wl:=ek.w.len
  refine⟨fun b H'=>b=false/\aB H H',?_,?_⟩
  ·tm_up
   obtain⟨ys,kvs,ht,pk,kl,dk⟩:=(tld.same B.sm).dict ek.w.nd
   refine⟨rfl,tl,ys,kvs,rfl,bu.of ht,pk,by omega,fun d hd=>?_⟩
   obtain⟨s1,d1⟩:=dk d hd
   generalize upd H d (.dK (lW [] kvs))=H1 at s1 d1
   have B1:=B.same s1
   obtain⟨F1,b1,_⟩:=B1.ex
   refine⟨a,x,d,ns,F1,vw,ps,_,rfl,B1.sm.seq hS,hl,b1,d1,fun H2 s2=>⟨_,rfl,cZ ?_⟩⟩
   have s12:=s1.trans s2
   have B2:=B.same s12
   clear pk dk ht hd
   obtain⟨ys,kvs,ht,pk,kl,dk⟩:=(tld.same B2.sm).dict ek.w.nd
   tm_up
   refine⟨rfl,tl,ys,kvs,rfl,bu.of ht,pk,by omega,fun d hd=>?_⟩
   obtain⟨s3,d3⟩:=dk d hd
   generalize upd H2 d (.dK (lW [] kvs))=H3 at s3 d3
   have B3:=B2.same s3
   obtain⟨F3,b3,_⟩:=B3.ex
   exact⟨x,d,F3,vw,ps,_,rfl,b3,d3,fun H4 s4=>⟨_,rfl,rfl,s12.trans (s3.trans s4)⟩⟩
  rintro _ H1 ⟨rfl,s1⟩
  refine cZ ?_
  have B1:=B.same s1
  clear B s1
  refine⟨fun σ H'=>σ=[some (.ref a),some (.ref x),some (.ref tl),none]/\Bw (cs t) H0 H' x [] vw ps (if vw.length < 12 then [afy vw] else []),?_,?_⟩
  ·obtain⟨ys,ht,pvt⟩:=tld
   have yl:=cj pvt
   tm_up
   refine .inl ⟨tl,ys,rfl,.inl (bu.of (B1.sm _ _ ht)),?_⟩
   tm_up
   refine bJ (fun hlt=>?_) (fun hlt=>?_)
   ·have hlt':vw.length < 12:=by have:=of_decide_eq_true hlt;omega
    rw[if_pos hlt'] at B1
    obtain⟨dx,L,D,U,hx⟩:=B1.hx
    obtain⟨F1,b1,f1,z1,o1⟩:=B1.ex
    refine⟨_,rfl,x,dx,_,rfl,hx,X3 _ _ _,?_⟩
    refine⟨x,F1,_,ps,_,rfl,b1,by show ps.length+1 <= 900;omega,(fun z=>nomatch z),fun fs0 v0 e0 H4 fr4 b4=>?_⟩
    obtain⟨e01,e02⟩:=qO (show []++[afy vw]=fs0++[v0] from e0)
    subst e01 e02
    obtain⟨B4,k4⟩:=Bw.mk' b4 B1.sm f1 z1 o1 (Gr.refl _ _) fr4
    clear b1 f1 z1 o1 fr4 b4 k4
    refine⟨_,rfl,_,rfl,big (by show 0 <= 1000;omega),fun e0 he0=>?_⟩
    have s5:=aB.upd (o:=.lst []) he0
    have h5:=ao (H:=H4) (a:=e0) (o:=.lst [])
    generalize upd H4 e0 (.lst [])=H5 at s5 h5
    refine⟨big (by show 2 <= 1000;omega),fun p0 hp0=>?_⟩
    have s6:=aB.upd (o:=.tup [V.str "zed",V.ref e0]) hp0
    have h6:=ao (H:=H5) (a:=p0) (o:=.tup [V.str "zed",V.ref e0])
    generalize upd H5 p0 (.tup [V.str "zed",V.ref e0])=H6 at s6 h6
    refine⟨big (by show 1 <= 1000;omega),fun l0 hl0=>?_⟩
    have s7:=aB.upd (o:=.lst [V.ref p0]) hl0
    have h7:=ao (H:=H6) (a:=l0) (o:=.lst [V.ref p0])
    generalize upd H6 l0 (.lst [V.ref p0])=H7 at s7 h7
    have s47:=(s5.trans s6).trans s7
    refine .inr (.inr ⟨tl,l0,ys,_,rfl,rfl,s47 _ _ (B4.sm _ _ ht),h7,big (by show _+1 <= 1000;omega),fun c hc=>?_⟩)
    have s8:=aB.upd (o:=.lst (ys++[V.ref p0])) hc
    have h8:=ao (H:=H7) (a:=c) (o:=.lst (ys++[V.ref p0]))
    generalize upd H7 c (.lst (ys++[V.ref p0]))=H8 at s8 h8
    have s48:=s47.trans s8
    have B8:=B4.same s48
    have tz:t7 H8 c (afy vw):=⟨_,h8,Nr (cu (fun _ _ q=>q.same B8.sm) pvt) (.cons ⟨p0,.ref e0,rfl,s8 _ _ (s7 _ _ h6),e0,[],rfl,s8 _ _ (s7 _ _ (s6 _ _ h5)),.nil⟩ .nil)⟩
    obtain⟨zs,kvs,hz,pk,kl,dk⟩:=tz.dict B8.wv.nd
    have zl:(afy vw).length=vw.length+1:=by unfold afy;rw[List.length_append];rfl
    tm_up
    refine⟨rfl,c,zs,kvs,rfl,bu.of hz,pk,by omega,fun d hd=>?_⟩
    obtain⟨s9,d9⟩:=dk d hd
    generalize upd H8 d (.dK (lW [] kvs))=H9 at s9 d9
    have B9:=B8.same s9
    obtain⟨F9,b9,_⟩:=B9.ex
    refine⟨x,d,F9,afy vw,_,_,rfl,b9,d9,fun H10 s10=>⟨_,rfl,cZ ?_⟩⟩
    have B10:=B9.same s10
    obtain⟨dx2,L2,D2,U2,hx2⟩:=B10.hx
    obtain⟨F3,b3,f3,z3,o3⟩:=B10.ex
    refine⟨_,rfl,x,dx2,_,rfl,hx2,vO _ _ _,?_⟩
    refine⟨x,F3,_,_,[],rfl,b3,by rw[List.length_append];show ps.length+1+0 <= 900;omega,(fun z=>by simp at z),fun X4 v0 e0 H11 afz b11=>?_⟩
    obtain⟨e01,e02⟩:=qO e0
    subst e01 e02
    obtain⟨B11,k11⟩:=Bw.mk' b11 B10.sm f3 z3 o3 (Gr.refl _ _) afz
    exact⟨rfl,by rw[if_pos hlt'];exact B11⟩
   ·exact⟨rfl,B1⟩
  rintro _ H2 ⟨rfl,B2⟩
  tm_up
  refine⟨a,x,tl,ns,H0,vw,ps,_,rfl,hS,hl,B2,tld,ek,by omega,fun H3 fs3 B3 l3=>⟨_,rfl,cZ ?_⟩⟩
  have l3':fs3.length <= 2:=by
   refine Nat.le_trans l3 ?_
   split
   ·exact Nat.le_refl _
   ·exact Nat.le_succ _
  obtain⟨ys,ht,pvt⟩:=tld
  have yl:=cj pvt
  refine⟨_,rfl,big (by show 0 <= 1000;omega),fun e0 he0=>?_⟩
  have s4:=aB.upd (o:=.lst []) he0
  have h4:=ao (H:=H3) (a:=e0) (o:=.lst [])
  generalize upd H3 e0 (.lst [])=H4 at s4 h4
  have B4:=B3.same s4
  refine⟨tl,e0,ys,rfl,rfl,bu.of (B4.sm _ _ ht),bu.of h4,_,rfl,?_⟩
  refine bJ (fun hem=>?_) (fun hem=>?_)
  ·have vn:vw=[]:=by
    cases vw with
    | nil=>rfl
    | cons q r=>cases pvt;exact nomatch hem
   subst vn
   obtain⟨dx,L,D,U,hx⟩:=B4.hx
   obtain⟨F4,b4,_⟩:=B4.ex
   refine⟨_,rfl,x,dx,_,rfl,hx,xW _ _ _,x,F4,[],ps,fs3,rfl,b4,fun l5 H5 nl5 s5 h5=>?_⟩
   refine⟨big (by show 0 <= 1000;omega),fun e6 he6=>?_⟩
   exact⟨l5,e6,[],rfl,rfl,bu.of (aB.upd he6 _ _ h5),bu.of ao,q _⟩
  ·obtain⟨vw0,n,th,rfl⟩:∃ vw0 n th,vw=vw0++[(n,th)]:=by
    rcases List.eq_nil_or_concat vw with rfl | ⟨v0,⟨n,th⟩,e⟩
    ·cases pvt
     exact absurd rfl hem
    ·exact⟨v0,n,th,by rw[e,List.concat_eq_append]⟩
   obtain⟨X4,rfl⟩:=bf (by simp)
   obtain⟨ys0,y,rfl,p0,p,v,rfl,hp,hv⟩:=afE pvt
   have w24:=ek.sh
   refine⟨_,rfl,_,rfl,-1,rfl,.inl ⟨tl,_,rfl,bu.of (B4.sm _ _ ht),fun l5 hl5=>?_⟩⟩
   rw[amZ]
   have s5:=aB.upd (o:=.lst ys0) hl5
   have h5:=ao (H:=H4) (a:=l5) (o:=.lst ys0)
   generalize upd H4 l5 (.lst ys0)=H5 at s5 h5
   have ht5:=s5 _ _ (B4.sm _ _ ht)
   have hp5:=s5 _ _ (B4.sm _ _ hp)
   refine⟨fun σ H'=>∃ (l':Addr) (H1:Hp),σ=[some (.ref a),some (.ref x),some (.ref tl),some (.ref l')]/\Bw (cs t) H1 H' x [] (vw0++[(n,th)]) (X4++[jL (vw0++[(n,th)])]) fs3/\aB H0 H1/\t7 H1 l' (jL (vw0++[(n,th)])),?_,?_⟩
   ·cases th with
    | cn ld lt sl tn =>
     obtain⟨tp,rfl,htp⟩:=hv
     obtain⟨H1',B5',s01,fr1,fr2⟩:=B4.fresh s5
     refine oH false ?_ ?_
     ·tm_up
      refine .inl ⟨tl,_,-1,_,rfl,rfl,bu.of ht5,Io _ _,?_⟩
      tm_up
      exact⟨_,_,_,_,rfl,gQ.tup (s5 _ _ (B4.sm _ _ htp)),rfl,_,rfl,cZ (eY rfl)⟩
     refine cZ ?_
     exact⟨l5,H1',rfl,B5',s01,by rw[aeE];exact⟨ys0,fr1 _ _ h5 hl5,cu (fun _ _ q=>q.same s01) p0⟩⟩
    | pl ss =>
     obtain⟨l,zs,rfl,hl6,g6⟩:=hv
     have avZ:=s5 _ _ (B4.sm _ _ hl6)
     refine⟨fun b H'=>aB H5 H'/\b = !zs.isEmpty,?_,?_⟩
     ·tm_up
      refine .inl ⟨tl,_,-1,_,rfl,rfl,bu.of ht5,Io _ _,?_⟩
      tm_up
      refine⟨_,_,_,_,rfl,gQ.lst avZ,rfl,_,rfl,wF ?_⟩
      tm_up
      refine .inl ⟨tl,_,-1,_,rfl,rfl,bu.of ht5,Io _ _,?_⟩
      refine .inr (.inl ⟨p,_,1,_,rfl,rfl,pP.of hp5,rfl,?_⟩)
      refine⟨big (by show 0 <= 1000;omega),fun e6 he6=>?_⟩
      exact⟨l,e6,zs,rfl,rfl,bu.of (aB.upd he6 _ _ avZ),bu.of ao,_,rfl,aB.upd he6,rfl⟩
     rintro b H6 ⟨s6,rfl⟩
     refine bJ (fun hne=>?_) (fun hne=>?_)
     ·obtain⟨ss0,sl0,rfl⟩:∃ ss0 sl0,ss=ss0++[sl0]:=by
       rcases List.eq_nil_or_concat ss with rfl | ⟨v0,s0,e⟩
       ·cases g6
        exact nomatch hne
       ·exact⟨v0,s0,by rw[e,List.concat_eq_append]⟩
      obtain⟨zs0,z0,rfl,g60,_⟩:=afE g6
      have ht6:=s6 _ _ ht5
      have hp6:=s6 _ _ hp5
      have aAw:=s6 _ _ avZ
      tm_up
      refine .inl ⟨tl,_,-1,_,rfl,rfl,bu.of ht6,Io _ _,?_⟩
      refine .inr (.inl ⟨p,_,0,_,rfl,rfl,pP.of hp6,rfl,?_⟩)
      tm_up
      refine .inl ⟨tl,_,-1,_,rfl,rfl,bu.of ht6,Io _ _,?_⟩
      refine .inr (.inl ⟨p,_,1,_,rfl,rfl,pP.of hp6,rfl,?_⟩)
      refine⟨_,rfl,-1,rfl,.inl ⟨l,_,rfl,bu.of aAw,fun l7 hl7=>?_⟩⟩
      rw[amZ]
      have s7:=aB.upd (o:=.lst zs0) hl7
      have h7:=ao (H:=H6) (a:=l7) (o:=.lst zs0)
      generalize upd H6 l7 (.lst zs0)=H7 at s7 h7
      refine⟨big (by show 2 <= 1000;omega),fun p7 hp7=>?_⟩
      have s8:=aB.upd (o:=.tup [V.str n,V.ref l7]) hp7
      have h8:=ao (H:=H7) (a:=p7) (o:=.tup [V.str n,V.ref l7])
      generalize upd H7 p7 (.tup [V.str n,V.ref l7])=H8 at s8 h8
      refine⟨big (by show 1 <= 1000;omega),fun l9 hl9=>?_⟩
      have s9:=aB.upd (o:=.lst [V.ref p7]) hl9
      have h9:=ao (H:=H8) (a:=l9) (o:=.lst [V.ref p7])
      generalize upd H8 l9 (.lst [V.ref p7])=H9 at s9 h9
      have yl0:=cj p0
      have wl0:vw0.length <= 12:=by rw[List.length_append] at wl;omega
      refine .inr (.inr ⟨l5,l9,ys0,_,rfl,rfl,s9 _ _ (s8 _ _ (s7 _ _ (s6 _ _ h5))),h9,big (by show _+1 <= 1000;omega),fun c hc=>?_⟩)
      have s10:=aB.upd (o:=.lst (ys0++[V.ref p7])) hc
      have h10:=ao (H:=H9) (a:=c) (o:=.lst (ys0++[V.ref p7]))
      generalize upd H9 c (.lst (ys0++[V.ref p7]))=H10 at s10 h10
      have S10:=((((s5.trans s6).trans s7).trans s8).trans s9).trans s10
      have nc:H4 c=none:=((((s5.trans s6).trans s7).trans s8).trans s9).free hc
      have n7:H4 l7=none:=(s5.trans s6).free hl7
      obtain⟨H1',B5',s01,fr1,fr2⟩:=B4.fresh S10
      refine⟨c,H1',rfl,B5',s01,?_⟩
      rw[akB _ _ (by simp),List.dropLast_concat]
      exact⟨_,fr1 _ _ h10 nc,Nr (cu (fun _ _ q=>q.same s01) p0) (.cons ⟨p7,.ref l7,rfl,fr2 _ _ (s10 _ _ (s9 _ _ h8)) (fun _ z=>nomatch z),l7,zs0,rfl,fr1 _ _ (s10 _ _ (s9 _ _ (s8 _ _ h7))) n7,lY.same s01 g60⟩ .nil)⟩
     ·obtain⟨H1',B5',s01,fr1,fr2⟩:=B4.fresh (s5.trans s6)
      have sn:ss=[]:=by
       cases g6 with
       | nil=>rfl
       | cons _ _=>exact absurd rfl hne
      subst sn
      exact⟨l5,H1',rfl,B5',s01,by rw[aa3];exact⟨ys0,fr1 _ _ (s6 _ _ h5) hl5,cu (fun _ _ q=>q.same s01) p0⟩⟩
   rintro _ H6 ⟨l',H1',rfl,B6,s01,ax3⟩
   obtain⟨dx,L,D,U,hx⟩:=B6.hx
   obtain⟨F6,b6,f6,z6,o6⟩:=B6.ex
   tm_up
   refine⟨x,dx,_,rfl,hx,vO _ _ _,?_⟩
   refine⟨x,F6,_,_,fs3,rfl,b6,by omega,(fun z=>by simp at z),fun ps1 v1 e1 H7 fr7 b7=>?_⟩
   obtain⟨e01,e02⟩:=qO e1
   subst e01 e02
   obtain⟨B7,k7⟩:=Bw.mk' b7 B6.sm f6 z6 o6 (Gr.refl _ _) fr7
   have wl7:=B7.wv.len
   refine⟨fun v H'=>v=.bl true,?_,?_⟩
   ·obtain⟨zs,kvs,hz,pk,kl,dk⟩:=(ax3.same B7.sm).dict B7.wv.nd
    tm_up
    refine⟨rfl,l',zs,kvs,rfl,bu.of hz,pk,by omega,fun d hd=>?_⟩
    obtain⟨s8,d8⟩:=dk d hd
    generalize upd H7 d (.dK (lW [] kvs))=H8 at s8 d8
    have B8:=B7.same s8
    obtain⟨F8,b8,_⟩:=B8.ex
    refine⟨a,x,d,ns,F8,_,_,_,rfl,B8.sm.seq (s01.seq hS),hl,b8,d8,fun H9 s9=>⟨true,rfl,wF ?_⟩⟩
    have B9:=B8.same s9
    clear pk dk hz hd
    obtain⟨zs,kvs,hz,pk,kl,dk⟩:=(ax3.same B9.sm).dict B9.wv.nd
    tm_up
    refine⟨rfl,l',zs,kvs,rfl,bu.of hz,pk,by omega,fun d hd=>?_⟩
    obtain⟨s10,d10⟩:=dk d hd
    generalize upd H9 d (.dK (lW [] kvs))=H10 at s10 d10
    have B10:=B9.same s10
    obtain⟨F10,b10,_⟩:=B10.ex
    exact⟨x,d,F10,_,_,_,rfl,b10,d10,fun H11 s11=>rfl⟩
   rintro _ H9 rfl
   exact q _
inductive aa5 (vs:List V)(H:Hp)(Q:VK)(E:XK):Prop
 | mk (x:Str) (fU:vs=[.str x]) (fV:x.length <= 1000) (iQ:∀ H',aB H H'->Q (.bl (nameB x)) H'):aa5 vs H Q E
theorem akC (T:Txt K w mg t):bU P w K mg base jt (0+1) t.uA t.Ve ["name"] aa5:=by
 refine T.En.ok akh (fun vs H Q E h=>?_) (fun cdv A outer s H vs Q E hr h=>?_)
 ·obtain⟨_,rfl,_⟩:=h
  rfl
 ·obtain⟨x,rfl,hx,q⟩:=h
  refine bj (aq (aG (fM (wB (ah4 Im Im az (aL (aN.or aO) rfl T.cB cA (aa (pv 0) aj)) (cO (v:=.int 8) rfl T.aaL ⟨_,rfl⟩)) (wA (aL aqB rfl T.avv au7 (aa (vC (cn:=["letter"]) rfl (fW.of rfl) (au2 (pv 0)) (fun _=>(aY (i:=0) ac0 rfl (Or.inl rfl))) (fun _=>yK) (fun _=>(dz (eF.or eE) (pv 0) (cO (v:=.str "abcdefghijklmnopqrstuvwxyz") rfl T.anR ⟨_,rfl⟩) rfl))) aj))))))) ?_
  have xb:x.length <= sizeLine:=Nat.le_trans hx (by decide)
  refine⟨fun v H'=>v=.bl (nameB x)/\aB H H',?_,fun _ _ ⟨e1,e2⟩=>by rw[e1];exact q _ e2⟩
  unfold nameB
  refine⟨_,rfl,.inr ⟨_,rfl,xb,_,_,rfl,rfl,_,rfl,?_⟩⟩
  refine bJ (fun h1=>?_) (fun h1=>?_)
  rotate_left
  ·have e1:decide (1 <= x.length)=false:=decide_eq_false fun z=>h1 (decide_eq_true (by omega))
   rw[e1]
   exact⟨_,rfl,cZ ⟨rfl,aB.refl _⟩⟩
  have e1:decide (1 <= x.length)=true:=decide_eq_true (by have:=of_decide_eq_true h1;omega)
  rw[e1,Bool.true_and]
  refine⟨_,_,rfl,rfl,_,rfl,?_⟩
  refine bJ (fun h2=>?_) (fun h2=>?_)
  rotate_left
  ·have e2:decide (x.length <= 8)=false:=decide_eq_false fun z=>h2 (decide_eq_true (by omega))
   rw[e2]
   exact⟨rfl,aB.refl _⟩
  have n2:x.length <= 8:=by have:=of_decide_eq_true h2;omega
  have e2:decide (x.length <= 8)=true:=decide_eq_true n2
  rw[e2,Bool.true_and]
  refine⟨_,rfl,_,rfl,fun D b hD=>?_⟩
  refine aqt (fun i ys σ H'=>∃ v,σ=[v,some (.str x)]/\H'=upd H D (.lst ys)/\ys=((x.cps.toList.take i).map fun c=>inS ⟨#[c]⟩ "abcdefghijklmnopqrstuvwxyz").map V.bl/\i <= x.cps.size) ⟨none,rfl,rfl,rfl,Nat.zero_le _⟩ ?_ ?_
  ·rintro i ys c σ H' hc ⟨v,rfl,rfl,rfl,hi⟩ N hN
   have hi2:i < x.cps.size:=(Array.getElem?_eq_some_iff.mp hc).1
   have hcm:x.cps.toList[i]? = some c:=by simpa using hc
   have sz:x.cps.size <= 8:=n2
   refine jF ?_
   refine⟨_,rfl,.inr ⟨_,_,rfl,rfl,ao,?_,?_⟩⟩
   ·rw[List.length_map,List.length_map,List.length_take]
    exact bx (by omega)
   ·refine hN _ _ _ ⟨_,rfl,eU,?_,hi2⟩
    rw[List.take_succ,hcm,List.map_append,List.map_append]
    rfl
  ·rintro ys σ H' ⟨v,rfl,rfl,rfl,hi⟩
   refine⟨rfl,D,_,rfl,bu.of ao,?_,aB.upd hD⟩
   rw[show x.cps.size=x.cps.toList.length from rfl,List.take_length]
   refine congrArg V.bl ?_
   rw[List.all_map]
   rfl
theorem arv {x:Str}{l:List V}(h:inV (.str x) l=true):V.str x∈l:=by
 unfold inV at h
 obtain⟨y,hy,e⟩:=List.any_eq_true.mp h
 cases y with
 | str z =>
  have:z=x:=by simpa [eqV] using e
  rw[← this]
  exact hy
 | _=>simp[eqV] at e
theorem akD {x:Str}{l:List V}(h:V.str x∈l):inV (.str x) l=true:=by
 unfold inV
 exact List.any_eq_true.mpr ⟨_,h,by simp[eqV]⟩
def Cv (vw:Vw)(n:Str):Option Rf:=if nameB n=false then some .amI else if (bM vw n).isSome then some .aef else if 12 <= vw.length then some .Full else none
theorem Yn {vw:Vw}{n:Str}(h:Cv vw n=none):nameB n=true/\bM vw n=none/\vw.length < 12:=by
 unfold Cv at h
 split at h
 ·cases h
 ·next h1 =>
  split at h
  ·cases h
  ·next h2 =>
   split at h
   ·cases h
   ·next h3=>exact⟨by simpa using h1,by cases e:bM vw n with | none=>rfl | some _=>rw[e] at h2;exact absurd rfl h2,by omega⟩
inductive zM (c:Cs)(vs:List V)(H:Hp)(Q:VK)(E:XK):Prop
 | mk (x:Addr) (F:Addr->Prop) (vw:Vw) (ps fs:List Vw) (n:Str) (fU:vs=[.ref x,.str n]) (fV:Nz c H x F vw ps fs) (iQ:n.length <= 1000) (nZ:match Cv vw n with
 | some r=>∀ H',aB H H'->RX E c r H'
 | none=>∀ H',aB H H'->Q .non H'):zM c vs H Q E
theorem zN (T:Txt K w mg t):bU P w K mg base jt (0+2) t.cU t.q8 ["self","name"] (zM (cs t)):=by
 have aod:=akC (P:=P) (w:=w) (base:=base) T
 have nR:=Cu (P:=P) (w:=w) (base:=base) T
 refine T.lK.ok N6 (fun vs H Q E h=>?_) (fun cdv A outer s H vs Q E hr h=>?_)
 ·obtain⟨_,_,_,_,_,_,rfl,_⟩:=h
  rfl
 ·obtain⟨x,F,vw,ps,fs,n,rfl,B,hlen,q⟩:=h
  refine bj (ak (bC (cz (bB (aC aod (hr.mono (by decide)) rfl T.akp T.En.kp T.Vl .nil aF (aa (pv 1) aj)))) (aq lU) aM) (ak (bC (aJ (eF.or eE) (pv 1) (ir (pv 0) T.aX T.vH nR (hr.mono (by decide)) T.nG .nil aF) rfl) (aq lU) aM) (aq (bC (aJ atU (aL (aN.or aO) rfl T.cB cA (aa (cY (pv 0) rfl) aj)) (cO (v:=.int 12) rfl T.ac5 ⟨_,rfl⟩) (aR _)) (aq lU) aM)))) ?_
  refine⟨_,rfl,n,rfl,hlen,fun H1 s1=>?_⟩
  unfold Cv at q
  refine⟨_,rfl,?_⟩
  cases hnb:nameB n with
  | false =>
   rw[if_pos hnb] at q
   have q:=q H1 s1
   exact wF (Bool.noConfusion (show false=true from q.1))
  | true =>
   rw[if_neg (by rw[hnb];decide)] at q
   refine cZ ?_
   have B1:=B.same s1
   obtain⟨L,D,U,all,M,Ps,Fs,es,us,b,i,pp,pf,f⟩:=B1.ex
   obtain⟨dx,hx⟩:=b.hx
   refine⟨_,rfl,_,rfl,x,dx,_,rfl,hx,xW _ _ _,?_⟩
   refine⟨x,F,vw,ps,fs,rfl,B1,fun l H2 hl s2 hl2=>?_⟩
   refine .inl ⟨l,_,rfl,.inl (bu.of hl2),rfl,?_,_,rfl,?_⟩
   ·rw[List.all_map]
    exact List.all_eq_true.mpr fun _ _=>rfl
   have mem:inV (.str n) (vw.map fun a=>V.str a.1)=true ↔ (bM vw n).isSome=true:=by
    constructor
    ·intro h
     obtain⟨a,ha,e⟩:=List.mem_map.mp (arv h)
     cases e2:bM vw n with
     | some _=>rfl
     | none=>exact absurd (V.str.inj e) (Fg e2 a ha)
    ·intro h
     cases e2:bM vw n with
     | none=>rw[e2] at h;cases h
     | some th=>exact akD (List.mem_map.mpr ⟨_,di e2,rfl⟩)
   refine bJ (fun h=>?_) (fun h=>?_)
   ·rw[if_pos (mem.mp h)] at q
    have q:=q H2 (s1.trans s2)
    exact (Bool.noConfusion (show false=true from q.1))
   rw[if_neg (fun z=>h (mem.mpr z))] at q
   refine⟨_,rfl,x,_,dx,_,_,rfl,s2 _ _ hx,T.aX,T.dg,yO _ _ _,?_⟩
   refine .inl ⟨L,M L,rfl,.inl (bu.of (s2 _ _ b.hL)),?_⟩
   refine⟨_,_,rfl,rfl,_,rfl,?_⟩
   have ll:=cj i
   refine bJ (fun h=>?_) (fun h=>?_)
   ·have h':=of_decide_eq_true h
    rw[if_pos (by omega)] at q
    have q:=q H2 (s1.trans s2)
    exact (Bool.noConfusion (show false=true from q.1))
   ·rw[if_neg (fun z=>h (decide_eq_true (by omega)))] at q
    exact q _ (s1.trans s2)
inductive JP (c:Cs)(vs:List V)(H:Hp)(Q:VK)(E:XK):Prop
 | mk (x dx L D U v:Addr) (xs ds us:List V) (fU:vs=[.ref x,.ref v]) (fV:H x=some (.ins c.B dx (Ra L D U))) (iQ:H L=some (.lst xs)) (nZ:H D=some (.lst ds)) (xM:H U=some (.lst us)) (h5_:L≠D) (h6_:L≠U) (h7_:D≠U) (h8_:xs.length <= 12) (h9_:ds.length <= 900) (azI:∀ (e:Dd) (H1 H':Hp),e.T=L->e.i=xs.length->e.bs=[]->e.as=[.ref v]->aB H H1->H e.B=none->H e.A=none->xX c.D H1 (.ref e.o) e->(∀ y o,H1 y=some o->y≠L->y≠D->y≠U->H' y=some o)->H' L=some (.lst (xs++[.ref v]))->H' D=some (.lst (ds++[.ref e.o]))->H' U=some (.lst [])->Q .non H'):JP c vs H Q E
theorem JQ (T:Txt K w mg t):bU P w K mg base jt (0+3) t.gf t.Cm ["self","voice"] (JP (cs t)):=by
 have gK:=pA (P:=P) (w:=w) (base:=base) T
 have fQ:=nQ (P:=P) (w:=w) (base:=base) T
 refine T.vI.ok aaf (fun vs H Q E h=>?_) (fun cdv A outer s H vs Q E hr h=>?_)
 ·obtain⟨_,_,_,_,_,_,_,_,_,rfl,_⟩:=h
  rfl
 ·obtain⟨x,dx,L,D,U,v,xs,ds,us,rfl,hx,hL,hD,hU,n1,n2,n3,hxs,hds,q⟩:=h
  refine bj (aq (bh (bL (pv 0) T.aX T.oZ gK (hr.mono (by decide)) T.jm .nil aF (aa (Ls T.Zv fQ (hr.mono (by decide)) rfl T.Zu T.gY .nil aF (aa (cY (pv 0) rfl) (aa (aL (aN.or aO) rfl T.cB cA (aa (cY (pv 0) rfl) aj)) (aa (bZ aj) (aa (bZ (aa (pv 1) aj)) aj))))) aj)))) ?_
  refine⟨_,rfl,x,dx,_,rfl,hx,qN _ _ _,?_⟩
  refine⟨_,rfl,x,_,dx,_,_,rfl,hx,T.aX,T.dg,yO _ _ _,?_⟩
  refine⟨_,rfl,x,_,dx,_,_,rfl,hx,T.aX,T.dg,yO _ _ _,?_⟩
  refine .inl ⟨L,xs,rfl,.inl (bu.of hL),?_⟩
  refine⟨big (by show 0 <= 1000;omega),fun B hB=>?_⟩
  refine⟨_,rfl,big (by show 1 <= 1000;omega),fun A_ hA=>?_⟩
  have hA0:=Zo hA
  have LA:L≠A_:=aD (aB.upd (o:=.lst []) hB _ _ hL) hA
  have sB:=(aB.upd (o:=.lst []) hB).trans (aB.upd (o:=.lst [V.ref v]) hA)
  have hB2:=aB.upd (o:=.lst [V.ref v]) hA _ _ (ao (H:=H) (a:=B) (o:=.lst []))
  have hA2:=ao (H:=upd H B (.lst [])) (a:=A_) (o:=.lst [V.ref v])
  generalize upd (upd H B (.lst [])) A_ (.lst [V.ref v])=H2 at sB hB2 hA2
  intro d dd nd ndd ne
  refine⟨d,dd,L,(xs.length:Int),B,A_,rfl,ao,rfl,?_⟩
  rw[eU]
  have s3:aB H2 (upd (upd H2 dd (.own d)) d (.ins t.bR dd (Z6 L (xs.length:Int) B A_))):=fun y o hy=>by
   rw[aA (aD hy nd),aA (aD hy ndd)]
   exact hy
  have hd3:=ao (H:=upd H2 dd (.own d)) (a:=d) (o:=.ins t.bR dd (Z6 L (xs.length:Int) B A_))
  generalize upd (upd H2 dd (.own d)) d (.ins t.bR dd (Z6 L (xs.length:Int) B A_))=H3 at s3 hd3
  have s4:=sB.trans s3
  refine⟨x,dx,L,D,U,d,dd,L,B,A_,xs.length,ds,us,xs,[],[.ref v],rfl,s4 _ _ hx,s4 _ _ hD,s4 _ _ hU,hd3,s4 _ _ hL,s3 _ _ hB2,s3 _ _ hA2,LA,n1,n2,n3,by simp,by simp;omega,hds,?_⟩
  refine q ⟨d,dd,L,xs.length,B,A_,[],[.ref v]⟩ H3 _ rfl rfl rfl rfl s4 hB hA0 ⟨rfl,hd3,s3 _ _ hB2,s3 _ _ hA2⟩ (fun y o hy y1 y2 y3=>?_) ?_ ?_ ao
  ·rw[aA y3,aA y2,aA y1]
   exact hy
  ·rw[aA n2,aA n1,ao]
   simp
  ·rw[aA n3,ao]
inductive M8 (C:Addr)(vs:List V)(H:Hp)(Q:VK)(E:XK):Prop
 | mk (x dx:Addr) (n:Str) (tm:V) (fU:vs=[.ref x,.str n,tm]) (fV:H x=some (.ins C dx [])) (iQ:∀ (L:Addr) (H':Hp),(∀ y o,H y=some o->y≠x->H' y=some o)->H L=none->L≠x->H' x=some (.ins C dx (voF n tm L))->H' L=some (.lst [])->Q .non H'):M8 C vs H Q E
theorem Bp (T:Txt K w mg t):bU P w K mg base jt (0+1) t.dj t.uB ["self","name","terms"] (M8 t.eV):=by
 refine T.nH.ok Rp (fun vs H Q E h=>?_) (fun cdv A outer s H vs Q E hr h=>?_)
 ·obtain⟨_,_,_,_,rfl,_⟩:=h
  rfl
 ·obtain⟨x,dx,n,tm,rfl,hx,q⟩:=h
  refine bj (ak (BW (pv 0) (pv 1) rfl) (ak (BW (pv 0) (pv 2) rfl) (aq (BW (pv 0) (bZ aj) rfl)))) ?_
  refine⟨_,rfl,_,rfl,x,_,dx,_,rfl,hx,T.jZ,T.iW,by show 0 < 1000;decide,?_⟩
  refine⟨_,rfl,_,rfl,x,_,dx,_,rfl,ao,T.jZ,T.gG,by rw[ae8];show 1 < 1000;decide,?_⟩
  refine⟨big (by show 0 <= 1000;omega),fun L hL=>?_⟩
  rw[eU] at hL
  have nx:x≠L:=fun e=>by rw[← e,ao] at hL;cases hL
  have hL0:H L=none:=by rw[aA (Ne.symm nx)] at hL;exact hL
  refine⟨_,rfl,x,_,dx,_,rfl,by rw[aA nx,eU];exact ao,T.jZ,T.c7,by rw[ae8,amF];show 2 < 1000;decide,?_⟩
  rw[ae8,amF,as3]
  simp only [eU]
  refine q L _ (fun y o hy ny=>?_) hL0 (Ne.symm nx) ao ?_
  ·rw[aA ny,aA (aD hy hL0),aA ny];exact hy
  ·rw[aA (Ne.symm nx)];exact ao
inductive Br (c:Cs)(vs:List V)(H:Hp)(Q:VK)(E:XK):Prop
 | mk (x:Addr) (F:Addr->Prop) (vw:Vw) (ps fs:List Vw) (n:Str) (fU:vs=[.ref x,.str n]) (fV:Nz c H x F vw ps fs) (iQ:n.length <= 1000) (nZ:ps.length <= 900) (xM:match Cv vw n with
 | some r=>∀ H',aB H H'->RX E c r H'
 | none=>∀ F' H',Gr F F' H->Fr F H H'->Nz c H' x F' (vw++[(n,.pl [])]) (ps++[vw]) []->Q .non H'):Br c vs H Q E
theorem Su (T:Txt K w mg t):bU P w K mg base jt (0+4) t.dm t.uC ["self","name"] (Br (cs t)):=by
 have rP:=zN (P:=P) (w:=w) (base:=base) T
 have Cw:=JQ (P:=P) (w:=w) (base:=base) T
 have uL:=Bp (P:=P) (w:=w) (base:=base) T
 refine T.nM.ok Rq (fun vs H Q E h=>?_) (fun cdv A outer s H vs Q E hr h=>?_)
 ·obtain⟨_,_,_,_,_,_,rfl,_⟩:=h
  rfl
 ·obtain⟨x,F,vw,ps,fs,n,rfl,B,hlen,hps,q⟩:=h
  refine bj (ak (bh (bL (pv 0) T.aX T.zA rP (hr.mono (by decide)) T.lL .nil aF (aa (pv 1) aj))) (aq (bh (bL (pv 0) T.aX T.JD Cw (hr.mono (by decide)) T.vJ .nil aF (aa (Ls T.aiE uL (hr.mono (by decide)) rfl T.aiD T.nJ .nil aF (aa (pv 1) (aa Ni aj))) aj))))) ?_
  obtain⟨L,D,U,all,M,Ps,Fs,es,us,b,i,pp,pf,f⟩:=B.ex
  obtain⟨dx,hx⟩:=b.hx
  refine⟨_,rfl,x,dx,_,rfl,hx,Am _ _ _,_,rfl,x,F,vw,ps,fs,n,rfl,B,hlen,?_⟩
  cases ho:Cv vw n with
  | some r =>
   rw[ho] at q
   intro H' s'
   have q:=q H' s'
   exact (Bool.noConfusion (show false=true from q.1))
  | none =>
   rw[ho] at q
   obtain⟨_,hf,av0⟩:=Yn ho
   intro H1 s1
   have b1:=b.kept f (.same s1)
   obtain⟨ds,hD,pD⟩:=b1.hD
   obtain⟨ux,hU,pU⟩:=b1.hU
   have ll:=cj i
   have dl:=cj pD
   have pl:=cj pp
   have pe:=b.past.len
   refine⟨_,rfl,x,dx,_,rfl,s1 _ _ hx,MJ _ _ _,_,rfl,?_⟩
   intro v dv nv ndv ne
   refine⟨v,dv,n,.non,rfl,ao,fun l H2 kp hl hlv hv2 hl2=>⟨rfl,?_⟩⟩
   have s2:aB H1 H2:=fun y o hy=>kp y o (by rw[aA (aD hy nv),aA (aD hy ndv)];exact hy) (aD hy nv)
   have hl1:H1 l=none:=aab hl
   refine⟨x,dx,L,D,U,v,M L,ds,ux,rfl,s2 _ _ (s1 _ _ hx),s2 _ _ b1.hL,s2 _ _ hD,s2 _ _ hU,b.LD,b.LU,b.DU,by omega,by omega,fun e H3 H' eT ei eb ea s3 nB nA hd fr hL' hD' hU'=>?_⟩
   obtain⟨F',g,fr',B'⟩:=Bk.added b1 (Is.kept (F:=F) (.same s1) i) (cu (fun _ _ q=>Is.kept (F:=F) (.same s1) q) pp) f B.wv (a:=⟨v,dv,n,.non,l⟩) (th:=.pl []) s2 nv hl1 hv2 hl2 (fun M' h0=>⟨rfl,by rw[h0];exact .nil⟩) ((B.wv vw (.inr (.inl rfl))).axq (Fg hf) av0) eT ei eb ea s3 nB nA hd hD pD fr hL' hD' hU'
   exact q F' H' (g.old s1) (fun y o hy hn=>fr' y o (s1 y o hy) hn) B'
def Cy (lt sl:Int):Prop:=0 <= lt/\lt <= 999/\1 <= sl/\sl <= 9
instance (lt sl:Int):Decidable (Cy lt sl):=by unfold Cy;exact inferInstance
inductive Bs (c:Cs)(vs:List V)(H:Hp)(Q:VK)(E:XK):Prop
 | mk (x:Addr) (F:Addr->Prop) (vw:Vw) (ps fs:List Vw) (n ld:Str) (lt sl:Int) (tn:Bool) (fU:vs=[.ref x,.str n,.str ld,.int lt,.int sl,.bl tn]) (fV:Nz c H x F vw ps fs) (iQ:n.length <= 1000) (nZ:ps.length <= 900) (xM:match Cv vw n with
 | some r=>∀ H',aB H H'->RX E c r H'
 | none=>match bM vw ld with
  | none=>∀ H',aB H H'->RX E c .vD H'
  | some (.cn _ _ _ _)=>∀ H',aB H H'->RX E c .Dw H'
  | some (.pl _)=>(¬ Cy lt sl->∀ H',aB H H'->RX E c .amJ H')/\(Cy lt sl->∀ F' H',Gr F F' H->Fr F H H'->Nz c H' x F' (vw++[(n,.cn ld lt sl tn)]) (ps++[vw]) []->Q .non H')):Bs c vs H Q E
theorem Sv (T:Txt K w mg t):bU P w K mg base jt (0+4) t.dq t.nj ["self","name","leader","later","slow","is_turned"] (Bs (cs t)):=by
 have rP:=zN (P:=P) (w:=w) (base:=base) T
 have dh:=jd (P:=P) (w:=w) (base:=base) T
 have Cw:=JQ (P:=P) (w:=w) (base:=base) T
 have uL:=Bp (P:=P) (w:=w) (base:=base) T
 refine T.jq.ok Rr (fun vs H Q E h=>?_) (fun cdv A outer s H vs Q E hr h=>?_)
 ·obtain⟨_,_,_,_,_,_,_,_,_,_,rfl,_⟩:=h
  rfl
 ·obtain⟨x,F,vw,ps,fs,n,ld,lt,sl,tn,rfl,B,hlen,hps,q⟩:=h
  refine bj (ak (bh (bL (pv 0) T.aX T.zA rP (hr.mono (by decide)) T.lL .nil aF (aa (pv 1) aj))) (ak (bh (bL (pv 0) T.aX T.jc dh (hr.mono (by decide)) T.eQ .nil aF (aa (pv 2) aj))) (ak (bC (cz (cG (PW.pt (fL (QX Im Im az (pv 3) (cO (v:=.int 999) rfl T.aq2 ⟨_,rfl⟩)) (ig (QX Im Im az (pv 4) (cO (v:=.int 9) rfl T.anS ⟨_,rfl⟩))))))) (aq lU) aM) (aq (bh (bL (pv 0) T.aX T.JD Cw (hr.mono (by decide)) T.vJ .nil aF (aa (Ls T.aiE uL (hr.mono (by decide)) rfl T.aiD T.nJ .nil aF (aa (pv 1) (aa (gA (aa (pv 2) (aa (pv 3) (aa (pv 4) (aa (pv 5) aj))))) aj))) aj))))))) ?_
  obtain⟨L,D,U,all,M,Ps,Fs,es,us,b,i,pp,pf,f⟩:=B.ex
  obtain⟨dx,hx⟩:=b.hx
  have wv:=B.wv vw (.inr (.inl rfl))
  refine⟨_,rfl,x,dx,_,rfl,hx,Am _ _ _,_,rfl,x,F,vw,ps,fs,n,rfl,B,hlen,?_⟩
  cases ho:Cv vw n with
  | some r =>
   rw[ho] at q
   intro H' s'
   have q:=q H' s'
   exact (Bool.noConfusion (show false=true from q.1))
  | none =>
   rw[ho] at q
   obtain⟨_,hf,av0⟩:=Yn ho
   intro H1 s1
   have b1:=b.kept f (.same s1)
   have i1:Is H1 L all M vw:=Is.kept (F:=F) (.same s1) i
   obtain⟨vx,g,gv⟩:=b1.IW i1
   have hx1:=s1 _ _ hx
   refine⟨_,rfl,x,dx,_,rfl,hx1,jJ _ _ _,_,rfl,x,dx,L,D,U,M L,vx,ld,rfl,hx1,b1.hL,g,?_⟩
   rcases aac gv (fun _ _ r=>r.2.1) ld with ⟨f1,f2⟩ | ⟨a,th,j,f1,f2,r,an,fj,fw⟩
   ·rw[f1]
    rw[f2] at q
    have q:=q H1 s1
    exact (Bool.noConfusion (show false=true from q.1))
   rw[f1]
   rw[f2] at q
   cases th with
   | cn ld2 lt2 sl2 tn2 =>
    obtain⟨pt,hpt,_⟩:=r.2.2
    have q:=q H1 s1
    refine⟨(fun z=>by rw[hpt] at z;cases z),(fun _ _=>(Bool.noConfusion (show false=true from q.1))),.inr ⟨pt,hpt⟩⟩
   | pl ss =>
    obtain⟨htm,hg⟩:=r.2.2
    obtain⟨q1,q2⟩:=q
    refine⟨fun _=>?_,(fun pz z=>by rw[htm] at z;cases z),.inl htm⟩
    refine⟨fun bb H'=>bb=decide (Cy lt sl)/\H'=H1,?_,?_⟩
    ·refine⟨_,rfl,_,_,rfl,rfl,_,rfl,?_⟩
     refine bJ (fun h1=>?_) (fun h1=>?_)
     rotate_left
     ·have e:decide (Cy lt sl)=false:=decide_eq_false fun z=>h1 (decide_eq_true z.1)
      rw[e]
      exact⟨_,rfl,cZ ⟨rfl,rfl⟩⟩
     refine⟨_,_,rfl,rfl,_,rfl,?_⟩
     refine bJ (fun h2=>?_) (fun h2=>?_)
     rotate_left
     ·have e:decide (Cy lt sl)=false:=decide_eq_false fun z=>h2 (decide_eq_true z.2.1)
      rw[e]
      exact⟨rfl,rfl⟩
     refine⟨_,rfl,_,_,rfl,rfl,_,rfl,?_⟩
     refine bJ (fun h3=>?_) (fun h3=>?_)
     rotate_left
     ·have e:decide (Cy lt sl)=false:=decide_eq_false fun z=>h3 (decide_eq_true z.2.2.1)
      rw[e]
      exact⟨_,rfl,rfl,rfl⟩
     refine⟨_,_,rfl,rfl,_,rfl,?_,rfl⟩
     refine decide_eq_decide.mpr ⟨fun z=>⟨of_decide_eq_true h1,of_decide_eq_true h2,of_decide_eq_true h3,z⟩,fun z=>z.2.2.2⟩
    intro bb H1' ⟨e1,e2⟩
    rw[e1,e2]
    by_cases hok:Cy lt sl
    rotate_left
    ·rw[decide_eq_false hok]
     have q:=q1 hok H1 s1
     exact wF (Bool.noConfusion (show false=true from q.1))
    rw[decide_eq_true hok]
    refine cZ ?_
    obtain⟨ds,hD,pD⟩:=b1.hD
    obtain⟨ux,hU,pU⟩:=b1.hU
    have ll:=cj i
    have dl:=cj pD
    have pl:=cj pp
    have pe:=b.past.len
    refine⟨_,rfl,x,dx,_,rfl,hx1,MJ _ _ _,_,rfl,_,rfl,_,rfl,_,rfl,_,rfl,(by show 4 <= sizeLine;decide),fun tp htp=>?_⟩
    have st:=aB.upd (o:=.tup [V.str ld,V.int lt,V.int sl,V.bl tn]) htp
    have ax4:=ao (H:=H1) (a:=tp) (o:=.tup [V.str ld,V.int lt,V.int sl,V.bl tn])
    generalize upd H1 tp (.tup [V.str ld,V.int lt,V.int sl,V.bl tn])=H1t at st ax4
    intro v dv nv ndv ne
    refine⟨v,dv,n,.ref tp,rfl,ao,fun l H2 kp hl hlv hv2 hl2=>⟨rfl,?_⟩⟩
    have s2t:aB H1t H2:=fun y o hy=>kp y o (by rw[aA (aD hy nv),aA (aD hy ndv)];exact hy) (aD hy nv)
    have s2:=st.trans s2t
    have hl1:H1 l=none:=st.free (aab hl)
    refine⟨x,dx,L,D,U,v,M L,ds,ux,rfl,s2 _ _ hx1,s2 _ _ b1.hL,s2 _ _ hD,s2 _ _ hU,b.LD,b.LU,b.DU,by omega,by omega,fun e H3 H' eT ei eb ea s3 nB nA hd fr hL' hD' hU'=>?_⟩
    obtain⟨F',gr,fr',B'⟩:=Bk.added b1 i1 (cu (fun _ _ q=>Is.kept (F:=F) (.same s1) q) pp) f B.wv (a:=⟨v,dv,n,.ref tp,l⟩) (th:=.cn ld lt sl tn) s2 (st.free nv) hl1 hv2 hl2 (fun M' h0=>⟨tp,rfl,s2t _ _ ax4⟩) (wv.axr (Fg hf) av0 (di f2) hok.1 hok.2.1 hok.2.2.1 hok.2.2.2) eT ei eb ea s3 nB nA hd hD pD fr hL' hD' hU'
    exact q2 hok F' H' (gr.old s1) (fun y o hy hn=>fr' y o (s1 y o hy) hn) B'
theorem aoe {vw:Vw}{n:Str}{a b:Th}(h:∀ q∈vw,q.1≠n):Dv (vw++[(n,a)]) n b=vw++[(n,b)]:=by
 unfold Dv
 rw[List.map_append]
 have e1:vw.map (fun q=>if q.1=n then (n,b) else q)=vw:=by
  conv=>rhs;rw[← List.map_id vw]
  exact List.map_congr_left fun q hq=>if_neg (h q hq)
 have e2:[(n,a)].map (fun q:Str×Th=>if q.1=n then (n,b) else q)=[(n,b)]:=by
  show [if n=n then (n,b) else (n,a)]=_
  rw[if_pos rfl]
 rw[e2]
 exact congrArg (· ++ [(n,b)]) e1
theorem aeF {vw:Vw}{n:Str}(h:nameB n=true)(hn:∀ q∈vw,q.1≠n)(hl:vw.length < 12):Cv vw n=none:=by
 have hf:bM vw n=none:=by
  cases e:bM vw n with
  | none=>rfl
  | some th=>exact absurd rfl (hn _ (di e))
 unfold Cv
 rw[if_neg (by rw[h];decide),hf,if_neg (by simp),if_neg (by omega)]
theorem aof {vw:Vw}{n:Str}{a:Th}(h:∀ q∈vw,q.1≠n):bM (vw++[(n,a)]) n=some a:=by
 unfold bM
 rw[List.find?_append,List.find?_eq_none.mpr (fun q hq e=>h q hq (of_decide_eq_true e))]
 rw[Option.none_or,List.find?_cons_of_pos (p:=fun q:Str×Th=>decide (q.1=n)) (decide_eq_true rfl)]
 rfl
theorem arw {ss:List Sg}{i:Nat}{s:Sg}(h:ss[i]? = some s):(ss.take i).take i++[s]++(ss.take i).drop i=ss.take (i+1):=by
 rw[List.take_take,Nat.min_self,List.drop_eq_nil_of_le (by rw[List.length_take];omega),List.append_nil,List.take_succ,h]
 rfl
theorem aog {vw:Vw}{i:Nat}{q:Str×Th}(h:vw[i]? = some q):vw.take (i+1)=vw.take i++[q]:=by
 rw[List.take_succ,h];rfl
theorem arx {vw:Vw}(nd:(vw.map (·.1)).Nodup){i:Nat}{q:Str×Th}(h:vw[i]? = some q):∀ p∈vw.take i,p.1≠q.1:=fun p hp e=>by
 obtain⟨j,hj⟩:=List.getElem?_of_mem hp
 have hji:j < i:=by
  have:=(List.getElem?_eq_some_iff.mp hj).1
  rw[List.length_take] at this
  omega
 rw[List.getElem?_take_of_lt hji] at hj
 have e1:(vw.map (·.1))[j]? = some q.1:=by rw[List.getElem?_map,hj,← e];rfl
 have e2:(vw.map (·.1))[i]? = some q.1:=by rw[List.getElem?_map,h];rfl
 have:=Rc nd e1 e2
 omega
inductive Sw (K:Frag)(c:Cs)(vs:List V)(H:Hp)(Q:VK)(E:XK):Prop
 | mk (x tl:Addr) (H0:Hp) (vw:Vw) (fU:vs=[.ref x,.ref tl]) (fV:Bw c H0 H x [] [] [] []) (iQ:t7 H0 tl vw) (nZ:aeh vw) (xM:∀ (H':Hp) (ps:List Vw),Bw c H0 H' x [] vw ps (if vw.length < 12 then [afy vw] else [])->ps.length <= 400->(vw≠[]->∃ X4,ps=X4++[jL vw])->Q (.ref x) H'):Sw K c vs H Q E
theorem afF (T:Txt K w mg t):bU P w K mg base jt (0+5) t.mH t.Jr ["_law_book","_law_told"] (Sw K (cs t)):=by
 have Eu:=Su (P:=P) (w:=w) (base:=base) T
 have Bj:=yj (P:=P) (w:=w) (base:=base) T
 have mW:=Gm (P:=P) (w:=w) (base:=base) T
 have Vr:=Sv (P:=P) (w:=w) (base:=base) T
 have Oq:=Yg (P:=P) (w:=w) (base:=base) T
 refine T.vZ.ok qT (fun vs H Q E h=>?_) (fun cdv A outer s H vs Q E hr h=>?_)
 ·obtain⟨_,_,_,_,rfl,_⟩:=h
  rfl
 ·obtain⟨x,tl,H0,vw,rfl,B,⟨ys,ht,pvt⟩,ek,q⟩:=h
  refine bj (ak (gw PassesOwn.never rfl (ik (pv 1)) (kE rfl (bD (aY (i:=2) qT.nd rfl (Or.inl rfl)) (bD (aY (i:=3) qT.nd rfl (Or.inl rfl)) gM))) (aq (bC (bB (aL cQ rfl T.bG bF (aa (pv 3) (aa (dW (v:=.ty "tuple") rfl T.RG Q8 rfl) aj)))) (aq (bh (bL (pv 0) T.aX T.RD Vr (hr.mono (by decide)) T.uH .nil aF (aa (pv 2) (aa (bH bc (pv 3) az (fun _ _=>rfl)) (aa (bH bc (pv 3) az (fun _ _=>rfl)) (aa (bH bc (pv 3) az (fun _ _=>rfl)) (aa (bH bc (pv 3) az (fun _ _=>rfl)) aj)))))))) (ak (bh (bL (pv 0) T.aX T.Bf Eu (hr.mono (by decide)) T.nP .nil aF (aa (pv 2) aj))) (aq (gw PassesOwn.never rfl (amx rfl T.Gj (pv 3)) (kE rfl (bD (aY (i:=4) qT.nd rfl (Or.inl rfl)) (bD (aY (i:=5) qT.nd rfl (Or.inl rfl)) gM))) (aq (bh (bL (pv 0) T.aX T.X8 Oq (hr.mono (by decide)) T.Ga .nil aF (aa (pv 2) (aa (pv 4) (aa (pv 5) aj)))))))))))) (ak (qJ (bC (aJ Dp (aL (aN.or aO) rfl T.cB cA (aa (pv 1) aj)) az (aR _)) (ak (bh (bL (pv 0) T.aX T.Bf Eu (hr.mono (by decide)) T.nP .nil aF (aa cF aj))) (aq (bh (ir (pv 0) T.aX T.rB mW (hr.mono (by decide)) T.mK .nil aF)))) aM)) (aq (aG (pv 0))))) ?_
  have yl:=cj pvt
  have wl:=ek.w.len
  tm_up
  refine⟨⟨_,bu.of (B.sm _ _ ht)⟩,vM (K:=K) (xs:=ys) (fun i σ H'=>∃ (v2 v3 v4 v5:Option V) (ps:List Vw),σ=[some (.ref x),some (.ref tl),v2,v3,v4,v5]/\Bw (cs t) H0 H' x [] (vw.take i) ps []/\ps.length <= 26 * i/\i <= vw.length/\(0 < i->∃ X4,ps=X4++[jL (vw.take i)])) ⟨none,none,none,none,[],rfl,B,Nat.le_refl _,Nat.zero_le _,fun z=>absurd z (by decide)⟩ ?_ ?_ ?_⟩
  ·rintro i σ H' _ ⟨v2,v3,v4,v5,ps,rfl,B1,_⟩
   exact bu.of (B1.sm _ _ ht)
  ·rintro i y σ H1 hy ⟨v2,v3,v4,v5,ps,rfl,B1,pl1,il,_⟩
   obtain⟨⟨n,th⟩,hq,p,v,rfl,hp,hv⟩:=Cd pvt hy
   have il2:i < vw.length:=(List.getElem?_eq_some_iff.mp hq).1
   have til:(vw.take i).length=i:=by rw[List.length_take];omega
   obtain⟨nb,_,auD⟩:=ek.nm _ (List.mem_of_getElem? hq)
   have nn:=arx ek.w.nd hq
   have no:=aeF nb nn (by omega)
   obtain⟨dx,L,D,U,hx⟩:=B1.hx
   obtain⟨F1,b1,f1,z1,o1⟩:=B1.ex
   have hp1:=B1.sm _ _ hp
   rw[aog hq]
   refine⟨p,_,rfl,pP.of hp1,rfl,_,_,rfl,_,_,rfl,rfl,?_⟩
   cases th with
   | cn ld lt sl tn =>
    obtain⟨tp,rfl,htp⟩:=hv
    have ht1:=B1.sm _ _ htp
    obtain⟨ss,hss⟩:=ek.ld i n ld lt sl tn hq
    have hfl:=(Lz.take ek i).find hss
    have tk:Cy lt sl:=(ek.w.ld _ _ _ _ _ (List.mem_of_getElem? hq)).2
    tm_up
    refine⟨_,_,_,_,rfl,gQ.tup ht1,rfl,_,rfl,wF ?_⟩
    refine⟨_,rfl,x,dx,_,rfl,hx,Uz _ _ _,_,rfl,_,rfl,R8 (i:=0) ht1 rfl ?_⟩
    refine⟨_,rfl,R8 (i:=1) ht1 rfl ?_⟩
    refine⟨_,rfl,R8 (i:=2) ht1 rfl ?_⟩
    refine⟨_,rfl,R8 (i:=3) ht1 rfl ?_⟩
    refine⟨x,F1,_,ps,[],n,ld,lt,sl,tn,rfl,b1,auD,by omega,?_⟩
    rw[no,hfl]
    refine⟨fun z=>absurd tk z,fun _ F7 H7 gr7 fr7 b7=>?_⟩
    obtain⟨B7,k7⟩:=Bw.mk' b7 B1.sm f1 z1 o1 gr7 fr7
    exact⟨_,_,_,_,_,rfl,B7,by rw[List.length_append];show ps.length+1 <= _;omega,il2,fun _=>⟨ps,by rw[aeE]⟩⟩
   | pl ss =>
    obtain⟨l,zs,rfl,hl,g⟩:=hv
    have hl1:=B1.sm _ _ hl
    tm_up
    refine⟨_,_,_,_,rfl,gQ.lst hl1,rfl,_,rfl,cZ ?_⟩
    have s24:=ek.sh n ss (List.mem_of_getElem? hq)
    have gdS:=(ek.w.gd n ss (List.mem_of_getElem? hq)).2
    have zl:=cj g
    refine⟨_,rfl,x,dx,_,rfl,hx,Du _ _ _,_,rfl,?_⟩
    refine⟨x,F1,_,ps,[],n,rfl,b1,auD,by omega,?_⟩
    rw[no]
    intro F2 H2 gr2 fr2 b2
    obtain⟨B2,k2⟩:=Bw.mk' b2 B1.sm f1 z1 o1 gr2 fr2
    clear b1 f1 z1 o1 gr2 fr2 b2 k2 hx
    refine⟨_,rfl,l,rfl,⟨_,bu.of (B2.sm _ _ hl)⟩,aie (K:=K) (xs:=zs) (fun j σ H'=>∃ (v4 v5:Option V) (ps':List Vw),σ=[some (.ref x),some (.ref tl),some (.str n),some (.ref l),v4,v5]/\Bw (cs t) H0 H' x [] (vw.take i++[(n,.pl (ss.take j))]) ps' []/\ps'.length=ps.length+1+j/\j <= ss.length/\∃ X4,ps'=X4++[jL (vw.take i++[(n,.pl (ss.take j))])]) ⟨_,_,ps++[vw.take i],rfl,B2,by simp,Nat.zero_le _,ps,by rw[show ss.take 0=[] from rfl,aa3]⟩ ?_ ?_ ?_⟩
    ·rintro j σ H3 ⟨_,_,ps',rfl,B3,_⟩
     exact bu.of (B3.sm _ _ hl)
    ·rintro j y τ σ H3 hy3 ⟨_,_,ps',rfl,B3,pl3,jl,_⟩ hτ
     obtain⟨sg,hsg,pp,rfl,hpp⟩:=Cd g hy3
     have hj:j < ss.length:=(List.getElem?_eq_some_iff.mp hsg).1
     have s4:=aB.upd (o:=.tup [.int (j:Int),.ref pp]) hτ
     have aBq:=ao (H:=H3) (a:=τ) (o:=.tup [.int (j:Int),.ref pp])
     generalize upd H3 τ (.tup [.int (j:Int),.ref pp])=H4 at s4 aBq
     have B4:=B3.same s4
     obtain⟨dx4,L4,D4,U4,hx4⟩:=B4.hx
     obtain⟨F4,b4,f4,z4,o4⟩:=B4.ex
     have tjl:(ss.take j).length=j:=by rw[List.length_take];omega
     refine⟨τ,_,rfl,pP.of aBq,rfl,_,_,rfl,_,_,rfl,rfl,?_⟩
     refine⟨_,rfl,x,dx4,_,rfl,hx4,Z9 _ _ _,_,rfl,_,rfl,_,rfl,?_⟩
     refine⟨x,F4,_,ps',[],n,(j:Int),pp,(sg.1.str,sg.2),rfl,b4,B4.sm _ _ hpp,by omega,?_⟩
     rw[aof nn]
     have gd:=amL (gdS sg (List.mem_of_getElem? hsg))
     refine⟨(fun z=>absurd ⟨by omega,by rw[tjl];omega⟩ z),(fun _ z=>by rw[gd] at z;cases z),(fun _ _ z=>by rw[tjl] at z;omega),fun _ _ _ s9 w F9 H9 e1 e2 gr9 fr9 b9=>?_⟩
     have es:s9=sg:=Prod.ext (str_inj.mp e1) e2
     subst es
     rw[Int.toNat_natCast,arw hsg,aoe nn] at b9
     obtain⟨B9,k9⟩:=Bw.mk' b9 B4.sm f4 z4 o4 gr9 fr9
     exact⟨_,_,_,rfl,B9,by rw[List.length_append];show ps'.length+1=_;omega,hj,ps',by rw[aoc _ _ hsg]⟩
    ·rintro σ H3 ⟨_,_,ps',rfl,B3,pl3,jl,X4,e0⟩
     rw[zl,List.take_length] at B3 e0
     exact⟨_,_,_,_,ps',rfl,B3,by rw[zl] at pl3;omega,il2,fun _=>⟨X4,e0⟩⟩
  ·rintro σ H1 ⟨v2,v3,v4,v5,ps,rfl,B1,pl1,_,bf⟩
   rw[yl,List.take_length] at B1 bf
   have bf':vw≠[]->∃ X4,ps=X4++[jL vw]:=fun hne=>bf (by
    cases vw with
    | nil=>exact absurd rfl hne
    | cons _ _=>exact Nat.succ_pos _)
   have zn:∀ q∈vw,q.1 ≠ "zed":=fun q hq=>(ek.nm q hq).2.1
   refine⟨fun σ H'=>σ=[some (.ref x),some (.ref tl),v2,v3,v4,v5]/\Bw (cs t) H0 H' x [] vw ps (if vw.length < 12 then [afy vw] else []),?_,?_⟩
   ·tm_up
    refine .inl ⟨tl,ys,rfl,.inl (bu.of (B1.sm _ _ ht)),?_⟩
    tm_up
    refine bJ (fun hlt=>?_) (fun hlt=>?_)
    ·have hlt':vw.length < 12:=by have:=of_decide_eq_true hlt;omega
     obtain⟨dx,L,D,U,hx⟩:=B1.hx
     obtain⟨F1,b1,f1,z1,o1⟩:=B1.ex
     refine⟨_,rfl,x,dx,_,rfl,hx,Du _ _ _,?_⟩
     refine⟨x,F1,_,ps,[],"zed",rfl,b1,by decide +kernel,by omega,?_⟩
     rw[aeF (by decide +kernel) zn hlt']
     intro F2 H2 gr2 fr2 b2
     obtain⟨B2,k2⟩:=Bw.mk' b2 B1.sm f1 z1 o1 gr2 fr2
     obtain⟨dx2,L2,D2,U2,hx2⟩:=B2.hx
     obtain⟨F3,b3,f3,z3,o3⟩:=B2.ex
     refine⟨_,rfl,x,dx2,_,rfl,hx2,vO _ _ _,?_⟩
     refine⟨x,F3,_,_,[],rfl,b3,by rw[List.length_append];show ps.length+1+0 <= 900;omega,(fun z=>by simp at z),fun X4 v0 e0 H4 fr4 b4=>?_⟩
     obtain⟨e01,e02⟩:=qO e0
     subst e01 e02
     obtain⟨B4,k4⟩:=Bw.mk' b4 B2.sm f3 z3 o3 (Gr.refl _ _) fr4
     exact⟨rfl,by rw[if_pos hlt'];exact B4⟩
    ·have hlt':¬ vw.length < 12:=fun z=>hlt (decide_eq_true (by omega))
     exact⟨rfl,by rw[if_neg hlt'];exact B1⟩
   rintro _ H2 ⟨rfl,B2⟩
   tm_up
   exact q H2 ps B2 (by omega) bf'
inductive Sx (C:Addr)(vs:List V)(H:Hp)(Q:VK)(E:XK):Prop
 | mk (x dx:Addr) (fU:vs=[.ref x]) (fV:H x=some (.ins C dx [])) (iQ:∀ (L D U:Addr) (H':Hp),(∀ y o,H y=some o->y≠x->H' y=some o)->H L=none->H D=none->H U=none->L≠D->L≠U->D≠U->H' x=some (.ins C dx (Ra L D U))->H' L=some (.lst [])->H' D=some (.lst [])->H' U=some (.lst [])->Q .non H'):Sx C vs H Q E
theorem Vs (T:Txt K w mg t):bU P w K mg base jt (0+1) t.dR t.wI ["self"] (Sx t.bI):=by
 refine T.ph.ok U0 (fun vs H Q E h=>?_) (fun cdv A outer s H vs Q E hr h=>?_)
 ·obtain⟨_,_,rfl,_⟩:=h
  rfl
 ·obtain⟨x,dx,rfl,hx,q⟩:=h
  refine bj (ak (BW (pv 0) (bZ aj) rfl) (ak (BW (pv 0) (bZ aj) rfl) (aq (BW (pv 0) (bZ aj) rfl)))) ?_
  refine⟨big (by show 0 <= 1000;omega),fun L hL=>?_⟩
  have xL:x≠L:=aD hx hL
  refine⟨_,rfl,x,_,dx,_,rfl,by rw[aA xL];exact hx,T.aX,T.dg,by show 0 < 1000;decide,?_⟩
  refine⟨big (by show 0 <= 1000;omega),fun D hD=>?_⟩
  have xD:x≠D:=aD ao hD
  have DL:L≠D:=aD (show upd (upd H L (.lst [])) x _ L=some (.lst []) by rw[aA (Ne.symm xL)];exact ao) hD
  have hD0:H D=none:=by rw[aA (Ne.symm xD),aA (Ne.symm DL)] at hD;exact hD
  refine⟨_,rfl,x,_,dx,_,rfl,by rw[aA xD];exact ao,T.aX,T.fY,by rw[afb];show 1 < 1000;decide,?_⟩
  refine⟨big (by show 0 <= 1000;omega),fun U hU=>?_⟩
  have xU:x≠U:=aD ao hU
  have DU:D≠U:=by
   rintro rfl
   rw[aA (Ne.symm xU),ao] at hU
   cases hU
  have LU:L≠U:=by
   rintro rfl
   rw[aA (Ne.symm xU),aA DL,aA (Ne.symm xU),ao] at hU
   cases hU
  have hU0:H U=none:=by rw[aA (Ne.symm xU),aA (Ne.symm DU),aA (Ne.symm xU),aA (Ne.symm LU)] at hU;exact hU
  refine⟨_,rfl,x,_,dx,_,rfl,by rw[aA xU];exact ao,T.aX,T.dJ,by rw[afb,amH];show 2 < 1000;decide,?_⟩
  rw[afb,amH,as5]
  refine q L D U _ (fun y o hy ny=>?_) hL hD0 hU0 DL LU DU ao ?_ ?_ ?_
  ·rw[aA ny,aA (aD hy hU0),aA ny,aA (aD hy hD0),aA ny,aA (aD hy hL)];exact hy
  ·rw[aA (Ne.symm xL),aA LU,aA (Ne.symm xL),aA DL,aA (Ne.symm xL)];exact ao
  ·rw[aA (Ne.symm xD),aA DU,aA (Ne.symm xD)];exact ao
  ·rw[aA (Ne.symm xU)];exact ao
theorem av1 (T:Txt K w mg t):bU P w K mg base jt (0+12) t.aau t.aqZ ["_law_script"] (Z5 K):=by
 have aiU:=afu (P:=P) (w:=w) (base:=base) T
 have adf:=aa4 (P:=P) (w:=w) (base:=base) T
 have aiV:=afF (P:=P) (w:=w) (base:=base) T
 have YF:=Vs (P:=P) (w:=w) (base:=base) T
 refine T.amN.ok aqY (fun vs H Q E h=>?_) (fun cdv A outer s H vs Q E hr h=>?_)
 ·obtain⟨a,ns,rfl,_⟩:=h
  rfl
 ·obtain⟨a,ns,rfl,hS,hl,q⟩:=h
  refine bj (ak (aU (i:=1) aqY.nd rfl (Or.inl rfl) (aC aiU (hr.mono (by decide)) rfl T.afl T.vV.kp T.Ju .nil aF (aa (pv 0) aj))) (aq (aG (aC adf (hr.mono (by decide)) rfl T.aaE T.oV.kp T.Cr .nil aF (aa (pv 0) (aa (aC aiV (hr.mono (by decide)) rfl T.afp T.vZ.kp T.JF .nil aF (aa (ap4 T.atb YF (hr.mono (by decide)) rfl T.ata T.wJ .nil aF) (aa (pv 1) aj))) (aa (pv 1) aj))))))) ?_
  tm_up
  refine⟨a,ns,rfl,hS,hl,fun tl vw H3 s3 nt tld ek=>?_⟩
  refine⟨_,rfl,?_⟩
  intro x dx nx ndx _
  refine⟨x,dx,rfl,ao,fun L D U H4 kp4 nL nD nU LD LU DU hx4 hL4 hD4 hU4=>⟨rfl,?_⟩⟩
  have s4:=avt nx ndx kp4
  have B4:Bw (cs t) H3 H4 x [] [] [] []:=Bw.new hx4 hL4 hD4 hU4 LD LU DU s4 (aab nL) (aab nD) (aab nU)
  refine⟨_,rfl,x,tl,H3,vw,rfl,B4,tld,ek,fun H5 ps B5 l5 bf=>?_⟩
  refine⟨_,rfl,?_⟩
  exact⟨a,x,tl,ns,H3,vw,ps,rfl,s3.seq hS,hl,B5,tld,ek,l5,bf,q⟩
theorem all_mk {l:OpenLaw}{w:World}{K:Frag}{h:Heap}{mg:Str->Option Value}{fa eV bR bI lZ uh mj mq yU my jx jy qy jz cH N7 dD eZ Fw um pC gB yX cD cN dO jA mz mC jO iw mD yZ iy pG Av uo iR cI Oc Zq fO eO dF dG jP ur za LR jB zc FN zf uv zg mF zj uw FP zm mG jQ iT uy iB uz zp pH dH iU uA cU gf dj dm dq lG mH dR aau gh iV fP dU du gF fc fu cP:Addr}(X:K.In h)(G:h.Ns mainGlobals mg)(hfa:mg "law" = some (.ref fa))
  {afG afH akE akF afI afJ afK afL aoh aoi afM afN afO afP afQ afR akG akH afS afT Gw Gx atu atv Ox Oz YG YH arz arA akI akJ aiW aiX YJ YK aoj aok JR JS Mr Mt Vt Vu afU afV aiY aiZ ai0 ai1 adg adh adi adk afW afX aol aom afY afZ ai2 ai3 af0 akK akL aa6 aa7 Gy Gz atw atx arB Vv Vy Sy SJ OD OJ O1 O2 adl adm akM akN aon aoo akO af1 af2 aop aoq arC arD aor aos akP akQ aot aou af3 af4 aov aow akR akS arE arF aox aoy af5 af6 adn ado aa8 aa9 akT akU adp adq akV akW aoz aoA ai4 ai5 O3 O4 aba abb akX akY O5 O6 abd abe SM SN SQ SX S9 Tc O7 af7 af8 Vz VB av2 av3 abf abg VD VF Td YL:Option Addr} {af9 akZ aga agb aoB agc agd age ak0 agf GC aty O8 YM arG ak1 ai6 YQ aoC JT Mu VG agg ai7 ai8 adt adu agh aoD agi ai9 agj ak2 abh GD atz arH VH Te O9 Pa adv ak3 aoE ak4 agk aoF arI aoG ak5 aoH agl aoI ak6 arJ aoJ agm adw abi ak7 adx ak8 aoK aja Pb abj ak9 Pg abk Tf Tg Ti Ph agn VJ av4 abl abm VL VM Tj YS:Array (Option Value)} {ago agp agq agr Tn ags ala alb alc ald abn ale agt agu agv agw Tp agx agy agz agA agB Tq agC aoL aoM aoN aoO aeG aoP agD agE agF agG Tr agH agI agJ agK agL Tt agM agN agO agP agQ Tu agR alf alg alh ali abo alj agS agT agU agV Tv agW GF GJ GK GP rQ GQ atA atB atD atE am0 atF Pj Pk Pn Pq zO Pr YT YW YX YZ Ia Y0 arK arL arM arN ajb arO alk alm aln alo abp alp ajc ajd aje ajf Yo ajg Y4 Y5 Y6 Y7 Ib Y8 aoQ aoR aoS aoT aeH aoU JV JW JX JZ wz J0 Mv Mw Mx My xP Mz VN VP VR V0 Ew V1 agX agY agZ ag0 Tw ag1 ajh aji ajj ajk Yp ajl ajm ajn ajo ajp Yq ajq ady adz adA adB M9 adC adD adE adF adG Nb adH ag2 ag3 ag4 ag5 Tz ag6 aoV aoW aoX aoY aeI aoZ ag7 ag8 ag9 aha TF ahb ajr ajs ajt aju Yr ajv ahc alq alr als alu abq alv abr abt abu abv J1 abw GR GX GZ G3 rR G4 atG atH atJ atL am1 atM arP V2 V3 V4 V5 Ex V6 TJ TQ TV TX Bt TY Pu Px Py Pz zP PB PJ PK PL PN zQ PQ adI adJ adK adL Nf adM alw alx aly alz abx alA ao0 ao1 ao2 ao3 aeJ ao4 alB ahd ahe ahf ahg T3 ahh ao5 ao6 ao7 ao8 aeK ao9 arQ arR arS arT ajw arU apa apb apc apd aeL ape alC alD alE alF aby alG apf apg aph api aeM apj ahi ahj ahk ahl T4 ahm apk apl apm apn aeN apo alH alI alJ alK abz alL arV arW arX arY ajx arZ apq apr aps apt aeO apu ahn aho ahp ahq T5 ahr adN adO adP adQ Ng adR abA abB abC abD J2 abE alM alN alO alP abF alQ adS adT adU adV Nh adW alR alS alT alU abG alV apv apw apx apy aeP apz ajy ajz ajA ajB Ys ajC PX P0 Qa Qc zR Qd abH abI abJ abK J3 abL alW alX alY alZ abM al0 Qe Qf Qg Qh zT Qi abN abO abP abQ J4 abR T6 T7 T8 T9 Bu Ua Ub Uc Ud Ue Bv Ug Uh Ui Uj Uk Bx Ul Qj ahs aht ahu ahv Um ahw V7 V8 V9 Wa Ey Wb av5 av6 av7 av8 ar0 av9:Value}
  {qW Jm zb gC gD abS abT abU abV abW abX Wc Wd We Wf Wg Uo Up Uq Ur Y9 Za Zb Zc Zd q9 Wh Wi Wj Wk Wl Wm Wn Wo Wq Wr Ws Wt Wu Wv Ww Wx Wy Wz WD WK WL WM Qk Ql Qm Qn xY lH oY rm Ma rA vG xZ Ru Mf:Tok}
  {ahx ar3 al1 Qo adX adY Ze Zf WN abY abZ ab0 WQ:Nat}
  (ab1:nsIn K mainGlobals "Voice" = some (some (.ref eV)))
  (ahy:nsIn K mainGlobals "Deed" = some (some (.ref bR)))
  (ahz:nsIn K mainGlobals "Book" = some (some (.ref bI)))
  (J5:nsIn K mainGlobals "_law_cell_at" = some (some (.ref lZ)))
  (J6:K.lookup lZ=some ⟨ago,afG,.func (fnOf "_law_cell_at" "_law_cell_at" (aK pY) (aH pY) (au pY) .none agp agq agr afH Tn ags),af9⟩)
  (J7:codeIn K Tn "_law_cell_at" = true)
  (J8:keepIn K (.ref lZ)=true)
  (WR:nsIn K mainGlobals "_law_mixed" = some (some (.ref uh)))
  (WT:K.lookup uh=some ⟨ala,akE,.func (fnOf "_law_mixed" "_law_mixed" (aK yt) (aH yt) (au yt) .none alb alc ald akF abn ale),akZ⟩)
  (WW:codeIn K abn "_law_mixed" = true)
  (WX:keepIn K (.ref uh)=true)
  (J9:nsIn K mainGlobals "_law_sign_by" = some (some (.ref mj)))
  (Ka:K.lookup mj=some ⟨agt,afI,.func (fnOf "_law_sign_by" "_law_sign_by" (aK pZ) (aH pZ) (au pZ) .none agu agv agw afJ Tp agx),aga⟩)
  (Kc:codeIn K Tp "_law_sign_by" = true)
  (Ke:keepIn K (.ref mj)=true)
  (Kf:nsIn K mainGlobals "_law_numbers" = some (some (.ref mq)))
  (Kg:K.lookup mq=some ⟨agy,afK,.func (fnOf "_law_numbers" "_law_numbers" (aK qb) (aH qb) (au qb) .none agz agA agB afL Tq agC),agb⟩)
  (Kh:codeIn K Tq "_law_numbers" = true)
  (Kl:keepIn K (.ref mq)=true)
  (ab2:nsIn K mainGlobals "_law_line" = some (some (.ref yU)))
  (ab3:K.lookup yU=some ⟨aoL,aoh,.func (fnOf "_law_line" "_law_line" (aK DG) (aH DG) (au DG) .none aoM aoN aoO aoi aeG aoP),aoB⟩)
  (ab4:codeIn K aeG "_law_line" = true)
  (ab5:keepIn K (.ref yU)=true)
  (Km:nsIn K mainGlobals "_law_entries" = some (some (.ref my)))
  (Ko:K.lookup my=some ⟨agD,afM,.func (fnOf "_law_entries" "_law_entries" (aK jw) (aH jw) (au jw) .none agE agF agG afN Tr agH),agc⟩)
  (Kp:codeIn K Tr "_law_entries" = true)
  (Kq:keepIn K (.ref my)=true)
  (Kr:findIn K (.ref bR) "undo" = some (some (.ref jx)))
  (Ks:K.lookup jx=some ⟨agI,afO,.func (fnOf "undo" "Deed.undo" (aK qd) (aH qd) (au qd) .none agJ agK agL afP Tt agM),agd⟩)
  (Ku:codeIn K Tt "Deed.undo" = true)
  (By:keepIn K (.ref jx)=true)
  (G5:isFn K (.ref jx)=true)
  (Kv:findIn K (.ref bI) "undo" = some (some (.ref jy)))
  (Kw:K.lookup jy=some ⟨agN,afQ,.func (fnOf "undo" "Book.undo" (aK qe) (aH qe) (au qe) .none agO agP agQ afR Tu agR),age⟩)
  (Ky:codeIn K Tu "Book.undo" = true)
  (BJ:keepIn K (.ref jy)=true)
  (G6:isFn K (.ref jy)=true)
  (WY:findIn K (.ref bR) "do" = some (some (.ref qy)))
  (W0:K.lookup qy=some ⟨alf,akG,.func (fnOf "do" "Deed.do" (aK yu) (aH yu) (au yu) .none alg alh ali akH abo alj),ak0⟩)
  (W2:codeIn K abo "Deed.do" = true)
  (Ml:keepIn K (.ref qy)=true)
  (Qp:isFn K (.ref qy)=true)
  (Kz:findIn K (.ref bI) "redo" = some (some (.ref jz)))
  (KC:K.lookup jz=some ⟨agS,afS,.func (fnOf "redo" "Book.redo" (aK qg) (aH qg) (au qg) .none agT agU agV afT Tv agW),agf⟩)
  (KH:codeIn K Tv "Book.redo" = true)
  (BK:keepIn K (.ref jz)=true)
  (G7:isFn K (.ref jz)=true)
  (kY:nsIn K mainGlobals "refuse_other_places" = some (some (.ref cH)))
  (kZ:K.lookup cH=some ⟨GF,Gw,.func (fnOf "refuse_other_places" "refuse_other_places" (aK cV) (aH cV) (au cV) .none GJ GK GP Gx rQ GQ),GC⟩)
  (lg:codeIn K rQ "refuse_other_places" = true)
  (lq:keepIn K (.ref cH)=true)
  (al2:nsIn K mainGlobals "good" = some (some (.ref N7)))
  (al3:K.lookup N7=some ⟨atA,atu,.func (fnOf "good" "good" (aK UJ) (aH UJ) (au UJ) .none atB atD atE atv am0 atF),aty⟩)
  (al4:codeIn K am0 "good" = true)
  (al5:keepIn K (.ref N7)=true)
  (rT:nsIn K mainGlobals "refuse_bad_sign" = some (some (.ref dD)))
  (rW:K.lookup dD=some ⟨Pj,Ox,.func (fnOf "refuse_bad_sign" "refuse_bad_sign" (aK fB) (aH fB) (au fB) .none Pk Pn Pq Oz zO Pr),O8⟩)
  (rY:codeIn K zO "refuse_bad_sign" = true)
  (rZ:keepIn K (.ref dD)=true)
  (zU:findIn K (.ref bI) "perform" = some (some (.ref eZ)))
  (zV:K.lookup eZ=some ⟨YT,YG,.func (fnOf "perform" "Book.perform" (aK jj) (aH jj) (au jj) .none YW YX YZ YH Ia Y0),YM⟩)
  (zW:codeIn K Ia "Book.perform" = true)
  (sr:keepIn K (.ref eZ)=true)
  (wL:isFn K (.ref eZ)=true)
  (ahA:nsIn K mainGlobals "small" = some (some (.ref Fw)))
  (ahB:K.lookup Fw=some ⟨arK,arz,.func (fnOf "small" "small" (aK LC) (aH LC) (au LC) .none arL arM arN arA ajb arO),arG⟩)
  (ahC:codeIn K ajb "small" = true)
  (RV:keepIn K (.ref Fw)=true)
  (W3:nsIn K mainGlobals "low_end" = some (some (.ref um)))
  (W4:K.lookup um=some ⟨alk,akI,.func (fnOf "low_end" "low_end" (aK yw) (aH yw) (au yw) .none alm aln alo akJ abp alp),ak1⟩)
  (W5:codeIn K abp "low_end" = true)
  (W6:keepIn K (.ref um)=true)
  (Qq:nsIn K mainGlobals "high_end" = some (some (.ref pC)))
  (Qs:K.lookup pC=some ⟨ajc,aiW,.func (fnOf "high_end" "high_end" (aK uc) (aH uc) (au uc) .none ajd aje ajf aiX Yo ajg),ai6⟩)
  (Qt:codeIn K Yo "high_end" = true)
  (Qu:keepIn K (.ref pC)=true)
  (zX:nsIn K mainGlobals "sets_measure" = some (some (.ref gB)))
  (zY:K.lookup gB=some ⟨Y4,YJ,.func (fnOf "sets_measure" "sets_measure" (aK jk) (aH jk) (au jk) .none Y5 Y6 Y7 YK Ib Y8),YQ⟩)
  (zZ:codeIn K Ib "sets_measure" = true)
  (z9:keepIn K (.ref gB)=true)
  (ab6:nsIn K mainGlobals "window" = some (some (.ref yX)))
  (ab7:K.lookup yX=some ⟨aoQ,aoj,.func (fnOf "window" "window" (aK DK) (aH DK) (au DK) .none aoR aoS aoT aok aeH aoU),aoC⟩)
  (ab8:codeIn K aeH "window" = true)
  (ab9:keepIn K (.ref yX)=true)
  (oh:findIn K (.ref bI) "voice_called" = some (some (.ref cD)))
  (ou:K.lookup cD=some ⟨JV,JR,.func (fnOf "voice_called" "Book.voice_called" (aK dM) (aH dM) (au dM) .none JW JX JZ JS wz J0),JT⟩)
  (oE:codeIn K wz "Book.voice_called" = true)
  (je:keepIn K (.ref cD)=true)
  (mX:isFn K (.ref cD)=true)
  (pJ:findIn K (.ref bI) "plain_voice" = some (some (.ref cN)))
  (pK:K.lookup cN=some ⟨Mv,Mr,.func (fnOf "plain_voice" "Book.plain_voice" (aK eN) (aH eN) (au eN) .none Mw Mx My Mt xP Mz),Mu⟩)
  (pL:codeIn K xP "Book.plain_voice" = true)
  (jX:keepIn K (.ref cN)=true)
  (oF:isFn K (.ref cN)=true)
  (wN:findIn K (.ref bR) "__init__" = some (some (.ref dO)))
  (wO:K.lookup dO=some ⟨VN,Vt,.func (fnOf "__init__" "Deed.__init__" (aK gR) (aH gR) (au gR) .none VP VR V0 Vu Ew V1),VG⟩)
  (wQ:codeIn K Ew "Deed.__init__" = true)
  (wR:keepIn K (.ref dO)=true)
  (uM:isFn K (.ref dO)=true)
  (KJ:findIn K (.ref bI) "swap" = some (some (.ref jA)))
  (KN:K.lookup jA=some ⟨agX,afU,.func (fnOf "swap" "Book.swap" (aK qi) (aH qi) (au qi) .none agY agZ ag0 afV Tw ag1),agg⟩)
  (KQ:codeIn K Tw "Book.swap" = true)
  (BL:keepIn K (.ref jA)=true)
  (G8:isFn K (.ref jA)=true)
  (Qv:findIn K (.ref bI) "put" = some (some (.ref mz)))
  (Qw:K.lookup mz=some ⟨ajh,aiY,.func (fnOf "put" "Book.put" (aK ud) (aH ud) (au ud) .none aji ajj ajk aiZ Yp ajl),ai7⟩)
  (Qx:codeIn K Yp "Book.put" = true)
  (G9:keepIn K (.ref mz)=true)
  (KR:isFn K (.ref mz)=true)
  (Qy:findIn K (.ref bI) "cut" = some (some (.ref mC)))
  (Qz:K.lookup mC=some ⟨ajm,ai0,.func (fnOf "cut" "Book.cut" (aK ue) (aH ue) (au ue) .none ajn ajo ajp ai1 Yq ajq),ai8⟩)
  (QB:codeIn K Yq "Book.cut" = true)
  (Ha:keepIn K (.ref mC)=true)
  (KY:isFn K (.ref mC)=true)
  (Hb:nsIn K mainGlobals "_law_one_deed" = some (some (.ref jO)))
  (Hc:K.lookup jO=some ⟨ady,adg,.func (fnOf "_law_one_deed" "_law_one_deed" (aK mZ) (aH mZ) (au mZ) .none adz adA adB adh M9 adC),adt⟩)
  (Hd:codeIn K M9 "_law_one_deed" = true)
  (Hf:keepIn K (.ref jO)=true)
  (Hg:findIn K (.ref bI) "canon" = some (some (.ref iw)))
  (Hh:K.lookup iw=some ⟨adD,adi,.func (fnOf "canon" "Book.canon" (aK m6) (aH m6) (au m6) .none adE adF adG adk Nb adH),adu⟩)
  (Hi:codeIn K Nb "Book.canon" = true)
  (ym:keepIn K (.ref iw)=true)
  (Cz:isFn K (.ref iw)=true)
  (KZ:nsIn K mainGlobals "beginning" = some (some (.ref mD)))
  (K1:K.lookup mD=some ⟨ag2,afW,.func (fnOf "beginning" "beginning" (aK qj) (aH qj) (au qj) .none ag3 ag4 ag5 afX Tz ag6),agh⟩)
  (K3:codeIn K Tz "beginning" = true)
  (K4:keepIn K (.ref mD)=true)
  (aca:nsIn K mainGlobals "turned" = some (some (.ref yZ)))
  (acb:K.lookup yZ=some ⟨aoV,aol,.func (fnOf "turned" "turned" (aK DN) (aH DN) (au DN) .none aoW aoX aoY aom aeI aoZ),aoD⟩)
  (acd:codeIn K aeI "turned" = true)
  (ace:keepIn K (.ref yZ)=true)
  (K5:findIn K (.ref bI) "line" = some (some (.ref iy)))
  (K6:K.lookup iy=some ⟨ag7,afY,.func (fnOf "line" "Book.line" (aK qm) (aH qm) (au qm) .none ag8 ag9 aha afZ TF ahb),agi⟩)
  (K7:codeIn K TF "Book.line" = true)
  (BP:keepIn K (.ref iy)=true)
  (Hj:isFn K (.ref iy)=true)
  (QC:nsIn K mainGlobals "measures" = some (some (.ref pG)))
  (QD:K.lookup pG=some ⟨ajr,ai2,.func (fnOf "measures" "measures" (aK uf) (aH uf) (au uf) (.ref Av) ajs ajt aju ai3 Yr ajv),ai9⟩)
  (QF:codeIn K Yr "measures" = true)
  (QG:keepIn K (.ref pG)=true)
  (BR:K.lookup Av=some ⟨ahc,af0,.seq #[.int 3 qW] ahx,agj⟩)
  (W7:nsIn K mainGlobals "kind_at" = some (some (.ref uo)))
  (W8:K.lookup uo=some ⟨alq,akK,.func (fnOf "kind_at" "kind_at" (aK yx) (aH yx) (au yx) .none alr als alu akL abq alv),ak2⟩)
  (W9:codeIn K abq "kind_at" = true)
  (Xa:keepIn K (.ref uo)=true)
  (CG:nsIn K mainGlobals "plain_worth" = some (some (.ref iR)))
  (CJ:K.lookup iR=some ⟨abr,aa6,.func (fnOf "plain_worth" "plain_worth" (aK j4) (aH j4) (au j4) .none abt abu abv aa7 J1 abw),abh⟩)
  (CK:codeIn K J1 "plain_worth" = true)
  (CN:keepIn K (.ref iR)=true)
  (lr:nsIn K mainGlobals "worths_without_runs" = some (some (.ref cI)))
  (lu:K.lookup cI=some ⟨GR,Gy,.func (fnOf "worths_without_runs" "worths_without_runs" (aK cW) (aH cW) (au cW) .none GX GZ G3 Gz rR G4),GD⟩)
  (lz:codeIn K rR "worths_without_runs" = true)
  (lB:keepIn K (.ref cI)=true)
  (al6:nsIn K mainGlobals "runs" = some (some (.ref Oc)))
  (al7:K.lookup Oc=some ⟨atG,atw,.func (fnOf "runs" "runs" (aK UL) (aH UL) (au UL) (.ref Zq) atH atJ atL atx am1 atM),atz⟩)
  (al8:codeIn K am1 "runs" = true)
  (al9:keepIn K (.ref Oc)=true)
  (Zx:K.lookup Zq=some ⟨arP,arB,.seq #[.int 3 Jm] ar3,arH⟩)
  (wU:nsIn K mainGlobals "has_left_note" = some (some (.ref fO)))
  (wV:K.lookup fO=some ⟨V2,Vv,.func (fnOf "has_left_note" "has_left_note" (aK gU) (aH gU) (au gU) .none V3 V4 V5 Vy Ex V6),VH⟩)
  (wW:codeIn K Ex "has_left_note" = true)
  (wX:keepIn K (.ref fO)=true)
  (uN:nsIn K mainGlobals "has_right_note" = some (some (.ref eO)))
  (uO:K.lookup eO=some ⟨TJ,Sy,.func (fnOf "has_right_note" "has_right_note" (aK gj) (aH gj) (au gj) .none TQ TV TX SJ Bt TY),Te⟩)
  (uP:codeIn K Bt "has_right_note" = true)
  (uQ:keepIn K (.ref eO)=true)
  (su:nsIn K mainGlobals "settle_one_over" = some (some (.ref dF)))
  (sy:K.lookup dF=some ⟨Pu,OD,.func (fnOf "settle_one_over" "settle_one_over" (aK fD) (aH fD) (au fD) .none Px Py Pz OJ zP PB),O9⟩)
  (sE:codeIn K zP "settle_one_over" = true)
  (sG:keepIn K (.ref dF)=true)
  (sH:nsIn K mainGlobals "settle_two_over" = some (some (.ref dG)))
  (sI:K.lookup dG=some ⟨PJ,O1,.func (fnOf "settle_two_over" "settle_two_over" (aK fG) (aH fG) (au fG) .none PK PL PN O2 zQ PQ),Pa⟩)
  (sJ:codeIn K zQ "settle_two_over" = true)
  (sO:keepIn K (.ref dG)=true)
  (Hk:nsIn K mainGlobals "settle_run" = some (some (.ref jP)))
  (Hl:K.lookup jP=some ⟨adI,adl,.func (fnOf "settle_run" "settle_run" (aK m7) (aH m7) (au m7) .none adJ adK adL adm Nf adM),adv⟩)
  (Hm:codeIn K Nf "settle_run" = true)
  (Hn:keepIn K (.ref jP)=true)
  (Xb:nsIn K mainGlobals "reading" = some (some (.ref ur)))
  (Xc:K.lookup ur=some ⟨alw,akM,.func (fnOf "reading" "reading" (aK yz) (aH yz) (au yz) .none alx aly alz akN abx alA),ak3⟩)
  (Xd:codeIn K abx "reading" = true)
  (Xe:keepIn K (.ref ur)=true)
  (acf:nsIn K mainGlobals "worths" = some (some (.ref za)))
  (acg:K.lookup za=some ⟨ao0,aon,.func (fnOf "worths" "worths" (aK DP) (aH DP) (au DP) (.ref LR) ao1 ao2 ao3 aoo aeJ ao4),aoE⟩)
  (ach:codeIn K aeJ "worths" = true)
  (aci:keepIn K (.ref za)=true)
  (Mm:K.lookup LR=some ⟨alB,akO,.seq #[.int 3 zb] al1,ak4⟩)
  (K8:findIn K (.ref bI) "kept" = some (some (.ref jB)))
  (K9:K.lookup jB=some ⟨ahd,af1,.func (fnOf "kept" "Book.kept" (aK qp) (aH qp) (au qp) .none ahe ahf ahg af2 T3 ahh),agk⟩)
  (La:codeIn K T3 "Book.kept" = true)
  (BV:keepIn K (.ref jB)=true)
  (Ho:isFn K (.ref jB)=true)
  (acj:nsIn K mainGlobals "sounds" = some (some (.ref zc)))
  (ack:K.lookup zc=some ⟨ao5,aop,.func (fnOf "sounds" "sounds" (aK DQ) (aH DQ) (au DQ) .none ao6 ao7 ao8 aoq aeK ao9),aoF⟩)
  (acn:codeIn K aeK "sounds" = true)
  (v7:keepIn K (.ref zc)=true)
  (ahD:nsIn K mainGlobals "spans" = some (some (.ref FN)))
  (ahE:K.lookup FN=some ⟨arQ,arC,.func (fnOf "spans" "spans" (aK LK) (aH LK) (au LK) .none arR arS arT arD ajw arU),arI⟩)
  (ahF:codeIn K ajw "spans" = true)
  (ahG:keepIn K (.ref FN)=true)
  (aco:nsIn K mainGlobals "ending" = some (some (.ref zf)))
  (acp:K.lookup zf=some ⟨apa,aor,.func (fnOf "ending" "ending" (aK DR) (aH DR) (au DR) .none apb apc apd aos aeL ape),aoG⟩)
  (acq:codeIn K aeL "ending" = true)
  (acr:keepIn K (.ref zf)=true)
  (Xf:nsIn K mainGlobals "_law_whole" = some (some (.ref uv)))
  (Xg:K.lookup uv=some ⟨alC,akP,.func (fnOf "_law_whole" "_law_whole" (aK yC) (aH yC) (au yC) .none alD alE alF akQ aby alG),ak5⟩)
  (Xh:codeIn K aby "_law_whole" = true)
  (Xi:keepIn K (.ref uv)=true)
  (acs:nsIn K mainGlobals "_law_rows" = some (some (.ref zg)))
  (acu:K.lookup zg=some ⟨apf,aot,.func (fnOf "_law_rows" "_law_rows" (aK DW) (aH DW) (au DW) .none apg aph api aou aeM apj),aoH⟩)
  (acv:codeIn K aeM "_law_rows" = true)
  (acw:keepIn K (.ref zg)=true)
  (Lb:nsIn K mainGlobals "_law_line_of" = some (some (.ref mF)))
  (Ld:K.lookup mF=some ⟨ahi,af3,.func (fnOf "_law_line_of" "_law_line_of" (aK qt) (aH qt) (au qt) .none ahj ahk ahl af4 T4 ahm),agl⟩)
  (Le:codeIn K T4 "_law_line_of" = true)
  (Lf:keepIn K (.ref mF)=true)
  (acx:nsIn K mainGlobals "_law_base" = some (some (.ref zj)))
  (acy:K.lookup zj=some ⟨apk,aov,.func (fnOf "_law_base" "_law_base" (aK DX) (aH DX) (au DX) .none apl apm apn aow aeN apo),aoI⟩)
  (acz:codeIn K aeN "_law_base" = true)
  (acA:keepIn K (.ref zj)=true)
  (Xj:nsIn K mainGlobals "_law_three" = some (some (.ref uw)))
  (Xk:K.lookup uw=some ⟨alH,akR,.func (fnOf "_law_three" "_law_three" (aK yD) (aH yD) (au yD) .none alI alJ alK akS abz alL),ak6⟩)
  (Xl:codeIn K abz "_law_three" = true)
  (Xm:keepIn K (.ref uw)=true)
  (ahH:nsIn K mainGlobals "_law_run" = some (some (.ref FP)))
  (ahI:K.lookup FP=some ⟨arV,arE,.func (fnOf "_law_run" "_law_run" (aK LQ) (aH LQ) (au LQ) .none arW arX arY arF ajx arZ),arJ⟩)
  (ahJ:codeIn K ajx "_law_run" = true)
  (ahK:keepIn K (.ref FP)=true)
  (acB:nsIn K mainGlobals "_law_read" = some (some (.ref zm)))
  (acC:K.lookup zm=some ⟨apq,aox,.func (fnOf "_law_read" "_law_read" (aK DY) (aH DY) (au DY) .none apr aps apt aoy aeO apu),aoJ⟩)
  (acD:codeIn K aeO "_law_read" = true)
  (acE:keepIn K (.ref zm)=true)
  (Lg:nsIn K mainGlobals "_law_kept_of" = some (some (.ref mG)))
  (Lh:K.lookup mG=some ⟨ahn,af5,.func (fnOf "_law_kept_of" "_law_kept_of" (aK qu) (aH qu) (au qu) .none aho ahp ahq af6 T5 ahr),agm⟩)
  (Li:codeIn K T5 "_law_kept_of" = true)
  (Lj:keepIn K (.ref mG)=true)
  (Hq:nsIn K mainGlobals "_law_spans_of" = some (some (.ref jQ)))
  (Hr:K.lookup jQ=some ⟨adN,adn,.func (fnOf "_law_spans_of" "_law_spans_of" (aK m8) (aH m8) (au m8) .none adO adP adQ ado Ng adR),adw⟩)
  (Ht:codeIn K Ng "_law_spans_of" = true)
  (Hu:keepIn K (.ref jQ)=true)
  (CP:nsIn K mainGlobals "_law_ending_of" = some (some (.ref iT)))
  (CQ:K.lookup iT=some ⟨abA,aa8,.func (fnOf "_law_ending_of" "_law_ending_of" (aK j5) (aH j5) (au j5) .none abB abC abD aa9 J2 abE),abi⟩)
  (CT:codeIn K J2 "_law_ending_of" = true)
  (CW:keepIn K (.ref iT)=true)
  (Xn:nsIn K mainGlobals "_law_right" = some (some (.ref uy)))
  (Xo:K.lookup uy=some ⟨alM,akT,.func (fnOf "_law_right" "_law_right" (aK yE) (aH yE) (au yE) .none alN alO alP akU abF alQ),ak7⟩)
  (Xp:codeIn K abF "_law_right" = true)
  (Xq:keepIn K (.ref uy)=true)
  (Hv:findIn K (.ref bI) "names" = some (some (.ref iB)))
  (Hw:K.lookup iB=some ⟨adS,adp,.func (fnOf "names" "Book.names" (aK m9) (aH m9) (au m9) .none adT adU adV adq Nh adW),adx⟩)
  (Hy:codeIn K Nh "Book.names" = true)
  (yo:keepIn K (.ref iB)=true)
  (CZ:isFn K (.ref iB)=true)
  (Xr:nsIn K mainGlobals "_law_signs" = some (some (.ref uz)))
  (Xu:K.lookup uz=some ⟨alR,akV,.func (fnOf "_law_signs" "_law_signs" (aK yF) (aH yF) (au yF) .none alS alT alU akW abG alV),ak8⟩)
  (Xv:codeIn K abG "_law_signs" = true)
  (Xw:keepIn K (.ref uz)=true)
  (acF:nsIn K mainGlobals "_law_nums" = some (some (.ref zp)))
  (acG:K.lookup zp=some ⟨apv,aoz,.func (fnOf "_law_nums" "_law_nums" (aK Ea) (aH Ea) (au Ea) .none apw apx apy aoA aeP apz),aoK⟩)
  (acH:codeIn K aeP "_law_nums" = true)
  (acI:keepIn K (.ref zp)=true)
  (QH:nsIn K mainGlobals "_law_stands" = some (some (.ref pH)))
  (QJ:K.lookup pH=some ⟨ajy,ai4,.func (fnOf "_law_stands" "_law_stands" (aK ug) (aH ug) (au ug) .none ajz ajA ajB ai5 Ys ajC),aja⟩)
  (QK:codeIn K Ys "_law_stands" = true)
  (QL:keepIn K (.ref pH)=true)
  (sS:nsIn K mainGlobals "_law_changed_right" = some (some (.ref dH)))
  (sU:K.lookup dH=some ⟨PX,O3,.func (fnOf "_law_changed_right" "_law_changed_right" (aK fH) (aH fH) (au fH) .none P0 Qa Qc O4 zR Qd),Pb⟩)
  (sV:codeIn K zR "_law_changed_right" = true)
  (sW:keepIn K (.ref dH)=true)
  (Dc:nsIn K mainGlobals "_law_all_round" = some (some (.ref iU)))
  (De:K.lookup iU=some ⟨abH,aba,.func (fnOf "_law_all_round" "_law_all_round" (aK j6) (aH j6) (au j6) .none abI abJ abK abb J3 abL),abj⟩)
  (Df:codeIn K J3 "_law_all_round" = true)
  (Dg:keepIn K (.ref iU)=true)
  (Xx:nsIn K mainGlobals "is_name" = some (some (.ref uA)))
  (Xy:K.lookup uA=some ⟨alW,akX,.func (fnOf "is_name" "is_name" (aK yG) (aH yG) (au yG) .none alX alY alZ akY abM al0),ak9⟩)
  (Xz:codeIn K abM "is_name" = true)
  (XC:keepIn K (.ref uA)=true)
  (sX:findIn K (.ref bI) "refuse_new" = some (some (.ref cU)))
  (sY:K.lookup cU=some ⟨Qe,O5,.func (fnOf "refuse_new" "Book.refuse_new" (aK fJ) (aH fJ) (au fJ) .none Qf Qg Qh O6 zT Qi),Pg⟩)
  (sZ:codeIn K zT "Book.refuse_new" = true)
  (lN:keepIn K (.ref cU)=true)
  (pM:isFn K (.ref cU)=true)
  (Dh:findIn K (.ref bI) "put_in" = some (some (.ref gf)))
  (Di:K.lookup gf=some ⟨abN,abd,.func (fnOf "put_in" "Book.put_in" (aK j7) (aH j7) (au j7) .none abO abP abQ abe J4 abR),abk⟩)
  (Dj:codeIn K J4 "Book.put_in" = true)
  (vK:keepIn K (.ref gf)=true)
  (Aa:isFn K (.ref gf)=true)
  (uR:findIn K (.ref eV) "__init__" = some (some (.ref dj)))
  (uT:K.lookup dj=some ⟨T6,SM,.func (fnOf "__init__" "Voice.__init__" (aK gk) (aH gk) (au gk) .none T7 T8 T9 SN Bu Ua),Tf⟩)
  (uU:codeIn K Bu "Voice.__init__" = true)
  (uV:keepIn K (.ref dj)=true)
  (tD:isFn K (.ref dj)=true)
  (uW:findIn K (.ref bI) "add_voice" = some (some (.ref dm)))
  (uX:K.lookup dm=some ⟨Ub,SQ,.func (fnOf "add_voice" "Book.add_voice" (aK gm) (aH gm) (au gm) .none Uc Ud Ue SX Bv Ug),Tg⟩)
  (uY:codeIn K Bv "Book.add_voice" = true)
  (nW:keepIn K (.ref dm)=true)
  (tE:isFn K (.ref dm)=true)
  (uZ:findIn K (.ref bI) "add_canon" = some (some (.ref dq)))
  (vd:K.lookup dq=some ⟨Uh,S9,.func (fnOf "add_canon" "Book.add_canon" (aK gn) (aH gn) (au gn) (.ref lG) Ui Uj Uk Tc Bx Ul),Ti⟩)
  (vf:codeIn K Bx "Book.add_canon" = true)
  (nY:keepIn K (.ref dq)=true)
  (tG:isFn K (.ref dq)=true)
  (lO:K.lookup lG=some ⟨Qj,O7,.seq #[.int 0 gC,.int 1 gD,.bool false] Qo,Ph⟩)
  (Lk:nsIn K mainGlobals "_law_book_of" = some (some (.ref mH)))
  (Ln:K.lookup mH=some ⟨ahs,af7,.func (fnOf "_law_book_of" "_law_book_of" (aK qw) (aH qw) (au qw) .none aht ahu ahv af8 Um ahw),agn⟩)
  (Lp:codeIn K Um "_law_book_of" = true)
  (Lq:keepIn K (.ref mH)=true)
  (wY:findIn K (.ref bI) "__init__" = some (some (.ref dR)))
  (wZ:K.lookup dR=some ⟨V7,Vz,.func (fnOf "__init__" "Book.__init__" (aK gW) (aH gW) (au gW) .none V8 V9 Wa VB Ey Wb),VJ⟩)
  (w6:codeIn K Ey "Book.__init__" = true)
  (xf:keepIn K (.ref dR)=true)
  (vg:isFn K (.ref dR)=true)
  (am2:nsIn K mainGlobals "law" = some (some (.ref aau)))
  (ar4:K.lookup aau=some ⟨av5,av2,.func (fnOf "law" "law" (aK aei) (aH aei) (au aei) .none av6 av7 av8 av3 ar0 av9),av4⟩)
  (ar5:codeIn K ar0 "law" = true)
  (ar6:keepIn K (.ref aau)=true)
  (ar7:nsIn K mainGlobals "all" = some none)
  (ar8:nsIn K mainGlobals "any" = some none)
  (ama:nsIn K mainGlobals "bool" = some none)
  (amb:nsIn K mainGlobals "dict" = some none)
  (Lr:nsIn K mainGlobals "enumerate" = some none)
  (ar9:nsIn K mainGlobals "int" = some none)
  (Hz:nsIn K mainGlobals "isinstance" = some none)
  (asa:nsIn K mainGlobals "len" = some none)
  (amc:nsIn K mainGlobals "list" = some none)
  (asb:nsIn K mainGlobals "max" = some none)
  (asd:nsIn K mainGlobals "min" = some none)
  (ahL:nsIn K mainGlobals "range" = some none)
  (ase:nsIn K mainGlobals "str" = some none)
  (asf:nsIn K mainGlobals "sum" = some none)
  (ahM:nsIn K mainGlobals "tuple" = some none)
  (ash:nsIn K mainGlobals "zip" = some none)
  (Ab:nsIn K mainGlobals "GREAT_KINDS" = some (some (.ref gh)))
  (Ac:K.lookup gh=some ⟨.type "tuple",abf,.seq #[.str (Str.ofString "G") abS,.str (Str.ofString "D") abT,.str (Str.ofString "R") abU] adX,abl⟩)
  (Ad:nsIn K mainGlobals "SMALL_KINDS" = some (some (.ref iV)))
  (Ae:K.lookup iV=some ⟨.type "tuple",abg,.seq #[.str (Str.ofString "s") abV,.str (Str.ofString "d") abW,.str (Str.ofString "r") abX] adY,abm⟩)
  (vh:nsIn K mainGlobals "PARTING_KINDS" = some (some (.ref fP)))
  (vm:K.lookup fP=some ⟨.type "tuple",VD,.seq #[.str (Str.ofString ".") Wc,.str (Str.ofString "3") Wd,.str (Str.ofString "2") We] Ze,VL⟩)
  (vo:nsIn K mainGlobals "MEASURE_KINDS" = some (some (.ref dU)))
  (vq:K.lookup dU=some ⟨.type "tuple",VF,.seq #[.str (Str.ofString "3") Wf,.str (Str.ofString "2") Wg] Zf,VM⟩)
  (tH:nsIn K mainGlobals "SOUNDING_KINDS" = some (some (.ref du)))
  (tK:K.lookup du=some ⟨.type "tuple",Td,.seq #[.str (Str.ofString "G") Uo,.str (Str.ofString "D") Up,.str (Str.ofString "s") Uq,.str (Str.ofString "d") Ur] WN,Tj⟩)
  (xg:nsIn K mainGlobals "SILENT_KINDS" = some (some (.ref gF)))
  (xj:K.lookup gF=some ⟨.type "tuple",YL,.seq #[.str (Str.ofString "R") Y9,.str (Str.ofString "r") Za,.str (Str.ofString ".") Zb,.str (Str.ofString "3") Zc,.str (Str.ofString "2") Zd] abY,YS⟩)
  (xm:nsIn K mainGlobals "HIGHEST_TONE" = some (some (.int 99 q9)))
  (xq:nsIn K mainGlobals "TURNED_KINDS" = some (some (.ref fc)))
  (xr:K.lookup fc=some ⟨.type "dict",none,.dict #[⟨PyData.keyHash w.params (Str.ofString "3"),.str (Str.ofString "3") Wj,.str (Str.ofString "2") Wh⟩,⟨PyData.keyHash w.params (Str.ofString "2"),.str (Str.ofString "2") Wk,.str (Str.ofString "3") Wi⟩] abZ,#[]⟩)
  (xu:(fc == sysModules)=false)
  (xF:nsIn K mainGlobals "PLAIN_WORTHS" = some (some (.ref fu)))
  (xG:K.lookup fu=some ⟨.type "dict",none,.dict #[⟨PyData.keyHash w.params (Str.ofString "G"),.str (Str.ofString "G") Wv,.int 3 Wl⟩,⟨PyData.keyHash w.params (Str.ofString "D"),.str (Str.ofString "D") Ww,.int 2 Wm⟩,⟨PyData.keyHash w.params (Str.ofString "R"),.str (Str.ofString "R") Wx,.int 3 Wn⟩,⟨PyData.keyHash w.params (Str.ofString "s"),.str (Str.ofString "s") Wy,.int 1 Wo⟩,⟨PyData.keyHash w.params (Str.ofString "d"),.str (Str.ofString "d") Wz,.int 1 Wq⟩,⟨PyData.keyHash w.params (Str.ofString "r"),.str (Str.ofString "r") WD,.int 1 Wr⟩,⟨PyData.keyHash w.params (Str.ofString "."),.str (Str.ofString ".") WK,.int 0 Ws⟩,⟨PyData.keyHash w.params (Str.ofString "3"),.str (Str.ofString "3") WL,.int 0 Wt⟩,⟨PyData.keyHash w.params (Str.ofString "2"),.str (Str.ofString "2") WM,.int 0 Wu⟩] ab0,#[]⟩)
  (xH:(fu == sysModules)=false)
  (tL:nsIn K mainGlobals "TWOFOLD_WORTHS" = some (some (.ref cP)))
  (tM:K.lookup cP=some ⟨.type "dict",none,.dict #[⟨PyData.keyHash w.params (Str.ofString "G"),.str (Str.ofString "G") Qm,.int 2 Qk⟩,⟨PyData.keyHash w.params (Str.ofString "R"),.str (Str.ofString "R") Qn,.int 2 Ql⟩] WQ,#[]⟩)
  (tO:(cP == sysModules)=false)
  (Dk:nsIn K mainGlobals "FULL_WORTH" = some (some (.int 3 xY)))
  (pN:nsIn K mainGlobals "SHORTENED_WORTH" = some (some (.int 2 lH)))
  (vy:nsIn K mainGlobals "DOUBLED_WORTH" = some (some (.int 2 oY)))
  (xJ:nsIn K mainGlobals "DOTTED_WORTH" = some (some (.int 3 rm)))
  (QM:nsIn K mainGlobals "LETTERS" = some (some (.str (Str.ofString "abcdefghijklmnopqrstuvwxyz") Ma)))
  (xK:nsIn K mainGlobals "LONGEST_NAME" = some (some (.int 8 rA)))
  (Af:nsIn K mainGlobals "MOST_VOICES" = some (some (.int 12 vG)))
  (Dl:nsIn K mainGlobals "MOST_SIGNS" = some (some (.int 200 xZ)))
  (XD:nsIn K mainGlobals "LATEST" = some (some (.int 999 Ru)))
  (QR:nsIn K mainGlobals "SLOWEST" = some (some (.int 9 Mf)))
  (XF:makesIn K eV=true)
  (XH:keepIn K (.ref eV)=true)
  (acJ:plainGet K eV Str.empty=true)
  (acK:hasDictIn K eV=true)
  (acL:plainOver K eV=true)
  (acM:findIn K (.ref eV) "__setattr__" = some (some (.builtin "object.__setattr__")))
  (iW:findIn K (.ref eV) "name" = some none)
  (gG:findIn K (.ref eV) "terms" = some none)
  (c7:findIn K (.ref eV) "signs" = some none)
  (acN:makesIn K bR=true)
  (acO:keepIn K (.ref bR)=true)
  (ahN:plainGet K bR Str.empty=true)
  (ahO:hasDictIn K bR=true)
  (ahP:plainOver K bR=true)
  (ahQ:findIn K (.ref bR) "__setattr__" = some (some (.builtin "object.__setattr__")))
  (gH:findIn K (.ref bR) "things" = some none)
  (jV:findIn K (.ref bR) "at" = some none)
  (gJ:findIn K (.ref bR) "before" = some none)
  (iY:findIn K (.ref bR) "after" = some none)
  (acP:makesIn K bI=true)
  (acQ:keepIn K (.ref bI)=true)
  (ahR:plainGet K bI Str.empty=true)
  (ahS:hasDictIn K bI=true)
  (ahT:plainOver K bI=true)
  (ahU:findIn K (.ref bI) "__setattr__" = some (some (.builtin "object.__setattr__")))
  (dg:findIn K (.ref bI) "voices" = some none)
  (fY:findIn K (.ref bI) "done" = some none)
  (dJ:findIn K (.ref bI) "undone" = some none) :
  ∃ fd:FuncData,(∀ (s:Shared) (v:Value),BindsTo s fd ⟨[v],[]⟩ [("_law_script",v)])/\∀ base:Heap,K.In base->base.Ns mainGlobals mg->bU l.prog w K mg base jt 12 fa fd ["_law_script"] (Z5 K):=by
 have e:=hfa.symm.trans (mg_of X G am2)
 cases e
 have bN:=bA (st:=pY) J6 J7 J8
 have bW:=bN.binds (ps:=["_law_script","_law_k"]) fun _ _ _ _ _ _ us hl=>match us,hl with | [_,_],_=>rfl
 have nq:=bA (st:=yt) WT WW WX
 have uD:=nq.binds (ps:=["_law_seed","_law_k"]) fun _ _ _ _ _ _ us hl=>match us,hl with | [_,_],_=>rfl
 have mJ:=bA (st:=pZ) Ka Kc Ke
 have vR:=mJ.binds (ps:=["_law_number"]) fun _ _ _ _ _ _ us hl=>match us,hl with | [_],_=>rfl
 have vU:=bA (st:=qb) Kg Kh Kl
 have Js:=vU.binds (ps:=["_law_script","_law_at","_law_many"]) fun _ _ _ _ _ _ us hl=>match us,hl with | [_,_,_],_=>rfl
 have Jt:=bA (st:=DG) ab3 ab4 ab5
 have aav:=Jt.binds (ps:=["_law_script","_law_at","_law_many"]) fun _ _ _ _ _ _ us hl=>match us,hl with | [_,_,_],_=>rfl
 have vV:=bA (st:=jw) Ko Kp Kq
 have Ju:=vV.binds (ps:=["_law_script"]) fun _ _ _ _ _ _ us hl=>match us,hl with | [_],_=>rfl
 have Aw:=bA (st:=qd) Ks Ku By
 have Jv:=Aw.binds (ps:=["self"]) fun _ _ _ _ _ _ us hl=>match us,hl with | [_],_=>rfl
 have Ax:=bA (st:=qe) Kw Ky BJ
 have mK:=Ax.binds (ps:=["self"]) fun _ _ _ _ _ _ us hl=>match us,hl with | [_],_=>rfl
 have Mg:=bA (st:=yu) W0 W2 Ml
 have Mh:=Mg.binds (ps:=["self"]) fun _ _ _ _ _ _ us hl=>match us,hl with | [_],_=>rfl
 have Ay:=bA (st:=qg) KC KH BK
 have Az:=Ay.binds (ps:=["self"]) fun _ _ _ _ _ _ us hl=>match us,hl with | [_],_=>rfl
 have cJ:=bA (st:=cV) kZ lg lq
 have dX:=cJ.binds (ps:=["at","last"]) fun _ _ _ _ _ _ us hl=>match us,hl with | [_,_],_=>rfl
 have aax:=bA (st:=UJ) al3 al4 al5
 have akj:=aax.binds (ps:=["sign"]) fun _ _ _ _ _ _ us hl=>match us,hl with | [_],_=>rfl
 have fK:=bA (st:=fB) rW rY rZ
 have lJ:=fK.binds (ps:=["sign"]) fun _ _ _ _ _ _ us hl=>match us,hl with | [_],_=>rfl
 have rC:=bA (st:=jj) zV zW sr
 have jm:=rC.binds (ps:=["self","deed"]) fun _ _ _ _ _ _ us hl=>match us,hl with | [_,_],_=>rfl
 have Mi:=bA (st:=LC) ahB ahC RV
 have Zr:=Mi.binds (ps:=["sign"]) fun _ _ _ _ _ _ us hl=>match us,hl with | [_],_=>rfl
 have Ef:=bA (st:=yw) W4 W5 W6
 have Vf:=Ef.binds (ps:=["line","at"]) fun _ _ _ _ _ _ us hl=>match us,hl with | [_,_],_=>rfl
 have zu:=bA (st:=uc) Qs Qt Qu
 have Oe:=zu.binds (ps:=["line","first","kinds"]) fun _ _ _ _ _ _ us hl=>match us,hl with | [_,_,_],_=>rfl
 have jo:=bA (st:=jk) zY zZ z9
 have rD:=jo.binds (ps:=["sign"]) fun _ _ _ _ _ _ us hl=>match us,hl with | [_],_=>rfl
 have zx:=bA (st:=DK) ab7 ab8 ab9
 have Jw:=zx.binds (ps:=["line","at","behind","changed"]) fun _ _ _ _ _ _ us hl=>match us,hl with | [_,_,_,_],_=>rfl
 have jb:=bA (st:=dM) ou oE je
 have dN:=jb.binds (ps:=["self","name"]) fun _ _ _ _ _ _ us hl=>match us,hl with | [_,_],_=>rfl
 have jT:=bA (st:=eN) pK pL jX
 have eQ:=jT.binds (ps:=["self","name"]) fun _ _ _ _ _ _ us hl=>match us,hl with | [_,_],_=>rfl
 have o8:=bA (st:=gR) wO wQ wR
 have gY:=o8.binds (ps:=["self","things","at","before","after"]) fun _ _ _ _ _ _ us hl=>match us,hl with | [_,_,_,_,_],_=>rfl
 have Ba:=bA (st:=qi) KN KQ BL
 have Jx:=Ba.binds (ps:=["self","name","at","sign"]) fun _ _ _ _ _ _ us hl=>match us,hl with | [_,_,_,_],_=>rfl
 have FZ:=bA (st:=ud) Qw Qx G9
 have Ga:=FZ.binds (ps:=["self","name","at","sign"]) fun _ _ _ _ _ _ us hl=>match us,hl with | [_,_,_,_],_=>rfl
 have Gb:=bA (st:=ue) Qz QB Ha
 have Og:=Gb.binds (ps:=["self","name","at"]) fun _ _ _ _ _ _ us hl=>match us,hl with | [_,_,_],_=>rfl
 have rE:=bA (st:=mZ) Hc Hd Hf
 have Gd:=rE.binds (ps:=["_law_script","_law_book","_law_name","_law_line_here"]) fun _ _ _ _ _ _ us hl=>match us,hl with | [_,_,_,_],_=>rfl
 have yc:=bA (st:=m6) Hh Hi ym
 have jU:=yc.binds (ps:=["self","name"]) fun _ _ _ _ _ _ us hl=>match us,hl with | [_,_],_=>rfl
 have qz:=bA (st:=qj) K1 K3 K4
 have Bb:=qz.binds (ps:=["book","name"]) fun _ _ _ _ _ _ us hl=>match us,hl with | [_,_],_=>rfl
 have Eg:=bA (st:=DN) acb acd ace
 have Rx:=Eg.binds (ps:=["line"]) fun _ _ _ _ _ _ us hl=>match us,hl with | [_],_=>rfl
 have vW:=bA (st:=qm) K6 K7 BP
 have jC:=vW.binds (ps:=["self","name"]) fun _ _ _ _ _ _ us hl=>match us,hl with | [_,_],_=>rfl
 have pI:=Zj (st:=uf) QD QF QG
 have Ge:Binds K _ ["line","begin"] []:=pI.binds (ds:=[]) BR rfl fun _ _ _ _ _ _ us hl=>match us,hl with | [_,_],_=>⟨_,rfl,rfl⟩
 have Yb:Binds K _ ["line","begin"] [.int 3 qW]:=pI.binds BR rfl fun _ _ _ _ _ _ us hl=>match us,(show us.length=1 by simpa using hl) with | [_],_=>⟨_,rfl,rfl⟩
 have gZ:=bA (st:=yx) W8 W9 Xa
 have j9:=gZ.binds (ps:=["line","at"]) fun _ _ _ _ _ _ us hl=>match us,hl with | [_,_],_=>rfl
 have oR:=bA (st:=j4) CJ CK CN
 have Cp:=oR.binds (ps:=["kind","measure"]) fun _ _ _ _ _ _ us hl=>match us,hl with | [_,_],_=>rfl
 have dY:=bA (st:=cW) lu lz lB
 have kW:=dY.binds (ps:=["line","begin"]) fun _ _ _ _ _ _ us hl=>match us,hl with | [_,_],_=>rfl
 have Vh:=Zj (st:=UL) al7 al8 al9
 have akl:Binds K _ ["line","begin"] []:=Vh.binds (ds:=[]) Zx rfl fun _ _ _ _ _ _ us hl=>match us,hl with | [_,_],_=>⟨_,rfl,rfl⟩
 have amM:Binds K _ ["line","begin"] [.int 3 Jm]:=Vh.binds Zx rfl fun _ _ _ _ _ _ us hl=>match us,(show us.length=1 by simpa using hl) with | [_],_=>⟨_,rfl,rfl⟩
 have ie:=bA (st:=gU) wV wW wX
 have o9:=ie.binds (ps:=["line","found","first"]) fun _ _ _ _ _ _ us hl=>match us,hl with | [_,_,_],_=>rfl
 have gq:=bA (st:=gj) uO uP uQ
 have nC:=gq.binds (ps:=["line","behind"]) fun _ _ _ _ _ _ us hl=>match us,hl with | [_,_],_=>rfl
 have iD:=bA (st:=fD) sy sE sG
 have rF:=iD.binds (ps:=["line","found","first","behind"]) fun _ _ _ _ _ _ us hl=>match us,hl with | [_,_,_,_],_=>rfl
 have iG:=bA (st:=fG) sI sJ sO
 have rG:=iG.binds (ps:=["line","found","first","behind"]) fun _ _ _ _ _ _ us hl=>match us,hl with | [_,_,_,_],_=>rfl
 have rH:=bA (st:=m7) Hl Hm Hn
 have Gg:=rH.binds (ps:=["line","found","first","behind"]) fun _ _ _ _ _ _ us hl=>match us,hl with | [_,_,_,_],_=>rfl
 have Ei:=bA (st:=yz) Xc Xd Xe
 have Vi:=Ei.binds (ps:=["line","begin"]) fun _ _ _ _ _ _ us hl=>match us,hl with | [_,_],_=>rfl
 have zy:=Zj (st:=DP) acg ach aci
 have Ry:Binds K _ ["line","begin"] []:=zy.binds (ds:=[]) Mm rfl fun _ _ _ _ _ _ us hl=>match us,hl with | [_,_],_=>⟨_,rfl,rfl⟩
 have aem:Binds K _ ["line","begin"] [.int 3 zb]:=zy.binds Mm rfl fun _ _ _ _ _ _ us hl=>match us,(show us.length=1 by simpa using hl) with | [_],_=>⟨_,rfl,rfl⟩
 have Bd:=bA (st:=qp) K9 La BV
 have qC:=Bd.binds (ps:=["self","name"]) fun _ _ _ _ _ _ us hl=>match us,hl with | [_,_],_=>rfl
 have Jy:=bA (st:=DQ) ack acn v7
 have aaz:=Jy.binds (ps:=["sign"]) fun _ _ _ _ _ _ us hl=>match us,hl with | [_],_=>rfl
 have Mj:=bA (st:=LK) ahE ahF ahG
 have Zt:=Mj.binds (ps:=["book","name"]) fun _ _ _ _ _ _ us hl=>match us,hl with | [_,_],_=>rfl
 have Jz:=bA (st:=DR) acp acq acr
 have aaA:=Jz.binds (ps:=["book","name"]) fun _ _ _ _ _ _ us hl=>match us,hl with | [_,_],_=>rfl
 have kh:=bA (st:=yC) Xg Xh Xi
 have qD:=kh.binds (ps:=["_law_found"]) fun _ _ _ _ _ _ us hl=>match us,hl with | [_],_=>rfl
 have Ej:=bA (st:=DW) acu acv acw
 have Rz:=Ej.binds (ps:=["_law_found","_law_due"]) fun _ _ _ _ _ _ us hl=>match us,hl with | [_,_],_=>rfl
 have mO:=bA (st:=qt) Ld Le Lf
 have vX:=mO.binds (ps:=["_law_voices","_law_name"]) fun _ _ _ _ _ _ us hl=>match us,hl with | [_,_],_=>rfl
 have JB:=bA (st:=DX) acy acz acA
 have aaB:=JB.binds (ps:=["_law_line_here","_law_begin"]) fun _ _ _ _ _ _ us hl=>match us,hl with | [_,_],_=>rfl
 have Ek:=bA (st:=yD) Xk Xl Xm
 have Vj:=Ek.binds (ps:=["_law_line_here","_law_begin"]) fun _ _ _ _ _ _ us hl=>match us,hl with | [_,_],_=>rfl
 have RB:=bA (st:=LQ) ahI ahJ ahK
 have afo:=RB.binds (ps:=["_law_line_here","_law_told","_law_low","_law_high"]) fun _ _ _ _ _ _ us hl=>match us,hl with | [_,_,_,_],_=>rfl
 have El:=bA (st:=DY) acC acD acE
 have RC:=El.binds (ps:=["_law_line_here","_law_begin"]) fun _ _ _ _ _ _ us hl=>match us,hl with | [_,_],_=>rfl
 have mQ:=bA (st:=qu) Lh Li Lj
 have vY:=mQ.binds (ps:=["_law_voices","_law_name"]) fun _ _ _ _ _ _ us hl=>match us,hl with | [_,_],_=>rfl
 have nF:=bA (st:=m8) Hr Ht Hu
 have ye:=nF.binds (ps:=["_law_voices","_law_name"]) fun _ _ _ _ _ _ us hl=>match us,hl with | [_,_],_=>rfl
 have oU:=bA (st:=j5) CQ CT CW
 have Cq:=oU.binds (ps:=["_law_voices","_law_name"]) fun _ _ _ _ _ _ us hl=>match us,hl with | [_,_],_=>rfl
 have kj:=bA (st:=yE) Xo Xp Xq
 have qF:=kj.binds (ps:=["_law_script","_law_book","_law_voices"]) fun _ _ _ _ _ _ us hl=>match us,hl with | [_,_,_],_=>rfl
 have yf:=bA (st:=m9) Hw Hy yo
 have nG:=yf.binds (ps:=["self"]) fun _ _ _ _ _ _ us hl=>match us,hl with | [_],_=>rfl
 have Em:=bA (st:=yF) Xu Xv Xw
 have Vk:=Em.binds (ps:=["_law_found","_law_due"]) fun _ _ _ _ _ _ us hl=>match us,hl with | [_,_],_=>rfl
 have JC:=bA (st:=Ea) acG acH acI
 have aaD:=JC.binds (ps:=["_law_found","_law_due"]) fun _ _ _ _ _ _ us hl=>match us,hl with | [_,_],_=>rfl
 have mR:=bA (st:=ug) QJ QK QL
 have uG:=mR.binds (ps:=["_law_book","_law_voices"]) fun _ _ _ _ _ _ us hl=>match us,hl with | [_,_],_=>rfl
 have iH:=bA (st:=fH) sU sV sW
 have rJ:=iH.binds (ps:=["_law_script","_law_book","_law_told"]) fun _ _ _ _ _ _ us hl=>match us,hl with | [_,_,_],_=>rfl
 have oV:=bA (st:=j6) De Df Dg
 have Cr:=oV.binds (ps:=["_law_script","_law_book","_law_told"]) fun _ _ _ _ _ _ us hl=>match us,hl with | [_,_,_],_=>rfl
 have En:=bA (st:=yG) Xy Xz XC
 have Vl:=En.binds (ps:=["name"]) fun _ _ _ _ _ _ us hl=>match us,hl with | [_],_=>rfl
 have lK:=bA (st:=fJ) sY sZ lN
 have lL:=lK.binds (ps:=["self","name"]) fun _ _ _ _ _ _ us hl=>match us,hl with | [_,_],_=>rfl
 have vI:=bA (st:=j7) Di Dj vK
 have vJ:=vI.binds (ps:=["self","voice"]) fun _ _ _ _ _ _ us hl=>match us,hl with | [_,_],_=>rfl
 have nH:=bA (st:=gk) uT uU uV
 have nJ:=nH.binds (ps:=["self","name","terms"]) fun _ _ _ _ _ _ us hl=>match us,hl with | [_,_,_],_=>rfl
 have nM:=bA (st:=gm) uX uY nW
 have nP:=nM.binds (ps:=["self","name"]) fun _ _ _ _ _ _ us hl=>match us,hl with | [_,_],_=>rfl
 have jq:=Zj (st:=gn) vd vf nY
 have uH:Binds K _ ["self","name","leader","later","slow","is_turned"] []:=jq.binds (ds:=[]) lO rfl fun _ _ _ _ _ _ us hl=>match us,hl with | [_,_,_,_,_,_],_=>⟨_,rfl,rfl⟩
 have Bg:Binds K _ ["self","name","leader","later","slow","is_turned"] [.int 0 gC,.int 1 gD,.bool false]:=jq.binds lO rfl fun _ _ _ _ _ _ us hl=>match us,(show us.length=3 by simpa using hl) with | [_,_,_],_=>⟨_,rfl,rfl⟩
 have vZ:=bA (st:=qw) Ln Lp Lq
 have JF:=vZ.binds (ps:=["_law_book","_law_told"]) fun _ _ _ _ _ _ us hl=>match us,hl with | [_,_],_=>rfl
 have ph:=bA (st:=gW) wZ w6 xf
 have wJ:=ph.binds (ps:=["self"]) fun _ _ _ _ _ _ us hl=>match us,hl with | [_],_=>rfl
 have amN:=bA (st:=aei) ar4 ar5 ar6
 have aut:=amN.binds (ps:=["_law_script"]) fun _ _ _ _ _ _ us hl=>match us,hl with | [_],_=>rfl
 have T:Txt K w mg ⟨_,_,_,_,_,_,_,_,_,_,_,_,_,_,_,_,_,_,_,_,_,_,_,_,_,_,_,_,_,_,_,_,_,_,_,_,_,_,_,_,_,_,_,_,_,_,_,_,_,_,_,_,_,_,_,_,_,_,_,_,_,_,_,qW,_,_,_,_,_,_,_,_,_,Jm,_,_,_,_,_,_,_,_,_,_,_,_,_,_,_,zb,_,_,_,_,_,_,_,_,_,_,_,_,_,_,_,_,_,_,_,_,_,_,_,_,_,_,_,_,_,_,_,_,_,_,_,_,_,_,_,_,_,_,_,_,_,_,_,_,_,_,_,_,_,_,_,gC,gD,_,_,_,_,_,_,gh,iV,fP,dU,du,gF,q9,fc,fu,cP,xY,lH,oY,rm,Ma,rA,vG,xZ,Ru,Mf,eV,bR,bI⟩:=⟨bN,bW,mg_of X G J5,nq,uD,mg_of X G WR,mJ,vR,mg_of X G J9,vU,Js,mg_of X G Kf,Jt,aav,mg_of X G ab2,vV,Ju,mg_of X G Km,Aw,Jv,⟨Kr,G5,By⟩,Ax,mK,⟨Kv,G6,BJ⟩,Mg,Mh,⟨WY,Qp,Ml⟩,Ay,Az,⟨Kz,G7,BK⟩,cJ,dX,mg_of X G kY,aax,akj,mg_of X G al2,fK,lJ,mg_of X G rT,rC,jm,⟨zU,wL,sr⟩,Mi,Zr,mg_of X G ahA,Ef,Vf,mg_of X G W3,zu,Oe,mg_of X G Qq,jo,rD,mg_of X G zX,zx,Jw,mg_of X G ab6,jb,dN,⟨oh,mX,je⟩,jT,eQ,⟨pJ,oF,jX⟩,o8,gY,Ba,Jx,⟨KJ,G8,BL⟩,FZ,Ga,⟨Qv,KR,G9⟩,Gb,Og,⟨Qy,KY,Ha⟩,rE,Gd,mg_of X G Hb,yc,jU,⟨Hg,Cz,ym⟩,qz,Bb,mg_of X G KZ,Eg,Rx,mg_of X G aca,vW,jC,⟨K5,Hj,BP⟩,pI,Yb,Ge,mg_of X G QC,gZ,j9,mg_of X G W7,oR,Cp,mg_of X G CG,dY,kW,mg_of X G lr,Vh,amM,akl,mg_of X G al6,ie,o9,mg_of X G wU,gq,nC,mg_of X G uN,iD,rF,mg_of X G su,iG,rG,mg_of X G sH,rH,Gg,mg_of X G Hk,Ei,Vi,mg_of X G Xb,zy,aem,Ry,mg_of X G acf,Bd,qC,⟨K8,Ho,BV⟩,Jy,aaz,mg_of X G acj,Mj,Zt,mg_of X G ahD,Jz,aaA,mg_of X G aco,kh,qD,mg_of X G Xf,Ej,Rz,mg_of X G acs,mO,vX,mg_of X G Lb,JB,aaB,mg_of X G acx,Ek,Vj,mg_of X G Xj,RB,afo,mg_of X G ahH,El,RC,mg_of X G acB,mQ,vY,mg_of X G Lg,nF,ye,mg_of X G Hq,oU,Cq,mg_of X G CP,kj,qF,mg_of X G Xn,yf,nG,⟨Hv,CZ,yo⟩,Em,Vk,mg_of X G Xr,JC,aaD,mg_of X G acF,mR,uG,mg_of X G QH,iH,rJ,mg_of X G sS,oV,Cr,mg_of X G Dc,En,Vl,mg_of X G Xx,lK,lL,⟨sX,pM,lN⟩,vI,vJ,⟨Dh,Aa,vK⟩,nH,nJ,nM,nP,⟨uW,tE,nW⟩,jq,Bg,uH,⟨uZ,tG,nY⟩,vZ,JF,mg_of X G Lk,ph,wJ,amN,aut,mg_of X G am2,mg_none_of X G ar7,mg_none_of X G ar8,mg_none_of X G ama,mg_none_of X G amb,mg_none_of X G Lr,mg_none_of X G ar9,mg_none_of X G Hz,mg_none_of X G asa,mg_none_of X G amc,mg_none_of X G asb,mg_none_of X G asd,mg_none_of X G ahL,mg_none_of X G ase,mg_none_of X G asf,mg_none_of X G ahM,mg_none_of X G ash,mg_of X G Ab,(fun H=>.inr ⟨_,_,_,Ac,rfl,rfl,(by show 3 <= sizeLine;decide),(.cons ⟨_,rfl⟩ (.cons ⟨_,rfl⟩ (.cons ⟨_,rfl⟩ .nil)))⟩),mg_of X G Ad,(fun H=>.inr ⟨_,_,_,Ae,rfl,rfl,(by show 3 <= sizeLine;decide),(.cons ⟨_,rfl⟩ (.cons ⟨_,rfl⟩ (.cons ⟨_,rfl⟩ .nil)))⟩),mg_of X G vh,(fun H=>.inr ⟨_,_,_,vm,rfl,rfl,(by show 3 <= sizeLine;decide),(.cons ⟨_,rfl⟩ (.cons ⟨_,rfl⟩ (.cons ⟨_,rfl⟩ .nil)))⟩),mg_of X G vo,(fun H=>.inr ⟨_,_,_,vq,rfl,rfl,(by show 2 <= sizeLine;decide),(.cons ⟨_,rfl⟩ (.cons ⟨_,rfl⟩ .nil))⟩),mg_of X G tH,(fun H=>.inr ⟨_,_,_,tK,rfl,rfl,(by show 4 <= sizeLine;decide),(.cons ⟨_,rfl⟩ (.cons ⟨_,rfl⟩ (.cons ⟨_,rfl⟩ (.cons ⟨_,rfl⟩ .nil))))⟩),mg_of X G xg,(fun H=>.inr ⟨_,_,_,xj,rfl,rfl,(by show 5 <= sizeLine;decide),(.cons ⟨_,rfl⟩ (.cons ⟨_,rfl⟩ (.cons ⟨_,rfl⟩ (.cons ⟨_,rfl⟩ (.cons ⟨_,rfl⟩ .nil)))))⟩),mg_of X G xm,mg_of X G xq,⟨xu,_,_,xr,(.cons ⟨_,rfl⟩ (.cons ⟨_,rfl⟩ .nil)),by decide +kernel⟩,mg_of X G xF,⟨xH,_,_,xG,(.cons ⟨_,rfl⟩ (.cons ⟨_,rfl⟩ (.cons ⟨_,rfl⟩ (.cons ⟨_,rfl⟩ (.cons ⟨_,rfl⟩ (.cons ⟨_,rfl⟩ (.cons ⟨_,rfl⟩ (.cons ⟨_,rfl⟩ (.cons ⟨_,rfl⟩ .nil))))))))),by decide +kernel⟩,mg_of X G tL,⟨tO,_,_,tM,(.cons ⟨_,rfl⟩ (.cons ⟨_,rfl⟩ .nil)),by decide +kernel⟩,mg_of X G Dk,mg_of X G pN,mg_of X G vy,mg_of X G xJ,mg_of X G QM,mg_of X G xK,mg_of X G Af,mg_of X G Dl,mg_of X G XD,mg_of X G QR,mg_of X G ab1,⟨XF,uR,tD,XH⟩,⟨acJ,acK,acL,acM⟩,iW,gG,c7,mg_of X G ahy,⟨acN,wN,uM,acO⟩,⟨ahN,ahO,ahP,ahQ⟩,gH,jV,gJ,iY,mg_of X G ahz,⟨acP,wY,vg,acQ⟩,⟨ahR,ahS,ahT,ahU⟩,dg,fY,dJ⟩
 exact⟨_,fun s v=>.of_eq rfl,fun base _ _=>av1 T⟩
theorem walk {l:OpenLaw}{q:Program}{loose:List Str}{XP:(Str->Option Value)->Heap->Prop}{YP:World->Heap->Prop}{d:DefRec}{K:Params->Frag}(hn:l.most=some 63)(hdf:d.params.defaults=[])
  (hY:∀ (w:World) (h:Heap),YP w h->(K w.params).In h)
  (F:∀ (w:World) (mg:Str->Option Value) (fa:Addr) (h:Heap),(K w.params).In h->h.Ns mainGlobals mg->mg d.name=some (.ref fa) ->
   ∃ fd:FuncData,(∀ (s:Shared) (u:Value),BindsTo s fd ⟨[u],[]⟩ [("_law_script",u)])/\∀ base:Heap,(K w.params).In base->base.Ns mainGlobals mg->bU l.prog w (K w.params) mg base jt 12 fa fd ["_law_script"] (Z5 (K w.params))) :
  WalkO q loose XP YP l.row.toRowW d [] (fun f vs=>PySem.call f vs) :=
 L2.asF (n:=63) (k:=12) (x:="_law_script") (CX:=fun _=>jt) (sp:=fun w=>Z5 (K w.params)) hn (by decide) hdf ⟨rfl,by decide,by decide⟩ hY F (fun _ H a ns hl hO hS=>anE hl hO hS) fun _ _ _ _ _ z=>z
end ae4
namespace PySem.W.Fast
def tw13572789339223385927:=()
def tw10956215160715452916:=()
def tw721939367930305152:=()
def tw4743118869171549847:=()
def tw8154879996589443759:=()
def tw14820867835203333505:=()
def tw18311658675274865219:=()
def tw16035121153573534953:=()
def tw12745331666592946622:=()
def tw13469273166554123023:=()
def tw16183895944343243070:=()
def tw16665282621513604105:=()
def tw13597393733925870363:=()
def tw7222465677436589505:=()
def tw11292681239703609990:=()
def tw10453700161231722583:=()
def tw2627926430365028291:=()
def tw1255906722019058897:=()
def tw15813504988736525578:=()
def tw4619427969181048538:=()
def tw1780984258893779659:=()
def tw5917258288348166623:=()
def tw159181994322795089:=()
def tw14254934545921384190:=()
def tw8419933136403153326:=()
def tw10920445707633199383:=()
def tw6762008155161169639:=()
def tw7069870387414042090:=()
def tw16633125661217510958:=()
def tw6003683456751546758:=()
def tw4585846046509661018:=()
def tw12965402834333900820:=()
def tw16876376613255714760:=()
def tw457168550488736094:=()
def tw17283625831417470656:=()
def tw10013987367496930057:=()
def tw6744819360515512480:=()
def tw3622475692899655059:=()
def tw8163503915561611930:=()
def tw8110876073919694627:=()
def tw3651832494423372026:=()
def tw15856883659748346662:=()
def tw13684578933115068546:=()
def tw39293790315907233:=()
def tw15054391029563364661:=()
def tw17670362720297291388:=()
def tw17358055639696438228:=()
def tw16688394701301966957:=()
def tw4765612490854751549:=()
def tw4692411493954447095:=()
def tw10068068178345875476:=()
def tw9570512616919406927:=()
def tw2354809486837679926:=()
def tw13111382954180527977:=()
def tw18215904867649925987:=()
def tw14728367310834065702:=()
def tw16713721459607663279:=()
def tw16216309121319512780:=()
def tw9423754033247595907:=()
def tw9515798041410874087:=()
def tw16037207001050121121:=()
def tw17768075811324477800:=()
def tw14411861201349802785:=()
def tw4518476205038608177:=()
def tw10540865068191919562:=()
def tw343246934801697628:=()
def tw1190595934602933582:=()
def tw422872873417399591:=()
def tw41521945431399628:=()
def tw15107569155507602739:=()
def tw2540460873762928921:=()
def tw17416149486806715958:=()
def tw7882533146647293598:=()
def tw2623753805752583369:=()
def tw6276393797343901458:=()
def tw6053367209314797446:=()
def tw9976159514212944789:=()
def tw17753206092663609757:=()
def tw14933984844047859035:=()
def tw2704290108819785266:=()
def tw14553759669925502127:=()
def tw12295153611543295132:=()
def tw14055997212447186034:=()
def tw11827861650054278360:=()
def tw6883199498983764871:=()
def tw12571295803383540211:=()
def tw15901362976606650911:=()
def tw14687010248123340999:=()
def tw14651288729746840886:=()
def tw9451088273528544496:=()
def tw7670652991329311631:=()
def tw5417030193876311037:=()
def tw16700262019844534581:=()
def tw12620539833372843071:=()
def tw16032637260834774400:=()
def tw11891147240711118398:=()
def tw974353667164763472:=()
def tw17277333153036933626:=()
def tw12805445242459584539:=()
def tw1916859736135696706:=()
def tw16612308836125322164:=()
def tw3148597689906315068:=()
def tw4938784399144589679:=()
def tw14959568633886264903:=()
def tw8189634353842218327:=()
def tw10346313491672281501:=()
def tw2082537355045069773:=()
def tw12079773843126761280:=()
def tw2086735750511161125:=()
def tw16898512854603283899:=()
def tw7465095738397279861:=()
def tw11554534462030287372:=()
def tw8989019025274057241:=()
def tw17597900041554731856:=()
def tw1527581883897922831:=()
def tw7823667344561710618:=()
def tw13832438007268493896:=()
def tw5967482358970106954:=()
def tw12982273341761151261:=()
def tw1664554435298569765:=()
def tw3086934582024723409:=()
def tw15644180299289272565:=()
def tw14056888961197755727:=()
def tw13157187566772567170:=()
def tw18378645403768419077:=()
def tw13913950483551485820:=()
def tw5584220820152141281:=()
def tw10168062550447707511:=()
def tw1413202794004018017:=()
def tw2577316619393629095:=()
def tw13815570868879015608:=()
def tw8359068198143401088:=()
def tw10644813648286994291:=()
def tw2402782533367168687:=()
def tw6215326952520672486:=()
def tw14910811735695937092:=()
def tw3841718637169770988:=()
def tw8851307016886088675:=()
def tw7473006444447613143:=()
def tw298141977346276619:=()
def tw13537930358533796659:=()
def tw4822715546904817967:=()
def tw17829207971616233082:=()
def tw15946315682790519117:=()
def tw2609110298903894912:=()
def tw5891211309125917083:=()
def tw589723102938635192:=()
def tw17273937500699420842:=()
def tw15482228327861685122:=()
def tw6524874021504840509:=()
def tw17511094289899114707:=()
def tw9401708657972163518:=()
def tw7463471922773706072:=()
def tw4108374737698716792:=()
def tw3298844833938234343:=()
def tw5722235064397486000:=()
def tw8792845843195613811:=()
def tw14303817106758277855:=()
def tw15597086282739313484:=()
def tw8759963632223052238:=()
def tw644524355190185611:=()
def tw11326755169541496309:=()
def tw15738846265845655792:=()
def tw2621356405275948236:=()
def tw7441994174737690642:=()
def tw5154148723175906438:=()
def tw12808122902050190730:=()
def tw15849492456225596911:=()
def tw15846523829767299353:=()
def tw13037880178698371319:=()
def tw9513159704770615475:=()
def tw889987170577734381:=()
def tw8542702894106090795:=()
def tw18419490580354875819:=()
def tw8465239147970952089:=()
def tw9699528363514851132:=()
def tw10680479664317344446:=()
def tw5846212258967870571:=()
def tw932773463920041867:=()
def tw7622018236423176099:=()
def tw10806631598205078410:=()
def tw14347369886856949125:=()
def tw16016820142163468703:=()
def tw18153793350649071721:=()
def tw11929450430229320933:=()
def tw14974644820406701420:=()
def tw8689703559328705888:=()
def tw15111893208631812691:=()
def tw14688796092789589916:=()
def tw10178747632006376013:=()
def tw6544331771653604253:=()
def tw2201982100690213003:=()
def tw10848746376824028153:=()
def tw14818418089502958179:=()
def tw5155551149287900707:=()
def tw8321541687028748434:=()
def tw6204688774432058293:=()
def tw13640105907754463155:=()
def tw14884988473520864582:=()
def tw8643136903664387060:=()
def tw192153756153238680:=()
def tw12277485257411279726:=()
def tw5205541166804805057:=()
def tw10591512703183659230:=()
def tw3778922939113828236:=()
def tw13400859623809931483:=()
def tw1876244216124875402:=()
def tw811707699803966385:=()
def tw11518311933224254607:=()
def tw7147960974182455678:=()
def tw10584523801669796250:=()
def tw11582531996943587805:=()
def tw13540286652608851244:=()
def tw2036086995190508139:=()
def tw415159870369334614:=()
def tw864085540398040725:=()
def tw26103935340164917:=()
def tw18005883383829304792:=()
def tw2906038890162493021:=()
def tw8316419125079725194:=()
def tw3956544129190132599:=()
def tw17380296241416655266:=()
def tw2165120877219862966:=()
def tw12924386318314516903:=()
def tw8501161698358062067:=()
def tw9057951695646175013:=()
def tw17094663041563280565:=()
def tw12958875917620458007:=()
def tw10273311359842034840:=()
def tw7019966072883301710:=()
def tw5485671158036982685:=()
def tw15075561087059729146:=()
def tw6981292735806987752:=()
def tw5659868282823125781:=()
def tw15388288920649384337:=()
def tw16875368094779562511:=()
def tw15514671056755685490:=()
def tw14989349923893355181:=()
def tw14101700817226935985:=()
def tw16740555832364666419:=()
def tw11652475338981996571:=()
def tw17934661740642336844:=()
def tw879487078493926428:=()
def tw149869047181452206:=()
def tw14244646832260659399:=()
def tw6544011070902412883:=()
def tw3121840626053871162:=()
def tw2531757762717558003:=()
def tw2782726065254856526:=()
def tw1170157969693465653:=()
def tw11576533302415434395:=()
def tw11295423116894552173:=()
def tw2323415683978136846:=()
def tw5427280911186418970:=()
def tw17648987660255674114:=()
def tw9626476996627845372:=()
def tw15694507796968514356:=()
def tw3430375190780120300:=()
def tw17646750434386480059:=()
def tw9701719206315051541:=()
def tw3499026892890104221:=()
def tw606497845708139416:=()
def tw568841069309931382:=()
def tw1060978962511780414:=()
def tw751496285977843027:=()
def tw11791392229275544134:=()
def tw13306963119337645651:=()
def tw3772659543598144188:=()
def tw6195225942440615849:=()
def tw5058955398086739183:=()
def tw8847701832780975039:=()
def tw13091605574370252335:=()
def tw17619919557197965457:=()
def tw16310531002342008517:=()
def tw12951179502455054068:=()
def tw446125184833409069:=()
def tw5271505933451345807:=()
def tw7533520569067672218:=()
def tw6151493149629569785:=()
def tw12798309631767742789:=()
def tw7180528867627327145:=()
def tw1684092985805093504:=()
def tw14159392672583416747:=()
def tw4750667260788689046:=()
def tw17197684469663932051:=()
def tw14339617923865444973:=()
def tw14327597245907781756:=()
end PySem.W.Fast
open PySem PySem.W PyProof.Rows
set_option maxRecDepth 100000 in
set_option maxHeartbeats 0 in
theorem PySem.Challenge.cw_noteworth_k40_spans_of_voices_holds : PySem.Challenge.rw_noteworth_k40_spans_of_voices.Holds := by
 w_on;o_law;k_head;(case hw=>w_witness2)
 k_fill
 refine ae4.walk (l:=PySem.Challenge.rw_noteworth_k40_spans_of_voices) rfl rfl (fun w h Y=>PySem.W.kIn_of Y) ?F
 case F =>
  intro w mg fa h KX G hmg
  refine' ae4.all_mk KX G hmg ?ab1 ?ahy ?ahz ?J5 ?J6 ?J7 ?J8 ?WR ?WT ?WW ?WX ?J9 ?Ka ?Kc ?Ke ?Kf ?Kg ?Kh ?Kl ?ab2 ?ab3 ?ab4 ?ab5 ?Km ?Ko ?Kp ?Kq ?Kr ?Ks ?Ku ?By ?G5 ?Kv ?Kw ?Ky ?BJ ?G6 ?WY ?W0 ?W2 ?Ml ?Qp ?Kz ?KC ?KH ?BK ?G7 ?kY ?kZ ?lg ?lq ?al2 ?al3 ?al4 ?al5 ?rT ?rW ?rY ?rZ ?zU ?zV ?zW ?sr ?wL ?ahA ?ahB ?ahC ?RV ?W3 ?W4 ?W5 ?W6 ?Qq ?Qs ?Qt ?Qu ?zX ?zY ?zZ ?z9 ?ab6 ?ab7 ?ab8 ?ab9 ?oh ?ou ?oE ?je ?mX ?pJ ?pK ?pL ?jX ?oF ?wN ?wO ?wQ ?wR ?uM ?KJ ?KN ?KQ ?BL ?G8 ?Qv ?Qw ?Qx ?G9 ?KR ?Qy ?Qz ?QB ?Ha ?KY ?Hb ?Hc ?Hd ?Hf ?Hg ?Hh ?Hi ?ym ?Cz ?KZ ?K1 ?K3 ?K4 ?aca ?acb ?acd ?ace ?K5 ?K6 ?K7 ?BP ?Hj ?QC ?QD ?QF ?QG ?BR ?W7 ?W8 ?W9 ?Xa ?CG ?CJ ?CK ?CN ?lr ?lu ?lz ?lB ?al6 ?al7 ?al8 ?al9 ?Zx ?wU ?wV ?wW ?wX ?uN ?uO ?uP ?uQ ?su ?sy ?sE ?sG ?sH ?sI ?sJ ?sO ?Hk ?Hl ?Hm ?Hn ?Xb ?Xc ?Xd ?Xe ?acf ?acg ?ach ?aci ?Mm ?K8 ?K9 ?La ?BV ?Ho ?acj ?ack ?acn ?v7 ?ahD ?ahE ?ahF ?ahG ?aco ?acp ?acq ?acr ?Xf ?Xg ?Xh ?Xi ?acs ?acu ?acv ?acw ?Lb ?Ld ?Le ?Lf ?acx ?acy ?acz ?acA ?Xj ?Xk ?Xl ?Xm ?ahH ?ahI ?ahJ ?ahK ?acB ?acC ?acD ?acE ?Lg ?Lh ?Li ?Lj ?Hq ?Hr ?Ht ?Hu ?CP ?CQ ?CT ?CW ?Xn ?Xo ?Xp ?Xq ?Hv ?Hw ?Hy ?yo ?CZ ?Xr ?Xu ?Xv ?Xw ?acF ?acG ?acH ?acI ?QH ?QJ ?QK ?QL ?sS ?sU ?sV ?sW ?Dc ?De ?Df ?Dg ?Xx ?Xy ?Xz ?XC ?sX ?sY ?sZ ?lN ?pM ?Dh ?Di ?Dj ?vK ?Aa ?uR ?uT ?uU ?uV ?tD ?uW ?uX ?uY ?nW ?tE ?uZ ?vd ?vf ?nY ?tG ?lO ?Lk ?Ln ?Lp ?Lq ?wY ?wZ ?w6 ?xf ?vg ?am2 ?ar4 ?ar5 ?ar6 ?ar7 ?ar8 ?ama ?amb ?Lr ?ar9 ?Hz ?asa ?amc ?asb ?asd ?ahL ?ase ?asf ?ahM ?ash ?Ab ?Ac ?Ad ?Ae ?vh ?vm ?vo ?vq ?tH ?tK ?xg ?xj ?xm ?xq ?xr ?xu ?xF ?xG ?xH ?tL ?tM ?tO ?Dk ?pN ?vy ?xJ ?QM ?xK ?Af ?Dl ?XD ?QR ?XF ?XH ?acJ ?acK ?acL ?acM ?iW ?gG ?c7 ?acN ?acO ?ahN ?ahO ?ahP ?ahQ ?gH ?jV ?gJ ?iY ?acP ?acQ ?ahR ?ahS ?ahT ?ahU ?dg ?fY ?dJ
  (case ab1 | ahy | ahz | J5 | J6 | J7 | J8 | WR | WT | WW | WX | J9 | Ka | Kc | Ke | Kf | Kg | Kh | Kl | ab2 | ab3 | ab4 | ab5 | Km | Ko | Kp | Kq | Kr | Ks | Ku | By | G5 | Kv | Kw | Ky | BJ | G6 | WY | W0 | W2 | Ml | Qp | Kz | KC | KH | BK | G7 | kY | kZ | lg | lq | al2 | al3 | al4 | al5 | rT | rW | rY | rZ | zU | zV | zW | sr | wL | ahA | ahB | ahC | RV | W3 | W4 | W5 | W6 | Qq | Qs | Qt | Qu | zX | zY | zZ | z9 | ab6 | ab7 | ab8 | ab9 | oh | ou | oE | je | mX | pJ | pK | pL | jX | oF | wN | wO | wQ | wR | uM | KJ | KN | KQ | BL | G8 | Qv | Qw | Qx | G9 | KR | Qy | Qz | QB | Ha | KY | Hb | Hc | Hd | Hf | Hg | Hh | Hi | ym | Cz | KZ | K1 | K3 | K4 | aca | acb | acd | ace | K5 | K6 | K7 | BP | Hj | QC | QD | QF | QG | BR | W7 | W8 | W9 | Xa | CG | CJ | CK | CN | lr | lu | lz | lB | al6 | al7 | al8 | al9 | Zx | wU | wV | wW | wX | uN | uO | uP | uQ | su | sy | sE | sG | sH | sI | sJ | sO | Hk | Hl | Hm | Hn | Xb | Xc | Xd | Xe | acf | acg | ach | aci | Mm | K8 | K9 | La | BV | Ho | acj | ack | acn | v7 | ahD | ahE | ahF | ahG | aco | acp | acq | acr | Xf | Xg | Xh | Xi | acs | acu | acv | acw | Lb | Ld | Le | Lf | acx | acy | acz | acA | Xj | Xk | Xl | Xm | ahH | ahI | ahJ | ahK | acB | acC | acD | acE | Lg | Lh | Li | Lj | Hq | Hr | Ht | Hu | CP | CQ | CT | CW | Xn | Xo | Xp | Xq | Hv | Hw | Hy | yo | CZ | Xr | Xu | Xv | Xw | acF | acG | acH | acI | QH | QJ | QK | QL | sS | sU | sV | sW | Dc | De | Df | Dg | Xx | Xy | Xz | XC | sX | sY | sZ | lN | pM | Dh | Di | Dj | vK | Aa | uR | uT | uU | uV | tD | uW | uX | uY | nW | tE | uZ | vd | vf | nY | tG | lO | Lk | Ln | Lp | Lq | wY | wZ | w6 | xf | vg | am2 | ar4 | ar5 | ar6 | ar7 | ar8 | ama | amb | Lr | ar9 | Hz | asa | amc | asb | asd | ahL | ase | asf | ahM | ash | Ab | Ac | Ad | Ae | vh | vm | vo | vq | tH | tK | xg | xj | xm | xq | xr=>k_is)
  (case xu=>rfl)
  (case xF | xG=>k_is)
  (case xH=>rfl)
  (case tL | tM=>k_is)
  (case tO=>rfl)
  (case Dk | pN | vy | xJ | QM | xK | Af | Dl | XD | QR | XF | XH | acJ | acK | acL | acM | iW | gG | c7 | acN | acO | ahN | ahO | ahP | ahQ | gH | jV | gJ | iY | acP | acQ | ahR | ahS | ahT | ahU | dg | fY | dJ=>k_is)
