import PyProof.Rows.All
import Wide.All
import OpenK.AllK
import Wide.FinOn
import Lean
import PyProof.EqAt
import PyProof.EqKinds
import PyProof.TupleCall
import PySem.Challenge.RW_noteworth_k44_waits_told
set_option Elab.async false
set_option linter.all false
set_option maxRecDepth 100000
open PySem.W (Frag OpenLaw WalkO callWith_K callWith_K0 codeIn emptyDict excIn findIn fnOf handedIn hasDictIn instObj isFn keepIn kia_one kitOne kitx_dict kitx_list lookIn makesIn methodCall_KW methodObj mg_none_of mg_of mroIn nsIn plainGet plainGet_of plainOver specialIn takerIn)
namespace L2
open PySem PySem.Spec PyProof.Rows
abbrev Key:=Sum Int Str
def Zn:Key->Value->Bool
 | .inl k,v=>Value.isInt k v
 | .inr x,v=>Value.isStrOf x v
def ayh (w:World):Key->Int
 | .inl k=>hashInt k
 | .inr x=>hashStr w x
theorem gh:∀ {k:Key} {v:Value},Zn k v=true->(∃ i t,k=Sum.inl i/\v=Value.int i t)∨(∃ x t,k=Sum.inr x/\v=Value.str x t)
 | .inl i,v,h=>by
  obtain⟨t,e⟩:=Value.isInt_shape (k:=i) (v:=v) h
  exact .inl ⟨i,t,rfl,e⟩
 | .inr x,v,h=>by
  obtain⟨t,e⟩:=Value.isStrOf_shape (x:=x) (v:=v) h
  exact .inr ⟨x,t,rfl,e⟩
theorem amR (i:Int)(t:Tok):Zn (.inl i) (.int i t)=true:=by simp[Zn,Value.isInt]
theorem amS (x:Str)(t:Tok):Zn (.inr x) (.str x t)=true:=by simp[Zn,Value.isStrOf]
theorem aul (a b:Int):decide ((Sum.inl a:Key)=Sum.inl b)=(a == b):=by
 by_cases e:a=b
 ·subst e;simp
 ·have h:¬ (Sum.inl a:Key)=Sum.inl b:=fun q=>e (Sum.inl.inj q)
  rw[decide_eq_false h]
  exact (beq_eq_false_iff_ne.mpr e).symm
theorem aum (a b:Str):decide ((Sum.inr a:Key)=Sum.inr b)=decide (a=b):=by
 by_cases e:a=b
 ·subst e;simp
 ·have h:¬ (Sum.inr a:Key)=Sum.inr b:=fun q=>e (Sum.inr.inj q)
  rw[decide_eq_false h,decide_eq_false e]
theorem aun (a:Int)(b:Str):decide ((Sum.inl a:Key)=Sum.inr b)=false:=decide_eq_false (fun q=>nomatch q)
theorem auo (a:Str)(b:Int):decide ((Sum.inr a:Key)=Sum.inl b)=false:=decide_eq_false (fun q=>nomatch q)
def dz (prog:Program)(w:World):PySem.KeyKind prog w Key where
 is:=Zn
 hash:=ayh w
 inj:=fun v a b ha hb=>by
  rcases gh ha with ⟨i,t,rfl,rfl⟩ | ⟨x,t,rfl,rfl⟩
  ·rcases gh hb with ⟨j,u,rfl,e⟩ | ⟨y,u,rfl,e⟩
   ·injection e with e1 _;rw[e1]
   ·exact nomatch e
  ·rcases gh hb with ⟨j,u,rfl,e⟩ | ⟨y,u,rfl,e⟩
   ·exact nomatch e
   ·injection e with e1 _;rw[e1]
 byValue:=fun k v h=>by
  rcases gh h with ⟨i,t,rfl,rfl⟩ | ⟨x,t,rfl,rfl⟩ <;> rfl
 pyHash:=fun hv h=>by
  rcases gh hv with ⟨i,t,rfl,rfl⟩ | ⟨x,t,rfl,rfl⟩
  ·exact wpAny_pyHash_int h
  ·exact wpAny_pyHash_str h
 eqBool:=fun hu hv h=>by
  rcases gh hu with ⟨i,t,rfl,rfl⟩ | ⟨x,t,rfl,rfl⟩
  ·rcases gh hv with ⟨j,u,rfl,rfl⟩ | ⟨y,u,rfl,rfl⟩
   ·rw[aul] at h;exact wpAny_eqBool_int h
   ·rw[aun] at h;exact SeqAt.EqAt.int_str i t y u _ _ _ _ h
  ·rcases gh hv with ⟨j,u,rfl,rfl⟩ | ⟨y,u,rfl,rfl⟩
   ·rw[auo] at h;exact SeqAt.EqAt.str_int x t j u _ _ _ _ h
   ·rw[aum] at h;exact wpAny_eqBool_str h
 «strs»:=fun k x t v h=>by
  rcases gh h with ⟨i,u,rfl,e⟩ | ⟨y,u,rfl,e⟩
  ·exact nomatch e
  ·injection e with e1 _
   subst e1
   cases v <;> rfl
theorem ahC (prog:Program)(w:World)(i:Int)(t:Tok):(dz prog w).is (.inl i) (.int i t)=true:=amR i t
theorem pM (prog:Program)(w:World)(x:Str)(t:Tok):(dz prog w).is (.inr x) (.str x t)=true:=amS x t
end L2
namespace L2
open PySem PySem.Spec PyProof.Rows
inductive V where
 | non | bl (b:Bool) | int (i:Int) | str (x:Str) | byt (b:Array UInt8) | flt (b:UInt64) | ref (a:Addr) | ty (n:String)
 deriving DecidableEq
def RelV:V->Value->Prop
 | .non,u=>u=Value.none
 | .bl b,u=>u=Value.bool b
 | .int i,u=>∃ t,u=Value.int i t
 | .str x,u=>∃ t,u=Value.str x t
 | .byt b,u=>∃ t,u=Value.bytes b t
 | .flt b,u=>∃ t,u=Value.float b t
 | .ref a,u=>u=Value.ref a
 | .ty n,u=>u=Value.type n
abbrev Vals:List V->List Value->Prop:=Paired RelV
theorem Vals.length {xs:List V}{us:List Value}(r:Vals xs us):xs.length=us.length:=Paired.length r
theorem Vals.get:∀ {xs:List V} {us:List Value} {i:Nat} {x:V},Vals xs us->xs[i]? = some x->∃ u,us[i]? = some u/\RelV x u
 | _,_,_,_,.nil,e=>by simp at e
 | _,_,0,_,.cons r _,e=>by simp at e;subst e;exact⟨_,rfl,r⟩
 | _,_,i+1,x,.cons _ t,e=>by
  obtain⟨u,h1,h2⟩:=Vals.get (i:=i) (x:=x) t (by simpa using e)
  exact⟨u,by simpa using h1,h2⟩
theorem Vals.set {x:V}{u:Value}(r:RelV x u):∀ {xs:List V} {us:List Value} (i:Nat),Vals xs us->Vals (xs.set i x) (us.set i u)
 | _,_,_,.nil=>.nil
 | _,_,0,.cons _ t=>.cons r t
 | _,_,i+1,.cons q t=>.cons q (Vals.set r i t)
theorem Vals.append:∀ {xs ys:List V} {us ws:List Value},Vals xs us->Vals ys ws->Vals (xs++ys) (us++ws)
 | _,_,_,_,.nil,s=>s
 | _,_,_,_,.cons r t,s=>.cons r (Vals.append t s)
theorem Vals.take:∀ {xs:List V} {us:List Value} (n:Nat),Vals xs us->Vals (xs.take n) (us.take n)
 | _,_,0,_=>.nil
 | _,_,_+1,.nil=>.nil
 | _,_,n+1,.cons r t=>.cons r (Vals.take n t)
theorem Vals.drop:∀ {xs:List V} {us:List Value} (n:Nat),Vals xs us->Vals (xs.drop n) (us.drop n)
 | _,_,0,r=>r
 | _,_,_+1,.nil=>.nil
 | _,_,n+1,.cons _ t=>Vals.drop n t
def De:Option V->Option Value->Prop
 | some v,some u=>RelV v u
 | none,none=>True
 | _,_=>False
def KV {κ:Type}:List (κ×V)->List (κ×Value)->Prop:=Paired fun (p:κ×V) (q:κ×Value)=>p.1=q.1/\RelV p.2 q.2
def kV:Key->V
 | .inl i=>.int i
 | .inr x=>.str x
inductive HO where
 /-- a list -/
 | lst (xs:List V)
 /-- a tuple (never changes) -/
 | tup (xs:List V)
 /-- a dict whose keys are ints and texts;one whose keys are tuples of ints and texts (the empty one is both) -/
 | dK (kvs:List (Key×V)) | dT (kvs:List (List Key×V))
 /-- a set of ints: its members,its size -/
 | set (S:Int->Bool) (n:Nat)
 /-- an instance of the class at C,its dict at dx,its attributes -/
 | ins (C dx:Addr) (fs:List (Str×V))
 /-- the dict of the instance at x -/
 | own (x:Addr)
 /-- the dict of an exception -/
 | xd (fs:List (Str×V))
 /-- a bound method,f of x -/
 | met (f x:Addr)
 /-- a range object lo,lo+1,.. below hi -/
 | rng (lo hi:Int)
 /-- a thing that is known to the object (the script;a dict while a loop walks it): read,never written while it is so -/
 | frz (o:Obj) (u:HO)
 /-- a code object's table -/
 | tbl (ps:Array Value)
 /-- any other thing,by what is true of its one object (a def of one's own: aBl a S n:=HO.ext fun h=>..) -/
 | ext (φ:Heap->Prop)
abbrev Hp:=Addr->Option HO
def upd (H:Hp)(a:Addr)(o:HO):Hp:=fun b=>if b=a then some o else H b
theorem ak {H:Hp}{a:Addr}{o:HO}:upd H a o a=some o:=by unfold upd;rw[if_pos rfl]
theorem aA {H:Hp}{a b:Addr}{o:HO}(h:b≠a):upd H a o b=H b:=by unfold upd;rw[if_neg h]
theorem dB {H:Hp}{a:Addr}{o u:HO}:upd (upd H a o) a u=upd H a u:=by
 funext b;unfold upd;split <;> rfl
theorem vH {H:Hp}{a b:Addr}{o u:HO}(h:H a=some o)(h':H b=some u)(d:o≠u):a≠b:=by
 intro e;subst e;rw[h] at h';exact d (Option.some.inj h')
theorem aC {H:Hp}{a b:Addr}{o:HO}(h:H a=some o)(h':H b=none):a≠b:=by
 intro e;subst e;rw[h] at h';cases h'
section
variable (P:Program) (w:World)
def jZ (H:Hp)(h:Heap)(a:Addr):HO->Prop
 | .lst xs=>xs.length <= sizeLine/\∃ (its:List Value) (n:Nat),Vals xs its/\h.get? a=some { cls:=.type "list",data:=.seq its.toArray n }
 | .tup xs=>xs.length <= sizeLine/\∃ its:List Value,Vals xs its/\IsTup h a its.toArray
 | .dK kvs=>kvs.length <= sizeLine/\(a == sysModules)=false/\∃ vs,KV kvs vs/\h.DictOf (dz P w) a vs
 | .dT kvs=>kvs.length <= sizeLine/\(a == sysModules)=false/\∃ xs:List (List Key×Addr×Value),
   Paired (fun (p:List Key×V) (q:List Key×Addr×Value)=>p.1=q.1/\H q.2.1=some (.tup (p.1.map kV))/\RelV p.2 q.2.2) kvs xs /\
   ∃ o es ep,h.get? a=some o/\o.ExactDict/\o.data=.dict es ep/\es.toList=xs.map (entryOfKey (tupleKind (dz P w)))/\(xs.map (·.1)).Nodup
 | .set S n=>h.SetOf (intKind P w) a S n
 | .ins C dx fs=>H dx=some (.own a)/\fs.length <= 1000/\dx≠a/\h.get? a=some (instObj C dx) /\
   ∃ mA,h.Ns1 dx mA/\(∀ f,De (fs.lookup f) (mA f))/\PySem.Within mA (fs.map (·.1))
 | .own _=>∃ o,h.get? a=some o
 | .xd fs=>∃ mA,h.Ns1 a mA/\∀ f,De (fs.lookup f) (mA f)
 | .rng lo hi=>∃ t u v,h.get? a=some { cls:=.type "range",data:=.fields #[.int lo t,.int hi u,.int 1 v] }
 | .frz o u=>h.get? a=some o/\jZ H h a u
 | .tbl ps=>h.get? a=some { cls:=.none,data:=.fields ps }
 | .met f x=>h.get? a=some (methodObj (.ref f) (.ref x))
 | .ext φ=>φ h/\(∃ o,h.get? a=some o)/\∀ h1 h2:Heap,φ h1->(∀ o,h1.get? a=some o->h2.get? a=some o)->φ h2
def Qy (H:Hp)(h:Heap):Prop:=∀ a o,H a=some o->jZ P w H h a o
end
section
variable {P:Program} {w:World} {H H':Hp} {h h':Heap} {a:Addr} {o:HO}
theorem jZ.lt (x:jZ P w H h a o):a < h.objs.size:=by
 cases o with
 | lst xs=>obtain⟨_,_,_,_,e⟩:=x;exact Heap.lt_size e
 | tup xs=>obtain⟨_,_,_,p⟩:=x;exact p.lt
 | dK kvs=>obtain⟨_,_,_,_,o,_,_,e,_⟩:=x;exact Heap.lt_size e
 | dT kvs=>obtain⟨_,_,_,_,o,_,_,e,_⟩:=x;exact Heap.lt_size e
 | set S n=>obtain⟨o,_,_,_,e,_⟩:=x;exact Heap.lt_size e
 | ins C dx fs=>obtain⟨_,_,_,e,_⟩:=x;exact Heap.lt_size e
 | own y=>obtain⟨_,e⟩:=x;exact Heap.lt_size e
 | xd fs=>obtain⟨_,⟨_,_,_,e,_⟩,_⟩:=x;exact Heap.lt_size e
 | rng lo hi=>obtain⟨_,_,_,e⟩:=x;exact Heap.lt_size e
 | frz ob u=>obtain⟨e,_⟩:=x;exact Heap.lt_size e
 | tbl ps=>exact Heap.lt_size (show h.get? a=some _ from x)
 | met f y=>exact Heap.lt_size (show h.get? a=some _ from x)
 | ext φ=>obtain⟨_,⟨_,e⟩,_⟩:=x;exact Heap.lt_size e
theorem Paired.av9 {α β:Type}{F G:α->β->Prop}:∀ {l₁:List α} {l₂:List β},Paired F l₁ l₂->(∀ a b,F a b->G a b)->Paired G l₁ l₂
 | _,_,.nil,_=>.nil
 | _,_,.cons r t,f=>.cons (f _ _ r) (Paired.av9 t f)
theorem jZ.stay (x:jZ P w H h a o)(k:∀ b u,(b=a∨H b=some (.own a))->h.get? b=some u->h'.get? b=some u)
  (ho:∀ b,H b=some (.own a)->H' b=some (.own a)) (ht:∀ b xs,H b=some (.tup xs)->H' b=some (.tup xs)):jZ P w H' h' a o:=by
 induction o with
 | lst xs=>obtain⟨z,its,n,r,e⟩:=x;exact⟨z,its,n,r,k _ _ (.inl rfl) e⟩
 | tup xs=>obtain⟨z,its,r,ob,e,c⟩:=x;exact⟨z,its,r,ob,k _ _ (.inl rfl) e,c⟩
 | dK kvs=>obtain⟨z,y,vs,r,ob,es,ep,e,c⟩:=x;exact⟨z,y,vs,r,ob,es,ep,k _ _ (.inl rfl) e,c⟩
 | dT kvs =>
  obtain⟨z,y,xs,r,ob,es,ep,e,c⟩:=x
  exact⟨z,y,xs,Paired.av9 r fun p q z=>⟨z.1,ht _ _ z.2.1,z.2.2⟩,ob,es,ep,k _ _ (.inl rfl) e,c⟩
 | set S n=>obtain⟨ob,es,ep,t,e,c⟩:=x;exact⟨ob,es,ep,t,k _ _ (.inl rfl) e,c⟩
 | ins C dx fs =>
  obtain⟨d,z,ne,e,mA,⟨od,es,ep,e2,c⟩,r⟩:=x
  exact⟨ho _ d,z,ne,k _ _ (.inl rfl) e,mA,⟨od,es,ep,k _ _ (.inr d) e2,c⟩,r⟩
 | own y=>obtain⟨ob,e⟩:=x;exact⟨ob,k _ _ (.inl rfl) e⟩
 | xd fs=>obtain⟨mA,⟨od,es,ep,e,c⟩,r⟩:=x;exact⟨mA,⟨od,es,ep,k _ _ (.inl rfl) e,c⟩,r⟩
 | rng lo hi=>obtain⟨t,u,v,e⟩:=x;exact⟨t,u,v,k _ _ (.inl rfl) e⟩
 | frz ob u ih=>obtain⟨e,q⟩:=x;exact⟨k _ _ (.inl rfl) e,ih q⟩
 | tbl ps =>
  have e:h.get? a=some { cls:=.none,data:=.fields ps }:=x
  show h'.get? a=some { cls:=.none,data:=.fields ps }
  exact k a _ (.inl rfl) e
 | met f y =>
  have e:h.get? a=some (methodObj (.ref f) (.ref y)):=x
  show h'.get? a=some (methodObj (.ref f) (.ref y))
  exact k a _ (.inl rfl) e
 | ext φ=>obtain⟨p,⟨o,e⟩,st⟩:=x;exact⟨st _ _ p fun o q=>k _ _ (.inl rfl) q,⟨o,k _ _ (.inl rfl) e⟩,st⟩
theorem Qy.lt (x:Qy P w H h)(e:H a=some o):a < h.objs.size:=(x a o e).lt
theorem Qy.fresh (x:Qy P w H h)(e:h.objs.size <= a):H a=none:=by
 cases q:H a with
 | none=>rfl
 | some u=>exact absurd (Nat.lt_of_lt_of_le (x.lt q) e) (Nat.lt_irrefl _)
theorem Qy.kept (x:Qy P w H h)(k:∀ b u,h.get? b=some u->h'.get? b=some u):Qy P w H h':=fun a o e =>
 (x a o e).stay (fun b u _ q=>k b u q) (fun _ q=>q) fun _ _ q=>q
theorem Qy.laid (x:Qy P w H h)(k:∀ b u,h.get? b=some u->h'.get? b=some u)(hp:h.objs.size <= a)(new:jZ P w (upd H a o) h' a o):Qy P w (upd H a o) h':=fun b u e=>by
 have hn:=x.fresh hp
 by_cases hb:b=a
 ·subst hb;rw[ak] at e;cases e;exact new
 ·rw[aA hb] at e
  exact (x b u e).stay (fun c v _ q=>k c v q) (fun c q=>by rw[aA (aC q hn)];exact q) fun c xs q=>by rw[aA (aC q hn)];exact q
end
def Rd (H:Hp)(a:Addr)(u:HO):Prop:=H a=some u ∨ ∃ o,H a=some (.frz o u)
theorem Rd.ok {P:Program}{w:World}{H:Hp}{h:Heap}{a:Addr}{u:HO}(r:Rd H a u)(x:Qy P w H h):jZ P w H h a u:=by
 rcases r with r | ⟨o,r⟩
 ·exact x a u r
 ·obtain⟨_,q⟩:=x a _ r
  exact q
def Mut:Option HO->Prop
 | some (.lst _)=>True
 | some (.dK _)=>True
 | some (.dT _)=>True
 | some (.set _ _)=>True
 | some (.ins _ _ _)=>True
 | some (.ext _)=>True
 | _=>False
section
variable {P:Program} {w:World} {H:Hp} {h h':Heap} {x e:Addr} {o':HO}
theorem Qy.write (ok:Qy P w H h)(mu:Mut (H x))(he:e=x∨H e=some (.own x))(k:∀ b u,b≠e->h.get? b=some u->h'.get? b=some u)(heo:∃ u,h'.get? e=some u)
  (new:jZ P w (upd H x o') h' x o'):Qy P w (upd H x o') h':=fun b u q=>by
 have awa:∀ c y,H c=some (.own y)->c≠x:=fun c y r z=>by subst z;rw[r] at mu;exact mu
 have ayj:∀ c xs,H c=some (.tup xs)->c≠x:=fun c xs r z=>by subst z;rw[r] at mu;exact mu
 by_cases hb:b=x
 ·subst hb;rw[ak] at q;cases q;exact new
 ·rw[aA hb] at q
  by_cases hbe:b=e
  ·have q':H b=some (.own x):=by
    rcases he with z | z
    ·exact absurd (hbe.trans z) hb
    ·rw[hbe];exact z
   rw[q] at q';cases q'
   obtain⟨v,hv⟩:=heo
   exact⟨v,by rw[hbe];exact hv⟩
  ·refine (ok b u q).stay (fun c v hc r=>k c v ?_ r) (fun c r=>by rw[aA (awa c b r)];exact r) fun c xs r=>by rw[aA (ayj c xs r)];exact r
   rcases hc with rfl | hc
   ·exact hbe
   ·rintro rfl
    rcases he with z | z
    ·exact awa c b hc z
    ·rw[hc] at z;cases z;exact hb rfl
end
structure Un (fs ex:List Addr)(H H':Hp)(h h':Heap):Prop where
 keep:∀ b o,h.get? b=some o->H b=none->b ∉ fs->b ∉ ex->h'.get? b=some o
 slot:∀ b o,h.get? b=some o->H b=none->b∈fs->b ∉ ex->∃ sl,h'.get? b=some { o with slots:=sl }
 free:∀ b o,h.get? b=some o->H b=none->b ∉ ex->H' b=none
 there:∀ b o,h.get? b=some o->b ∉ ex->∃ o',h'.get? b=some o'
 tups:∀ b xs,H b=some (.tup xs)->H' b=some (.tup xs)
 acD:∀ b o u,H b=some (.frz o u)->H' b=some (.frz o u)
 aes:∀ b ps,H b=some (.tbl ps)->∃ more,H' b=some (.tbl (ps++more))
section
variable {fs fs' ex ex':List Addr} {H H1 H2:Hp} {h h1 h2 h':Heap} {a x e:Addr} {o:HO}
theorem Un.any (u:Un fs ex H H1 h h1){b:Addr}{ob:Obj}(q:h.get? b=some ob)(n:H b=none)(hx:b ∉ ex):∃ sl,h1.get? b=some { ob with slots:=sl }:=by
 by_cases hb:b∈fs
 ·exact u.slot b ob q n hb hx
 ·exact⟨ob.slots,u.keep b ob q n hb hx⟩
theorem Un.kept (k:∀ b u,h.get? b=some u->h'.get? b=some u):Un fs ex H H h h' :=
 ⟨fun b ob q _ _ _=>k b ob q,fun b ob q _ _ _=>⟨ob.slots,k b ob q⟩,fun _ _ _ n _=>n,fun b ob q _=>⟨ob,k b ob q⟩,fun _ _ q=>q,fun _ _ _ q=>q,fun _ ps q=>⟨#[],by rw[q];simp⟩⟩
theorem Un.refl:Un fs ex H H h h:=Un.kept fun _ _ q=>q
theorem Un.laid (k:∀ b u,h.get? b=some u->h'.get? b=some u)(hp:h.objs.size <= a)(hn:H a=none):Un fs ex H (upd H a o) h h' where
 keep:=fun b u q _ _ _=>k b u q
 slot:=fun b u q _ _ _=>⟨u.slots,k b u q⟩
 free:=fun b u q n _=>by rw[aA (Nat.ne_of_lt (Nat.lt_of_lt_of_le (Heap.lt_size q) hp))];exact n
 there:=fun b u q _=>⟨u,k b u q⟩
 tups:=fun b xs q=>by rw[aA (aC q hn)];exact q
 acD:=fun b u xs q=>by rw[aA (aC q hn)];exact q
 aes:=fun b ps q=>⟨#[],by rw[aA (aC q hn),q];simp⟩
theorem Un.write (mu:Mut (H x))(he:e=x∨H e=some (.own x))(k:∀ b u,b≠e->h.get? b=some u->h'.get? b=some u)(heo:∃ u,h'.get? e=some u):Un fs ex H (upd H x o) h h':=by
 have hx:∀ b,H b=none->b≠x:=fun b n z=>by subst z;rw[n] at mu;exact mu
 have hb:∀ b,H b=none->b≠e:=fun b n z=>by
  subst z
  rcases he with r | r
  ·exact hx b n r
  ·rw[n] at r;cases r
 have hm:∀ b u,H b=some u->¬ Mut (some u)->b≠x:=fun b u q nm z=>by subst z;rw[q] at mu;exact nm mu
 refine⟨fun b u q n _ _=>k b u (hb b n) q,fun b u q n _ _=>⟨u.slots,k b u (hb b n) q⟩,fun b u q n _=>by rw[aA (hx b n)];exact n,fun b u q _=>?_,
  fun b xs q=>by rw[aA (hm b _ q fun z=>z)];exact q,fun b u xs q=>by rw[aA (hm b _ q fun z=>z)];exact q,fun b ps q=>⟨#[],by rw[aA (hm b _ q fun z=>z),q];simp⟩⟩
 by_cases hbe:b=e
 ·subst hbe;exact heo
 ·exact⟨u,k b u hbe q⟩
end
def trk (h:Heap)(H:Hp):List Addr:=(List.range h.objs.size).filter fun a=>(H a).isSome
def aet (h:Heap)(H:Hp):Heap:=PySem.W.hideAll h (trk h H)
theorem amT (h:Heap)(H:Hp):(aet h H).objs.size=h.objs.size:=PySem.W.hideAll_size _ _
theorem apm {h:Heap}{H:Hp}{b:Addr}{o:Obj}(e:h.get? b=some o)(n:H b=none):(aet h H).get? b=some o :=
 PySem.W.hideAll_get _ e fun hm=>by
  have q:(H b).isSome=true:=(List.mem_filter.mp hm).2
  rw[n] at q;simp at q
theorem ar5 {h:Heap}{H:Hp}{b:Addr}{o:Obj}(e:(aet h H).get? b=some o):h.get? b=some o/\H b=none:=by
 have e':h.get? b=some o:=PySem.W.of_hideAll (trk h H) e
 refine⟨e',?_⟩
 cases q:H b with
 | none=>rfl
 | some x =>
  have hm:b∈trk h H:=List.mem_filter.mpr ⟨List.mem_range.mpr (Heap.lt_size e'),by simp[q]⟩
  have z:(aet h H).get? b=none:=PySem.W.hideAll_none (trk h H) hm
  rw[z] at e;cases e
def ar6 (g h:Heap)(L:Addr):List (Addr×Obj):=(List.range h.objs.size).filterMap fun a=>if a=L∨(g.get? a).isSome=true then none else (h.get? a).map fun o=>(a,o)
def rest (g h:Heap)(L d:Addr):List (Addr×Obj):=(ar6 g h L).filter fun p=>decide (p.1≠d)
end L2
namespace L2
open PySem PySem.Spec PyProof.Rows
structure Mod (K:Frag)(mg:Str->Option Value)(base:Heap):Prop where
 kin:K.In base
 glob:base.Ns mainGlobals mg
 blt:∃ mb,base.Ns builtinsNs mb/\∀ x:Str,x ≠ "__name__"->mb x=bootBuiltins x
 nolimit:base.NoLimit
structure Cx where
 prog:Program
 w:World
 K:Frag
 mg:Str->Option Value
 base:Heap
 A:Around
 N:List Str
 s₀:Shared
 H₀:Hp
 env:Env
 outer:List Env
 stack:List Env
 ex:List Addr
 fn:Str->Bool
 calm:Bool
 pn:List (Addr×Obj)
 xe:Value->Shared->Prop
def frs (l:List Env):List Addr:=l.filterMap (·.frame)
abbrev Cx.fs (X:Cx):List Addr:=frs X.outer
def Vis (sc:Scope)(x:Str):Prop:=sc.names.lookup x=some .local∨sc.names.lookup x=some .cell∨sc.names.lookup x=some .free
def Loc (sc:Scope)(x:Str):Prop:=sc.names.lookup x=some .local∨sc.names.lookup x=some .cell
def Look (env:Env)(h:Heap)(m:Str->Option Value)(x:Str)(u:Value):Prop :=
 (env.kindOf x=some .local/\m x=some u)∨((env.kindOf x=some .cell∨env.kindOf x=some .free)/\∃ c,env.cells.lookup x=some c/\h.IsCell c (some u))
structure Cx.Ok (X:Cx):Prop where
 mod:Mod X.K X.mg X.base
 kind:X.env.scope.kind=.function
 glob:X.env.globals=mainGlobals
 blt:X.env.builtins=builtinsNs
 above:X.s₀.heap.objs.size <= X.env.locals
 inj:∀ x y c,X.env.cells.lookup x=some c->X.env.cells.lookup y=some c->x=y
 has:∀ x,(X.env.kindOf x=some .cell∨X.env.kindOf x=some .free)->∃ c,X.env.cells.lookup x=some c
 cab:∀ x c,X.fn x=true->X.env.cells.lookup x=some c->X.s₀.heap.objs.size <= c
 hd:X.calm=true->X.A.handled=none
 frames:X.A.frames=some X.stack
 stk:X.stack=X.outer∨(X.stack=X.env :: X.outer/\X.env.frame=some X.env.locals)
 exf:∀ b∈X.ex,b≠X.env.locals/\∀ x c,X.env.cells.lookup x=some c->c≠b
 bs:∀ b o,X.base.get? b=some o->X.s₀.heap.get? b=some o/\X.H₀ b=none
 bsz:X.base.objs.size <= X.s₀.heap.objs.size
 ajl:∀ b o,X.base.get? b=some o->b ∉ X.ex
 ajm:∀ b∈X.ex,b ∉ X.fs
 QC:X.s₀.heap.FunFrames X.base X.outer
 frf:∀ b∈X.fs,X.H₀ b=none
structure Inv (X:Cx)(pins:List (Addr×Obj))(σ:List (Option V))(H:Hp)(s:Shared):Prop where
 ok:X.Ok
 os:s.os=X.s₀.os
 bare:AllBare s.gens
 base:Un X.fs X.ex X.H₀ H X.s₀.heap s.heap
 loc:∃ m,s.heap.Ns X.env.locals m/\∀ (i:Nat) (x:Str) (v:V),X.N[i]? = some x->σ[i]? = some (some v)->Vis X.env.scope x->∃ u,RelV v u/\Look X.env s.heap m x u
 cell:∀ x c,X.env.cells.lookup x=some c->∃ v,s.heap.IsCell c v
 free:H X.env.locals=none
 Hg:∀ x c,X.env.cells.lookup x=some c->H c=none
 pin:∀ p∈X.pn++pins,s.heap.get? p.1=some p.2/\H p.1=none/\p.1≠X.env.locals/\p.1 ∉ X.fs/\∀ v,p.2.data≠.cell v
 hok:Qy X.prog X.w H s.heap
 len:σ.length=X.N.length
section
variable {X:Cx} {pins:List (Addr×Obj)} {σ:List (Option V)} {H H':Hp} {s:Shared} {h':Heap}
theorem Cx.Ok.ayk (ok:X.Ok){b:Addr}{o:Obj}(e:X.base.get? b=some o):b ∉ X.fs:=fun hb=>by
 have:=(ok.QC.mem hb).1
 rw[e] at this;cases this
theorem Inv.bs (I:Inv X pins σ H s):∀ b o,X.base.get? b=some o->s.heap.get? b=some o/\H b=none:=fun b o e =>
 ⟨I.base.keep b o (I.ok.bs b o e).1 (I.ok.bs b o e).2 (I.ok.ayk e) (I.ok.ajl b o e),I.base.free b o (I.ok.bs b o e).1 (I.ok.bs b o e).2 (I.ok.ajl b o e)⟩
theorem Inv.bk (I:Inv X pins σ H s):∀ b o,X.base.get? b=some o->s.heap.get? b=some o:=fun b o e=>(I.bs b o e).1
theorem Inv.mod (I:Inv X pins σ H s):Mod X.K X.mg X.base:=I.ok.mod
theorem Inv.Qz (I:Inv X pins σ H s):X.K.In s.heap:=I.ok.mod.kin.keeps I.bk
theorem Inv.lt (I:Inv X pins σ H s):X.env.locals < s.heap.objs.size:=let ⟨_,hn,_⟩:=I.loc;hn.lt
theorem Inv.sz (I:Inv X pins σ H s):X.s₀.heap.objs.size <= s.heap.objs.size:=Nat.le_trans I.ok.above (Nat.le_of_lt I.lt)
theorem Inv.ayl (I:Inv X pins σ H s){a:Addr}(h:s.heap.objs.size <= a):a ∉ X.fs:=fun hb=>by
 obtain⟨_,o,ho,_⟩:=I.ok.QC.mem hb
 exact absurd (Nat.lt_of_lt_of_le (Heap.lt_size ho) (Nat.le_trans I.sz h)) (Nat.lt_irrefl _)
theorem Inv.cne (I:Inv X pins σ H s):∀ x c,X.env.cells.lookup x=some c->c≠X.env.locals:=fun x c e z=>by
 obtain⟨v,o,ho,hd⟩:=I.cell x c e
 obtain⟨m,⟨o',es,ep,ho',hd',_⟩,_⟩:=I.loc
 rw[z,ho'] at ho;cases ho;rw[hd'] at hd;cases hd
theorem Inv.QC (I:Inv X pins σ H s):s.heap.FunFrames X.base X.outer:=by
 have all:∀ (l:List Env),(∀ b∈frs l,b∈X.fs)->X.s₀.heap.FunFrames X.base l->s.heap.FunFrames X.base l:=by
  intro l
  induction l with
  | nil=>intro _ _;trivial
  | cons env r ih =>
   intro hs hl
   obtain⟨hk,⟨L,o,hf,hn,ho,hd⟩,hr⟩:=hl
   have hL:L∈X.fs:=hs L (by unfold frs;rw[List.filterMap_cons,hf];exact List.mem_cons_self)
   obtain⟨sl,e⟩:=I.base.slot L o ho (I.ok.frf L hL) hL fun z=>I.ok.ajm L z hL
   exact⟨hk,⟨L,_,hf,hn,e,hd⟩,ih (fun b hb=>hs b (by unfold frs;rw[List.filterMap_cons,hf];exact List.mem_cons_of_mem _ hb)) hr⟩
 exact all X.outer (fun _ hb=>hb) I.ok.QC
theorem Inv.stack (I:Inv X pins σ H s):s.heap.FunFrames X.base X.stack:=by
 rcases I.ok.stk with e | ⟨e,hf⟩
 ·rw[e];exact I.QC
 ·rw[e]
  obtain⟨m,hn,_⟩:=I.loc
  refine .cons (by rw[I.ok.kind];decide) hf hn ?_ I.QC
  exact Heap.get?_none_of_le (Nat.le_trans I.ok.bsz I.ok.above)
theorem Inv.ajn (I:Inv X pins σ H s):∀ b∈frs X.stack,b∈X.env.locals :: X.fs:=fun b hb=>by
 rcases I.ok.stk with e | ⟨e,hf⟩
 ·rw[e] at hb;exact List.mem_cons_of_mem _ hb
 ·rw[e] at hb
  unfold frs at hb
  rw[List.filterMap_cons,hf] at hb
  exact hb
theorem Inv.alV (I:Inv X pins σ H s):∀ b∈frs X.stack,H b=none:=fun b hb=>by
 rcases List.mem_cons.mp (I.ajn b hb) with e | hb
 ·rw[e];exact I.free
 ·obtain⟨_,o,ho,_⟩:=I.ok.QC.mem hb
  exact I.base.free b o ho (I.ok.frf b hb) fun z=>I.ok.ajm b z hb
theorem Inv.step {g':Array GenState}{t':Nat}{d':Drawn}{ch:List Addr}(I:Inv X pins σ H s)
  (hch:∀ b∈ch,(b∈X.ex∨X.s₀.heap.objs.size <= b)/\b≠X.env.locals/\(∀ x c,X.env.cells.lookup x=some c->c≠b)/\∀ p∈X.pn++pins,p.1≠b)
  (keep:∀ b o,b≠X.env.locals->b ∉ X.fs->b ∉ ch->s.heap.get? b=some o->H b=none->h'.get? b=some o)
  (slot:∀ b o,b≠X.env.locals->b∈X.fs->b ∉ ch->s.heap.get? b=some o->H b=none->∃ sl,h'.get? b=some { o with slots:=sl }) (free:∀ b o,b ∉ ch->s.heap.get? b=some o->H b=none->H' b=none)
  (there:∀ b o,b ∉ ch->s.heap.get? b=some o->∃ o',h'.get? b=some o')
  (tups:∀ b xs,H b=some (.tup xs)->H' b=some (.tup xs)) (acD:∀ b o u,H b=some (.frz o u)->H' b=some (.frz o u)) (aes:∀ b ps,H b=some (.tbl ps)->∃ more,H' b=some (.tbl (ps++more)))
  (ns:∀ m,s.heap.Ns X.env.locals m->h'.Ns X.env.locals m) (hok:Qy X.prog X.w H' h') (hg:AllBare g') :
  Inv X pins σ H' { s with heap:=h',gens:=g',drawn:=d',toks:=t' }:=by
 have neL:∀ b o,X.s₀.heap.get? b=some o->b≠X.env.locals:=fun b o e=>Nat.ne_of_lt (Nat.lt_of_lt_of_le (Heap.lt_size e) I.ok.above)
 have neC:∀ b o,X.s₀.heap.get? b=some o->b ∉ X.ex->b ∉ ch:=fun b o e hx hb=>by
  rcases (hch b hb).1 with z | z
  ·exact hx z
  ·exact absurd (Nat.lt_of_lt_of_le (Heap.lt_size e) z) (Nat.lt_irrefl _)
 have cellK:∀ x c,X.env.cells.lookup x=some c->∀ v,s.heap.IsCell c v->h'.IsCell c v:=fun x c e v ⟨o,ho,hd⟩=>by
  have nch:c ∉ ch:=fun z=>(hch c z).2.2.1 x c e rfl
  by_cases hc:c∈X.fs
  ·obtain⟨sl,q⟩:=slot c o (I.cne x c e) hc nch ho (I.Hg x c e)
   exact⟨_,q,hd⟩
  ·exact⟨o,keep c o (I.cne x c e) hc nch ho (I.Hg x c e),hd⟩
 refine⟨I.ok,I.os,hg,⟨fun b o e n hb hx=>?_,fun b o e n hb hx=>?_,fun b o e n hx=>?_,fun b o e hx=>?_,fun b xs e=>tups b xs (I.base.tups b xs e),fun b o xs e=>acD b o xs (I.base.acD b o xs e),fun b ps e=>?_⟩,?_,fun x c e=>?_,?_,fun x c e=>?_,fun p hp=>?_,hok,I.len⟩
 ·exact keep b o (neL b o e) hb (neC b o e hx) (I.base.keep b o e n hb hx) (I.base.free b o e n hx)
 ·obtain⟨sl,e1⟩:=I.base.slot b o e n hb hx
  obtain⟨sl',e2⟩:=slot b _ (neL b o e) hb (neC b o e hx) e1 (I.base.free b o e n hx)
  exact⟨sl',e2⟩
 ·obtain⟨o',e1⟩:=I.base.there b o e hx
  exact free b o' (neC b o e hx) e1 (I.base.free b o e n hx)
 ·obtain⟨o',e1⟩:=I.base.there b o e hx
  exact there b o' (neC b o e hx) e1
 ·obtain⟨m1,e1⟩:=I.base.aes b ps e
  obtain⟨m2,e2⟩:=aes b _ e1
  exact⟨m1++m2,by rw[e2,Array.append_assoc]⟩
 ·obtain⟨m,hn,hl⟩:=I.loc
  refine⟨m,ns m hn,fun i x v e1 e2 e3=>?_⟩
  obtain⟨u,r,l⟩:=hl i x v e1 e2 e3
  refine⟨u,r,?_⟩
  rcases l with l | ⟨k,c,e,z⟩
  ·exact .inl l
  ·exact .inr ⟨k,c,e,cellK x c e _ z⟩
 ·obtain⟨v,z⟩:=I.cell x c e
  exact⟨v,cellK x c e v z⟩
 ·obtain⟨m,⟨o,_,_,ho,_⟩,_⟩:=I.loc
  exact free _ o (fun z=>(hch _ z).2.1 rfl) ho I.free
 ·obtain⟨v,o,ho,hd⟩:=I.cell x c e
  exact free c o (fun z=>(hch c z).2.2.1 x c e rfl) ho (I.Hg x c e)
 ·obtain⟨e,n,ne,nf,d⟩:=I.pin p hp
  have nch:p.1 ∉ ch:=fun z=>(hch p.1 z).2.2.2 p hp rfl
  exact⟨keep p.1 p.2 ne nf nch e n,free p.1 p.2 nch e n,ne,nf,d⟩
theorem Inv.un {t':Nat}(I:Inv X pins σ H s)(u:Un X.fs [] H H' s.heap h')(hok:Qy X.prog X.w H' h'):Inv X pins σ H' { s with heap:=h',toks:=t' }:=by
 obtain⟨m,⟨o,es,ep,ho,r⟩,_⟩:=id I.loc
 obtain⟨sl,hL⟩:=u.any ho I.free (by simp)
 exact I.step (g':=s.gens) (d':=s.drawn) (ch:=[]) (fun _ z=>nomatch z) (fun b o _ hb _ e n=>u.keep b o e n hb (by simp)) (fun b o _ hb _ e n=>u.slot b o e n hb (by simp)) (fun b o _ e n=>u.free b o e n (by simp)) (fun b o _ e=>u.there b o e (by simp)) u.tups u.acD u.aes (fun m' hm=>by
  obtain⟨o',es',ep',ho',r'⟩:=hm
  rw[ho] at ho';cases ho'
  exact⟨_,es',ep',hL,r'⟩) hok I.bare
theorem Inv.call {g':Array GenState}{t':Nat}{d':Drawn}{ch:List Addr}(I:Inv X pins σ H s)(u:Un (frs X.stack) ch H H' s.heap h')(hok:Qy X.prog X.w H' h')(hg:AllBare g')
  (hch:∀ b∈ch,(b∈X.ex∨X.s₀.heap.objs.size <= b)/\b≠X.env.locals/\(∀ x c,X.env.cells.lookup x=some c->c≠b)/\∀ p∈X.pn++pins,p.1≠b) :
  Inv X pins σ H' { s with heap:=h',gens:=g',drawn:=d',toks:=t' }:=by
 obtain⟨m,⟨o,es,ep,ho,r⟩,_⟩:=id I.loc
 obtain⟨sl,hL⟩:=u.any ho I.free fun z=>(hch _ z).2.1 rfl
 exact I.step (ch:=ch) hch (fun b o hL hb hc e n=>u.keep b o e n (fun z=>(List.mem_cons.mp (I.ajn b z)).elim hL hb) hc) (fun b o _ _ hc e n=>u.any e n hc) (fun b o hc e n=>u.free b o e n hc) (fun b o hc e=>u.there b o e hc) u.tups u.acD u.aes (fun m' hm=>by
  obtain⟨o',es',ep',ho',r'⟩:=hm
  rw[ho] at ho';cases ho'
  exact⟨_,es',ep',hL,r'⟩) hok hg
theorem Inv.turned {t':Nat}{it:Addr}(I:Inv X pins σ H s)(k:∀ b o,b≠it->s.heap.get? b=some o->h'.get? b=some o)(hn:H it=none)(hL:it≠X.env.locals)
  (h1:it∈X.ex∨X.s₀.heap.objs.size <= it) (h2:∀ x c,X.env.cells.lookup x=some c->c≠it) (h3:∀ p∈X.pn++pins,p.1≠it):Inv X pins σ H { s with heap:=h',toks:=t' }:=by
 have nit:∀ b u,H b=some u->b≠it:=fun b u e z=>by rw[z,hn] at e;cases e
 refine I.step (g':=s.gens) (d':=s.drawn) (ch:=[it]) (fun b hb=>?_) (fun b o _ _ hc e _=>k b o (fun z=>hc (by simp[z])) e) (fun b o _ _ hc e _=>⟨o.slots,k b o (fun z=>hc (by simp[z])) e⟩) (fun _ _ _ _ n=>n)
  (fun b o hc e=>⟨o,k b o (fun z=>hc (by simp[z])) e⟩) (fun _ _ e=>e) (fun _ _ _ e=>e) (fun b ps e=>⟨#[],by rw[e];simp⟩) (fun m hm=>?_) (fun b u e=>?_) I.bare
 ·have e:b=it:=by simpa using hb
  subst e
  exact⟨h1,hL,h2,h3⟩
 ·obtain⟨o,es,ep,ho,r⟩:=hm
  exact⟨o,es,ep,k _ o (Ne.symm hL) ho,r⟩
 ·refine (I.hok b u e).stay (fun c v hc q=>k c v ?_ q) (fun _ q=>q) fun _ _ q=>q
  rcases hc with z | z
  ·rw[z];exact nit b u e
  ·exact nit c _ z
theorem Inv.tok (I:Inv X pins σ H s)(t:Nat):Inv X pins σ H { s with toks:=t }:=I.un (h':=s.heap) (t':=t) Un.refl I.hok
theorem Inv.kept {t':Nat}(I:Inv X pins σ H s)(k:∀ b u,s.heap.get? b=some u->h'.get? b=some u):Inv X pins σ H { s with heap:=h',toks:=t' }:=I.un (Un.kept k) (I.hok.kept k)
theorem Inv.laid {a:Addr}{o:HO}{t':Nat}(I:Inv X pins σ H s)(k:∀ b u,s.heap.get? b=some u->h'.get? b=some u)(hp:s.heap.objs.size <= a)(new:jZ X.prog X.w (upd H a o) h' a o) :
  Inv X pins σ (upd H a o) { s with heap:=h',toks:=t' }:=I.un (Un.laid k hp (I.hok.fresh hp)) (I.hok.laid k hp new)
theorem Inv.write {x e:Addr}{o:HO}{t':Nat}(I:Inv X pins σ H s)(mu:Mut (H x))(he:e=x∨H e=some (.own x))(k:∀ b u,b≠e->s.heap.get? b=some u->h'.get? b=some u)(heo:∃ u,h'.get? e=some u)
  (new:jZ X.prog X.w (upd H x o) h' x o):Inv X pins σ (upd H x o) { s with heap:=h',toks:=t' }:=I.un (Un.write mu he k heo) (I.hok.write mu he k heo new)
theorem Inv.alW {apn:List (Addr×Obj)}(I:Inv X pins σ H s)(h:∀ p∈apn,s.heap.get? p.1=some p.2/\H p.1=none/\p.1≠X.env.locals/\p.1 ∉ X.fs/\∀ v,p.2.data≠.cell v):Inv X apn σ H s :=
 ⟨I.ok,I.os,I.bare,I.base,I.loc,I.cell,I.free,I.Hg,fun p hp=>(List.mem_append.mp hp).elim (fun z=>I.pin p (List.mem_append_left _ z)) (h p),I.hok,I.len⟩
theorem ahD {N:List Str}(hN:N.Nodup){i j:Nat}{x:Str}(a:N[i]? = some x)(b:N[j]? = some x):i=j:=by
 obtain⟨h1,e1⟩:=List.getElem?_eq_some_iff.mp a
 obtain⟨h2,e2⟩:=List.getElem?_eq_some_iff.mp b
 exact (List.getElem_inj hN).mp (e1.trans e2.symm)
theorem adA {M:Model}{A:Around}{E:Value->Shared->Prop}{i:Nat}{x:Str}{v:V}{u:Value}{Q:Unit->Shared->Prop}(I:Inv X pins σ H s)(hN:X.N.Nodup)(hi:X.N[i]? = some x)(hx:Loc X.env.scope x)(r:RelV v u)
  (h:∀ s',Inv X pins (σ.set i (some v)) H s'->(∃ a,Heap.SameBut a s.heap s'.heap/\(a=X.env.locals∨X.env.cells.lookup x=some a))->Q () s') (hf:X.fn x=true∨X.env.scope.names.lookup x=some .local:=by first | exact .inl rfl | exact .inr rfl | assumption):wpAny M A (storeName X.env x u) Q E s:=by
 obtain⟨m,hn,hl⟩:=id I.loc
 have hcls:(X.env.scope.kind == .class || (X.env.scope.kind == .module && X.env.locals != X.env.globals))=false:=by rw[I.ok.kind];rfl
 have aAh:i < σ.length:=by rw[I.len];exact (List.getElem?_eq_some_iff.mp hi).1
 have cne:=I.cne
 have tracked:∀ {a:Addr} {h':Heap},(∃ o,s.heap.get? a=some o/\H a=none)->Heap.SameBut a s.heap h'->Qy X.prog X.w H h':=fun {a h'} ha hs b ob e=>by
  obtain⟨_,_,hfree⟩:=ha
  refine (I.hok b ob e).stay (fun c w' hc q=>(hs.2 c ?_).trans q) (fun _ q=>q) fun _ _ q=>q
  rintro rfl
  rcases hc with rfl | hc
  ·rw[hfree] at e;cases e
  ·rw[hfree] at hc;cases hc
 rcases hx with hk | hk
 ·refine wpAny_storeName_local hk hn (fun h' hn' hs=>?_) hcls
  obtain⟨oL,_,_,hoL,_⟩:=id hn
  refine h _ ⟨I.ok,I.os,I.bare,⟨fun b o e n hb hx=>?_,fun b o e n hb hx=>?_,I.base.free,fun b o e hx=>?_,I.base.tups,I.base.acD,I.base.aes⟩,⟨_,hn',fun j y v' e1 e2 e3=>?_⟩,fun y c e=>?_,I.free,I.Hg,fun p hp=>?_,tracked ⟨oL,hoL,I.free⟩ hs,by simpa using I.len⟩ ⟨_,hs,.inl rfl⟩
  ·exact (hs.2 b (Nat.ne_of_lt (Nat.lt_of_lt_of_le (Heap.lt_size e) I.ok.above))).trans (I.base.keep b o e n hb hx)
  ·obtain⟨sl,e1⟩:=I.base.slot b o e n hb hx
   exact⟨sl,(hs.2 b (Nat.ne_of_lt (Nat.lt_of_lt_of_le (Heap.lt_size e) I.ok.above))).trans e1⟩
  ·obtain⟨o',e1⟩:=I.base.there b o e hx
   exact⟨o',(hs.2 b (Nat.ne_of_lt (Nat.lt_of_lt_of_le (Heap.lt_size e) I.ok.above))).trans e1⟩
  ·by_cases hj:j=i
   ·subst hj
    rw[hi] at e1;cases e1
    rw[List.getElem?_set_self aAh] at e2
    cases e2
    exact⟨u,r,.inl ⟨hk,by simp⟩⟩
   ·rw[List.getElem?_set_ne (Ne.symm hj)] at e2
    obtain⟨u',r',q⟩:=hl j y v' e1 e2 e3
    refine⟨u',r',?_⟩
    rcases q with ⟨k,e⟩ | ⟨k,c,e,z⟩
    ·refine .inl ⟨k,?_⟩
     have:y≠x:=fun e=>hj (ahD hN e1 (e ▸ hi))
     simp[this,e]
    ·exact .inr ⟨k,c,e,z.sameBut hs (cne y c e)⟩
  ·obtain⟨w',z⟩:=I.cell y c e
   exact⟨w',z.sameBut hs (cne y c e)⟩
  ·obtain⟨e,n,ne,nf,d⟩:=I.pin p hp
   exact⟨(hs.2 p.1 ne).trans e,n,ne,nf,d⟩
 ·have hfn:X.fn x=true:=by
   rcases hf with z | z
   ·exact z
   ·rw[z] at hk;cases hk
  obtain⟨c,hc⟩:=I.ok.has x (.inl hk)
  obtain⟨w',z⟩:=I.cell x c hc
  refine wpAny_storeName_cell I.ok.kind hk hc z (fun h' hc' hs=>?_)
  obtain⟨oc,hoc,aym⟩:=id z
  refine h { s with heap:=h' } ⟨I.ok,I.os,I.bare,⟨fun b o e n hb hx=>?_,fun b o e n hb hx=>?_,I.base.free,fun b o e hx=>?_,I.base.tups,I.base.acD,I.base.aes⟩,⟨m,hn.sameBut hs (Ne.symm (cne x c hc)),fun j y v' e1 e2 e3=>?_⟩,fun y c' e=>?_,I.free,I.Hg,fun p hp=>?_,tracked ⟨oc,hoc,I.Hg x c hc⟩ hs,by simpa using I.len⟩ ⟨c,hs,.inr hc⟩
  ·exact (hs.2 b (Nat.ne_of_lt (Nat.lt_of_lt_of_le (Heap.lt_size e) (I.ok.cab x c hfn hc)))).trans (I.base.keep b o e n hb hx)
  ·obtain⟨sl,e1⟩:=I.base.slot b o e n hb hx
   exact⟨sl,(hs.2 b (Nat.ne_of_lt (Nat.lt_of_lt_of_le (Heap.lt_size e) (I.ok.cab x c hfn hc)))).trans e1⟩
  ·obtain⟨o',e1⟩:=I.base.there b o e hx
   exact⟨o',(hs.2 b (Nat.ne_of_lt (Nat.lt_of_lt_of_le (Heap.lt_size e) (I.ok.cab x c hfn hc)))).trans e1⟩
  ·by_cases hj:j=i
   ·subst hj
    rw[hi] at e1;cases e1
    rw[List.getElem?_set_self aAh] at e2
    cases e2
    exact⟨u,r,.inr ⟨.inl hk,c,hc,hc'⟩⟩
   ·rw[List.getElem?_set_ne (Ne.symm hj)] at e2
    obtain⟨u',r',q⟩:=hl j y v' e1 e2 e3
    refine⟨u',r',?_⟩
    rcases q with q | ⟨k,c',e,z'⟩
    ·exact .inl q
    ·refine .inr ⟨k,c',e,z'.sameBut hs ?_⟩
     rintro rfl
     exact hj (ahD hN e1 (I.ok.inj _ _ _ e hc ▸ hi))
  ·by_cases hcc:c'=c
   ·subst hcc;exact⟨_,hc'⟩
   ·obtain⟨w2,z2⟩:=I.cell y c' e
    exact⟨w2,z2.sameBut hs hcc⟩
  ·obtain⟨e,n,ne,nf,d⟩:=I.pin p hp
   refine⟨(hs.2 p.1 ?_).trans e,n,ne,nf,d⟩
   intro q
   rw[q,hoc] at e
   have q':oc=p.2:=Option.some.inj e
   exact d w' (by rw[← q'];exact aym)
theorem Zo {M:Model}{A:Around}{E:Value->Shared->Prop}{i:Nat}{x:Str}{v:V}{u:Value}{Q:Unit->Shared->Prop}(I:Inv X pins σ H s)(hN:X.N.Nodup)(hi:X.N[i]? = some x)(hx:Loc X.env.scope x)(r:RelV v u)
  (h:∀ s',Inv X pins (σ.set i (some v)) H s'->Q () s') (hf:X.fn x=true∨X.env.scope.names.lookup x=some .local:=by first | exact .inl rfl | exact .inr rfl | assumption):wpAny M A (storeName X.env x u) Q E s :=
 adA I hN hi hx r (fun s' I' _=>h s' I') hf
theorem Inv.call' {s':Shared}{ch:List Addr}(I:Inv X pins σ H s)(ho:s'.os=s.os)(u:Un (frs X.stack) ch H H' s.heap s'.heap)(hok:Qy X.prog X.w H' s'.heap)(hg:AllBare s'.gens)
  (hch:∀ b∈ch,(b∈X.ex∨X.s₀.heap.objs.size <= b)/\b≠X.env.locals/\(∀ x c,X.env.cells.lookup x=some c->c≠b)/\∀ p∈X.pn++pins,p.1≠b):Inv X pins σ H' s':=by
 obtain⟨h',g',d',t',o'⟩:=s'
 have e:o'=s.os:=ho
 subst e
 exact I.call (g':=g') (t':=t') (d':=d') u hok hg hch
end
abbrev XK:=Value->Option Addr->Hp->Prop
abbrev St:=List (Option V)
abbrev VK:=V->Hp->Prop
abbrev TE:=St->Hp->VK->Prop
abbrev TT:=St->Hp->(Bool->Hp->Prop)->Prop
abbrev TA:=St->Hp->(List V->Hp->Prop)->Prop
structure Ends where
 nx:St->Hp->Prop
 rt:VK
 bk:St->Hp->Prop:=fun _ _=>False
 ct:St->Hp->Prop:=fun _ _=>False
abbrev TS:=Ends->St->Hp->Prop
def EP (X:Cx)(pins:List (Addr×Obj))(σ:St)(Q:VK)(u:Value)(s':Shared):Prop:=∃ v H',Inv X pins σ H' s'/\RelV v u/\Q v H'
def TP (X:Cx)(pins:List (Addr×Obj))(σ:St)(Q:Bool->Hp->Prop)(b:Bool)(s':Shared):Prop:=∃ H',Inv X pins σ H' s'/\Q b H'
def AP (X:Cx)(pins:List (Addr×Obj))(σ:St)(Q:List V->Hp->Prop)(us:List Value)(s':Shared):Prop:=∃ vs H',Inv X pins σ H' s'/\Vals vs us/\Q vs H'
def SP (X:Cx)(pins:List (Addr×Obj))(D:Ends)(f:Flow)(s':Shared):Prop :=
 match f with
 | .next=>∃ σ' H',Inv X pins σ' H' s'/\D.nx σ' H'
 | .brk=>∃ σ' H',Inv X pins σ' H' s'/\D.bk σ' H'
 | .cont=>∃ σ' H',Inv X pins σ' H' s'/\D.ct σ' H'
 | .ret u=>∃ v σ' H',Inv X pins σ' H' s'/\RelV v u/\D.rt v H'
def PE (X:Cx)(e:Expr)(t:TE):Prop :=
 ∀ (pins:List (Addr×Obj)) (s:Shared) (σ:St) (H:Hp) (Q:VK),Inv X pins σ H s->t σ H Q->wpAny (model X.prog X.w) X.A (eval e X.env) (EP X pins σ Q) X.xe s
def PT (X:Cx)(e:Expr)(t:TT):Prop :=
 ∀ (pins:List (Addr×Obj)) (s:Shared) (σ:St) (H:Hp) (Q:Bool->Hp->Prop),Inv X pins σ H s->t σ H Q->wpAny (model X.prog X.w) X.A (isTrue e X.env (eval e X.env)) (TP X pins σ Q) X.xe s
def PW (X:Cx)(e:Expr)(t:TT):Prop :=
 ∀ (whole:Sem Value) (pins:List (Addr×Obj)) (s:Shared) (σ:St) (H:Hp) (Q:Bool->Hp->Prop),Inv X pins σ H s->t σ H Q->wpAny (model X.prog X.w) X.A (isTrue e X.env whole) (TP X pins σ Q) X.xe s
theorem PW.pt {X:Cx}{e:Expr}{t:TT}(h:PW X e t):PT X e t:=h _
def PA (X:Cx)(es:List Expr)(t:TA):Prop :=
 ∀ (pos:Pos) (pins:List (Addr×Obj)) (s:Shared) (σ:St) (H:Hp) (Q:List V->Hp->Prop),Inv X pins σ H s->t σ H Q->wpAny (model X.prog X.w) X.A (spliced (backTo pos (starEach es X.env))) (AP X pins σ Q) X.xe s
def PS (X:Cx)(st:Stmt)(t:TS):Prop :=
 ∀ (pins:List (Addr×Obj)) (s:Shared) (σ:St) (H:Hp) (D:Ends),Inv X pins σ H s->t D σ H->wpAny (model X.prog X.w) X.A (exec st X.env) (SP X pins D) X.xe s
def PSs (X:Cx)(st:List Stmt)(t:TS):Prop :=
 ∀ (pins:List (Addr×Obj)) (s:Shared) (σ:St) (H:Hp) (D:Ends),Inv X pins σ H s->t D σ H->wpAny (model X.prog X.w) X.A (execs st X.env) (SP X pins D) X.xe s
theorem eX {α:Type}{t:Sem α}{Q Q':α->Shared->Prop}{M:Model}{A:Around}{E:Value->Shared->Prop}{s:Shared}(h:wpAny M A t Q E s)(hQ:∀ a s,Q a s->Q' a s):wpAny M A t Q' E s:=wpAny_mono h hQ fun _ _ x=>x
end L2
namespace L2
open PySem PySem.Spec PyProof.Rows
section
variable {X:Cx}
inductive atp (i:Nat)(σ:St)(H:Hp)(Q:VK):Prop
 | mk (v:_) (gj:σ[i]? = some (some v)) (gk:Q v H):atp i σ H Q
def awe (i:Nat):TE:=fun σ H Q=>atp i σ H Q
def tC (v:V):TE:=fun _ H Q=>Q v H
theorem aur {i:Nat}{x:Str}{pos:Pos}(hN:X.N[i]? = some x)(hv:Vis X.env.scope x)(hd:(x == ("__debug__":Str))=false:=by decide)(hcd:(x == ("__classdict__":Str))=false:=by decide):PE X (.Name x pos) (awe i):=by
 intro pins s σ H Q I h
 obtain⟨v,e,h⟩:=h
 obtain⟨m,hn,hl⟩:=I.loc
 obtain⟨u,r,l⟩:=hl i x v hN e hv
 have fin:EP X pins σ Q u s:=⟨v,H,I,r,h⟩
 rcases l with ⟨hk,hm⟩ | ⟨hk,c,hc,hcell⟩
 ·exact wpAny_Name (wpAny_loadName_local I.ok.kind hk hn hm fin) hd
 ·rcases hk with hk | hk
  ·exact wpAny_Name (wpAny_loadName_cell I.ok.kind hk hc hcell fin) hd
  ·exact wpAny_Name (wpAny_loadName_free I.ok.kind hk hc hcell fin hcd) hd
theorem az {i j pos}:PE X (.Constant (.int i) j pos) (tC (.int i)):=fun _ _ _ H _ I h=>wpAny_Constant_int ⟨.int i,H,I.tok _,⟨_,rfl⟩,h⟩
theorem dY {b j pos}:PE X (.Constant (.bool b) j pos) (tC (.bl b)):=fun _ _ _ H _ I h=>Constant_bool ⟨.bl b,H,I,rfl,h⟩
theorem MP {j pos}:PE X (.Constant .none j pos) (tC .non):=fun _ _ _ H _ I h=>Constant_none ⟨.non,H,I,rfl,h⟩
theorem cA {x j pos}:PE X (.Constant (.str x) j pos) (tC (.str x)):=fun _ _ _ H _ I h=>Calls.Constant_str ⟨.str x,H,I.tok _,⟨_,rfl⟩,h⟩
def Gl (X:Cx)(x:Str):Prop:=X.env.kindOf x=some .globalImplicit
theorem Y9 {E:Value->Shared->Prop}{pins:List (Addr×Obj)}{s:Shared}{σ:St}{H:Hp}{x:Str}{u:Value}{pos:Pos}{Q:Value->Shared->Prop}(I:Inv X pins σ H s)(hg:Gl X x)(hm:X.mg x=some u)(h:Q u s)
  (hd:(x == ("__debug__":Str))=false:=by decide):wpAny (model X.prog X.w) X.A (eval (.Name x pos) X.env) Q E s :=
 Calls.Name_function_global I.ok.kind hg (Calls.loadGlobal_global (by rw[I.ok.glob];exact I.mod.glob.keeps I.bk) hm h) hd
theorem v7 {E:Value->Shared->Prop}{pins:List (Addr×Obj)}{s:Shared}{σ:St}{H:Hp}{x:Str}{u:Value}{pos:Pos}{Q:Value->Shared->Prop}(I:Inv X pins σ H s)(hg:Gl X x)(hm:X.mg x=none)(hv:bootBuiltins x=some u)(h:Q u s)
  (hn:x ≠ "__name__":=by decide) (hd:(x == ("__debug__":Str))=false:=by decide):wpAny (model X.prog X.w) X.A (eval (.Name x pos) X.env) Q E s:=by
 obtain⟨mb,h1,h2⟩:=I.mod.blt
 exact Calls.Name_function_global I.ok.kind hg (Calls.loadGlobal_builtin (by rw[I.ok.glob];exact I.mod.glob.keeps I.bk) hm (by rw[I.ok.blt];exact h1.keeps I.bk) ((h2 x hn).trans hv) h) hd
theorem cT {x:Str}{v:V}{u:Value}{pos:Pos}(hg:Gl X x)(hm:X.mg x=some u)(r:RelV v u)(hd:(x == ("__debug__":Str))=false:=by decide):PE X (.Name x pos) (tC v) :=
 fun _ _ _ H _ I h=>Y9 I hg hm ⟨v,H,I,r,h⟩ hd
theorem eY {x:Str}{v:V}{u:Value}{pos:Pos}(hg:Gl X x)(hm:X.mg x=none)(hv:bootBuiltins x=some u)(r:RelV v u)(hn:x ≠ "__name__":=by decide)(hd:(x == ("__debug__":Str))=false:=by decide):PE X (.Name x pos) (tC v) :=
 fun _ _ _ H _ I h=>v7 I hg hm hv ⟨v,H,I,r,h⟩ hn hd
def t2I (ta tb:TE)(k:Int->Int->Hp->Prop):St->Hp->Prop:=fun σ H=>ta σ H fun x H1=>tb σ H1 fun y H2=>∃ i j,x=.int i/\y=.int j/\k i j H2
variable {a b:Expr} {ta tb:TE} {pos:Pos}
def amU (p:Int->Int->Bool)(ta tb:TE):TE:=fun σ H Q=>t2I ta tb (fun i j H2=>Q (.bl (p i j)) H2) σ H
abbrev tLt:TE->TE->TE:=amU fun i j=>decide (i < j)
abbrev tLe:TE->TE->TE:=amU fun i j=>decide (i <= j)
abbrev tGt:TE->TE->TE:=amU fun i j=>decide (j < i)
abbrev tGe:TE->TE->TE:=amU fun i j=>decide (j <= i)
abbrev aBn:TE->TE->TE:=amU fun i j=>decide (i=j)
abbrev aBo:TE->TE->TE:=amU fun i j=>!decide (i=j)
def tB (t:TE):TT:=fun σ H Q=>t σ H fun x H1=>∃ c,x=.bl c/\Q c H1
theorem bD {e:Expr}{t:TE}(h:PE X e t)(he:∀ whole,isTrue e X.env whole=(do let v ← whole;standAt e.pos;holding [v] (truthy v)):=by intro _;rfl):PT X e (tB t):=by
 intro pins s σ H Q I hw
 refine isTrue_plain (eX (h pins s σ H _ I hw) fun v s1 ⟨x,H1,I1,r1,q1⟩=>?_) (he _)
 obtain⟨d,rfl,q⟩:=q1
 cases r1
 exact wpAny_truthy_bool ⟨H1,I1,q⟩
variable {tA tB':TT} {rest:List Expr}
def ayn (t u:TT):TT:=fun σ H Q=>t σ H fun c H1=>if c=true then u σ H1 Q else Q false H1
def tOr (t u:TT):TT:=fun σ H Q=>t σ H fun c H1=>if c=true then Q true H1 else u σ H1 Q
def ayo (t:TT):TT:=fun σ H Q=>t σ H fun c H1=>Q (!c) H1
theorem ir (ha:PT X a tA):PW X (.BoolOp .And [a] pos) tA:=by
 intro wh pins s σ H Q I h
 refine isTrue_and (eX (ha pins s σ H Q I h) fun c s1 e=>?_)
 cases c with
 | true=>exact isTrue_and_nil e
 | false=>exact e
theorem jj (ha:PT X a tA):PW X (.BoolOp .Or [a] pos) tA:=by
 intro wh pins s σ H Q I h
 refine isTrue_or (eX (ha pins s σ H Q I h) fun c s1 e=>?_)
 cases c with
 | false=>exact isTrue_or_nil e
 | true=>exact e
theorem fP (ha:PT X a tA)(hb:PW X (.BoolOp .And (b :: rest) pos) tB'):PW X (.BoolOp .And (a :: b :: rest) pos) (ayn tA tB'):=by
 intro wh pins s σ H Q I h
 refine isTrue_and (eX (ha pins s σ H _ I h) fun c s1 ⟨H1,I1,q1⟩=>?_)
 cases c with
 | true=>exact hb wh pins s1 σ H1 Q I1 q1
 | false=>exact⟨H1,I1,q1⟩
theorem lU (ha:PT X a tA)(hb:PW X (.BoolOp .Or (b :: rest) pos) tB'):PW X (.BoolOp .Or (a :: b :: rest) pos) (tOr tA tB'):=by
 intro wh pins s σ H Q I h
 refine isTrue_or (eX (ha pins s σ H _ I h) fun c s1 ⟨H1,I1,q1⟩=>?_)
 cases c with
 | true=>exact⟨H1,I1,q1⟩
 | false=>exact hb wh pins s1 σ H1 Q I1 q1
theorem cF (ha:PT X a tA):PT X (.UnaryOp .Not a pos) (ayo tA):=by
 intro pins s σ H Q I h
 exact isTrue_not (ha pins s σ H (fun c H1=>Q (!c) H1) I h)
def awf (ta tb:TE):TE:=fun σ H Q=>ta σ H fun x H1=>∃ c,x=.bl c/\if c=true then tb σ H1 Q else Q (.bl false) H1
def ayp (ta tb:TE):TE:=fun σ H Q=>ta σ H fun x H1=>∃ c,x=.bl c/\if c=true then Q (.bl true) H1 else tb σ H1 Q
def awg (ta:TE):TE:=fun σ H Q=>ta σ H fun x H1=>∃ c,x=.bl c/\Q (.bl (!c)) H1
theorem tL {op}{t:TE}(h:PE X a t):PE X (.BoolOp op [a] pos) t:=fun pins s σ H Q I hw=>BoolOp_one (h pins s σ H Q I hw)
theorem tM (ha:PE X a ta)(hb:PE X (.BoolOp .And (b :: rest) pos) tb):PE X (.BoolOp .And (a :: b :: rest) pos) (awf ta tb):=by
 intro pins s σ H Q I h
 refine BoolOp_and (eX (ha pins s σ H _ I h) fun v s1 ⟨x,H1,I1,r1,q1⟩=>?_)
 obtain⟨c,rfl,q1⟩:=q1
 cases r1
 refine wpAny_truthy_bool ?_
 cases c with
 | true=>exact hb pins s1 σ H1 Q I1 q1
 | false=>exact⟨.bl false,H1,I1,rfl,q1⟩
theorem apo (ha:PE X a ta)(hb:PE X (.BoolOp .Or (b :: rest) pos) tb):PE X (.BoolOp .Or (a :: b :: rest) pos) (ayp ta tb):=by
 intro pins s σ H Q I h
 refine BoolOp_or (eX (ha pins s σ H _ I h) fun v s1 ⟨x,H1,I1,r1,q1⟩=>?_)
 obtain⟨c,rfl,q1⟩:=q1
 cases r1
 refine wpAny_truthy_bool ?_
 cases c with
 | false=>exact hb pins s1 σ H1 Q I1 q1
 | true=>exact⟨.bl true,H1,I1,rfl,q1⟩
theorem aus (ha:PE X a ta):PE X (.UnaryOp .Not a pos) (awg ta):=by
 intro pins s σ H Q I h
 refine UnaryOp_ (eX (ha pins s σ H _ I h) fun v s1 ⟨x,H1,I1,r1,q1⟩=>?_)
 obtain⟨c,rfl,q1⟩:=q1
 cases r1
 exact not_of (wpAny_truthy_bool ⟨.bl (!c),H1,I1,rfl,q1⟩)
def tIf (t:TT)(ta tb:TE):TE:=fun σ H Q=>t σ H fun c H1=>if c=true then ta σ H1 Q else tb σ H1 Q
theorem j0 {c:Expr}(hc:PT X c tA)(ha:PE X a ta)(hb:PE X b tb):PE X (.IfExp c a b pos) (tIf tA ta tb):=by
 intro pins s σ H Q I h
 refine wpAny_IfExp (eX (hc pins s σ H _ I h) fun d s1 ⟨H1,I1,q1⟩=>?_)
 cases d with
 | true=>exact ha pins s1 σ H1 Q I1 q1
 | false=>exact hb pins s1 σ H1 Q I1 q1
end
end L2
namespace L2
open PySem PySem.Spec PyProof.Rows
def bh (K:Frag)(H:Hp)(a:Addr)(xs:List V):Prop :=
 Rd H a (.lst xs) ∨
  ∃ (o:Obj) (its:Array Value) (n:Nat),K.lookup a=some o/\o.cls=.type "list"/\o.dict=none/\o.data=.seq its n/\its.size <= sizeLine/\Vals xs its.toList
def nJ (K:Frag)(H:Hp)(a:Addr)(xs:List V):Prop :=
 Rd H a (.tup xs) ∨
  ∃ (o:Obj) (its:Array Value) (n:Nat),K.lookup a=some o/\o.cls=.type "tuple"/\o.data=.seq its n/\its.size <= sizeLine/\Vals xs its.toList
def ayq:Value->Option V
 | .none=>some .non
 | .bool b=>some (.bl b)
 | .int i _=>some (.int i)
 | .str x _=>some (.str x)
 | .bytes b _=>some (.byt b)
 | .float b _=>some (.flt b)
 | .ref a=>some (.ref a)
 | .type n=>some (.ty n)
 | _=>none
theorem RelV.abs {x:V}{u:Value}(r:RelV x u):ayq u=some x:=by
 cases x with
 | non=>cases r;rfl
 | bl _=>cases r;rfl
 | int _=>obtain⟨t,rfl⟩:=r;rfl
 | str _=>obtain⟨t,rfl⟩:=r;rfl
 | byt _=>obtain⟨t,rfl⟩:=r;rfl
 | flt _=>obtain⟨t,rfl⟩:=r;rfl
 | ref _=>cases r;rfl
 | ty _=>cases r;rfl
theorem RelV.inj {x y:V}{u:Value}(r:RelV x u)(q:RelV y u):x=y:=Option.some.inj (r.abs.symm.trans q.abs)
theorem Vals.inj:∀ {xs ys:List V} {us:List Value},Vals xs us->Vals ys us->xs=ys
 | _,_,_,.nil,.nil=>rfl
 | _,_,_,.cons r t,.cons r' t'=>by rw[r.inj r',Vals.inj t t']
section
variable {X:Cx} {pins:List (Addr×Obj)} {σ:St} {H:Hp} {s:Shared} {a:Addr} {xs ys:List V}
theorem bh.of {K:Frag}(h:H a=some (.lst xs)):bh K H a xs:=.inl (.inl h)
theorem nJ.of {K:Frag}(h:H a=some (.tup xs)):nJ K H a xs:=.inl (.inl h)
theorem Inv.list (I:Inv X pins σ H s)(h:bh X.K H a xs):∃ its:List Value,Vals xs its/\PlainL s.heap a its.toArray/\xs.length <= sizeLine:=by
 rcases h with h | ⟨o,its,n,hk,hc,hd,hs,hz,r⟩
 ·obtain⟨z,its,n,r,e⟩:=h.ok I.hok
  exact⟨its,r,⟨_,n,e,rfl,rfl,rfl⟩,z⟩
 ·refine⟨its.toList,r,⟨o,n,I.Qz a o hk,hc,hd,by simpa using hs⟩,?_⟩
  have e:=r.length
  simp only [Array.length_toList] at e
  omega
theorem Inv.tuple (I:Inv X pins σ H s)(h:nJ X.K H a xs):∃ its:List Value,Vals xs its/\IsTup s.heap a its.toArray/\xs.length <= sizeLine:=by
 rcases h with h | ⟨o,its,n,hk,hc,hs,hz,r⟩
 ·obtain⟨z,its,r,p⟩:=h.ok I.hok
  exact⟨its,r,p,z⟩
 ·refine⟨its.toList,r,⟨o,I.Qz a o hk,hc,n,by simpa using hs⟩,?_⟩
  have e:=r.length
  simp only [Array.length_toList] at e
  omega
theorem Inv.ahE (I:Inv X pins σ H s)(h:bh X.K H a xs)(h':bh X.K H a ys):xs=ys:=by
 obtain⟨its,r,⟨o,n,e,_,_,d⟩,_⟩:=I.list h
 obtain⟨its',r',⟨o',n',e',_,_,d'⟩,_⟩:=I.list h'
 rw[e] at e';cases e'
 rw[d] at d'
 injection d' with d1 _
 have:its=its':=by simpa using congrArg Array.toList d1
 subst this
 exact r.inj r'
end
abbrev Cx.wish (X:Cx)(E:Value->Shared->Prop):Cx:={ X with xe:=E }
abbrev Cx.nox (X:Cx):Cx:=X.wish fun _ _=>False
theorem Cx.Ok.wish {X:Cx}(ok:X.Ok)(E:Value->Shared->Prop):(X.wish E).Ok :=
 ⟨ok.mod,ok.kind,ok.glob,ok.blt,ok.above,ok.inj,ok.has,ok.cab,ok.hd,ok.frames,ok.stk,ok.exf,ok.bs,ok.bsz,ok.ajl,ok.ajm,ok.QC,ok.frf⟩
theorem Cx.Ok.HB {X:Cx}{E:Value->Shared->Prop}(ok:(X.wish E).Ok):X.Ok :=
 ⟨ok.mod,ok.kind,ok.glob,ok.blt,ok.above,ok.inj,ok.has,ok.cab,ok.hd,ok.frames,ok.stk,ok.exf,ok.bs,ok.bsz,ok.ajl,ok.ajm,ok.QC,ok.frf⟩
section
variable {X:Cx} {pins:List (Addr×Obj)} {σ:St} {H:Hp} {s:Shared} {E:Value->Shared->Prop}
theorem Inv.wish (I:Inv X pins σ H s)(E:Value->Shared->Prop):Inv (X.wish E) pins σ H s:=⟨I.ok.wish E,I.os,I.bare,I.base,I.loc,I.cell,I.free,I.Hg,I.pin,I.hok,I.len⟩
theorem Inv.HB (I:Inv (X.wish E) pins σ H s):Inv X pins σ H s:=⟨I.ok.HB,I.os,I.bare,I.base,I.loc,I.cell,I.free,I.Hg,I.pin,I.hok,I.len⟩
theorem SP.HB {D:Ends}{f:Flow}{s':Shared}(h:SP (X.wish E) pins D f s'):SP X pins D f s':=by
 cases f with
 | next=>obtain⟨σ',H',I,q⟩:=h;exact⟨σ',H',I.HB,q⟩
 | brk=>obtain⟨σ',H',I,q⟩:=h;exact⟨σ',H',I.HB,q⟩
 | cont=>obtain⟨σ',H',I,q⟩:=h;exact⟨σ',H',I.HB,q⟩
 | ret u=>obtain⟨v,σ',H',I,r,q⟩:=h;exact⟨v,σ',H',I.HB,r,q⟩
theorem PSs.nox {st:List Stmt}{t:TS}(h:PSs X.nox st t):PSs X st t:=fun pins s σ H D I hw =>
 wpAny_mono (h pins s σ H D (I.wish _) hw) (fun _ _ q=>q.HB) fun _ _ z=>False.elim z
end
section
variable {X:Cx} {st:Stmt} {rest:List Stmt} {t u:TS} {e:Expr} {te:TE} {pos:Pos}
def awh:TS:=fun D σ H=>D.nx σ H
def awi (t u:TS):TS:=fun D σ H=>t { D with nx:=u D } σ H
theorem aO:PSs X [] awh:=fun _ _ σ H _ I h=>wpAny_execs_nil ⟨σ,H,I,h⟩
theorem ao (h1:PS X st t)(h2:PSs X rest u):PSs X (st :: rest) (awi t u):=by
 intro pins s σ H D I h
 refine wpAny_execs_cons (eX (h1 pins s σ H { D with nx:=u D } I h) fun f s1 q=>?_)
 cases f with
 | next =>
  obtain⟨σ',H',I',q⟩:=q
  exact h2 pins s1 σ' H' D I' q
 | ret v=>exact q
 | brk=>exact q
 | cont=>exact q
theorem au (h1:PS X st t):PSs X [st] t:=by
 intro pins s σ H D I h
 refine wpAny_execs_cons (eX (h1 pins s σ H D I h) fun f s1 q=>?_)
 cases f with
 | next=>exact wpAny_execs_nil q
 | ret v=>exact q
 | brk=>exact q
 | cont=>exact q
theorem Inv.quiet {pins:List (Addr×Obj)}{σ:St}{H:Hp}{s:Shared}(I:Inv X pins σ H s):interactive X.env=false:=by simp[interactive,I.ok.kind]
def awj (te:TE):TS:=fun D σ H=>te σ H fun _ H1=>D.nx σ H1
theorem bj (he:PE X e te)(hs:swapsWith e none pos.line X.env=pure false:=by rfl):PS X (.Expr e pos) (awj te):=by
 intro pins s σ H D I h
 exact wpAny_Expr_any (eX (he pins s σ H _ I h) fun v s1 ⟨x,H1,I1,r1,q1⟩=>⟨σ,H1,I1,q1⟩) I.quiet hs
def ayr (te:TE):TS:=fun D σ H=>te σ H D.rt
theorem aG (he:PE X e te):PS X (.Return (some e) pos) (ayr te):=by
 intro pins s σ H D I h
 exact wpAny_Return_some (eX (he pins s σ H _ I h) fun v s1 ⟨x,H1,I1,r1,q1⟩=>⟨x,σ,H1,I1,r1,q1⟩)
def ays (c:TT)(t u:TS):TS:=fun D σ H=>c σ H fun b H1=>if b=true then t D σ H1 else u D σ H1
theorem bC {c:Expr}{a b:List Stmt}{tc:TT}(hc:PT X c tc)(ha:PSs X a t)(hb:PSs X b u):PS X (.If c a b pos) (ays tc t u):=by
 intro pins s σ H D I h
 refine wpAny_If (eX (hc pins s σ H _ I h) fun d s1 ⟨H1,I1,q1⟩=>?_)
 cases d with
 | true=>exact ha pins s1 σ H1 D I1 q1
 | false=>exact hb pins s1 σ H1 D I1 q1
def aut:TS:=fun _ _ _=>False
theorem lV:PS X st aut:=fun _ _ _ _ _ _ h=>h.elim
end
abbrev TG:=V->St->Hp->(St->Hp->Prop)->Prop
abbrev TGs:=List V->St->Hp->(St->Hp->Prop)->Prop
def PG (X:Cx)(target:Expr)(t:TG):Prop :=
 ∀ (pins:List (Addr×Obj)) (s:Shared) (σ:St) (H:Hp) (v:V) (u:Value) (Q:St->Hp->Prop),Inv X pins σ H s->RelV v u->t v σ H Q ->
  wpAny (model X.prog X.w) X.A (assign target X.env u) (fun _ s'=>∃ σ' H',Inv X pins σ' H' s'/\Q σ' H') X.xe s
def PGs (X:Cx)(ts:List Expr)(t:TGs):Prop :=
 ∀ (pins:List (Addr×Obj)) (s:Shared) (σ:St) (H:Hp) (vs:List V) (us:List Value) (Q:St->Hp->Prop),Inv X pins σ H s->Vals vs us->t vs σ H Q ->
  wpAny (model X.prog X.w) X.A (assignInOrder ((assignEach ts X.env).map (·.2)) us) (fun _ s'=>∃ σ' H',Inv X pins σ' H' s'/\Q σ' H') X.xe s
abbrev auu:=V->V->V->Hp->(Hp->Prop)->Prop
def awk (X:Cx)(t:auu):Prop :=
 ∀ (pins:List (Addr×Obj)) (s:Shared) (σ:St) (H:Hp) (o i v:V) (ov iv u:Value) (Q:Hp->Prop),Inv X pins σ H s->RelV o ov->RelV i iv->RelV v u->t o i v H Q ->
  wpAny (model X.prog X.w) X.A (setItem ov iv u) (fun _ s'=>∃ H',Inv X pins σ H' s'/\Q H') X.xe s
abbrev TIp:=V->V->Hp->VK->Prop
def PIp (X:Cx)(op:Operator)(t:TIp):Prop :=
 ∀ (pins:List (Addr×Obj)) (s:Shared) (σ:St) (H:Hp) (x y:V) (v u:Value) (Q:VK),Inv X pins σ H s->RelV x v->RelV y u->t x y H Q ->
  wpAny (model X.prog X.w) X.A (inplaceOp op v u) (EP X pins σ Q) X.xe s
section
variable {X:Cx} {pos:Pos}
def adB (i:Nat):TG:=fun v σ H Q=>Q (σ.set i (some v)) H
theorem aU {i:Nat}{x:Str}(hN:X.N.Nodup)(hi:X.N[i]? = some x)(hx:Loc X.env.scope x)(hf:X.fn x=true∨X.env.scope.names.lookup x=some .local:=by first | exact .inl rfl | exact .inr rfl | assumption):PG X (.Name x pos) (adB i):=by
 intro pins s σ H v u Q I r h
 exact wpAny_assign_Name (Zo I hN hi hx r (fun s' I'=>⟨_,H,I',h⟩) hf)
def ayt:TGs:=fun vs σ H Q=>vs=[]/\Q σ H
inductive apq (t:TG)(u:TGs)(vs:List V)(σ:St)(H:Hp)(Q:(St->Hp->Prop)):Prop
 | mk (v:_) (r:_) (gj:vs=v :: r) (gk:t v σ H fun σ' H'=>u r σ' H' Q):apq t u vs σ H Q
def awl (t:TG)(u:TGs):TGs:=fun vs σ H Q=>apq t u vs σ H Q
theorem eZ:PGs X [] ayt:=by
 intro pins s σ H vs us Q I r h
 obtain⟨e,h⟩:=h
 subst e
 cases r
 exact assignInOrder_nil ⟨σ,H,I,h⟩
theorem bu {e:Expr}{es:List Expr}{t:TG}{u:TGs}(h1:PG X e t)(h2:PGs X es u)
  (hs:(assignEach (e :: es) X.env).map (·.2)=assign e X.env :: (assignEach es X.env).map (·.2):=by rfl):PGs X (e :: es) (awl t u):=by
 intro pins s σ H vs us Q I r h
 obtain⟨v,vr,e1,h⟩:=h
 subst e1
 cases r with
 | cons r rr =>
  rw[hs]
  refine assignInOrder_cons (eX (h1 pins s σ H _ _ _ I r h) fun _ s1 ⟨σ1,H1,I1,q1⟩=>?_)
  exact h2 pins s1 σ1 H1 _ _ Q I1 rr q1
inductive atq (K:Frag)(n:Nat)(t:TGs)(v:V)(σ:St)(H:Hp)(Q:(St->Hp->Prop)):Prop
 | mk (a:_) (xs:_) (gj:v=.ref a) (gk:nJ K H a xs) (jc:xs.length=n) (n8:t xs σ H Q):atq K n t v σ H Q
def ayu (K:Frag)(n:Nat)(t:TGs):TG:=fun v σ H Q=>atq K n t v σ H Q
theorem iR {es:List Expr}{k:Nat}{t:TGs}{n:Nat}(hc:X.calm=true)(h:PGs X es t)
  (hn:(assignEach es X.env).length=n:=by rfl) (hst:(assignEach es X.env).findIdx? (·.1)=none:=by rfl):PG X (.Tuple es k pos) (ayu X.K n t):=by
 intro pins s σ H v u Q I r hw
 obtain⟨a,xs,e1,hq,hl,hw⟩:=hw
 subst e1
 cases r
 obtain⟨its,rv,ht,hz⟩:=I.tuple hq
 refine assign_Tuple_tuple (I.ok.hd hc) ht (by simp[hn,← hl,rv.length]) hst fun h' hx=>?_
 have I1:Inv X pins σ H { s with heap:=h' }:=I.kept (t':=s.toks) fun b o e=>hx b o (Nat.ne_of_lt (Heap.lt_size e)) e
 exact h pins _ σ H xs _ Q I1 (by simpa using rv) hw
def ayv (to ti:TE)(t:auu):TG:=fun v σ H Q=>to σ H fun o H1=>ti σ H1 fun i H2=>t o i v H2 fun H3=>Q σ H3
theorem HD {o i:Expr}{to ti:TE}{t:auu}(ho:PE X o to)(hi:PE X i ti)(hs:awk X t)
  (ha:∀ v,assign (.Subscript o i pos) X.env v=(do
   let ov ← holding [v] (eval o X.env)
   let iv ← holding [v,ov] (eval i X.env)
   standAt pos
   holding [v,ov,iv] (setItem ov iv v)
   release [v,ov,iv] []):=by intro _;rfl):PG X (.Subscript o i pos) (ayv to ti t):=by
 intro pins s σ H v u Q I r h
 rw[ha]
 refine wpAny_bind (wpAny_holding (eX (ho pins s σ H _ I h) fun ov s1 ⟨x,H1,I1,r1,q1⟩=>?_))
 refine wpAny_bind (wpAny_holding (eX (hi pins s1 σ H1 _ I1 q1) fun iv s2 ⟨y,H2,I2,r2,q2⟩=>?_))
 refine wpAny_bind (wpAny_standAt (wpAny_bind (wpAny_holding (eX (hs pins s2 σ H2 x y v ov iv u _ I2 r1 r2 r q2) fun _ s3 ⟨H3,I3,q3⟩=>?_))))
 exact wpAny_release ⟨σ,H3,I3,q3⟩
def ar9 (te:TE)(g:TG):TS:=fun D σ H=>te σ H fun x H1=>g x σ H1 D.nx
theorem qx {tg e:Expr}{te:TE}{g:TG}(he:PE X e te)(hg:PG X tg g)(hs:swapsWithSole [tg] e pos.line X.env=pure false:=by rfl)(hw:swappedStores [tg] e X.env=pure none:=by rfl)
  (h1:(assignEach [tg] X.env).map (·.2)=[assign tg X.env]:=by rfl):PS X (.Assign [tg] e pos) (ar9 te g):=by
 intro pins s σ H D I h
 refine wpAny_Assign_stores (eX (he pins s σ H _ I h) fun v s1 ⟨x,H1,I1,r1,q1⟩=>?_) hs hw
 rw[h1]
 exact eX (hg pins s1 σ H1 x v _ I1 r1 q1) fun _ s2 q=>q
theorem aX {i:Nat}{x:Str}{e:Expr}{te:TE}{pos':Pos}(hN:X.N.Nodup)(hi:X.N[i]? = some x)(hx:Loc X.env.scope x)(he:PE X e te)(hs:swapsWith e (some (.Name x pos')) pos.line X.env=pure false:=by rfl)(hf:X.fn x=true∨X.env.scope.names.lookup x=some .local:=by first | exact .inl rfl | exact .inr rfl | assumption) :
  PS X (.Assign [.Name x pos'] e pos) (ar9 te (adB i)):=by
 intro pins s σ H D I h
 refine wpAny_Assign_Name (eX (he pins s σ H _ I h) fun v s1 ⟨y,H1,I1,r1,q1⟩=>?_) hs
 exact Zo I1 hN hi hx r1 (fun s2 I2=>⟨_,H1,I2,q1⟩) hf
def ayw (i:Nat)(te:TE)(ti:TIp):TS:=fun D σ H=>∃ x,σ[i]? = some (some x)/\te σ H fun y H1=>ti x y H1 fun z H2=>D.nx (σ.set i (some z)) H2
theorem auv {i:Nat}{x:Str}{e:Expr}{te:TE}{op:Operator}{ti:TIp}{pos':Pos}(hN:X.N.Nodup)(hi:X.N[i]? = some x)(hx:Loc X.env.scope x)(he:PE X e te)(ho:PIp X op ti)(hf:X.fn x=true∨X.env.scope.names.lookup x=some .local:=by first | exact .inl rfl | exact .inr rfl | assumption) :
  PS X (.AugAssign (.Name x pos') op e pos) (ayw i te ti):=by
 intro pins s σ H D I h
 obtain⟨v,e1,h⟩:=h
 obtain⟨m,hn,hl⟩:=I.loc
 have vis:Vis X.env.scope x:=by rcases hx with k | k;exact .inl k;exact .inr (.inl k)
 obtain⟨u,r,l⟩:=hl i x v hi e1 vis
 refine wpAny_AugAssign_Name ?_
 have go:wpAny (model X.prog X.w) X.A (eval e X.env) (fun w s₂=>wpAny (model X.prog X.w) X.A (inplaceOp op u w) (fun r s₃=>wpAny (model X.prog X.w) X.A (storeName X.env x r) (fun _=>SP X pins D .next) X.xe s₃) X.xe s₂) X.xe s:=by
  refine eX (he pins s σ H _ I h) fun w s1 ⟨y,H1,I1,r1,q1⟩=>?_
  refine eX (ho pins s1 σ H1 v y u w _ I1 r r1 q1) fun z s2 ⟨zv,H2,I2,r2,q2⟩=>?_
  exact Zo I2 hN hi hx r2 (fun s3 I3=>⟨_,H2,I3,q2⟩) hf
 rcases l with ⟨hk,hm⟩ | ⟨hk,c,hc,hcell⟩
 ·exact wpAny_loadName_local I.ok.kind hk hn hm go
 ·rcases hk with hk | hk
  ·exact wpAny_loadName_cell I.ok.kind hk hc hcell go
  ·rcases hx with k | k
   ·have:X.env.scope.names.lookup x=some .free:=hk
    rw[k] at this;cases this
   ·have:X.env.scope.names.lookup x=some .free:=hk
    rw[k] at this;cases this
def ipI (f:Int->Int->Int):TIp:=fun x y H Q=>∃ i j,x=.int i/\y=.int j/\Q (.int (f i j)) H
theorem auw:PIp X .Add (ipI fun i j=>i+j):=by
 intro pins s σ H x y v u Q I r1 r2 h
 obtain⟨i,j,e1,e2,q⟩:=h
 subst e1;subst e2
 obtain⟨t,rfl⟩:=r1
 obtain⟨t',rfl⟩:=r2
 exact iadd_int ⟨.int _,H,I.tok _,⟨_,rfl⟩,q⟩
end
section
variable {X:Cx} {pos:Pos}
def auy (c:TT)(tb:TS):TS:=fun D σ H=>∃ W:Nat->St->Hp->Prop,(∃ m,W m σ H)/\∀ m σ H,W m σ H ->
 c σ H fun b H1=>if b=true then ∃ N:St->Hp->Prop,(∀ σ' H',N σ' H'->∃ m',m' < m/\W m' σ' H')/\tb { D with nx:=N,ct:=N,bk:=D.nx } σ H1 else D.nx σ H1
theorem Zq {c:Expr}{body:List Stmt}{tc:TT}{tb:TS}(hp:PassesOwn (model X.prog X.w) X.A X.env X.xe)(hc:PT X c tc)(hb:PSs X body tb):PS X (.While c body [] pos) (auy tc tb):=by
 intro pins s σ H D I h
 obtain⟨W,⟨m0,w0⟩,turn⟩:=h
 refine wpAny_While (codeAny_whileLoop (fun n s'=>∃ σ' H',Inv X pins σ' H' s'/\W n σ' H') ?_ m0 ⟨σ,H,I,w0⟩)
 rintro n s1 ⟨σ1,H1,I1,w1⟩
 refine wpAny_passesOwn hp (eX (hc pins s1 σ1 H1 _ I1 (turn n σ1 H1 w1)) fun b s2 ⟨H2,I2,q2⟩=>?_)
 cases b with
 | true =>
  obtain⟨N,hN,q2⟩:=q2
  rw[if_pos rfl]
  refine wpAny_passesOwn hp (eX (hb pins s2 σ1 H2 _ I2 q2) fun f s3 q3=>?_)
  cases f with
  | next =>
   obtain⟨σ3,H3,I3,n3⟩:=q3
   obtain⟨m',hm,w3⟩:=hN σ3 H3 n3
   exact⟨m',hm,σ3,H3,I3,w3⟩
  | cont =>
   obtain⟨σ3,H3,I3,n3⟩:=q3
   obtain⟨m',hm,w3⟩:=hN σ3 H3 n3
   exact⟨m',hm,σ3,H3,I3,w3⟩
  | brk=>exact q3
  | ret v=>exact q3
 | false =>
  rw[if_neg Bool.false_ne_true]
  exact wpAny_execs_nil ⟨σ1,H2,I2,q2⟩
end
structure It where
 go:Nat->Hp->Prop
 yld:Nat->Hp->V->Hp->Prop
 stop:Nat->Hp->Prop
def tO (X:Cx)(pins:List (Addr×Obj))(H:Hp)(b:Addr):Prop :=
 H b=none/\b≠X.env.locals/\b ∉ X.fs/\(b∈X.ex∨X.s₀.heap.objs.size <= b)/\(∀ x c,X.env.cells.lookup x=some c->c≠b)/\∀ p∈X.pn++pins,p.1≠b
theorem Inv.acE {X:Cx}{pins:List (Addr×Obj)}{σ:St}{H H':Hp}{s:Shared}{b:Addr}(I:Inv X pins σ H s)(hb:s.heap.objs.size <= b)(hn:H' b=none):tO X pins H' b:=by
 refine⟨hn,Nat.ne_of_gt (Nat.lt_of_lt_of_le I.lt hb),I.ayl hb,.inr (Nat.le_trans I.sz hb),fun x c e z=>?_,fun p hp z=>?_⟩
 ·obtain⟨v,q⟩:=I.cell x c e
  exact absurd (Nat.lt_of_lt_of_le q.lt (by rw[z];exact hb)) (Nat.lt_irrefl _)
 ·exact absurd (Nat.lt_of_lt_of_le (Heap.lt_size (I.pin p hp).1) (by rw[z];exact hb)) (Nat.lt_irrefl _)
structure Turn (P:Program)(w:World)(K:Frag)(tg:Expr)(J:It)(fp:List Addr)(it:Addr)(tn:Nat->Heap->Prop):Prop where
 mem:it∈fp
 obj:∀ i h,tn i h->∀ b∈fp,∃ o,h.get? b=some o/\∀ v,o.data≠.cell v
 keep:∀ i h h',tn i h->(∀ b∈fp,∀ o,h.get? b=some o->h'.get? b=some o)->tn i h'
 item:∀ (X:Cx),X.prog=P->X.w=w->X.K=K->X.calm=true->∀ (i:Nat) (pins:List (Addr×Obj)) (s:Shared) (σ:St) (H:Hp) (E:Value->Shared->Prop),Inv X pins σ H s->(∀ b∈fp,tO X pins H b)->tn i s.heap->J.go i H ->
  wpAny (model P w) X.A (pyNext (.ref it)) (fun r s1=>∃ u,r=some u /\
   wpAny (model P w) X.A (letOwnedTupleGo tg (.ref it) u) (fun _ s2=>∃ x H',Inv X pins σ H' s2/\RelV x u/\J.yld i H x H'/\tn (i+1) s2.heap/\∀ b∈fp,H' b=none) E s1) E s
 done:∀ (X:Cx),X.prog=P->X.w=w->X.K=K->X.calm=true->∀ (i:Nat) (pins:List (Addr×Obj)) (s:Shared) (σ:St) (H:Hp) (E:Value->Shared->Prop),Inv X pins σ H s->(∀ b∈fp,tO X pins H b)->tn i s.heap->J.stop i H ->
  wpAny (model P w) X.A (pyNext (.ref it)) (fun r s1=>r=none/\Inv X pins σ H s1) E s
 self:∀ (A:Around) (i:Nat) (s:Shared) (Q:Value->Shared->Prop) (E:Value->Shared->Prop),tn i s.heap->Q (.ref it) s->wpAny (model P w) A (pyIter (.ref it)) Q E s
abbrev TI:=St->Hp->(It->Hp->Prop)->Prop
def PIE (X:Cx)(pins:List (Addr×Obj))(σ:St)(tg:Expr)(R:It->Hp->Prop)(itv:Value)(s2:Shared):Prop :=
 ∃ (it:Addr) (fp:List Addr) (tn:Nat->Heap->Prop) (J:It) (H':Hp),itv=.ref it/\Inv X pins σ H' s2/\Turn X.prog X.w X.K tg J fp it tn/\tn 0 s2.heap/\(∀ b∈fp,tO X pins H' b)/\R J H'
def PI (X:Cx)(tg iter:Expr)(wi:TI):Prop :=
 ∀ (pins:List (Addr×Obj)) (s:Shared) (σ:St) (H:Hp) (R:It->Hp->Prop),Inv X pins σ H s->wi σ H R ->
  wpAny (model X.prog X.w) X.A (eval iter X.env) (fun v s1=>wpAny (model X.prog X.w) X.A (pyIter v) (PIE X pins σ tg R) X.xe s1) X.xe s
theorem alY {M:Model}{A:Around}{E:Value->Shared->Prop}{s:Shared}{tg:Expr}{it:Addr}{u:Value}{o:Obj}{n:String}{vs:Array Value}{Q:Unit->Shared->Prop}(ho:s.heap.get? it=some o)(hc:o.cls=.type n)(hd:o.data=.fields vs)
  (hn:["enumerate","zip","dict_itemiterator","dict_reverseitemiterator","odict_iterator","itertools.zip_longest","itertools.pairwise"].contains n=false) (hQ:Q () s):wpAny M A (letOwnedTupleGo tg (.ref it) u) Q E s:=by
 unfold letOwnedTupleGo
 cases tg <;> first
  | exact wpAny_pure hQ
  | (cases u <;> first
    | exact wpAny_pure hQ
    | (refine wpAny_bind (wpAny_load ho ?_);rw[hc,hd];show wpAny M A (if (["enumerate","zip","dict_itemiterator","dict_reverseitemiterator","odict_iterator","itertools.zip_longest","itertools.pairwise"].contains n && vs[0]? == some (rawInt _))=true then _ else _) Q E s;rw[if_neg (by intro h;rw[hn,Bool.false_and] at h;cases h)];exact wpAny_pure hQ))
def Itl (K:Frag)(a:Addr):It :=
 ⟨fun i H=>∃ xs x,bh K H a xs/\xs[i]? = some x,fun i H x H'=>H'=H/\∀ xs,bh K H a xs->xs[i]? = some x,fun i H=>∃ xs,bh K H a xs/\xs.length <= i⟩
def Itt (K:Frag)(a:Addr):It :=
 ⟨fun i H=>∃ xs x,nJ K H a xs/\xs[i]? = some x,fun i H x H'=>H'=H/\∀ xs,nJ K H a xs->xs[i]? = some x,fun i H=>∃ xs,nJ K H a xs/\xs.length <= i⟩
def Itr (lo:Int)(n:Nat):It:=⟨fun i _=>i < n,fun i H x H'=>H'=H/\x=.int (lo+i),fun i _=>n <= i⟩
theorem amV {P:Program}{w:World}{K:Frag}{tg:Expr}(a it:Addr):Turn P w K tg (Itl K a) [it] it (fun i h=>h.IsListIter it a i) where
 mem:=by simp
 obj:=fun i h st b hb=>by
  have e:b=it:=by simpa using hb
  subst e
  obtain⟨o,e,c,d⟩:=st
  exact⟨o,e,fun v z=>by rw[d] at z;cases z⟩
 keep:=fun i h h' st k=>st.at fun o e=>k it (by simp) o e
 item:=by
  intro X hP hw hK hc i pins s σ H E I hf st hg
  subst hP hw hK
  obtain⟨xs,x,hq,hx⟩:=hg
  obtain⟨its,rv,p,hz⟩:=I.list hq
  obtain⟨u,hu,ru⟩:=rv.get hx
  obtain⟨f0,f1,f2,f3,f4,f5⟩:=hf it (by simp)
  refine wpAny_pyNext_list_item st p.isList (x:=u) (by simpa using hu) fun h' st' sb=>?_
  have I1:Inv X pins σ H { s with heap:=h' }:=I.turned (t':=s.toks) (fun b o hb e=>(sb.2 b hb).trans e) f0 f1 f3 f4 f5
  obtain⟨o,e,c,d⟩:=id st'
  exact⟨u,rfl,alY (s:={ s with heap:=h' }) e c d (by decide) ⟨x,H,I1,ru,⟨rfl,fun ys hy=>by rw[I.ahE hy hq];exact hx⟩,st',fun b hb=>(hf b hb).1⟩⟩
 done:=by
  intro X hP hw hK hc i pins s σ H E I hf st hg
  subst hP hw hK
  obtain⟨xs,hq,hx⟩:=hg
  obtain⟨its,rv,p,hz⟩:=I.list hq
  obtain⟨f0,f1,f2,f3,f4,f5⟩:=hf it (by simp)
  have hl:=rv.length
  exact wpAny_pyNext_list_end (I.ok.hd hc) st p.isList (by simp;omega) fun h' eb=>⟨rfl,I.turned (t':=s.toks) (fun b o hb e=>eb b o hb e) f0 f1 f3 f4 f5⟩
 self:=fun _ _ _ _ _ st h=>wpAny_pyIter_listiter st h
theorem ajo {P:Program}{w:World}{K:Frag}{tg:Expr}(it:Addr)(lo:Int)(n:Nat):Turn P w K tg (Itr lo n) [it] it (fun i h=>IsRangeIter h it (lo+(i:Nat) * 1) ((n:Int) - (i:Nat)) 1) where
 mem:=by simp
 obj:=fun i h st b hb=>by
  have e:b=it:=by simpa using hb
  subst e
  exact⟨_,st,fun v z=>by
   have z':Data.fields _=Data.cell v:=z
   cases z'⟩
 keep:=fun i h h' st k=>k it (by simp) _ st
 item:=by
  intro X hP hw hK hc i pins s σ H E I hf st hg
  subst hP hw hK
  obtain⟨f0,f1,f2,f3,f4,f5⟩:=hf it (by simp)
  have W:=Walks.range (prog:=X.prog) (w:=X.w) (I.ok.hd hc) it lo 1 n
  refine W.item i s _ _ hg st fun v h' tk hv st' kk=>?_
  obtain⟨t,rfl⟩:=hv
  have I1:Inv X pins σ H { s with heap:=h',toks:=tk }:=I.turned (fun b o hb e=>kk b o (by simpa using hb) e) f0 f1 f3 f4 f5
  refine⟨_,rfl,alY (s:={ s with heap:=h',toks:=tk }) (n:="range_iterator") st' rfl rfl (by decide) ⟨.int (lo+i),H,I1,⟨t,?_⟩,⟨rfl,rfl⟩,st',fun b hb=>(hf b hb).1⟩⟩
  rw[Int.mul_one]
 done:=by
  intro X hP hw hK hc i pins s σ H E I hf st hg
  subst hP hw hK
  obtain⟨f0,f1,f2,f3,f4,f5⟩:=hf it (by simp)
  exact wpAny_pyNext_range_end (I.ok.hd hc) st (by have:n <= i:=hg;omega) fun h' eb=>⟨rfl,I.turned (t':=s.toks) (fun b o hb e=>eb b o hb e) f0 f1 f3 f4 f5⟩
 self:=fun _ _ _ _ _ st h=>wpAny_pyIter_rangeiter st h
end L2
namespace L2
open PySem PySem.Spec PyProof.Rows
section
variable {X:Cx} {tg:Expr}
inductive apr (K:Frag)(R:(It->Hp->Prop))(x:V)(H1:Hp):Prop
 | mk (a:_) (gj:x=.ref a) (gk:(∃ xs,bh K H1 a xs)/\R (Itl K a) H1):apr K R x H1
def awm (K:Frag)(tl:TE):TI:=fun σ H R=>tl σ H fun x H1=>apr K R x H1
inductive awn (K:Frag)(R:(It->Hp->Prop))(x:V)(H1:Hp):Prop
 | mk (a:_) (gj:x=.ref a) (gk:(∃ xs,nJ K H1 a xs)/\R (Itt K a) H1):awn K R x H1
theorem dX {l:Expr}{tl:TE}(hl:PE X l tl):PI X tg l (awm X.K tl):=by
 intro pins s σ H R I h
 refine eX (hl pins s σ H _ I h) fun v s1 ⟨x,H1,I1,r1,q1⟩=>?_
 obtain⟨a,e,⟨xs,hq⟩,q⟩:=q1
 subst e
 cases r1
 obtain⟨its,rv,p,hz⟩:=I1.list hq
 refine wpAny_pyIter_list p.isList ?_
 refine⟨s1.heap.objs.size,[s1.heap.objs.size],_,_,H1,rfl,I1.kept (t':=s1.toks) fun b o e=>Heap.get?_push_of_some _ e,amV a _,⟨_,Heap.get?_push_size _ rfl,rfl,rfl⟩,fun b hb=>?_,q⟩
 have e:b=s1.heap.objs.size:=by simpa using hb
 subst e
 exact I1.acE (Nat.le_refl _) (I1.hok.fresh (Nat.le_refl _))
theorem ahF {pins:List (Addr×Obj)}{σ:St}{H:Hp}{s:Shared}{R:It->Hp->Prop}{E:Value->Shared->Prop}{lo hi:Int}{t u v:Tok}{tk:Nat}(I:Inv X pins σ H s)(h1:-(2 ^ 62) <= lo)(h2:lo < 2 ^ 62)(h3:-(2 ^ 62) <= hi)(h4:hi < 2 ^ 62)
  (q:R (Itr lo (hi - lo).toNat) H):wpAny (model X.prog X.w) X.A (pyIter (.ref s.heap.objs.size)) (PIE X pins σ tg R) E { s with heap:=s.heap.push { cls:=.type "range",data:=.fields #[.int lo t,.int hi u,.int 1 v] },toks:=tk }:=by
 refine wpAny_pyIter_range (IsRange.new ..) (small_one h1 h2 h3 h4) ?_
 have I1:Inv X pins σ H { s with heap:=s.heap.push { cls:=.type "range",data:=.fields #[.int lo t,.int hi u,.int 1 v] },toks:=tk }:=I.kept fun b o e=>Heap.get?_push_of_some _ e
 refine⟨(s.heap.push { cls:=.type "range",data:=.fields #[.int lo t,.int hi u,.int 1 v] }).objs.size,[(s.heap.push { cls:=.type "range",data:=.fields #[.int lo t,.int hi u,.int 1 v] }).objs.size],_,_,H,rfl,
  I1.kept (t':=tk) fun b o e=>Heap.get?_push_of_some _ e,ajo _ lo (hi - lo).toNat,?_,fun b hb=>?_,q⟩
 ·have e1:lo+((0:Nat):Int) * 1=lo:=by simp
  have e2:(((hi - lo).toNat:Nat):Int) - ((0:Nat):Int)=Builtin.Range.rangeSize lo hi 1:=by rw[rangeSize_one];split <;> omega
  show IsRangeIter _ _ (lo+((0:Nat):Int) * 1) ((((hi - lo).toNat:Nat):Int) - ((0:Nat):Int)) 1
  rw[e1,e2]
  exact Heap.get?_push_size _ rfl
 ·have e:b=(s.heap.push { cls:=.type "range",data:=.fields #[.int lo t,.int hi u,.int 1 v] }).objs.size:=by simpa using hb
  subst e
  exact I1.acE (Nat.le_refl _) (I1.hok.fresh (Nat.le_refl _))
inductive aps (R:(It->Hp->Prop))(vs:List V)(H1:Hp):Prop
 | mk (j:Int) (gj:vs=[.int j]) (gk:-(2 ^ 62) <= j/\j < 2 ^ 62/\R (Itr 0 j.toNat) H1):aps R vs H1
def awo (ta:TA):TI:=fun σ H R=>ta σ H fun vs H1=>aps R vs H1
inductive apt (R:(It->Hp->Prop))(vs:List V)(H1:Hp):Prop
 | mk (i j:Int) (gj:vs=[.int i,.int j]) (gk:(-(2 ^ 62) <= i/\i < 2 ^ 62/\-(2 ^ 62) <= j/\j < 2 ^ 62)) (jc:R (Itr i (j - i).toNat) H1):apt R vs H1
def awp (ta:TA):TI:=fun σ H R=>ta σ H fun vs H1=>apt R vs H1
theorem tQ {a:Expr}{ta:TA}{p pos:Pos}(hg:Gl X "range")(hm:X.mg "range" = none)(ha:PA X [a] ta)(hs:starEach [a] X.env=[(false,eval a X.env)]:=by rfl):PI X tg (.Call (.Name "range" p) [a] [] pos) (awo ta):=by
 intro pins s σ H R I h
 refine Call_ (v7 I hg hm boot_range (PyProof.Rows.callWith_type1 (eX (ha pos pins s σ H _ I h) fun us s1 ⟨vs,H1,I1,r1,q1⟩=>?_) hs rfl))
 obtain⟨j,e,q1,q2,q⟩:=q1
 subst e
 cases r1 with
 | cons r rr =>
  cases rr
  obtain⟨t,rfl⟩:=r
  exact call_range_1 (ahF I1 (by omega) (by omega) q1 q2 (by simpa using q))
theorem amW {a b:Expr}{ta:TA}{p pos:Pos}(hg:Gl X "range")(hm:X.mg "range" = none)(ha:PA X [a,b] ta)(hs:starEach [a,b] X.env=[(false,eval a X.env),(false,eval b X.env)]:=by rfl)(hs2:starEach [b] X.env=[(false,eval b X.env)]:=by rfl) :
  PI X tg (.Call (.Name "range" p) [a,b] [] pos) (awp ta):=by
 intro pins s σ H R I h
 refine Call_ (v7 I hg hm boot_range (PyProof.Rows.callWith_type1 (eX (ha pos pins s σ H _ I h) fun us s1 ⟨vs,H1,I1,r1,q1⟩=>?_) (by rw[hs,hs2]) (by rw[hs2];rfl)))
 obtain⟨i,j,e,⟨q1,q2,q3,q4⟩,q⟩:=q1
 subst e
 cases r1 with
 | cons r rr =>
  cases rr with
  | cons r' rr =>
   cases rr
   obtain⟨t,rfl⟩:=r
   obtain⟨t',rfl⟩:=r'
   exact call_range_2 (ahF I1 q1 q2 q3 q4 q)
def ayy (wi:TI)(g:TG)(tb:TS):TS:=fun D σ H=>wi σ H fun J H1=>∃ W:Nat->Nat->St->Hp->Prop,(∃ m,W 0 m σ H1)/\∀ i m σ H,W i m σ H ->
 (J.stop i H/\D.nx σ H)∨(J.go i H/\∃ N:St->Hp->Prop,(∀ σ' H',N σ' H'->∃ m',m' < m/\W (i+1) m' σ' H')/\∀ x H',J.yld i H x H'->g x σ H' fun σ2 H2=>tb { D with nx:=N,ct:=N,bk:=D.nx } σ2 H2)
def Zr (fp:List Addr)(h:Heap):List (Addr×Obj):=fp.filterMap fun b=>(h.get? b).map fun o=>(b,o)
theorem Eo {fp:List Addr}{h:Heap}{b:Addr}{o:Obj}(hb:b∈fp)(e:h.get? b=some o):(b,o)∈Zr fp h:=List.mem_filterMap.mpr ⟨b,hb,by rw[e];rfl⟩
theorem amX {fp:List Addr}{h:Heap}{p:Addr×Obj}(hp:p∈Zr fp h):p.1∈fp/\h.get? p.1=some p.2:=by
 obtain⟨b,hb,e⟩:=List.mem_filterMap.mp hp
 cases q:h.get? b with
 | none=>rw[q] at e;cases e
 | some o =>
  rw[q] at e
  have e':(b,o)=p:=Option.some.inj e
  subst e'
  exact⟨hb,q⟩
theorem Inv.pinned {pins:List (Addr×Obj)}{σ:St}{H:Hp}{s:Shared}{fp:List Addr}(I:Inv X pins σ H s)(hf:∀ b∈fp,tO X pins H b)(ho:∀ b∈fp,∃ o,s.heap.get? b=some o/\∀ v,o.data≠.cell v):Inv X (pins++Zr fp s.heap) σ H s :=
 I.alW fun p hp=>(List.mem_append.mp hp).elim (fun z=>I.pin p (List.mem_append_right _ z)) fun z=>by
  obtain⟨hb,e⟩:=amX z
  obtain⟨f0,f1,f2,_⟩:=hf p.1 hb
  obtain⟨o,e',d⟩:=ho p.1 hb
  rw[e] at e';cases e'
  exact⟨e,f0,f1,f2,d⟩
theorem Inv.HF {pins pl:List (Addr×Obj)}{σ:St}{H:Hp}{s:Shared}(I:Inv X (pins++pl) σ H s):Inv X pins σ H s:=I.alW fun p hp=>I.pin p (List.mem_append_right _ (List.mem_append_left _ hp))
theorem jk {iter:Expr}{body:List Stmt}{wi:TI}{g:TG}{tb:TS}{pos:Pos}(hp:PassesOwn (model X.prog X.w) X.A X.env X.xe)(hc:X.calm=true)(hi:PI X tg iter wi)(hg:PG X tg g)(hb:PSs X body tb)
  (hs:∀ x,foldedSetIterable iter X.env x=pure x:=by intro _;rfl):PS X (.For tg iter body [] pos) (ayy wi g tb):=by
 intro pins s σ H D I h
 refine wpAny_For (eX (hi pins s σ H _ I h) fun v s1 h1=>eX h1 fun itv s2 h2=>?_) hs
 obtain⟨it,fp,tn,J,H2,e,I2,T,st2,f2,W,⟨m0,w0⟩,turn⟩:=h2
 subst e
 have stat:∀ {H':Hp},(∀ b∈fp,H' b=none)->∀ b∈fp,tO X pins H' b:=fun hn b hb=>⟨hn b hb,(f2 b hb).2⟩
 refine codeAny_forLoop_any (fun n s'=>∃ i σ' H',Inv X pins σ' H' s'/\tn i s'.heap/\(∀ b∈fp,H' b=none)/\W i n σ' H') ?_ m0 ⟨0,σ,H2,I2,st2,fun b hb=>(f2 b hb).1,w0⟩
 rintro n s3 ⟨i,σ3,H3,I3,st3,fr3,w3⟩
 rcases turn i n σ3 H3 w3 with ⟨stop,qn⟩ | ⟨go,N,hN,step⟩
 ·refine wpAny_passesOwn hp (eX (T.done X rfl rfl rfl hc i pins s3 σ3 H3 X.xe I3 (stat fr3) st3 stop) fun r s4 ⟨hr,I4⟩=>?_)
  subst hr
  exact wpAny_execs_nil ⟨σ3,H3,I4,qn⟩
 ·refine wpAny_passesOwn hp (eX (T.item X rfl rfl rfl hc i pins s3 σ3 H3 X.xe I3 (stat fr3) st3 go) fun r s4 ⟨u,hr,h4⟩=>?_)
  subst hr
  refine wpAny_passesOwn hp (eX h4 fun _ s5 ⟨x,H5,I5,r5,y5,st5,fr5⟩=>?_)
  have I5':=I5.pinned (stat fr5) (T.obj _ _ st5)
  refine wpAny_passesOwn hp (eX (hg _ s5 σ3 H5 x u _ I5' r5 (step x H5 y5)) fun _ s6 ⟨σ6,H6,I6,q6⟩=>?_)
  refine wpAny_passesOwn hp (eX (hb _ s6 σ6 H6 _ I6 q6) fun f s7 q7=>?_)
  have again:∀ {σ7:St} {H7:Hp},Inv X (pins++Zr fp s5.heap) σ7 H7 s7->N σ7 H7->∃ m,m < n/\∃ i σ' H',Inv X pins σ' H' s7/\tn i s7.heap/\(∀ b∈fp,H' b=none)/\W i m σ' H':=fun {σ7 H7} I7 n7=>by
   obtain⟨m',hm,w7⟩:=hN σ7 H7 n7
   refine⟨m',hm,i+1,σ7,H7,I7.HF,T.keep _ _ _ st5 fun b hb o e=>(I7.pin (b,o) (List.mem_append_right _ (List.mem_append_right _ (Eo hb e)))).1,fun b hb=>?_,w7⟩
   obtain⟨o,e,d⟩:=T.obj _ _ st5 b hb
   exact (I7.pin (b,o) (List.mem_append_right _ (List.mem_append_right _ (Eo hb e)))).2.1
  cases f with
  | next=>obtain⟨σ7,H7,I7,n7⟩:=q7;exact again I7 n7
  | cont=>obtain⟨σ7,H7,I7,n7⟩:=q7;exact again I7 n7
  | brk=>obtain⟨σ7,H7,I7,q7⟩:=q7;exact⟨σ7,H7,I7.HF,q7⟩
  | ret v=>obtain⟨x7,σ7,H7,I7,r7,q7⟩:=q7;exact⟨x7,σ7,H7,I7.HF,r7,q7⟩
end
theorem yz {K:Frag}{a:Addr}{xs:List V}{g:TG}{tb:TS}{D:Ends}{σ:St}{H:Hp}(Pv:Nat->St->Hp->Prop)(h0:Pv 0 σ H)(hl:∀ i σ H,i <= xs.length->Pv i σ H->bh K H a xs)
  (hs:∀ i x σ H,xs[i]? = some x->Pv i σ H->g x σ H fun σ2 H2=>tb { D with nx:=Pv (i+1),ct:=Pv (i+1),bk:=D.nx } σ2 H2) (hd:∀ σ H,Pv xs.length σ H->D.nx σ H) :
  ∃ W:Nat->Nat->St->Hp->Prop,(∃ m,W 0 m σ H)/\∀ i m σ H,W i m σ H ->
   ((Itl K a).stop i H/\D.nx σ H)∨((Itl K a).go i H/\∃ N:St->Hp->Prop,(∀ σ' H',N σ' H'->∃ m',m' < m/\W (i+1) m' σ' H')/\∀ x H',(Itl K a).yld i H x H'->g x σ H' fun σ2 H2=>tb { D with nx:=N,ct:=N,bk:=D.nx } σ2 H2):=by
 refine⟨fun i m σ H=>m=xs.length - i/\i <= xs.length/\Pv i σ H,⟨xs.length,by simp,Nat.zero_le _,h0⟩,?_⟩
 rintro i m σ H ⟨rfl,hi,p⟩
 have q:=hl i σ H hi p
 by_cases hlt:i < xs.length
 ·refine .inr ⟨⟨xs,xs[i],q,by simp[hlt]⟩,Pv (i+1),fun σ' H' p'=>⟨xs.length - (i+1),by omega,rfl,hlt,p'⟩,fun x H' y=>?_⟩
  obtain⟨e,y⟩:=y
  subst e
  exact hs i x σ _ (y xs q) p
 ·have e:i=xs.length:=by omega
  subst e
  exact .inl ⟨⟨xs,q,Nat.le_refl _⟩,hd σ H p⟩
theorem ye {lo:Int}{n:Nat}{g:TG}{tb:TS}{D:Ends}{σ:St}{H:Hp}(Pv:Nat->St->Hp->Prop)(h0:Pv 0 σ H)
  (hs:∀ i σ H,i < n->Pv i σ H->g (.int (lo+i)) σ H fun σ2 H2=>tb { D with nx:=Pv (i+1),ct:=Pv (i+1),bk:=D.nx } σ2 H2) (hd:∀ σ H,Pv n σ H->D.nx σ H) :
  ∃ W:Nat->Nat->St->Hp->Prop,(∃ m,W 0 m σ H)/\∀ i m σ H,W i m σ H ->
   ((Itr lo n).stop i H/\D.nx σ H)∨((Itr lo n).go i H/\∃ N:St->Hp->Prop,(∀ σ' H',N σ' H'->∃ m',m' < m/\W (i+1) m' σ' H')/\∀ x H',(Itr lo n).yld i H x H'->g x σ H' fun σ2 H2=>tb { D with nx:=N,ct:=N,bk:=D.nx } σ2 H2):=by
 refine⟨fun i m σ H=>m=n - i/\i <= n/\Pv i σ H,⟨n,by simp,Nat.zero_le _,h0⟩,?_⟩
 rintro i m σ H ⟨rfl,hi,p⟩
 by_cases hlt:i < n
 ·refine .inr ⟨hlt,Pv (i+1),fun σ' H' p'=>⟨n - (i+1),by omega,rfl,hlt,p'⟩,fun x H' y=>?_⟩
  obtain⟨e,y⟩:=y
  subst e y
  exact hs i σ _ hlt p
 ·have e:i=n:=by omega
  subst e
  exact .inl ⟨Nat.le_refl _,hd σ H p⟩
end L2
namespace L2
open PySem PySem.Spec PyProof.Rows
abbrev R2:=V->V->Hp->VK->Prop
def En (X:Cx)(f:Value->Value->Sem Value)(r:R2):Prop :=
 ∀ (pins:List (Addr×Obj)) (s:Shared) (σ:St) (H:Hp) (x y:V) (v u:Value) (Q:VK),Inv X pins σ H s->RelV x v->RelV y u->r x y H Q ->
  wpAny (model X.prog X.w) X.A (f v u) (EP X pins σ Q) X.xe s
def UnR (X:Cx)(f:Value->Sem Value)(r:V->Hp->VK->Prop):Prop :=
 ∀ (pins:List (Addr×Obj)) (s:Shared) (σ:St) (H:Hp) (x:V) (v:Value) (Q:VK),Inv X pins σ H s->RelV x v->r x H Q ->
  wpAny (model X.prog X.w) X.A (f v) (EP X pins σ Q) X.xe s
def oh (X:Cx)(f:Value)(r:List V->Hp->VK->Prop):Prop :=
 ∀ (pins:List (Addr×Obj)) (s:Shared) (σ:St) (H:Hp) (xs:List V) (us:List Value) (Q:VK),Inv X pins σ H s->Vals xs us->r xs H Q ->
  wpAny (model X.prog X.w) X.A (call f us) (EP X pins σ Q) X.xe s
def tOp (r:R2)(ta tb:TE):TE:=fun σ H Q=>ta σ H fun x H1=>tb σ H1 fun y H2=>r x y H2 Q
def tUn (r:V->Hp->VK->Prop)(ta:TE):TE:=fun σ H Q=>ta σ H fun x H1=>r x H1 Q
inductive rII (C:Int->Int->Prop)(g:Int->Int->V)(x:V)(y:V)(H:Hp)(Q:VK):Prop
 | mk (i:_) (j:_) (gj:x=.int i) (gk:y=.int j) (jc:C i j/\Q (g i j) H):rII C g x y H Q
def rI (C:Int->Int->Prop)(g:Int->Int->V):R2:=fun x y H Q=>rII C g x y H Q
inductive awq (g:Int->Int->V)(x:V)(y:V)(H:Hp)(Q:VK):Prop
 | mk (i:_) (j:_) (gj:x=.int i) (gk:y=.int j) (jc:Q (g i j) H):awq g x y H Q
def rI0 (g:Int->Int->V):R2:=fun x y H Q=>awq g x y H Q
def rU (g:Int->V):V->Hp->VK->Prop:=fun x H Q=>∃ i,x=.int i/\Q (g i) H
section
variable {X:Cx} {a b c:Expr} {ta tb tc:TE} {pos:Pos}
theorem auA (ha:PE X a ta)(hb:PE X b tb){pins:List (Addr×Obj)}{s:Shared}{σ:St}{H:Hp}{R:V->V->Hp->Prop}(I:Inv X pins σ H s)
  (h:ta σ H fun x H1=>tb σ H1 fun y H2=>R x y H2) {Q:Value->Shared->Prop} {f:Value->Value->Sem Value}
  (hf:∀ v u s2 x y H2,Inv X pins σ H2 s2->RelV x v->RelV y u->R x y H2->wpAny (model X.prog X.w) X.A (f v u) Q X.xe s2) :
  wpAny (model X.prog X.w) X.A (eval a X.env) (fun v s₁=>wpAny (model X.prog X.w) X.A (eval b X.env) (fun u s₂=>wpAny (model X.prog X.w) X.A (f v u) Q X.xe s₂) X.xe s₁) X.xe s:=by
 refine eX (ha pins s σ H _ I h) fun v s1 ⟨x,H1,I1,r1,q1⟩=>?_
 refine eX (hb pins s1 σ H1 _ I1 q1) fun u s2 ⟨y,H2,I2,r2,q2⟩=>?_
 exact hf v u s2 x y H2 I2 r1 r2 q2
theorem aV {op:Operator}{r:R2}(ho:En X (binaryOp op) r)(ha:PE X a ta)(hb:PE X b tb):PE X (.BinOp a op b pos) (tOp r ta tb):=by
 intro pins s σ H Q I h
 exact wpAny_BinOp (auA ha hb I h fun v u s2 x y H2 I2 rx ry q=>ho pins s2 σ H2 x y v u Q I2 rx ry q)
theorem Xx {op:UnaryOp}{r:V->Hp->VK->Prop}(ho:UnR X (unaryOp op) r)(ha:PE X a ta):PE X (.UnaryOp op a pos) (tUn r ta):=by
 intro pins s σ H Q I h
 exact UnaryOp_ (eX (ha pins s σ H _ I h) fun v s1 ⟨x,H1,I1,r1,q1⟩=>ho pins s1 σ H1 x v Q I1 r1 q1)
theorem opI {f:Value->Value->Sem Value}{C:Int->Int->Prop}{g:Int->Int->Int}
  (rule:∀ (i j:Int) (t u:Tok) (s:Shared) (Q:Value->Shared->Prop) (E:Value->Shared->Prop),C i j->Q (.int (g i j) s.toks) { s with toks:=s.toks+1 }->wpAny (model X.prog X.w) X.A (f (.int i t) (.int j u)) Q E s) :
  En X f (rI C fun i j=>.int (g i j)):=by
 intro pins s σ H x y v u Q I rx ry h
 obtain⟨i,j,rfl,rfl,hc,q⟩:=h
 obtain⟨t,rfl⟩:=rx
 obtain⟨t',rfl⟩:=ry
 exact rule i j t t' s _ _ hc ⟨.int (g i j),H,I.tok _,⟨_,rfl⟩,q⟩
theorem awr {f:Value->Value->Sem Value}{g:Int->Int->Int}
  (rule:∀ (i j:Int) (t u:Tok) (s:Shared) (Q:Value->Shared->Prop) (E:Value->Shared->Prop),Q (.int (g i j) s.toks) { s with toks:=s.toks+1 }->wpAny (model X.prog X.w) X.A (f (.int i t) (.int j u)) Q E s) :
  En X f (rI0 fun i j=>.int (g i j)):=by
 intro pins s σ H x y v u Q I rx ry h
 obtain⟨i,j,rfl,rfl,q⟩:=h
 obtain⟨t,rfl⟩:=rx
 obtain⟨t',rfl⟩:=ry
 exact rule i j t t' s _ _ ⟨.int (g i j),H,I.tok _,⟨_,rfl⟩,q⟩
theorem asa {f:Value->Value->Sem Value}{g:Int->Int->Bool}
  (rule:∀ (i j:Int) (t u:Tok) (s:Shared) (Q:Value->Shared->Prop) (E:Value->Shared->Prop),Q (.bool (g i j)) s->wpAny (model X.prog X.w) X.A (f (.int i t) (.int j u)) Q E s) :
  En X f (rI0 fun i j=>.bl (g i j)):=by
 intro pins s σ H x y v u Q I rx ry h
 obtain⟨i,j,rfl,rfl,q⟩:=h
 obtain⟨t,rfl⟩:=rx
 obtain⟨t',rfl⟩:=ry
 exact rule i j t t' s _ _ ⟨.bl (g i j),H,I,rfl,q⟩
def ayC (i j:Int):Prop:=0 < j/\j < 1073741824
def ayD (i j:Int):Prop:=0 <= j/\j <= 1000000/\i.natAbs < 2 ^ 64
def auB (i j:Int):Prop:=(-(2 ^ 64) < i/\i < 2 ^ 64)∨(-(2 ^ 64) < j/\j < 2 ^ 64)
theorem auB.ok {i j:Int}(h:auB i j):IntMulOk i j:=by
 rcases h with ⟨h1,h2⟩ | ⟨h1,h2⟩
 ·exact .of_left (intBits_le_64 h1 h2)
 ·exact .of_right (intBits_le_64 h1 h2)
theorem bN:En X (binaryOp .Add) (rI0 fun i j=>.int (i+j)):=awr fun _ _ _ _ _ _ _ q=>add_int q
theorem jE:En X (binaryOp .Sub) (rI0 fun i j=>.int (i - j)):=awr fun _ _ _ _ _ _ _ q=>sub_int q
theorem v8:En X (binaryOp .Mult) (rI auB fun i j=>.int (i * j)):=opI fun _ _ _ _ _ _ _ hc q=>mul_int q hc.ok
theorem xH:En X (binaryOp .FloorDiv) (rI ayC fun i j=>.int (i / j)):=opI fun i j _ _ _ _ _ hc q=>by
 have h1:(0:Int) < j:=hc.1
 have h2:j < 1073741824:=hc.2
 exact floordiv_int (by omega) (by rw[Int.fdiv_eq_ediv_of_nonneg i (by omega)];exact q) (.inl (PyProof.noPylong_small (by omega)))
theorem eF:En X (binaryOp .Mod) (rI (fun _ j=>0 < j) fun i j=>.int (i % j)):=opI fun i j _ _ _ _ _ hc q=>by
 have h1:(0:Int) < j:=hc
 exact mod_int' (by omega) (by rw[Int.fmod_eq_emod_of_nonneg i (by omega)];exact q)
theorem apu:En X (binaryOp .Pow) (rI ayD fun i j=>.int (i ^ j.toNat)):=opI fun _ _ _ _ _ _ _ hc q=>pow_int_small hc.1 hc.2.1 hc.2.2 q
theorem unI {f:Value->Sem Value}{g:Int->Int}
  (rule:∀ (i:Int) (t:Tok) (s:Shared) (Q:Value->Shared->Prop) (E:Value->Shared->Prop),Q (.int (g i) s.toks) { s with toks:=s.toks+1 }->wpAny (model X.prog X.w) X.A (f (.int i t)) Q E s) :
  UnR X f (rU fun i=>.int (g i)):=by
 intro pins s σ H x v Q I rx h
 obtain⟨i,rfl,q⟩:=h
 obtain⟨t,rfl⟩:=rx
 exact rule i t s _ _ ⟨.int (g i),H,I.tok _,⟨_,rfl⟩,q⟩
theorem HH:UnR X (unaryOp .USub) (rU fun i=>.int (-i)):=unI fun _ _ _ _ _ q=>neg_int q
end
def aws:V->V->Bool
 | .non,.non=>true | .non,.int _=>true | .int _,.non=>true | .non,.bl _=>true | .bl _,.non=>true | .non,.str _=>true | .str _,.non=>true
 | .int _,.int _=>true | .bl _,.bl _=>true | .str _,.str _=>true | .byt _,.byt _=>true
 | .int _,.str _=>true | .str _,.int _=>true | .bl _,.str _=>true | .str _,.bl _=>true
 | _,_=>false
def rEq:R2:=fun x y H Q=>aws x y=true/\Q (.bl (decide (x=y))) H
def rNe:R2:=fun x y H Q=>aws x y=true/\Q (.bl (!decide (x=y))) H
theorem alZ {i j:Int}:decide (V.int i=V.int j)=(i == j):=by
 rw[Bool.eq_iff_iff]
 simp
theorem apv {i j:Bool}:decide (V.bl i=V.bl j)=(i == j):=by
 rw[Bool.eq_iff_iff]
 simp
theorem al0 {i j:Str}:decide (V.str i=V.str j)=(i == j):=by
 rw[Bool.eq_iff_iff]
 simp
theorem al1 {i j:Array UInt8}:decide (V.byt i=V.byt j)=(i.toList == j.toList):=by
 rw[Bool.eq_iff_iff]
 cases i
 cases j
 simp
section
variable {X:Cx} {a b c:Expr} {ta tb tc:TE} {pos:Pos}
theorem cQ {pins:List (Addr×Obj)}{σ:St}{H:Hp}{s:Shared}{Q:VK}{k k':Bool}(I:Inv X pins σ H s)(q:Q (.bl k) H)(e:k=k'):EP X pins σ Q (.bool k') s:=by
 subst e
 exact⟨.bl k,H,I,rfl,q⟩
theorem cP:En X (compareOp .Eq) rEq:=by
 intro pins s σ H x y v u Q I rx ry h
 obtain⟨hs,q⟩:=h
 cases x with
 | non =>
  cases rx
  cases y with
  | non=>cases ry;exact PySem.EqNone.eq_none_none (cQ I q (by simp))
  | bl j=>cases ry;exact PySem.EqNone.eq_none_bool (cQ I q (by simp))
  | int j=>obtain⟨t',rfl⟩:=ry;exact PySem.EqNone.eq_none_int (cQ I q (by simp))
  | str j=>obtain⟨t',rfl⟩:=ry;exact PySem.EqNone.eq_none_str (cQ I q (by simp))
  | _=>exact absurd (show false=true from hs) Bool.false_ne_true
 | bl i =>
  cases rx
  cases y with
  | non=>cases ry;exact PySem.EqNone.eq_bool_none (cQ I q (by simp))
  | bl j=>cases ry;exact eq_bool (cQ I q apv)
  | str j=>obtain⟨t',rfl⟩:=ry;exact PySem.EqMixed.eq_bool_str (cQ I q (by simp))
  | _=>exact absurd (show false=true from hs) Bool.false_ne_true
 | int i =>
  obtain⟨t,rfl⟩:=rx
  cases y with
  | non=>cases ry;exact PySem.EqNone.eq_int_none (cQ I q (by simp))
  | int j=>obtain⟨t',rfl⟩:=ry;exact eq_int (cQ I q alZ)
  | str j=>obtain⟨t',rfl⟩:=ry;exact PySem.EqMixed.eq_int_str (cQ I q (by simp))
  | _=>exact absurd (show false=true from hs) Bool.false_ne_true
 | str i =>
  obtain⟨t,rfl⟩:=rx
  cases y with
  | non=>cases ry;exact PySem.EqNone.eq_str_none (cQ I q (by simp))
  | bl j=>cases ry;exact PySem.EqMixed.eq_str_bool (cQ I q (by simp))
  | int j=>obtain⟨t',rfl⟩:=ry;exact PySem.EqMixed.eq_str_int (cQ I q (by simp))
  | str j=>obtain⟨t',rfl⟩:=ry;exact eq_str (cQ I q al0)
  | _=>exact absurd (show false=true from hs) Bool.false_ne_true
 | byt i =>
  obtain⟨t,rfl⟩:=rx
  cases y with
  | byt j=>obtain⟨t',rfl⟩:=ry;exact PySem.W.eq_bytes (cQ I q al1)
  | _=>exact absurd (show false=true from hs) Bool.false_ne_true
 | _=>cases y <;> exact absurd (show false=true from hs) Bool.false_ne_true
theorem Df:En X (compareOp .NotEq) rNe:=by
 intro pins s σ H x y v u Q I rx ry h
 obtain⟨hs,q⟩:=h
 cases x with
 | non =>
  cases rx
  cases y with
  | non=>cases ry;exact PySem.EqNone.ne_none_none (cQ I q (by simp))
  | bl j=>cases ry;exact PySem.EqNone.ne_none_bool (cQ I q (by simp))
  | int j=>obtain⟨t',rfl⟩:=ry;exact PySem.EqNone.ne_none_int (cQ I q (by simp))
  | str j=>obtain⟨t',rfl⟩:=ry;exact PySem.EqNone.ne_none_str (cQ I q (by simp))
  | _=>exact absurd (show false=true from hs) Bool.false_ne_true
 | bl i =>
  cases rx
  cases y with
  | non=>cases ry;exact PySem.EqNone.ne_bool_none (cQ I q (by simp))
  | bl j=>cases ry;exact ne_bool (cQ I q (congrArg not apv))
  | str j=>obtain⟨t',rfl⟩:=ry;exact PySem.EqMixed.ne_bool_str (cQ I q (by simp))
  | _=>exact absurd (show false=true from hs) Bool.false_ne_true
 | int i =>
  obtain⟨t,rfl⟩:=rx
  cases y with
  | non=>cases ry;exact PySem.EqNone.ne_int_none (cQ I q (by simp))
  | int j=>obtain⟨t',rfl⟩:=ry;exact ne_int (cQ I q (congrArg not alZ))
  | str j=>obtain⟨t',rfl⟩:=ry;exact PySem.EqMixed.ne_int_str (cQ I q (by simp))
  | _=>exact absurd (show false=true from hs) Bool.false_ne_true
 | str i =>
  obtain⟨t,rfl⟩:=rx
  cases y with
  | non=>cases ry;exact PySem.EqNone.ne_str_none (cQ I q (by simp))
  | bl j=>cases ry;exact PySem.EqMixed.ne_str_bool (cQ I q (by simp))
  | int j=>obtain⟨t',rfl⟩:=ry;exact PySem.EqMixed.ne_str_int (cQ I q (by simp))
  | str j=>obtain⟨t',rfl⟩:=ry;exact ne_str (cQ I q (congrArg not al0))
  | _=>exact absurd (show false=true from hs) Bool.false_ne_true
 | byt i =>
  obtain⟨t,rfl⟩:=rx
  cases y with
  | byt j=>obtain⟨t',rfl⟩:=ry;exact PySem.W.ne_bytes (cQ I q (congrArg not al1))
  | _=>exact absurd (show false=true from hs) Bool.false_ne_true
 | _=>cases y <;> exact absurd (show false=true from hs) Bool.false_ne_true
theorem Dg:En X (compareOp .Lt) (rI0 fun i j=>.bl (decide (i < j))):=asa fun _ _ _ _ _ _ _ q=>lt_int q
theorem HJ:En X (compareOp .LtE) (rI0 fun i j=>.bl (decide (i <= j))):=asa fun _ _ _ _ _ _ _ q=>le_int q
theorem ahG:En X (compareOp .Gt) (rI0 fun i j=>.bl (decide (j < i))):=asa fun _ _ _ _ _ _ _ q=>gt_int q
theorem atv:En X (compareOp .GtE) (rI0 fun i j=>.bl (decide (j <= i))):=asa fun _ _ _ _ _ _ _ q=>ge_int q
theorem gq:En X (compareOp .In) (fun x y H Q=>∃ i j,x=.str i/\y=.str j/\Q (.bl (!(Builtin.Str.occurrences j i 0 j.length 1).isEmpty)) H):=by
 intro pins s σ H x y v u Q I rx ry h
 obtain⟨i,j,rfl,rfl,q⟩:=h
 obtain⟨t,rfl⟩:=rx
 obtain⟨t',rfl⟩:=ry
 exact in_str (cQ I q rfl)
theorem aeu:En X (compareOp .Is) (fun x y H Q=>y=.non/\Q (.bl (decide (x=.non))) H):=by
 intro pins s σ H x y v u Q I rx ry h
 obtain⟨rfl,q⟩:=h
 cases ry
 refine is_none_gen (cQ I q ?_)
 cases x <;> first
  | (cases rx;rfl)
  | (obtain⟨t,rfl⟩:=rx;rfl)
theorem al2:En X (compareOp .IsNot) (fun x y H Q=>y=.non/\Q (.bl (!decide (x=.non))) H):=by
 intro pins s σ H x y v u Q I rx ry h
 obtain⟨rfl,q⟩:=h
 cases ry
 refine isnot_none_gen (cQ I q ?_)
 cases x <;> first
  | (cases rx;rfl)
  | (obtain⟨t,rfl⟩:=rx;rfl)
theorem En.or {f:Value->Value->Sem Value}{r r':R2}(h:En X f r)(h':En X f r'):En X f (fun x y H Q=>r x y H Q∨r' x y H Q):=by
 intro pins s σ H x y v u Q I rx ry q
 rcases q with q | q
 ·exact h pins s σ H x y v u Q I rx ry q
 ·exact h' pins s σ H x y v u Q I rx ry q
theorem aQ (b:Expr){op:CmpOp}(h:op≠.In:=by decide)(h2:op≠.NotIn:=by decide):behindInMarks op b=false:=by
 have e1:(op == CmpOp.In)=false:=by cases op <;> first | rfl | exact absurd rfl h
 have e2:(op == CmpOp.NotIn)=false:=by cases op <;> first | rfl | exact absurd rfl h2
 cases b <;> simp[behindInMarks,e1,e2]
theorem dh {op:CmpOp}{r:R2}(ho:En X (compareOp op) r)(ha:PE X a ta)(hb:PE X b tb)(hm:behindInMarks op b=false):PE X (.Compare a [op] [b] pos) (tOp r ta tb):=by
 intro pins s σ H Q I h
 exact wpAny_Compare1 (auA ha hb I h fun v u s2 x y H2 I2 rx ry q=>ho pins s2 σ H2 x y v u Q I2 rx ry q) hm
inductive apw (Q:(Bool->Hp->Prop))(x:V)(H':Hp):Prop
 | mk (k:_) (gj:x=.bl k) (gk:Q k H'):apw Q x H'
def atw (t:TE):TT:=fun σ H Q=>t σ H fun x H'=>apw Q x H'
theorem aJ {op:CmpOp}{r:R2}(ho:En X (compareOp op) r)(ha:PE X a ta)(hb:PE X b tb)(hm:behindInMarks op b=false):PT X (.Compare a [op] [b] pos) (atw (tOp r ta tb)):=by
 intro pins s σ H Q I h
 refine wpAny_isTrue_Compare1 (eX (ha pins s σ H _ I h) fun v s1 ⟨x,H1,I1,r1,q1⟩=>eX (hb pins s1 σ H1 _ I1 q1) fun u s2 ⟨y,H2,I2,r2,q2⟩ =>
  eX (ho pins s2 σ H2 x y v u _ I2 r1 r2 q2) fun c s3 ⟨z,H3,I3,r3,k,e,q3⟩=>?_) hm
 subst e
 cases r3
 exact wpAny_truthy_bool ⟨H3,I3,q3⟩
def apx (r r':R2)(ta tb tc:TE):TE:=fun σ H Q=>ta σ H fun x H1=>tb σ H1 fun y H2=>r x y H2 fun z H3=>∃ k,z=.bl k /\
 (if k=true then tc σ H3 fun w' H4=>r' y w' H4 Q else Q (.bl false) H3)
theorem ahH {op op':CmpOp}{r r':R2}(ho:En X (compareOp op) r)(ho':En X (compareOp op') r')(ha:PE X a ta)(hb:PE X b tb)(hc:PE X c tc)
  (hm:lastMarks [op,op'] [b,c]=false:=by with_unfolding_all rfl):PE X (.Compare a [op,op'] [b,c] pos) (apx r r' ta tb tc):=by
 intro pins s σ H Q I h
 refine Compare_chain (eX (ha pins s σ H _ I h) fun v s1 ⟨x,H1,I1,r1,q1⟩=>chain_link (eX (hb pins s1 σ H1 _ I1 q1) fun u s2 ⟨y,H2,I2,r2,q2⟩ =>
  eX (ho pins s2 σ H2 x y v u _ I2 r1 r2 q2) fun d s3 ⟨z,H3,I3,r3,k,e,q3⟩=>?_)) hm
 subst e
 cases r3
 refine wpAny_truthy_bool ?_
 cases k with
 | false=>exact ite_ff ⟨.bl false,H3,I3,rfl,q3⟩
 | true=>exact ite_tt (chain_last (eX (hc pins s3 σ H3 _ I3 q3) fun w' s4 ⟨z',H4,I4,r4,q4⟩=>ho' pins s4 σ H4 y z' u w' Q I4 r2 r4 q4))
theorem QD {op op':CmpOp}{r r':R2}(ho:En X (compareOp op) r)(ho':En X (compareOp op') r')(ha:PE X a ta)(hb:PE X b tb)(hc:PE X c tc)
  (hm:lastMarks [op,op'] [b,c]=false:=by with_unfolding_all rfl):PT X (.Compare a [op,op'] [b,c] pos) (atw (apx r r' ta tb tc)):=by
 intro pins s σ H Q I h
 refine isTrue_chain (eX (ha pins s σ H _ I h) fun v s1 ⟨x,H1,I1,r1,q1⟩=>test_link (eX (hb pins s1 σ H1 _ I1 q1) fun u s2 ⟨y,H2,I2,r2,q2⟩ =>
  eX (ho pins s2 σ H2 x y v u _ I2 r1 r2 q2) fun d s3 ⟨z,H3,I3,r3,k,e,q3⟩=>?_)) hm
 subst e
 cases r3
 refine wpAny_truthy_bool ?_
 cases k with
 | false =>
  obtain⟨k',e',q'⟩:=q3
  cases e'
  exact ite_ff ⟨H3,I3,q'⟩
 | true =>
  refine ite_tt (test_last (eX (hc pins s3 σ H3 _ I3 q3) fun w' s4 ⟨z',H4,I4,r4,q4⟩=>eX (ho' pins s4 σ H4 y z' u w' _ I4 r2 r4 q4) fun d' s5 ⟨z2,H5,I5,r5,k2,e2,q5⟩=>?_))
  subst e2
  cases r5
  exact wpAny_truthy_bool ⟨H5,I5,q5⟩
theorem Uh:(sizeLine:Nat) < 2 ^ 63:=by rw[sizeLine_eq];decide
theorem aR:En X (binaryOp .Add) (fun x y H Q=>∃ i j,x=.str i/\y=.str j/\i.length+j.length <= sizeLine/\Q (.str (i++j)) H):=by
 intro pins s σ H x y v u Q I rx ry h
 obtain⟨i,j,rfl,rfl,hz,q⟩:=h
 obtain⟨t,rfl⟩:=rx
 obtain⟨t',rfl⟩:=ry
 exact add_str (fun t' tk=>⟨.str (i++j),H,I.tok _,⟨_,rfl⟩,q⟩) hz
theorem vals1 {x:V}{us:List Value}(r:Vals [x] us):∃ u,us=[u]/\RelV x u:=by
 cases r with
 | cons r1 r2=>cases r2;exact⟨_,rfl,r1⟩
theorem vals2 {x y:V}{us:List Value}(r:Vals [x,y] us):∃ u w',us=[u,w']/\RelV x u/\RelV y w':=by
 cases r with
 | cons r1 r2 =>
  cases r2 with
  | cons r3 r4=>cases r4;exact⟨_,_,rfl,r1,r3⟩
theorem amY (hc:X.calm=true):oh X (.builtin "max") (fun xs H Q=>∃ i j,xs=[.int i,.int j]/\Q (.int (if j > i then j else i)) H):=by
 intro pins s σ H xs us Q I r h
 obtain⟨i,j,rfl,q⟩:=h
 obtain⟨u,w',rfl,⟨t,rfl⟩,⟨t',rfl⟩⟩:=vals2 r
 refine max_two_ints (I.ok.hd hc) fun h' tk k=>⟨_,H,I.kept k,?_,q⟩
 by_cases hj:j > i
 ·rw[if_pos hj,if_pos hj];exact⟨_,rfl⟩
 ·rw[if_neg hj,if_neg hj];exact⟨_,rfl⟩
theorem amZ (hc:X.calm=true):oh X (.builtin "min") (fun xs H Q=>∃ i j,xs=[.int i,.int j]/\Q (.int (if j < i then j else i)) H):=by
 intro pins s σ H xs us Q I r h
 obtain⟨i,j,rfl,q⟩:=h
 obtain⟨u,w',rfl,⟨t,rfl⟩,⟨t',rfl⟩⟩:=vals2 r
 refine min_two_ints (I.ok.hd hc) fun h' tk k=>⟨_,H,I.kept k,?_,q⟩
 by_cases hj:j < i
 ·rw[if_pos hj,if_pos hj];exact⟨_,rfl⟩
 ·rw[if_neg hj,if_neg hj];exact⟨_,rfl⟩
theorem yf:oh X (.type "int") (fun xs H Q=>(∃ i,xs=[.int i]/\Q (.int i) H) ∨ ∃ k,xs=[.bl k]/\Q (.int (if k then 1 else 0)) H):=by
 intro pins s σ H xs us Q I r h
 rcases h with ⟨i,rfl,q⟩ | ⟨k,rfl,q⟩
 ·obtain⟨u,rfl,t,rfl⟩:=vals1 r
  exact call_int_int ⟨.int i,H,I,⟨_,rfl⟩,q⟩
 ·obtain⟨u,rfl,r1⟩:=vals1 r
  cases r1
  exact call_int_bool ⟨.int (if k then 1 else 0),H,I.tok _,⟨_,rfl⟩,q⟩
end
end L2
namespace L2
open PySem PySem.Spec PyProof.Rows
structure ajp (h:Heap)(x dx C:Addr)(mA:Str->Option Value):Prop where
 obj:h.get? x=some (instObj C dx)
 ns:h.Ns1 dx mA
 ne:dx≠x
theorem am0 {h:Heap}{dx:Addr}{mA:Str->Option Value}(n:h.Ns1 dx mA):∃ od,h.get? dx=some od/\∀ name,lookIn name od=some (mA name):=by
 obtain⟨o,es,ep,ho,hd,hk,_,hm⟩:=n
 refine⟨o,ho,fun name=>?_⟩
 have e:=hm name
 unfold nsFind findBy at e
 rw[← Array.find?_toList] at e
 unfold lookIn
 rw[hd]
 dsimp only
 split
 ·rename_i y q
  rw[q] at e
  exact congrArg some e
 ·rename_i q
  rw[q] at e
  have a:es.toList.any (·.refKey)=false:=by
   rw[List.any_eq_false]
   intro y hy
   obtain⟨z,t,hkey⟩:=hk y (Array.mem_toList_iff.mp hy)
   simp[DictEntry.refKey,hkey]
  have a':¬ es.toList.any (·.refKey)=true:=by rw[a];exact Bool.false_ne_true
  rw[if_neg a']
  exact congrArg some e
theorem ajp.look {h:Heap}{x dx C:Addr}{mA:Str->Option Value}(I:ajp h x dx C mA):∃ od,PySem.W.InstAt h x (instObj C dx) C (some od)/\∀ name,lookIn name od=some (mA name) :=
 let ⟨od,ho,hl⟩:=am0 I.ns
 ⟨od,⟨I.obj,rfl,rfl,ho⟩,hl⟩
section
variable {prog:Program} {w:World} {A:Around} {E:Value->Shared->Prop} {s:Shared} {K:Frag} {x dx C f:Addr} {mA:Str->Option Value} {name:Str} {v:Value}
theorem get_map {expr:Bool}{Q:Value->Shared->Prop}(X:K.In s.heap)(I:ajp s.heap x dx C mA)(hg:plainGet K C name=true)(hh:hasDictIn K C=true)
  (ha:findIn K (.ref C) name=some none) (hv:mA name=some v) (hv':handedIn v=true) (h:Q v { s with toks:=s.toks+1 }) :
  wpAny (model prog w) A (getAttr (.ref x) name expr) Q E s:=by
 obtain⟨od,J,hl⟩:=I.look
 exact PySem.W.get_value X J (plainGet_of hg).1 (PySem.W.findObj_own hh ha rfl (by rw[hl,hv])) hv' h
theorem apy {pl:Sem Bool}{Q:Value×List Value->Shared->Prop}(X:K.In s.heap)(I:ajp s.heap x dx C mA)(hg:plainGet K C name=true)
  (hf:findIn K (.ref C) name=some (some (.ref f))) (ht:isFn K (.ref f)=true) (hv:mA name=none) (h:Q (.ref f,[.ref x]) s) :
  wpAny (model prog w) A (getMethod (.ref x) name pl) Q E s:=by
 obtain⟨od,J,hl⟩:=I.look
 exact PySem.W.method_fn X J (plainGet_of hg).1 (plainGet_of hg).2 hf (beq_iff_eq.mp ht) (by show (lookIn name od).map (·.isSome)=some false;rw[hl,hv];rfl) h
theorem vm {ns:List Str}{Q:Unit->Shared->Prop}(X:K.In s.heap)(I:ajp s.heap x dx C mA)
  (hs:findIn K (.ref C) "__setattr__" = some (some (.builtin "object.__setattr__"))) (hp:plainOver K C=true) (ht:takerIn K C name=some none) (hh:hasDictIn K C=true)
  (hw:PySem.Within mA ns) (hsz:ns.length <= sizeLine)
  (h:∀ h',ajp h' x dx C (fun y=>if y=name then some v else mA y)->Heap.SameBut dx s.heap h'->Q () { s with heap:=h',toks:=s.toks+2 }) :
  wpAny (model prog w) A (setAttr (.ref x) name v) Q E s:=by
 obtain⟨od,J,hl⟩:=I.look
 refine PySem.W.set_plain X J hs (PySem.W.osa_open (s:={ s with toks:=s.toks+1 }) (r:=none) X J hp ht fun b=>?_)
 obtain⟨cd,hc,hd'⟩:=PySem.W.any_some hh
 have hx:s.heap.get? x=some ⟨.ref C,some dx,.plain,#[]⟩:=I.obj
 refine wpAny_bind (wpAny_pure (wpAny_bind (wpAny_bind (wpAny_loadPart hx (wpAny_bind (PySem.W.Looks.here (s:={ s with toks:=s.toks+1 }) (PySem.W.looks_clsIn X hc) ?_))))))
 rw[hd']
 refine wpAny_pure (a:=some dx) (wpAny_bind (wpAny_pure (wpAny_bind ?_)))
 refine wpAny_nsSet1 (s:={ s with toks:=s.toks+1 }) I.ns fun h' hn2 hs2=>?_
 obtain⟨oD,esD,epD,hoD,hdD,hcD⟩:=hn2.count (PySem.Within.cons name v hw)
 refine wpAny_bind (wpAny_lookBehind hoD (by rw[hdD];exact pastItsLine_dict (Nat.le_trans hcD (by rw[List.length_cons];omega))) ?_)
 exact wpAny_pure (h _ ⟨(hs2.2 _ (Ne.symm I.ne)).trans I.obj,hn2,I.ne⟩ hs2)
theorem apz {R:Result->Shared->Prop}{vs:List Value}{kw:List (Str×Value)}(X:K.In s.heap)(hm:makesIn K C=true)
  (hi:findIn K (.ref C) "__init__" = some (some (.ref f))) (hf:PySem.W.typeIn K (.ref f)=some (.type "function"))
  (h:codeAny (model prog w) (A.under (.builtin "type.__call__" ⟨.ref C :: vs,kw⟩)) (.call (.ref f) ⟨.ref (s.heap.objs.size+1) :: vs,kw⟩) (PySem.W.InitBack (s.heap.objs.size+1) R)
   { s with heap:=(s.heap.push emptyDict).push (instObj C s.heap.objs.size) }) :
  codeAny (model prog w) A (.call (.ref C) ⟨vs,kw⟩) R s:=by
 obtain⟨hh,g,d,t,os⟩:=s
 exact PySem.W.make_core (PySem.W.makes_of X hm) (PySem.W.looks_findIn X hi) (fun self=>PySem.W.bind_fn X self hf) (.inl rfl) h
end
def tE (f:Str)(v:V):List (Str×V)->List (Str×V)
 | []=>[(f,v)]
 | (g,x) :: r=>if g=f then (g,v) :: r else (g,x) :: tE f v r
theorem Xy (f g:Str)(v:V):∀ fs:List (Str×V),(tE f v fs).lookup g=if g=f then some v else fs.lookup g
 | []=>by
  show List.lookup g [(f,v)]=_
  by_cases h:g=f
  ·have hb:(g == f)=true:=beq_iff_eq.mpr h
   simp only [List.lookup,hb,if_pos h]
  ·have hb:(g == f)=false:=beq_eq_false_iff_ne.mpr h
   simp only [List.lookup,hb,if_neg h]
 | (k,x) :: r=>by
  have ih:=Xy f g v r
  rw[show tE f v ((k,x) :: r)=(if k=f then (k,v) :: r else (k,x) :: tE f v r) from rfl]
  by_cases hk:k=f
  ·rw[if_pos hk]
   by_cases h:g=k
   ·have hb:(g == k)=true:=beq_iff_eq.mpr h
    simp only [List.lookup,hb,if_pos (h.trans hk)]
   ·have hb:(g == k)=false:=beq_eq_false_iff_ne.mpr h
    simp only [List.lookup,hb,if_neg (fun e:g=f=>h (e.trans hk.symm))]
  ·rw[if_neg hk]
   by_cases h:g=k
   ·have hb:(g == k)=true:=beq_iff_eq.mpr h
    simp only [List.lookup,hb,if_neg (fun e:g=f=>hk (h.symm.trans e))]
   ·have hb:(g == k)=false:=beq_eq_false_iff_ne.mpr h
    simp only [List.lookup,hb]
    exact ih
theorem Ui (f:Str)(v:V):∀ fs:List (Str×V),f∈(tE f v fs).map (·.1)/\∀ g,g∈fs.map (·.1)->g∈(tE f v fs).map (·.1)
 | []=>⟨by simp[tE],fun g h=>by simp at h⟩
 | (k,x) :: r=>by
  obtain⟨i1,i2⟩:=Ui f v r
  rw[show tE f v ((k,x) :: r)=(if k=f then (k,v) :: r else (k,x) :: tE f v r) from rfl]
  by_cases hk:k=f
  ·rw[if_pos hk]
   subst hk
   exact⟨by simp,fun g h=>by simpa using h⟩
  ·rw[if_neg hk]
   refine⟨?_,fun g h=>?_⟩
   ·rw[List.map_cons]
    exact List.mem_cons_of_mem _ i1
   ·rw[List.map_cons] at h ⊢
    rcases List.mem_cons.mp h with e | e
    ·exact List.mem_cons.mpr (.inl e)
    ·exact List.mem_cons_of_mem _ (i2 g e)
theorem Xz (f:Str)(v:V):∀ fs:List (Str×V),(tE f v fs).length <= fs.length+1
 | []=>by simp[tE]
 | (k,x) :: r=>by
  have ih:=Xz f v r
  rw[show tE f v ((k,x) :: r)=(if k=f then (k,v) :: r else (k,x) :: tE f v r) from rfl]
  by_cases hk:k=f
  ·rw[if_pos hk,List.length_cons,List.length_cons];omega
  ·rw[if_neg hk,List.length_cons,List.length_cons];omega
theorem De.some_of {v:V}{o:Option Value}(r:De (some v) o):∃ u,o=some u/\RelV v u:=by
 cases o with
 | none=>exact (show False from r).elim
 | some u=>exact⟨u,rfl,r⟩
theorem De.none_of {o:Option Value}(r:De none o):o=none:=by
 cases o with
 | none=>rfl
 | some u=>exact (show False from r).elim
theorem am1 {v:V}{u:Value}(r:RelV v u):handedIn u=true:=by
 cases v with
 | non=>cases (show u=Value.none from r);rfl
 | bl b=>cases (show u=Value.bool b from r);rfl
 | int i=>obtain⟨t,e⟩:=(show ∃ t,u=Value.int i t from r);cases e;rfl
 | str x=>obtain⟨t,e⟩:=(show ∃ t,u=Value.str x t from r);cases e;rfl
 | byt b=>obtain⟨t,e⟩:=(show ∃ t,u=Value.bytes b t from r);cases e;rfl
 | flt b=>obtain⟨t,e⟩:=(show ∃ t,u=Value.float b t from r);cases e;rfl
 | ref a=>cases (show u=Value.ref a from r);rfl
 | ty n=>cases (show u=Value.type n from r);rfl
section
variable {P:Program} {w:World} {H H':Hp} {h h':Heap} {a C dx:Addr} {fs fs':List (Str×V)}
theorem Za (hok:Qy P w H h)(e:H a=some (.ins C dx fs)):∃ mA,ajp h a dx C mA/\(∀ f,De (fs.lookup f) (mA f))/\PySem.Within mA (fs.map (·.1))/\fs.length <= 1000/\H dx=some (.own a):=by
 obtain⟨d,z,ne,ob,mA,n,r,q⟩:=(show jZ P w H h a (.ins C dx fs) from hok a _ e)
 exact⟨mA,⟨ob,n,ne⟩,r,q,z,d⟩
end
structure Cls (K:Frag)(C:Addr):Prop where
 pg:plainGet K C Str.empty=true
 hd:hasDictIn K C=true
 po:plainOver K C=true
 sa:findIn K (.ref C) "__setattr__" = some (some (.builtin "object.__setattr__"))
theorem Cls.get {K:Frag}{C:Addr}(c:Cls K C)(f:Str):plainGet K C f=true:=c.pg
def nM (K:Frag)(C:Addr)(f:Str):Prop:=findIn K (.ref C) f=some none
theorem nM.taker {K:Frag}{C:Addr}{f:Str}(n:nM K C f):takerIn K C f=some none:=by
 unfold takerIn
 rw[show findIn K (.ref C) f=some none from n]
 rfl
structure Con (K:Frag)(C:Addr)(f:Str)(v:V)(u:Value):Prop where
 at_:findIn K (.ref C) f=some (some u)
 rel:RelV v u
 get:specialIn K u "__get__" = some none
 cp:PySem.W.copiedNames.contains f=false
structure Meth (K:Frag)(C:Addr)(m:Str)(f:Addr):Prop where
 at_:findIn K (.ref C) m=some (some (.ref f))
 fn:isFn K (.ref f)=true
 kp:keepIn K (.ref f)=true
section
variable {X:Cx} {pins:List (Addr×Obj)} {σ:St} {H:Hp} {s:Shared} {a C dx:Addr} {fs:List (Str×V)} {f:Str} {v:V} {A:Around} {E:Value->Shared->Prop}
theorem ajq {b:Bool}{Q:Value->Shared->Prop}(I:Inv X pins σ H s)(e:H a=some (.ins C dx fs))(c:Cls X.K C)(n:nM X.K C f)(l:fs.lookup f=some v)
  (h:∀ u s',Inv X pins σ H s'->RelV v u->Q u s'):wpAny (model X.prog X.w) A (getAttr (.ref a) f b) Q E s:=by
 obtain⟨mA,O,r,_,_,_⟩:=Za I.hok e
 obtain⟨u,hu,ru⟩:=De.some_of (v:=v) (o:=mA f) (by rw[← l];exact r f)
 exact get_map I.Qz O (c.get f) c.hd n hu (am1 ru) (h u _ (I.tok _) ru)
theorem Zt {m:Str}{g:Addr}{pl:Sem Bool}{Q:Value×List Value->Shared->Prop}(I:Inv X pins σ H s)(e:H a=some (.ins C dx fs))(c:Cls X.K C)(k:Meth X.K C m g)(l:fs.lookup m=none)
  (h:Q (.ref g,[.ref a]) s):wpAny (model X.prog X.w) A (getMethod (.ref a) m pl) Q E s:=by
 obtain⟨mA,O,r,_,_,_⟩:=Za I.hok e
 have hn:mA m=none:=De.none_of (by rw[← l];exact r m)
 exact apy I.Qz O (c.get m) k.at_ k.fn hn h
theorem ajr {y:V}{u:Value}{Q:Unit->Shared->Prop}(I:Inv X pins σ H s)(e:H a=some (.ins C dx fs))(c:Cls X.K C)(n:nM X.K C f)(hl:fs.length < 1000)(ry:RelV y u)
  (h:∀ s',Inv X pins σ (upd H a (.ins C dx (tE f y fs))) s'->Q () s'):wpAny (model X.prog X.w) A (setAttr (.ref a) f u) Q E s:=by
 obtain⟨mA,O,r,wi,_,ho⟩:=Za I.hok e
 have hz:(fs.map (·.1)).length <= sizeLine:=by rw[List.length_map,sizeLine_eq];omega
 refine vm I.Qz O c.sa c.po n.taker c.hd wi hz fun h' O' sb=>h _ ?_
 have hd:∃ o,h'.get? dx=some o:=let ⟨o,_,_,e',_⟩:=O'.ns;⟨o,e'⟩
 refine I.write (x:=a) (e:=dx) (by rw[e];exact True.intro) (.inr ho) (fun b q hb z=>(sb.2 b hb).trans z) hd ?_
 refine⟨by rw[aA O.ne];exact ho,?_,O.ne,O'.obj,_,O'.ns,fun g=>?_,fun g hg=>?_⟩
 ·have:=Xz f y fs;omega
 ·show De ((tE f y fs).lookup g) (if g=f then some u else mA g)
  rw[Xy]
  by_cases q:g=f
  ·rw[if_pos q,if_pos q];exact ry
  ·rw[if_neg q,if_neg q];exact r g
 ·by_cases q:g=f
  ·rw[q];exact (Ui f y fs).1
  ·refine (Ui f y fs).2 g (wi g fun z=>hg ?_)
   show (if g=f then some u else mA g)=none
   rw[if_neg q];exact z
theorem Inv.made (I:Inv X pins σ H s):Inv X pins σ (upd (upd H s.heap.objs.size (.own (s.heap.objs.size+1))) (s.heap.objs.size+1) (.ins C s.heap.objs.size []))
  { s with heap:=(s.heap.push emptyDict).push (instObj C s.heap.objs.size) }:=by
 have e1:(s.heap.push emptyDict).get? s.heap.objs.size=some emptyDict:=Heap.get?_push_size s.heap rfl
 have e2:((s.heap.push emptyDict).push (instObj C s.heap.objs.size)).get? (s.heap.objs.size+1)=some (instObj C s.heap.objs.size):=by
  have:=Heap.get?_push_size (s.heap.push emptyDict) (o:=instObj C s.heap.objs.size) rfl
  rwa [Heap.size_push] at this
 have e3:(s.heap.push emptyDict).Ns s.heap.objs.size (fun _=>none):=⟨emptyDict,#[],_,e1,rfl,(fun e he=>absurd he (by simp)),fun _=>rfl⟩
 have I1:=I.laid (a:=s.heap.objs.size) (o:=.own (s.heap.objs.size+1)) (h':=s.heap.push emptyDict) (t':=s.toks) (fun b u q=>Heap.get?_push_of_some _ q) (Nat.le_refl _) ⟨_,e1⟩
 refine I1.laid (a:=s.heap.objs.size+1) (o:=.ins C s.heap.objs.size []) (t':=s.toks) (fun b u q=>Heap.get?_push_of_some _ q) (Nat.le_of_eq (Heap.size_push _ _)) ?_
 have ne:s.heap.objs.size≠s.heap.objs.size+1:=Nat.ne_of_lt (Nat.lt_succ_self _)
 refine⟨by rw[aA ne,ak],Nat.zero_le _,ne,e2,fun _=>none,(Heap.Ns1.of_empty e3).at fun o q=>Heap.get?_push_of_some _ q,fun _=>True.intro,fun y hy=>absurd rfl hy⟩
theorem asb {prog:Program}{w:World}{env:Env}{e:Expr}{f:Str}{pos:Pos}{s:Shared}{Q:Value->Shared->Prop}(hb:attributeBase e f env (eval e env)=eval e env)
  (h:wpAny (model prog w) A (eval e env) (fun o s₁=>wpAny (model prog w) A (getAttr o f true) Q E s₁) E s):wpAny (model prog w) A (eval (.Attribute e f pos) env) Q E s :=
 Attribute_any_ h (by rw[arm_eval_Attribute,hb])
end
inductive atx (K:Frag)(f:Str)(Q:VK)(x:V)(H1:Hp):Prop
 | mk (a:_) (C:_) (dx:_) (fs:_) (v:_) (gj:x=.ref a) (gk:H1 a=some (.ins C dx fs)) (jc:Cls K C) (n8:nM K C f) (xJ:fs.lookup f=some v) (h5_:Q v H1):atx K f Q x H1
def ayE (K:Frag)(ta:TE)(f:Str):TE:=fun σ H Q=>ta σ H fun x H1=>atx K f Q x H1
inductive aty (K:Frag)(f:Str)(D:Ends)(σ:St)(y:V)(x:V)(H2:Hp):Prop
 | mk (a:_) (C:_) (dx:_) (fs:_) (gj:x=.ref a) (gk:H2 a=some (.ins C dx fs)) (jc:Cls K C) (n8:nM K C f) (xJ:fs.length < 1000) (h5_:D.nx σ (upd H2 a (.ins C dx (tE f y fs)))):aty K f D σ y x H2
def ayF (K:Frag)(ta tv:TE)(f:Str):TS:=fun D σ H=>tv σ H fun y H1=>ta σ H1 fun x H2=>aty K f D σ y x H2
section
variable {X:Cx} {o e value:Expr} {f:Str} {pos pos' tpos:Pos} {ta tv:TE}
theorem cY (he:PE X e ta)(hb:attributeBase e f X.env (eval e X.env)=eval e X.env):PE X (.Attribute e f pos) (ayE X.K ta f):=by
 intro pins s σ H Q I h
 refine asb hb (eX (he pins s σ H _ I h) fun u s1 ⟨x,H1,I1,rx,a,C,dx,fs,v,ex,ea,c,n,l,q⟩=>?_)
 subst ex
 obtain rfl:u=Value.ref a:=rx
 exact ajq I1 ea c n l fun u' s2 I2 ru=>⟨v,H1,I2,ru,q⟩
theorem By (ha:PE X o ta)(hv:PE X value tv)(hs:swapsWith value (some (.Attribute o f pos')) pos.line X.env=pure false):PS X (.Assign [.Attribute o f pos'] value pos) (ayF X.K ta tv f):=by
 intro pins s σ H D I h
 refine plainObj_wpAny_Assign_Attribute (eX (hv pins s σ H _ I h) fun u s1 ⟨y,H1,I1,ry,q⟩=>eX (ha pins s1 σ H1 _ I1 q) fun ov s2 ⟨x,H2,I2,rx,a,C,dx,fs,ex,ea,c,n,l,q2⟩=>?_) hs
 subst ex
 obtain rfl:ov=Value.ref a:=rx
 exact ajr I2 ea c n l ry fun s3 I3=>⟨σ,_,I3,q2⟩
end
section
variable {X:Cx} {pins:List (Addr×Obj)} {σ:St} {H:Hp} {s:Shared} {A:Around} {E:Value->Shared->Prop} {Q:Value->Shared->Prop} {c:Value} {b:Bool}
inductive iT (K:Frag)(H:Hp):V->Value->Prop where
 | non:iT K H .non (.type "NoneType")
 | bl (x:Bool):iT K H (.bl x) (.type "bool")
 | int (i:Int):iT K H (.int i) (.type "int")
 | str (x:Str):iT K H (.str x) (.type "str")
 | flt (x:UInt64):iT K H (.flt x) (.type "float")
 | lst {a:Addr} {xs:List V} (e:H a=some (.lst xs)):iT K H (.ref a) (.type "list")
 | frz {a:Addr} {o:Obj} {xs:List V} (e:H a=some (.frz o (.lst xs))):iT K H (.ref a) (.type "list")
 | tup {a:Addr} {xs:List V} (e:H a=some (.tup xs)):iT K H (.ref a) (.type "tuple")
 | dK {a:Addr} {kvs:List (Key×V)} (e:H a=some (.dK kvs)):iT K H (.ref a) (.type "dict")
 | dT {a:Addr} {kvs:List (List Key×V)} (e:H a=some (.dT kvs)):iT K H (.ref a) (.type "dict")
 | ins {a C dx:Addr} {fs:List (Str×V)} (e:H a=some (.ins C dx fs)) (cl:Cls K C) (ha:findIn K (.ref C) "__class__" = some (some (.builtin "object.__class__")))
   (hn:specialIn K (.builtin "object.__class__") "__get__" = some (some (.builtin "getset_descriptor.__get__"))) (htk:PySem.W.takesIn K (.builtin "object.__class__")=some true)
   (hm:mroIn K C (.type "object")=some true):iT K H (.ref a) (.ref C)
theorem am3 {x:V}{u t:Value}(I:Inv X pins σ H s)(rx:RelV x u)(ty:iT X.K H x t)(e:kitOne X.K t c=some b)(h:∀ tk,Q (.bool b) { s with toks:=tk }) :
  wpAny (model X.prog X.w) A (call (.builtin "isinstance") [u,c]) Q E s:=by
 cases ty with
 | non=>cases (show u=Value.none from rx);exact kia_one PySem.W.kitx_none I.Qz True.intro e (fun z=>nomatch z) h
 | bl y=>cases (show u=Value.bool y from rx);exact kia_one PySem.W.kitx_bool I.Qz True.intro e (fun z=>nomatch z) h
 | int i=>obtain⟨t,q⟩:=(show ∃ t,u=Value.int i t from rx);cases q;exact kia_one PySem.W.kitx_int I.Qz True.intro e (fun z=>nomatch z) h
 | str y=>obtain⟨t,q⟩:=(show ∃ t,u=Value.str y t from rx);cases q;exact kia_one PySem.W.kitx_str I.Qz True.intro e (fun z=>nomatch z) h
 | flt y=>obtain⟨t,q⟩:=(show ∃ t,u=Value.float y t from rx);cases q;exact kia_one PySem.W.kitx_float I.Qz True.intro e (fun z=>nomatch z) h
 | @lst a xs ea =>
  cases (show u=Value.ref a from rx)
  obtain⟨_,_,n,_,h1⟩:=(show jZ X.prog X.w H s.heap a (.lst xs) from I.hok a _ ea)
  exact kia_one kitx_list I.Qz ⟨_,h1,rfl⟩ e (fun z=>nomatch z) h
 | @frz a ob xs ea =>
  cases (show u=Value.ref a from rx)
  obtain⟨_,_,_,n,_,h1⟩:=(show jZ X.prog X.w H s.heap a (.frz ob (.lst xs)) from I.hok a _ ea)
  exact kia_one kitx_list I.Qz ⟨_,h1,rfl⟩ e (fun z=>nomatch z) h
 | @tup a xs ea =>
  cases (show u=Value.ref a from rx)
  obtain⟨_,_,_,p⟩:=(show jZ X.prog X.w H s.heap a (.tup xs) from I.hok a _ ea)
  obtain⟨o,h1,h2,_⟩:=p
  exact kia_one PySem.W.kitx_tuple I.Qz ⟨o,h1,h2⟩ e (fun z=>nomatch z) h
 | @dK a kvs ea =>
  cases (show u=Value.ref a from rx)
  obtain⟨_,_,vs,_,p⟩:=(show jZ X.prog X.w H s.heap a (.dK kvs) from I.hok a _ ea)
  obtain⟨o,es,ep,h1,h2,_⟩:=p
  exact kia_one kitx_dict I.Qz ⟨o,h1,h2.1⟩ e (fun z=>nomatch z) h
 | @dT a kvs ea =>
  cases (show u=Value.ref a from rx)
  obtain⟨_,_,xs,_,o,es,ep,h1,h2,_⟩:=(show jZ X.prog X.w H s.heap a (.dT kvs) from I.hok a _ ea)
  exact kia_one kitx_dict I.Qz ⟨o,h1,h2.1⟩ e (fun z=>nomatch z) h
 | @ins a C dx fs ea cl ha hn htk hm =>
  cases (show u=Value.ref a from rx)
  obtain⟨mA,O,_⟩:=Za I.hok ea
  obtain⟨od,J,_⟩:=O.look
  exact kia_one (PySem.W.kitx_own (cl.get _) cl.hd ha hn htk hm) I.Qz J e (fun z=>nomatch z) h
end
end L2
namespace L2
open PySem PySem.Spec PyProof.Rows
structure tG (k:Nat)(A:Around):Prop where
 hd:A.handled=none
 dp:A.depth+3 * k+5 < recursionLimit
 un:A.units+16 * k+200 < cLine
theorem tG.mono {j k:Nat}{A:Around}(r:tG k A)(h:j <= k):tG j A:=⟨r.hd,by have:=r.dp;omega,by have:=r.un;omega⟩
theorem tG.deeper {k:Nat}{A:Around}(r:tG (k+1) A)(env:Env):tG k (A.deeper env) :=
 ⟨r.hd,by have:=r.dp;show A.depth+1+3 * k+5 < _;omega,by have:=r.un;show A.units+3+16 * k+200 < _;omega⟩
theorem ajs {A:Around}{C:Addr}{us:List Value}{kw:List (Str×Value)}:(A.under (.builtin "type.__call__" ⟨.ref C :: us,kw⟩)).depth=A.depth+1:=by
 first | rfl | simp[Around.under,Code.weight,Code.isCreation,Code.isGuard,Code.isCaller,Code.frames,Code.isFrame,guardIds]
theorem ajt {A:Around}{C:Addr}{us:List Value}{kw:List (Str×Value)}:(A.under (.builtin "type.__call__" ⟨.ref C :: us,kw⟩)).units=A.units+1:=by
 first | rfl | simp[Around.under,Code.cUnits,Code.frames,Code.isFrame]
theorem tG.make {k:Nat}{A:Around}(r:tG (k+1) A)(C:Addr)(us:List Value)(kw:List (Str×Value)):tG k (A.under (.builtin "type.__call__" ⟨.ref C :: us,kw⟩)) :=
 ⟨r.hd,by have:=r.dp;rw[ajs];omega,by have:=r.un;rw[ajt];omega⟩
theorem tG.depth {k:Nat}{A:Around}(r:tG k A):A.depth < recursionLimit:=by have:=r.dp;omega
theorem tG.units {k:Nat}{A:Around}(r:tG k A):A.units+64 < cLine:=by have:=r.un;omega
def auC:TA:=fun _ H Q=>Q [] H
def awt (ta:TE)(tr:TA):TA:=fun σ H Q=>ta σ H fun x H1=>tr σ H1 fun xs H2=>Q (x :: xs) H2
section
variable {X:Cx} {e:Expr} {es:List Expr} {te:TE} {t:TA} {pos:Pos}
theorem aj:PA X [] auC:=fun _ _ _ _ H Q I h=>Calls.spliced_nil ⟨[],H,I,.nil,h⟩
theorem aa (ha:PE X e te)(hr:PA X es t)(hs:starEach (e :: es) X.env=(false,eval e X.env) :: starEach es X.env:=by rfl):PA X (e :: es) (awt te t):=by
 intro pos pins s σ H Q I h
 rw[hs]
 show wpAny _ _ (spliced ((false,eval e X.env) :: backTo pos (starEach es X.env))) _ _ s
 refine Calls.spliced_cons (eX (ha pins s σ H _ I h) fun u s1 ⟨x,H1,I1,r1,q1⟩=>?_)
 exact eX (hr pos pins s1 σ H1 _ I1 q1) fun us s2 ⟨xs,H2,I2,r2,q2⟩=>⟨x :: xs,H2,I2,.cons r1 r2,q2⟩
def ayG (t:TA):TE:=fun σ H Q=>t σ H fun xs H1=>xs.length <= sizeLine/\∀ p,H1 p=none->Q (.ref p) (upd H1 p (.tup xs))
def awu (t:TA):TE:=fun σ H Q=>t σ H fun xs H1=>xs.length <= sizeLine/\∀ p,H1 p=none->Q (.ref p) (upd H1 p (.lst xs))
theorem fQ {x1}(h:PA X es t):PE X (.Tuple es x1 pos) (ayG t):=by
 intro pins s σ H Q I hq
 refine wpAny_Tuple_spliced (eX (h pos pins s σ H _ I hq) fun us s1 ⟨xs,H1,I1,r,z,q⟩=>⟨by rw[← r.length];exact z,?_⟩)
 have hf:H1 s1.heap.objs.size=none:=I1.hok.fresh (Nat.le_refl _)
 refine⟨.ref s1.heap.objs.size,upd H1 s1.heap.objs.size (.tup xs),I1.laid (t':=s1.toks) (fun b u e=>Heap.get?_push_of_some _ e) (Nat.le_refl _) ?_,rfl,q _ hf⟩
 exact⟨z,us,r,⟨_,Heap.get?_push_size _ rfl,rfl,_,rfl⟩⟩
theorem cj (h:PA X es t):PE X (.List es pos) (awu t):=by
 intro pins s σ H Q I hq
 refine wpAny_List_spliced (eX (h pos pins s σ H _ I hq) fun us s1 ⟨xs,H1,I1,r,z,q⟩=>⟨by rw[← r.length];exact z,?_⟩)
 have hf:H1 s1.heap.objs.size=none:=I1.hok.fresh (Nat.le_refl _)
 refine⟨.ref s1.heap.objs.size,upd H1 s1.heap.objs.size (.lst xs),I1.laid (t':=s1.toks) (fun b u e=>Heap.get?_push_of_some _ e) (Nat.le_refl _) ?_,rfl,q _ hf⟩
 exact⟨z,us,0,r,Heap.get?_push_size _ rfl⟩
end
abbrev Sp:=List V->Hp->VK->XK->Prop
abbrev CXT:=List Env->Hp->Shared->XK->Value->Shared->Prop
structure aju (P:Program)(w:World)(K:Frag)(mg:Str->Option Value)(base:Heap)(A:Around)(outer:List Env)(s:Shared)(H:Hp):Prop where
 frames:A.frames=some outer
 mod:Mod K mg base
 bs:∀ b o,base.get? b=some o->s.heap.get? b=some o/\H b=none
 bsz:base.objs.size <= s.heap.objs.size
 QC:s.heap.FunFrames base outer
 frf:∀ b∈frs outer,H b=none
 hok:Qy P w H s.heap
 bare:AllBare s.gens
def CE (outer:List Env)(P:Program)(w:World)(H:Hp)(s:Shared)(Q:VK)(u:Value)(s':Shared):Prop :=
 ∃ v H',s'.os=s.os/\AllBare s'.gens/\Un (frs outer) [] H H' s.heap s'.heap/\Qy P w H' s'.heap/\RelV v u/\Q v H'
def CR (CX:CXT)(outer:List Env)(P:Program)(w:World)(H:Hp)(s:Shared)(Q:VK)(E:XK)(r:Result)(s':Shared):Prop :=
 match r with
 | .ok (.ret u)=>CE outer P w H s Q u s'
 | .ok _=>False
 | .error e=>CX outer H s E e s'
structure bW (P:Program)(w:World)(K:Frag)(mg:Str->Option Value)(base:Heap)(CX:CXT)(k:Nat)(f:Addr)(fd:FuncData)(ps:List Str)(sp:Sp):Prop where
 len:∀ vs H Q E,sp vs H Q E->vs.length=ps.length
 run:∀ (A:Around) (outer:List Env) (s:Shared) (H:Hp) (args:Args) (us:List Value) (vs:List V) (Q:VK) (E:XK),tG k A->aju P w K mg base A outer s H->BindsTo s fd args (ps.zip us)->Vals vs us->sp vs H Q E ->
  codeAny (model P w) A (.call (.ref f) args) (CR CX outer P w H s Q E) s
theorem aju.make {P:Program}{w:World}{K:Frag}{mg:Str->Option Value}{base:Heap}{A:Around}{outer:List Env}{s:Shared}{H:Hp}(e:aju P w K mg base A outer s H)(C:Addr)(us:List Value)(kw:List (Str×Value)) :
  aju P w K mg base (A.under (.builtin "type.__call__" ⟨.ref C :: us,kw⟩)) outer s H:=⟨by first | exact e.frames | (simpa [Around.under,Code.envs,Code.isFrame,pushEnvs] using e.frames),e.mod,e.bs,e.bsz,e.QC,e.frf,e.hok,e.bare⟩
section
variable {X:Cx} {pins:List (Addr×Obj)} {σ:St} {H:Hp} {s s':Shared}
theorem Inv.env0 (I:Inv X pins σ H s):aju X.prog X.w X.K X.mg X.base X.A X.stack s H :=
 ⟨I.ok.frames,I.ok.mod,I.bs,Nat.le_trans I.ok.bsz I.sz,I.stack,I.alV,I.hok,I.bare⟩
theorem Inv.after {Q:VK}{u:Value}(I:Inv X pins σ H s)(h:CE X.stack X.prog X.w H s Q u s'):EP X pins σ Q u s':=by
 obtain⟨v,H',os,bare,un,hok,r,q⟩:=h
 obtain⟨hh,g,d,t,os'⟩:=s'
 obtain rfl:os'=s.os:=os
 exact⟨v,H',I.call (h':=hh) (g':=g) (d':=d) (t':=t) (ch:=[]) un hok bare (fun b z=>absurd z (by simp)),r,q⟩
end
def awv (sp:Sp)(QB:List V)(E:XK)(t:TA):TE:=fun σ H Q=>t σ H fun vs H1=>sp (vs++QB) H1 Q E
inductive apB (C:Addr)(m:Str)(sp:Sp)(QB:List V)(E:XK)(t:TA)(σ:St)(Q:VK)(x:V)(H1:Hp):Prop
 | mk (a:_) (dx:_) (fs:_) (gj:x=.ref a) (gk:H1 a=some (.ins C dx fs)) (jc:fs.lookup m=none) (n8:t σ H1 fun vs H2=>sp (x :: (vs++QB)) H2 Q E):apB C m sp QB E t σ Q x H1
def atz (C:Addr)(m:Str)(sp:Sp)(QB:List V)(E:XK)(ta:TE)(t:TA):TE:=fun σ H Q=>ta σ H fun x H1=>apB C m sp QB E t σ Q x H1
def atA (C:Addr)(sp:Sp)(QB:List V)(E:XK)(t:TA):TE:=fun σ H Q=>t σ H fun vs H1=>∀ x dx,H1 x=none->H1 dx=none->dx≠x ->
 sp (.ref x :: (vs++QB)) (upd (upd H1 dx (.own x)) x (.ins C dx [])) (fun v H2=>v=.non/\Q (.ref x) H2) E
def Binds (K:Frag)(fd:FuncData)(ps:List Str)(ds:List Value):Prop :=
 ∀ (s:Shared) (us:List Value),K.In s.heap->(us++ds).length=ps.length->BindsTo s fd ⟨us,[]⟩ (ps.zip (us++ds))
theorem Binds.all {K:Frag}{fd:FuncData}{ps:List Str}(h:∀ us:List Value,us.length=ps.length->bindArgs fd ⟨us,[]⟩=pure (ps.zip us)):Binds K fd ps []:=fun s us _ hl=>by
 rw[List.append_nil] at hl ⊢
 exact .of_eq (h us hl)
def Passes (CX:CXT)(X:Cx)(E:XK):Prop:=∀ (pins:List (Addr×Obj)) (σ:St) (H:Hp) (s:Shared) (e:Value) (s':Shared),Inv X pins σ H s->CX X.stack H s E e s'->X.xe e s'
section
variable {X:Cx} {CX:CXT} {k:Nat} {f C:Addr} {fd:FuncData} {ps:List Str} {sp:Sp} {QB:List V} {ds:List Value} {E:XK} {x m:Str} {p pos apos:Pos} {e o:Expr} {es:List Expr} {ta:TE} {t:TA}
theorem ajv {pins:List (Addr×Obj)}{σ:St}{H:Hp}{s:Shared}{Q:VK}{us:List Value}{vs:List V}(F:bW X.prog X.w X.K X.mg X.base CX k f fd ps sp)(hr:tG k X.A)(hb:Binds X.K fd ps ds)(hd:Vals QB ds)(hx:Passes CX X E)
  (I:Inv X pins σ H s) (r:Vals vs us) (h:sp (vs++QB) H Q E):wpAny (model X.prog X.w) X.A (call (.ref f) us) (EP X pins σ Q) X.xe s:=by
 have r2:Vals (vs++QB) (us++ds):=r.append hd
 have hl:(us++ds).length=ps.length:=by rw[← r2.length];exact F.len _ _ _ _ h
 refine wpAny_call (codeAny_mono (F.run X.A X.stack s H ⟨us,[]⟩ (us++ds) (vs++QB) Q E hr I.env0 (hb s us I.Qz hl) r2 h) fun r s' hq=>?_)
 cases r with
 | error e=>exact hx pins σ H s e s' I hq
 | ok fl =>
  cases fl with
  | ret u=>exact I.after hq
  | next=>exact False.elim hq
  | brk=>exact False.elim hq
  | cont=>exact False.elim hq
theorem aD (F:bW X.prog X.w X.K X.mg X.base CX k f fd ps sp)(hr:tG k X.A)(hg:Gl X x)(hm:X.mg x=some (.ref f))(hk:keepIn X.K (.ref f)=true)(hb:Binds X.K fd ps ds)(hd:Vals QB ds)(hx:Passes CX X E)
  (ha:PA X (e :: es) t) (hdb:(x == ("__debug__":Str))=false:=by decide) (he:starEach (e :: es) X.env=(false,eval e X.env) :: starEach es X.env:=by rfl) (hpl:(backTo pos (starEach es X.env)).any (·.1)=false:=by rfl) :
  PE X (.Call (.Name x p) (e :: es) [] pos) (awv sp QB E t):=by
 intro pins s σ H Q I h
 refine wpAny_Call_Name_kw (Y9 I hg hm ?_ hdb)
 refine callWith_K (h₀:=X.base) I.ok.mod.kin hk (eX (ha pos pins s σ H _ I h) fun us s1 ⟨vs,H1,I1,r,q⟩=>⟨I1.Qz,?_⟩) he hpl
 exact ajv F hr hb hd hx I1 r q
theorem bM {pl:Sem Bool}(he:PE X o ta)(c:Cls X.K C)(hm:Meth X.K C m f)(F:bW X.prog X.w X.K X.mg X.base CX k f fd ps sp)(hr:tG k X.A)(hb:Binds X.K fd ps ds)(hd:Vals QB ds)(hx:Passes CX X E)(ha:PA X (e :: es) t)
  (hst:starEach (e :: es) X.env=(false,eval e X.env) :: starEach es X.env:=by rfl) (hpl:(backTo pos (starEach es X.env)).any (·.1)=false:=by rfl)
  (ht:eval (.Call (.Attribute o m apos) (e :: es) [] pos) X.env=(do
   let ov ← eval o X.env
   standAt apos.atName
   let (f,first) ← holding [ov] (getMethod ov m pl)
   callWith pos f first (backTo pos (starEach (e :: es) X.env)) (backToKw pos (keywordEach [] X.env))):=by rfl) :
  PE X (.Call (.Attribute o m apos) (e :: es) [] pos) (atz C m sp QB E ta t):=by
 intro pins s σ H Q I h
 refine methodCall_KW (pl:=pl) (eX (he pins s σ H _ I h) fun u s1 ⟨x,H1,I1,rx,a,dx,fs,ex,ea,l,q⟩=>?_) ht
 subst ex
 obtain rfl:u=Value.ref a:=rx
 refine Zt I1 ea c hm l ?_
 refine callWith_K (first:=[.ref a]) (h₀:=X.base) I.ok.mod.kin hm.kp (eX (ha pos pins s1 σ H1 _ I1 q) fun us s2 ⟨vs,H2,I2,r,q2⟩=>⟨I2.Qz,?_⟩) hst hpl
 exact ajv (us:=.ref a :: us) (vs:=.ref a :: vs) F hr hb hd hx I2 (.cons rfl r) q2
theorem gG {pl:Sem Bool}(he:PE X o ta)(c:Cls X.K C)(hm:Meth X.K C m f)(F:bW X.prog X.w X.K X.mg X.base CX k f fd ps sp)(hr:tG k X.A)(hb:Binds X.K fd ps ds)(hd:Vals QB ds)(hx:Passes CX X E)
  (ht:eval (.Call (.Attribute o m apos) [] [] pos) X.env=(do
   let ov ← eval o X.env
   standAt apos.atName
   let (f,first) ← holding [ov] (getMethod ov m pl)
   callWith pos f first (backTo pos (starEach [] X.env)) (backToKw pos (keywordEach [] X.env))):=by rfl) :
  PE X (.Call (.Attribute o m apos) [] [] pos) (atz C m sp QB E ta auC):=by
 intro pins s σ H Q I h
 refine methodCall_KW (pl:=pl) (eX (he pins s σ H _ I h) fun u s1 ⟨x,H1,I1,rx,a,dx,fs,ex,ea,l,q⟩=>?_) ht
 subst ex
 obtain rfl:u=Value.ref a:=rx
 refine Zt I1 ea c hm l ?_
 exact callWith_K0 (first:=[.ref a]) I1.Qz hm.kp (ajv (us:=[.ref a]) (vs:=[.ref a]) F hr hb hd hx I1 (.cons rfl .nil) q)
structure Mk (K:Frag)(C f:Addr):Prop where
 makes:makesIn K C=true
 init:findIn K (.ref C) "__init__" = some (some (.ref f))
 fn:isFn K (.ref f)=true
 kp:keepIn K (.ref C)=true
theorem ahI {pins:List (Addr×Obj)}{σ:St}{H:Hp}{s:Shared}{Q:VK}{us:List Value}{vs:List V}(M:Mk X.K C f)(F:bW X.prog X.w X.K X.mg X.base CX k f fd ps sp)(hr:tG (k+1) X.A)(hb:Binds X.K fd ps ds)(hd:Vals QB ds)
  (hx:Passes CX X E) (I:Inv X pins σ H s) (r:Vals vs us)
  (h:∀ x dx,H x=none->H dx=none->dx≠x->sp (.ref x :: (vs++QB)) (upd (upd H dx (.own x)) x (.ins C dx [])) (fun v H2=>v=.non/\Q (.ref x) H2) E) :
  wpAny (model X.prog X.w) X.A (call (.ref C) us) (EP X pins σ Q) X.xe s:=by
 have hq:=h (s.heap.objs.size+1) s.heap.objs.size (I.hok.fresh (Nat.le_succ _)) (I.hok.fresh (Nat.le_refl _)) (Nat.ne_of_lt (Nat.lt_succ_self _))
 have I2:=Inv.made (C:=C) I
 have r2:Vals (V.ref (s.heap.objs.size+1) :: (vs++QB)) (Value.ref (s.heap.objs.size+1) :: (us++ds)):=.cons rfl (r.append hd)
 have hl:(Value.ref (s.heap.objs.size+1) :: us++ds).length=ps.length:=by
  have e:=r2.length
  rw[F.len _ _ _ _ hq] at e
  exact e.symm
 refine wpAny_call (apz (f:=f) I.Qz M.makes M.init (beq_iff_eq.mp M.fn) (codeAny_mono (F.run _ X.stack _ _ ⟨Value.ref (s.heap.objs.size+1) :: us,[]⟩ (Value.ref (s.heap.objs.size+1) :: (us++ds)) _ _ E (hr.make C us [])
  (I2.env0.make C us []) (hb _ (Value.ref (s.heap.objs.size+1) :: us) I2.Qz hl) r2 hq) fun r s' hq'=>?_))
 cases r with
 | error e=>exact hx pins σ _ _ e s' I2 hq'
 | ok fl =>
  cases fl with
  | ret u =>
   obtain⟨v,H',I3,rv,ev,q3⟩:=I2.after hq'
   subst ev
   exact⟨rv,⟨V.ref (s.heap.objs.size+1),H',I3,rfl,q3⟩⟩
  | next=>exact False.elim hq'
  | brk=>exact False.elim hq'
  | cont=>exact False.elim hq'
theorem Lb (M:Mk X.K C f)(F:bW X.prog X.w X.K X.mg X.base CX k f fd ps sp)(hr:tG (k+1) X.A)(hg:Gl X x)(hm:X.mg x=some (.ref C))(hb:Binds X.K fd ps ds)(hd:Vals QB ds)(hx:Passes CX X E)
  (ha:PA X (e :: es) t) (hdb:(x == ("__debug__":Str))=false:=by decide) (he:starEach (e :: es) X.env=(false,eval e X.env) :: starEach es X.env:=by rfl) (hpl:(backTo pos (starEach es X.env)).any (·.1)=false:=by rfl) :
  PE X (.Call (.Name x p) (e :: es) [] pos) (atA C sp QB E t):=by
 intro pins s σ H Q I h
 refine wpAny_Call_Name_kw (Y9 I hg hm ?_ hdb)
 refine callWith_K (h₀:=X.base) I.ok.mod.kin M.kp (eX (ha pos pins s σ H _ I h) fun us s1 ⟨vs,H1,I1,r,q⟩=>⟨I1.Qz,?_⟩) he hpl
 exact ahI M F hr hb hd hx I1 r q
theorem apC (M:Mk X.K C f)(F:bW X.prog X.w X.K X.mg X.base CX k f fd ps sp)(hr:tG (k+1) X.A)(hg:Gl X x)(hm:X.mg x=some (.ref C))(hb:Binds X.K fd ps ds)(hd:Vals QB ds)(hx:Passes CX X E)
  (hdb:(x == ("__debug__":Str))=false:=by decide):PE X (.Call (.Name x p) [] [] pos) (atA C sp QB E auC):=by
 intro pins s σ H Q I h
 refine wpAny_Call_Name_kw (Y9 I hg hm ?_ hdb)
 exact callWith_K0 I.Qz M.kp (ahI (us:=[]) M F hr hb hd hx I .nil h)
end
section
variable {X:Cx} {CX:CXT} {k:Nat} {f C:Addr} {fd:FuncData} {ps ks:List Str} {sp:Sp} {E:XK} {x m:Str} {p pos apos aBx:Pos} {e o:Expr} {es:List Expr} {kws:List Keyword} {te ta:TE} {t tk:TA} {nm:Option Str}
structure ayH (K:Frag)(fd:FuncData)(ps ks:List Str)(g:List Value->List Value->List Value)(gV:List V->List V->List V):Prop where
 to:∀ (s:Shared) (us ws:List Value),K.In s.heap->(g us ws).length=ps.length->BindsTo s fd ⟨us,ks.zip ws⟩ (ps.zip (g us ws))
 rel:∀ {vs:List V} {us:List Value} {zs:List V} {ws:List Value},Vals vs us->Vals zs ws->Vals (gV vs zs) (g us ws)
variable {g:List Value->List Value->List Value} {gV:List V->List V->List V}
end
structure aP (N P:List Str)(sc:Scope):Prop where
 kind:sc.kind=.function
 co:sc.isCoroutine=false
 gen:sc.isGenerator=false
 nd:N.Nodup
 pre:N.take P.length=P
 par:∀ x∈P,sc.names.lookup x=some .local∨sc.names.lookup x=some .cell
 auD:∀ y∈sc.names,y.2≠.free
theorem adC {kindOf:Str->Option NameKind}{x:Str}:∀ {binds:List (Str×Value)} {m:Str->Option Value},(∀ v,(x,v) ∉ binds)->bindL kindOf binds m x=m x
 | [],_,_=>rfl
 | (n,v) :: r,m,h=>by
  unfold bindL
  rw[adC fun w hw=>h w (List.mem_cons_of_mem _ hw)]
  split
  ·have:x≠n:=by rintro rfl;exact h v List.mem_cons_self
   simp[this]
  ·rfl
theorem adD {kindOf:Str->Option NameKind}{x:Str}:∀ {binds:List (Str×Value)} {m:Str->Option Value},(∀ v,(x,v) ∉ binds)->bindC kindOf binds m x=m x
 | [],_,_=>rfl
 | (n,v) :: r,m,h=>by
  unfold bindC
  rw[adD fun w hw=>h w (List.mem_cons_of_mem _ hw)]
  split
  ·rfl
  ·have:x≠n:=by rintro rfl;exact h v List.mem_cons_self
   simp[this]
theorem adE {kindOf:Str->Option NameKind}{x:Str}{v:Value}:∀ {P:List Str} {vs:List Value} {i:Nat} {m:Str->Option Value},P.Nodup->P[i]? = some x->vs[i]? = some v->kindOf x=some .local ->
  bindL kindOf (P.zip vs) m x=some v
 | [],_,_,_,_,h,_,_=>by simp at h
 | _ :: _,[],_,_,_,_,h,_=>by simp at h
 | p :: P,w :: vs,0,m,nd,h1,h2,hk=>by
  simp at h1 h2;subst h1;subst h2
  show bindL kindOf ((p,w) :: P.zip vs) m p=_
  unfold bindL
  rw[adC fun v hv=>(List.nodup_cons.mp nd).1 (List.of_mem_zip hv).1,if_pos hk]
  simp
 | p :: P,w :: vs,i+1,m,nd,h1,h2,hk=>by
  show bindL kindOf ((p,w) :: P.zip vs) m x=_
  unfold bindL
  exact adE (i:=i) (List.nodup_cons.mp nd).2 (by simpa using h1) (by simpa using h2) hk
theorem adF {kindOf:Str->Option NameKind}{x:Str}{v:Value}:∀ {P:List Str} {vs:List Value} {i:Nat} {m:Str->Option Value},P.Nodup->P[i]? = some x->vs[i]? = some v->kindOf x≠some .local ->
  bindC kindOf (P.zip vs) m x=some v
 | [],_,_,_,_,h,_,_=>by simp at h
 | _ :: _,[],_,_,_,_,h,_=>by simp at h
 | p :: P,w :: vs,0,m,nd,h1,h2,hk=>by
  simp at h1 h2;subst h1;subst h2
  show bindC kindOf ((p,w) :: P.zip vs) m p=_
  unfold bindC
  rw[adD fun v hv=>(List.nodup_cons.mp nd).1 (List.of_mem_zip hv).1,if_neg hk]
  simp
 | p :: P,w :: vs,i+1,m,nd,h1,h2,hk=>by
  show bindC kindOf ((p,w) :: P.zip vs) m x=_
  unfold bindC
  exact adF (i:=i) (List.nodup_cons.mp nd).2 (by simpa using h1) (by simpa using h2) hk
def start (N:List Str)(vs:List V):St:=vs.map some++List.replicate (N.length - vs.length) none
def ajw (CX:CXT)(P:Program)(w:World)(K:Frag)(mg:Str->Option Value)(base:Heap)(N:List Str)(qual:Str)(scope:Scope)(f:Addr)(cd:Value)(A:Around)(outer:List Env)(s:Shared)(H:Hp)(E:XK):Cx where
 prog:=P
 w:=w
 K:=K
 mg:=mg
 base:=base
 A:=A.deeper (envOfC qual scope s.heap.objs.size f cd)
 N:=N
 s₀:=s
 H₀:=H
 env:=envOfC qual scope s.heap.objs.size f cd
 outer:=outer
 stack:=envOfC qual scope s.heap.objs.size f cd :: outer
 ex:=[]
 calm:=true
 fn:=fun _=>true
 pn:=[]
 xe:=fun e s'=>wpAny (model P w) (A.deeper (envOfC qual scope s.heap.objs.size f cd)) (leaving (envOfC qual scope s.heap.objs.size f cd) e) (fun _ s''=>CX outer H s E e s'') (fun e' s''=>CX outer H s E e' s'') s'
theorem ahJ {sc:Scope}{n:Nat}{x:Str}(h:sc.names.lookup x=some .cell):∃ c,(cellsFrom n sc.names []).lookup x=some c:=by
 have q:=PySem.W.cellsFrom_some sc.names n [] (.inl h)
 exact Option.isSome_iff_exists.mp q
theorem am4 {CX:CXT}{P:Program}{w:World}{K:Frag}{mg:Str->Option Value}{base:Heap}{N ps:List Str}{qual:Str}{scope:Scope}{f:Addr}{cd:Value}{A:Around}{outer:List Env}{s s1:Shared}{H:Hp}{E:XK}{us:List Value}{vs:List V}
  (S:aP N ps scope) (hd:A.handled=none) (e0:aju P w K mg base A outer s H) (hl:vs.length=ps.length) (r:Vals vs us)
  (x:InCallC s s.heap.objs.size (bindL (envOfC qual scope s.heap.objs.size f cd).kindOf (ps.zip us) fun _=>none) (cellsFrom (s.heap.objs.size+1) scope.names []) (bindC (envOfC qual scope s.heap.objs.size f cd).kindOf (ps.zip us) fun _=>none) s1) :
  Inv (ajw CX P w K mg base N qual scope f cd A outer s H E) [] (start N vs) H s1:=by
 have hpl:ps.length <= N.length:=by have:=congrArg List.length S.pre;rw[List.length_take] at this;omega
 obtain⟨h1,tk,rfl,hk⟩:=x.done
 have noA:∀ b:Addr,b ∉ (ajw CX P w K mg base N qual scope f cd A outer s H E).ex:=fun b z=>absurd (show b∈([]:List Addr) from z) (by simp)
 refine⟨⟨e0.mod,S.kind,rfl,rfl,Nat.le_refl _,fun y z c h1 h2=>?_,fun y hy=>?_,fun y c _ h=>?_,fun _=>hd,Around.frames_deeper e0.frames,.inr ⟨rfl,rfl⟩,fun b z=>absurd z (noA b),e0.bs,e0.bsz,fun b _ _=>noA b,fun b z=>absurd z (noA b),e0.QC,e0.frf⟩,
  rfl,e0.bare,Un.kept hk,⟨_,x.toInCall.ns,fun i y v h1 h2 h3=>?_⟩,fun y c h=>⟨_,x.cell y c h⟩,e0.hok.fresh (Nat.le_refl _),fun y c h=>?_,fun p hp=>absurd (show p∈([]:List (Addr×Obj)) from hp) (by simp),e0.hok.kept hk,?_⟩
 ·exact name_of_addr x.apart (PySem.mem_of_lookup h1) (PySem.mem_of_lookup h2)
 ·have hy:scope.names.lookup y=some .cell∨scope.names.lookup y=some .free:=hy
  rcases hy with hy | hy
  ·exact ahJ hy
  ·exact absurd rfl (S.auD _ (PySem.mem_of_lookup hy))
 ·exact Nat.le_of_lt (x.above y c (PySem.mem_of_lookup h))
 ·have hi:i < vs.length:=by
   unfold start at h2
   by_cases hi:i < vs.length
   ·exact hi
   ·rw[List.getElem?_append_right (by simpa using hi)] at h2
    rw[List.getElem?_replicate] at h2
    split at h2 <;> cases h2
  have ha:vs[i]? = some v:=by
   unfold start at h2
   rw[List.getElem?_append_left (by simpa using hi),List.getElem?_map] at h2
   cases e:vs[i]? with
   | none=>rw[e] at h2;cases h2
   | some a=>rw[e] at h2;cases h2;rfl
  obtain⟨u,hu,rv⟩:=r.get ha
  have hp:ps[i]? = some y:=by
   rw[← S.pre,List.getElem?_take_of_lt (by omega)];exact h1
  have ndP:ps.Nodup:=by rw[← S.pre];exact S.nd.sublist (List.take_sublist _ _)
  refine⟨u,rv,?_⟩
  rcases S.par y (List.mem_of_getElem? hp) with k | k
  ·exact .inl ⟨k,adE ndP hp hu k⟩
  ·obtain⟨c,e⟩:=ahJ (n:=s.heap.objs.size+1) k
   refine .inr ⟨.inl k,c,e,?_⟩
   have q:=x.cell y c e
   rw[adF ndP hp hu (by show scope.names.lookup y≠_;rw[k];decide)] at q
   exact q
 ·exact e0.hok.fresh (Nat.le_of_lt (x.above y c (PySem.mem_of_lookup h)))
 ·unfold start
  show _=N.length
  rw[List.length_append,List.length_map,List.length_replicate]
  omega
theorem atB {CX:CXT}{P:Program}{w:World}{K:Frag}{mg:Str->Option Value}{base:Heap}{k:Nat}{f:Addr}{name qual:Str}{params:Arguments}{body:List Stmt}{scope:Scope}{dV kV doc pm cdv ct oc:Value}{an od:Option Addr}
  {osl:Array (Option Value)} {N ps:List Str} {sp:Sp} (lk:K.lookup f=some ⟨oc,od,.func (fnOf name qual params body scope dV kV doc pm an cdv ct),osl⟩) (hcd:codeIn K cdv qual=true) (S:aP N ps scope)
  (len:∀ vs H Q E,sp vs H Q E->vs.length=ps.length)
  (hbody:∀ (A:Around) (outer:List Env) (s:Shared) (H:Hp) (vs:List V) (Q:VK) (E:XK),tG k (A.deeper (envOfC qual scope s.heap.objs.size f cdv))->sp vs H Q E ->
   ∃ t,PSs (ajw CX P w K mg base N qual scope f cdv A outer s H E) body t/\t { nx:=fun _ H'=>Q .non H',rt:=Q } (start N vs) H) :
  bW P w K mg base CX (k+1) f (fnOf name qual params body scope dV kV doc pm an cdv ct) ps sp:=by
 refine⟨len,fun A outer s H args us vs Q E hr e0 hb r hsp=>?_⟩
 have hl:=len _ _ _ _ hsp
 have KX:K.In s.heap:=e0.mod.kin.keeps fun b o e=>(e0.bs b o e).1
 have lim:s.heap.NoLimit:=e0.mod.nolimit.keeps fun b o e=>(e0.bs b o e).1
 have hkind:∀ y∈ps.zip us,scope.names.lookup y.1=some .local∨(scope.names.lookup y.1=some .cell/\((cellsFrom (s.heap.objs.size+1) scope.names []).lookup y.1).isSome=true):=fun ⟨n,v⟩ hy=>by
  rcases S.par n (List.of_mem_zip hy).1 with q | q
  ·exact .inl q
  ·exact .inr ⟨q,PySem.W.cellsFrom_some _ _ _ (.inl q)⟩
 refine codeAny_call_function hr.depth (KX _ _ lk) rfl S.co S.gen rfl (PySem.W.codeRec_of KX hcd) (hb _ _ _ _ ?_)
 refine wpAny_newFunctionEnv_cells S.kind hkind fun env he s1 x=>?_
 subst he
 refine⟨lim.keeps x.toInCall.keep,codeAny_func ?_⟩
 obtain⟨t,ht,hq⟩:=hbody A outer s H vs Q E (hr.deeper _) hsp
 have I:Inv (ajw CX P w K mg base N qual scope f cdv A outer s H E) [] (start N vs) H s1:=am4 S hr.hd e0 hl r x
 refine wpAny_mono (ht [] s1 (start N vs) H _ I hq) (fun fl s' hs=>?_) fun e s' hs=>hs
 have fin:∀ {σ':St} {H':Hp} {v:V} {u:Value},Inv (ajw CX P w K mg base N qual scope f cdv A outer s H E) [] σ' H' s'->RelV v u->Q v H'->CE outer P w H s Q u s' :=
  fun {σ' H' v u} J rv q=>⟨v,H',J.os,J.bare,J.base,J.hok,rv,q⟩
 cases fl with
 | ret u =>
  obtain⟨v,σ',H',J,rv,q⟩:=hs
  exact fin J rv q
 | next =>
  obtain⟨σ',H',J,q⟩:=hs
  exact fin (v:=V.non) (u:=Value.none) J rfl q
 | brk =>
  obtain⟨_,_,_,q⟩:=hs
  exact False.elim q
 | cont =>
  obtain⟨_,_,_,q⟩:=hs
  exact False.elim q
end L2
namespace L2
open PySem PySem.Spec PyProof.Rows
section
variable {X:Cx} {x:Str} {p pos:Pos} {e:Expr} {es:List Expr} {t:TA} {id T:String} {r:List V->Hp->VK->Prop}
def tCB (r:List V->Hp->VK->Prop)(t:TA):TE:=fun σ H Q=>t σ H fun vs H1=>r vs H1 Q
theorem aH (hc:oh X (.builtin id) r)(hg:Gl X x)(hm:X.mg x=none)(hv:bootBuiltins x=some (.builtin id))(ha:PA X (e :: es) t)(hn:x ≠ "__name__":=by decide)(hdb:(x == ("__debug__":Str))=false:=by decide)
  (he:starEach (e :: es) X.env=(false,eval e X.env) :: starEach es X.env:=by rfl) (hpl:(backTo pos (starEach es X.env)).any (·.1)=false:=by rfl):PE X (.Call (.Name x p) (e :: es) [] pos) (tCB r t):=by
 intro pins s σ H Q I h
 refine wpAny_Call_Name_kw (v7 I hg hm hv ?_ hn hdb)
 exact PyProof.Rows.callWith_builtin1 (eX (ha pos pins s σ H _ I h) fun us s1 ⟨vs,H1,I1,r1,q1⟩=>hc pins s1 σ H1 vs us Q I1 r1 q1) he hpl
theorem cz (hc:oh X (.type T) r)(hg:Gl X x)(hm:X.mg x=none)(hv:bootBuiltins x=some (.type T))(ha:PA X (e :: es) t)(hn:x ≠ "__name__":=by decide)(hdb:(x == ("__debug__":Str))=false:=by decide)
  (he:starEach (e :: es) X.env=(false,eval e X.env) :: starEach es X.env:=by rfl) (hpl:(backTo pos (starEach es X.env)).any (·.1)=false:=by rfl):PE X (.Call (.Name x p) (e :: es) [] pos) (tCB r t):=by
 intro pins s σ H Q I h
 refine wpAny_Call_Name_kw (v7 I hg hm hv ?_ hn hdb)
 exact PyProof.Rows.callWith_type1 (eX (ha pos pins s σ H _ I h) fun us s1 ⟨vs,H1,I1,r1,q1⟩=>hc pins s1 σ H1 vs us Q I1 r1 q1) he hpl
end
end L2
namespace HT
open PySem PyProof.Rows
section
open PySem.SeqAt
open PySem.AutoSeq1 (wpAny_loadPart')
open PySem.MeetsSeq PySem.MeetsSeq2 PySem.MeetsSeq3
end
section
variable {prog:Program} {w:World} {A:Around} {E:Value->Shared->Prop} {s:Shared}
def tD (n d:Nat):Option Int->Nat
 | none=>d
 | some v=>if v < 0 then (v+(n:Int)).toNat else min v.toNat n
theorem Zu (n d:Nat):tD n d none=d:=rfl
theorem al3 (n d k:Nat):tD n d (some (k:Int))=min k n:=by
 show (if (k:Int) < 0 then ((k:Int)+(n:Int)).toNat else min (k:Int).toNat n)=min k n
 rw[if_neg (by omega),Int.toNat_natCast]
theorem auE (n d:Nat)(hd:d <= n)(o:Option Int):tD n d o <= n:=by
 cases o with
 | none=>exact hd
 | some v =>
  show (if v < 0 then (v+(n:Int)).toNat else min v.toNat n) <= n
  by_cases hv:v < 0
  ·rw[if_pos hv];omega
  ·rw[if_neg hv];exact Nat.min_le_right _ _
theorem al4 (v:Int)(n d:Nat):(if v < 0 then max (v+(n:Int)) 0 else min v (n:Int))=((tD n d (some v):Nat):Int):=by
 show (if v < 0 then max (v+(n:Int)) 0 else min v (n:Int))=(((if v < 0 then (v+(n:Int)).toNat else min v.toNat n):Nat):Int)
 by_cases hv:v < 0
 ·simp only [if_pos hv];omega
 ·simp only [if_neg hv];omega
theorem ajx (lo hi:Option Int)(n:Nat):Builtin.Slice.sliceAdjust lo hi 1 (n:Int)=(((tD n 0 lo:Nat):Int),((tD n n hi:Nat):Int)):=by
 have h1:¬ ((1:Int) < 0):=by omega
 unfold Builtin.Slice.sliceAdjust
 simp only [h1,if_false]
 refine Prod.ext ?_ ?_
 ·cases lo with
  | none=>rfl
  | some v=>exact al4 v n 0
 ·cases hi with
  | none=>rfl
  | some v=>exact al4 v n n
theorem ajy (i j:Nat):Builtin.Slice.slicePlaces (i:Int) (j:Int) 1=j - i:=by
 unfold Builtin.Slice.slicePlaces
 have h1:(1:Int) > 0:=by omega
 simp only [h1,if_true,Int.ediv_one]
 split <;> omega
theorem Zv {v:Value}{o:Option Int}{Q:Option Int->Shared->Prop}(p:IsPart v o)(h:Q o s):wpAny (model prog w) A (Builtin.Slice.slicePartIndex v) Q E s:=by
 cases p with
 | none=>exact slicePart_none h
 | int i t=>exact slicePart_int h
theorem Uj {sl:Addr}{vl vu:Value}{lo hi:Option Int}{n:Nat}{Q:Int×Int×Nat->Shared->Prop}(hs:s.heap.IsSliceOf sl vl vu .none)(pl:IsPart vl lo)(pu:IsPart vu hi)
  (h:Q (((tD n 0 lo:Nat):Int),1,tD n n hi - tD n 0 lo) s):wpAny (model prog w) A (Builtin.Slice.sliceApplied (.ref sl) (pure (n:Int))) Q E s:=by
 obtain⟨os,hos,hcs,hds⟩:=id hs
 unfold Builtin.Slice.sliceApplied Builtin.Slice.sliceFields
 refine wpAny_bind (wpAny_bind (wpAny_field hos hds (x:=vl) rfl (wpAny_bind (wpAny_field hos hds (x:=vu) rfl (wpAny_bind (wpAny_field hos hds (x:=.none) rfl (wpAny_pure ?_)))))))
 refine wpAny_bind (slicePart_none ?_)
 show wpAny _ _ (if ((1:Int) == 0)=true then _ else _) _ _ s
 rw[if_neg (by decide)]
 refine wpAny_bind (Zv pl (wpAny_bind (Zv pu (wpAny_bind (wpAny_pure ?_)))))
 show wpAny _ _ (match Builtin.Slice.sliceAdjust lo hi 1 (n:Int) with | (lo,hi)=>pure (lo,(1:Int),Builtin.Slice.slicePlaces lo hi 1)) _ _ s
 rw[ajx lo hi n]
 show wpAny _ _ (pure (((tD n 0 lo:Nat):Int),(1:Int),Builtin.Slice.slicePlaces ((tD n 0 lo:Nat):Int) ((tD n n hi:Nat):Int) 1)) _ _ s
 rw[ajy]
 exact wpAny_pure h
theorem apD (xs:Array Value)(i k:Nat):((List.range k).filterMap fun (m:Nat)=>xs[((i:Int)+(m:Int) * 1).toNat]?).toArray=((xs.toList.drop i).take k).toArray:=by
 have e:(fun (m:Nat)=>xs[((i:Int)+(m:Int) * 1).toNat]?)=fun m=>xs[i+m]?:=by
  funext m
  have:((i:Int)+(m:Int) * 1).toNat=i+m:=by omega
  rw[this]
 rw[e]
 have:=pick_run xs i k
 rw[List.filterMap_map] at this
 have e2:((fun x=>xs[x]?) ∘ fun x=>i+x)=fun m=>xs[i+m]?:=rfl
 rw[e2] at this
 rw[this]
theorem QF {t sl:Addr}{items:Array Value}{vl vu:Value}{lo hi:Option Int}{Q:Value->Shared->Prop}(ht:IsTup s.heap t items)(hs:s.heap.IsSliceOf sl vl vu .none)(pl:IsPart vl lo)(pu:IsPart vu hi)
  (hw:¬ (tD items.size 0 lo=0/\tD items.size items.size hi=items.size))
  (h:Q (.ref s.heap.objs.size) { s with heap:=s.heap.push { cls:=.type "tuple",data:=.seq ((items.toList.drop (tD items.size 0 lo)).take (tD items.size items.size hi - tD items.size 0 lo)).toArray } })
  (hsz:items.size <= sizeLine):wpAny (model prog w) A (getItem (.ref t) (.ref sl)) Q E s:=by
 have al5:sizeOk (.seq ((items.toList.drop (tD items.size 0 lo)).take (tD items.size items.size hi - tD items.size 0 lo)).toArray):=by
  show ((items.toList.drop (tD items.size 0 lo)).take (tD items.size items.size hi - tD items.size 0 lo)).toArray.size <= sizeLine
  rw[List.size_toArray,List.length_take,List.length_drop,Array.length_toList]
  omega
 have hj:tD items.size items.size hi <= items.size:=auE _ _ (Nat.le_refl _) hi
 obtain⟨os,hos,hcs,hds⟩:=id hs
 have hTs:s.TypeIs (.ref sl) "slice":=⟨os,hos,hcs⟩
 unfold getItem
 try with_reducible refine wpAny_holding ?_
 first | refine wpAny_bind (wpAny_pure ?_) | skip
 refine wpAny_bind (wpAny_sequenceKey ht.typeIs (by decide) ?_)
 refine wpAny_bind (wpAny_callSpecial?_slot (name:=Str.ofString "__getitem__") ht.typeIs PyProof.Rows.slot_tuple_getitem
  (wpAny_call_entry PyProof.Rows.slot_tuple_getitem ht.typeIs entry_tuple_getitem ?_ (args_tuple_getitem _ _)))
 show wpAny _ _ (Builtin.Tuple.tupleItemsOf (.ref t) >>= _) _ _ s
 refine wpAny_bind (tupleItemsOf_ ht ?_)
 refine wpAny_bind (wpAny_typeOf hTs ?_)
 rw[if_pos (by decide)]
 refine wpAny_bind (Uj hs pl pu ?_)
 have hno:¬ ((((tD items.size 0 lo:Nat):Int) == 0 && (1:Int) == 1 && (tD items.size items.size hi - tD items.size 0 lo) == items.size)=true):=by
  intro q
  rw[Bool.and_eq_true,Bool.and_eq_true] at q
  have q1:((tD items.size 0 lo:Nat):Int)=0:=eq_of_beq q.1.1
  have q2:tD items.size items.size hi - tD items.size 0 lo=items.size:=eq_of_beq q.2
  exact hw ⟨by omega,by omega⟩
 show wpAny _ _ (if (((tD items.size 0 lo:Nat):Int) == 0 && (1:Int) == 1 && (tD items.size items.size hi - tD items.size 0 lo) == items.size)=true then _ else _) _ _ s
 rw[if_neg hno,apD]
 first
  | exact wpAny_bind (m:=Builtin.Tuple.tupleExact _) (wpAny_newObj_type (wpAny_pure ⟨_,rfl,wpAny_pure h⟩) al5)
  | exact wpAny_bind (m:=Builtin.Tuple.tupleExact _) (wpAny_newObj_type (wpAny_bind (wpAny_pure (wpAny_pure ⟨_,rfl,wpAny_pure h⟩))) al5)
  | exact wpAny_bind (wpAny_bind (m:=Builtin.Tuple.tupleExact _) (wpAny_newObj_type (wpAny_pure (wpAny_pure ⟨_,rfl,wpAny_pure h⟩)) al5))
  | exact wpAny_bind (wpAny_bind (m:=Builtin.Tuple.tupleExact _) (wpAny_newObj_type (wpAny_pure ⟨_,rfl,wpAny_pure h⟩) al5))
end
end HT
namespace L2
open PySem PySem.Spec PyProof.Rows
abbrev TO:=St->Hp->(Option Int->Hp->Prop)->Prop
def PO (X:Cx)(e:Option Expr)(t:TO):Prop :=
 ∀ (pins:List (Addr×Obj)) (s:Shared) (σ:St) (H:Hp) (Q:Option Int->Hp->Prop),Inv X pins σ H s->t σ H Q ->
  wpAny (model X.prog X.w) X.A (evalPart e X.env) (fun u s'=>∃ o H',Inv X pins σ H' s'/\IsPart u o/\Q o H') X.xe s
def asd:TO:=fun _ H Q=>Q none H
inductive apE (Q:(Option Int->Hp->Prop))(x:V)(H1:Hp):Prop
 | mk (i:_) (gj:x=.int i) (gk:Q (some i) H1):apE Q x H1
def awx (t:TE):TO:=fun σ H Q=>t σ H fun x H1=>apE Q x H1
section
variable {X:Cx} {e:Expr} {te:TE} {lo hi:Option Expr} {tl th:TO} {pos p2:Pos}
theorem vo:PO X none asd:=by
 intro pins s σ H Q I h
 rw[evalPart_none]
 exact wpAny_pure ⟨none,H,I,.none,h⟩
theorem lE (h:PE X e te):PO X (some e) (awx te):=by
 intro pins s σ H Q I hw
 rw[evalPart_some]
 refine eX (h pins s σ H _ I hw) fun u s1 ⟨x,H1,I1,r1,q1⟩=>?_
 obtain⟨i,rfl,q⟩:=q1
 obtain⟨t,rfl⟩:=r1
 exact⟨some i,H1,I1,.int i t,q⟩
def SlR (X:Cx)(r:V->Option Int->Option Int->Hp->VK->Prop):Prop :=
 ∀ (pins:List (Addr×Obj)) (s:Shared) (σ:St) (H:Hp) (x:V) (v vl vu:Value) (lo hi:Option Int) (sl:Addr) (Q:VK),Inv X pins σ H s->RelV x v->s.heap.IsSliceOf sl vl vu .none->IsPart vl lo->IsPart vu hi->r x lo hi H Q ->
  ∃ T id,typeLookup (.type T) "__getitem__" = pure (some (.builtin id))/\s.TypeIs v T/\wpAny (model X.prog X.w) X.A (getItem v (.ref sl)) (EP X pins σ Q) X.xe s
theorem SlR.or {r r':V->Option Int->Option Int->Hp->VK->Prop}(h:SlR X r)(h':SlR X r'):SlR X (fun x lo hi H Q=>r x lo hi H Q∨r' x lo hi H Q):=by
 intro pins s σ H x v vl vu lo hi sl Q I rx hs pl pu q
 rcases q with q | q
 ·exact h pins s σ H x v vl vu lo hi sl Q I rx hs pl pu q
 ·exact h' pins s σ H x v vl vu lo hi sl Q I rx hs pl pu q
def tSl (r:V->Option Int->Option Int->Hp->VK->Prop)(te:TE)(tl th:TO):TE:=fun σ H Q=>te σ H fun x H1=>tl σ H1 fun l H2=>th σ H2 fun u H3=>r x l u H3 Q
theorem ou {r:V->Option Int->Option Int->Hp->VK->Prop}(hr:SlR X r)(he:PE X e te)(hl:PO X lo tl)(hu:PO X hi th):PE X (.Subscript e (.Slice lo hi none p2) pos) (tSl r te tl th):=by
 intro pins s σ H Q I h
 refine Subscript_ (eX (he pins s σ H _ I h) fun v s1 ⟨x,H1,I1,r1,q1⟩=>?_)
 refine wpAny_Slice (eX (hl pins s1 σ H1 _ I1 q1) fun vl s2 ⟨l,H2,I2,pl,q2⟩=>eX (hu pins s2 σ H2 _ I2 q2) fun vu s3 ⟨u,H3,I3,pu,q3⟩=>?_)
 rw[evalPart_none]
 refine wpAny_pure ?_
 have I4:Inv X pins σ H3 { s3 with heap:=s3.heap.push { cls:=.type "slice",data:=.fields #[vl,vu,.none] } }:=I3.kept (t':=s3.toks) fun b ob q=>Heap.get?_push_of_some _ q
 obtain⟨T,id,hT,ht,hg⟩:=hr pins { s3 with heap:=s3.heap.push { cls:=.type "slice",data:=.fields #[vl,vu,.none] } } σ H3 x v vl vu l u s3.heap.objs.size Q I4 r1 (Heap.IsSliceOf.new ..) pl pu q3
 show wpAny (model X.prog X.w) X.A (subscriptTail e (.Slice lo hi none p2) v (.ref s3.heap.objs.size)) (EP X pins σ Q) X.xe { s3 with heap:=s3.heap.push { cls:=.type "slice",data:=.fields #[vl,vu,.none] } }
 exact tail_any (ops:=[.ref s3.heap.objs.size,v]) ht hT hg (by with_unfolding_all rfl)
def MT (xs:List V)(lo hi:Option Int):List V:=(xs.drop (HT.tD xs.length 0 lo)).take (HT.tD xs.length xs.length hi - HT.tD xs.length 0 lo)
theorem XC (xs:List V)(lo hi:Option Int):(MT xs lo hi).length <= xs.length:=by
 unfold MT
 rw[List.length_take,List.length_drop]
 omega
inductive atE (K:Frag)(x:V)(lo:Option Int)(hi:Option Int)(H:Hp)(Q:VK):Prop
 | mk (a:_) (xs:_) (gj:x=.ref a) (gk:nJ K H a xs) (jc:¬ (HT.tD xs.length 0 lo=0/\HT.tD xs.length xs.length hi=xs.length)) (n8:∀ p,H p=none->Q (.ref p) (upd H p (.tup (MT xs lo hi)))):atE K x lo hi H Q
def ayI (K:Frag):V->Option Int->Option Int->Hp->VK->Prop:=fun x lo hi H Q=>atE K x lo hi H Q
theorem BJ:SlR X (ayI X.K):=by
 intro pins s σ H x v vl vu lo hi sl Q I rx hs pl pu h
 obtain⟨a,xs,rfl,hx,hw,q⟩:=h
 cases rx
 obtain⟨its,r,ht,hz⟩:=I.tuple hx
 have hlen:its.toArray.size=xs.length:=by rw[List.size_toArray];exact r.length.symm
 refine⟨"tuple",_,PyProof.Rows.slot_tuple_getitem.lookup,ht.typeIs,?_⟩
 refine HT.QF ht hs pl pu (by rw[hlen];exact hw) ?_ (by rw[hlen];exact hz)
 rw[hlen]
 refine⟨.ref s.heap.objs.size,_,I.laid (t':=s.toks) (o:=.tup (MT xs lo hi)) (fun b ob q=>Heap.get?_push_of_some _ q) (Nat.le_refl _) ?_,rfl,q _ (I.hok.fresh (Nat.le_refl _))⟩
 exact⟨Nat.le_trans (XC xs lo hi) hz,_,(r.drop (HT.tD xs.length 0 lo)).take (HT.tD xs.length xs.length hi - HT.tD xs.length 0 lo),IsTup.new _ _⟩
end
end L2
namespace L2
open PySem PySem.Spec PyProof.Rows
def ixN (n:Nat)(i:Int):Option Nat:=if 0 <= i then (if i < n then some i.toNat else none) else if -(n:Int) <= i then some (i+n).toNat else none
def atI {α:Type}(xs:List α)(i:Int):Option α:=(ixN xs.length i).bind fun j=>xs[j]?
theorem al6 {n:Nat}{i:Int}{j:Nat}(h:ixN n i=some j):seqIndex? i n=some j/\j < n/\-(n:Int) <= i/\i < n:=by
 unfold ixN at h
 by_cases h0:0 <= i
 ·rw[if_pos h0] at h
  by_cases h1:i < n
  ·rw[if_pos h1] at h
   have e:i.toNat=j:=Option.some.inj h
   exact⟨by rw[seqIndex_of h0 h1,e],by omega,by omega,h1⟩
  ·rw[if_neg h1] at h;cases h
 ·rw[if_neg h0] at h
  by_cases h1:-(n:Int) <= i
  ·rw[if_pos h1] at h
   have e:(i+n).toNat=j:=Option.some.inj h
   exact⟨by rw[seqIndex_neg (by omega) h1,e],by omega,h1,by omega⟩
  ·rw[if_neg h1] at h;cases h
theorem aev {α:Type}{xs:List α}{i:Int}{v:α}(h:atI xs i=some v):∃ j,seqIndex? i xs.length=some j/\xs[j]? = some v/\j < xs.length/\-(xs.length:Int) <= i/\i < xs.length:=by
 unfold atI at h
 cases e:ixN xs.length i with
 | none=>rw[e] at h;cases h
 | some j =>
  rw[e] at h
  obtain⟨h1,h2,h3,h4⟩:=al6 e
  exact⟨j,h1,h,h2,h3,h4⟩
theorem QG {α:Type}{xs:List α}{j:Nat}{v:α}(h:xs[j]? = some v):atI xs (j:Int)=some v:=by
 have hj:j < xs.length:=(List.getElem?_eq_some_iff.mp h).1
 have e:ixN xs.length (j:Int)=some j:=by
  unfold ixN
  rw[if_pos (by omega),if_pos (by omega)];simp
 unfold atI;rw[e];exact h
theorem HN {α:Type}(xs:List α)(v:α):atI (xs++[v]) (-1)=some v:=by
 have hl:(xs++[v]).length=xs.length+1:=by simp
 have e:ixN (xs++[v]).length (-1)=some xs.length:=by
  unfold ixN
  rw[hl,if_neg (by decide),if_pos (by omega)]
  congr 1
  omega
 unfold atI
 rw[e]
 show (xs++[v])[xs.length]? = some v
 simp
def ase (b:Expr):Prop:=∀ o i,subscripted b false o i=operate [o,i] (getItem o i)
def IxR (X:Cx)(r:R2):Prop :=
 ∀ (value slice:Expr) (pins:List (Addr×Obj)) (s:Shared) (σ:St) (H:Hp) (x y:V) (v u:Value) (Q:VK),Inv X pins σ H s->RelV x v->RelV y u->r x y H Q ->
  subscripted slice false v u=operate [v,u] (getItem v u)->wpAny (model X.prog X.w) X.A (subscriptTail value slice v u) (EP X pins σ Q) X.xe s
def MtR (X:Cx)(id:String)(r:V->List V->Hp->VK->Prop):Prop :=
 ∀ (pins:List (Addr×Obj)) (s:Shared) (σ:St) (H:Hp) (x:V) (xs:List V) (v:Value) (us:List Value) (Q:VK),Inv X pins σ H s->RelV x v->Vals xs us->r x xs H Q ->
  wpAny (model X.prog X.w) X.A (call (.builtin id) (v :: us)) (EP X pins σ Q) X.xe s
section
variable {X:Cx} {a b:Expr} {ta tb:TE} {pos:Pos}
theorem IxR.or {r r':R2}(h:IxR X r)(h':IxR X r'):IxR X (fun x y H Q=>r x y H Q∨r' x y H Q):=by
 intro value slice pins s σ H x y v u Q I rx ry q hs
 rcases q with q | q
 ·exact h value slice pins s σ H x y v u Q I rx ry q hs
 ·exact h' value slice pins s σ H x y v u Q I rx ry q hs
theorem bH {r:R2}(hr:IxR X r)(ha:PE X a ta)(hb:PE X b tb)(hs:ase b):PE X (.Subscript a b pos) (tOp r ta tb):=by
 intro pins s σ H Q I h
 exact Subscript_ (auA ha hb I h fun v u s2 x y H2 I2 rx ry q=>hr a b pins s2 σ H2 x y v u Q I2 rx ry q (hs _ _))
inductive atF (K:Frag)(x:V)(y:V)(H:Hp)(Q:VK):Prop
 | mk (p:_) (xs:_) (i:_) (v:_) (gj:x=.ref p) (gk:y=.int i) (jc:bh K H p xs) (n8:atI xs i=some v) (xJ:Q v H):atF K x y H Q
def ahK (K:Frag):R2:=fun x y H Q=>atF K x y H Q
inductive atG (K:Frag)(x:V)(y:V)(H:Hp)(Q:VK):Prop
 | mk (p:_) (xs:_) (i:_) (v:_) (gj:x=.ref p) (gk:y=.int i) (jc:nJ K H p xs) (n8:atI xs i=some v) (xJ:Q v H):atG K x y H Q
def ahL (K:Frag):R2:=fun x y H Q=>atG K x y H Q
inductive atH (x:V)(y:V)(H:Hp)(Q:VK):Prop
 | mk (z:_) (i:_) (c:_) (gj:x=.str z) (gk:y=.int i) (jc:z.length <= sizeLine) (n8:atI z.cps.toList i=some c) (xJ:Q (.str ⟨#[c]⟩) H):atH x y H Q
def ahM :R2:=fun x y H Q=>atH x y H Q
theorem asf:IxR X (ahK X.K):=by
 intro value slice pins s σ H x y v u Q I rx ry h hs
 obtain⟨p,xs,i,z,rfl,rfl,hq,he,q⟩:=h
 cases rx
 obtain⟨t,rfl⟩:=ry
 obtain⟨its,r,pl,hz⟩:=I.list hq
 obtain⟨j,h1,h2,h3,h4,h5⟩:=aev he
 obtain⟨w,ew,rw'⟩:=r.get h2
 have hl:=r.length
 have hn:=Uh
 have fin:EP X pins σ Q w s:=⟨z,H,I,rw',q⟩
 by_cases h0:0 <= i
 ·have hj:i.toNat=j:=by
   rw[seqIndex_of h0 h5] at h1
   exact Option.some.inj h1
  exact item_listR pl.isList h0 (by omega) (by rw[hj];simpa using ew) fin hs
 ·have hj:(i+(its.toArray.size:Int)).toNat=j:=by
   rw[seqIndex_neg (by omega) h4] at h1
   rw[List.size_toArray,← hl]
   exact Option.some.inj h1
  exact subscriptTail_builtinR (x:=w) pl.isList.typeIs slot_list_getitem.lookup
   (wpAny_getItem_list_neg (Q:=fun r s'=>r=w/\EP X pins σ Q r s') pl.isList (by omega) (by rw[List.size_toArray] <;> omega) (by omega) (by rw[hj];simpa using ew) ⟨rfl,fin⟩) hs
theorem auF:IxR X (ahL X.K):=by
 intro value slice pins s σ H x y v u Q I rx ry h hs
 obtain⟨p,xs,i,z,rfl,rfl,hq,he,q⟩:=h
 cases rx
 obtain⟨t,rfl⟩:=ry
 obtain⟨its,r,pl,hz⟩:=I.tuple hq
 obtain⟨j,h1,h2,h3,h4,h5⟩:=aev he
 obtain⟨w,ew,rw'⟩:=r.get h2
 have hl:=r.length
 have hn:=Uh
 have fin:EP X pins σ Q w s:=⟨z,H,I,rw',q⟩
 exact subscriptTail_builtinR (x:=w) pl.typeIs slot_tuple_getitem.lookup
  (getItem_tuple (j:=j) (Q:=fun r s'=>r=w/\EP X pins σ Q r s') pl (by omega) (by omega) (by rw[List.size_toArray,← hl];exact h1) (by simpa using ew) ⟨rfl,fin⟩) hs
theorem auG:IxR X ahM:=by
 intro value slice pins s σ H x y v u Q I rx ry h hs
 obtain⟨z,i,c,rfl,rfl,hz,he,q⟩:=h
 obtain⟨t,rfl⟩:=rx
 obtain⟨t',rfl⟩:=ry
 obtain⟨j,h1,h2,h3,h4,h5⟩:=aev he
 have hl:z.cps.toList.length=z.length:=by simp[Str.length]
 rw[hl] at h1 h4 h5
 have hn:=Uh
 exact tail_any (typeIs_str s z t) slot_str_getitem.lookup (getItem_str (c:=c) (by
  have e1:decide (i < -(2 ^ 63:Int))=false:=decide_eq_false (by omega)
  have e2:decide (i ≥ 2 ^ 63)=false:=decide_eq_false (by omega)
  rw[e1,e2,Bool.or_false]) (by rw[h1];simpa using h2) ⟨.str ⟨#[c]⟩,H,I.tok _,⟨_,rfl⟩,q⟩) hs
def rIx (K:Frag):R2:=fun x y H Q=>ahK K x y H Q∨ahL K x y H Q∨ahM x y H Q
theorem bx:IxR X (rIx X.K):=asf.or (auF.or auG)
theorem ajz (its:List Value)(n j:Nat)(u:Value):Obj.mapSeq (·.setIfInBounds j u) { cls:=.type "list",data:=.seq its.toArray n } = { cls:=.type "list",data:=.seq (its.set j u).toArray n }:=by
 simp[Obj.mapSeq]
theorem Inv.lst {pins:List (Addr×Obj)}{σ:St}{H:Hp}{s:Shared}{p:Addr}{xs:List V}(I:Inv X pins σ H s)(h:H p=some (.lst xs)) :
  ∃ (its:List Value) (n:Nat),Vals xs its/\s.heap.get? p=some { cls:=.type "list",data:=.seq its.toArray n }/\xs.length <= sizeLine:=by
 obtain⟨z,its,n,r,e⟩:=I.hok p _ h
 exact⟨its,n,r,e,z⟩
theorem Inv.auH {pins:List (Addr×Obj)}{σ:St}{H:Hp}{s:Shared}{p:Addr}{xs ys:List V}{its its':List Value}{n n':Nat}{f:Obj->Obj}(I:Inv X pins σ H s)(h:H p=some (.lst xs))
  (ho:s.heap.get? p=some { cls:=.type "list",data:=.seq its.toArray n }) (hf:f { cls:=.type "list",data:=.seq its.toArray n } = { cls:=.type "list",data:=.seq its'.toArray n' }) (r:Vals ys its') (hz:ys.length <= sizeLine) (t:Nat) :
  Inv X pins σ (upd H p (.lst ys)) { s with heap:=s.heap.update p f,toks:=t }:=by
 have e:(s.heap.update p f).get? p=some { cls:=.type "list",data:=.seq its'.toArray n' }:=by
  rw[Heap.get?_update_self f ho (by rw[hf] <;> rfl),hf]
 refine I.write (x:=p) (e:=p) (by rw[h];trivial) (.inl rfl) (fun b u hb q=>(Heap.get?_update_other _ _ (Ne.symm hb)).trans q) ⟨_,e⟩ ?_
 exact⟨hz,its',n',r,e⟩
inductive apG (o:V)(i:V)(v:V)(H:Hp)(Q:(Hp->Prop)):Prop
 | mk (p:_) (xs:_) (k:_) (j:_) (gj:o=.ref p) (gk:i=.int k) (jc:H p=some (.lst xs)) (n8:ixN xs.length k=some j) (xJ:Q (upd H p (.lst (xs.set j v)))):apG o i v H Q
def awy :V->V->V->Hp->(Hp->Prop)->Prop:=fun o i v H Q=>apG o i v H Q
theorem set_list:awk X awy:=by
 intro pins s σ H o i v ov iv u Q I ro ri rv h
 obtain⟨p,xs,k,j,rfl,rfl,hp,hj,q⟩:=h
 cases ro
 obtain⟨t,rfl⟩:=ri
 obtain⟨its,n,r,ho,hz⟩:=I.lst hp
 obtain⟨h1,h2,h3,h4⟩:=al6 hj
 have hl:=r.length
 have hn:=Uh
 have I':Inv X pins σ (upd H p (.lst (xs.set j v))) { s with heap:=s.heap.update p (Obj.mapSeq (·.setIfInBounds j u)) } :=
  I.auH hp ho (ajz its n j u) (r.set rv j) (by rw[List.length_set];exact hz) s.toks
 by_cases h0:0 <= k
 ·have hk:k.toNat=j:=by
   rw[seqIndex_of h0 h4] at h1
   exact Option.some.inj h1
  exact PySem.W.ki_setAt ho h0 (by omega) (by rw[List.size_toArray,← hl];exact h4) (by rw[hk];exact⟨_,I',q⟩)
 ·have hk:(k+(its.toArray.size:Int)).toNat=j:=by
   rw[seqIndex_neg (by omega) h3] at h1
   rw[List.size_toArray,← hl]
   exact Option.some.inj h1
  exact PySem.W.ki_setBack ho (by omega) (by rw[List.size_toArray,← hl];exact h3) (by omega) (by rw[hk];exact⟨_,I',q⟩)
theorem aew (lo hi:Option Int)(n:Nat):(sliceBounds lo hi none n).1=((HT.tD n 0 lo:Nat):Int)/\(sliceBounds lo hi none n).2.1=((HT.tD n n hi:Nat):Int)/\(sliceBounds lo hi none n).2.2=1:=by
 refine⟨?_,?_,rfl⟩
 ·cases lo with
  | none=>simp[sliceBounds,HT.tD]
  | some i =>
   simp only [sliceBounds,HT.tD,Option.getD_none,show (1:Int) > 0 by decide,if_true]
   by_cases h:i < 0
   ·simp only [h,if_true] <;> omega
   ·simp only [h,if_false] <;> omega
 ·cases hi with
  | none=>simp[sliceBounds,HT.tD]
  | some i =>
   simp only [sliceBounds,HT.tD,Option.getD_none,show (1:Int) > 0 by decide,if_true]
   by_cases h:i < 0
   ·simp only [h,if_true] <;> omega
   ·simp only [h,if_false] <;> omega
theorem acF (its:List Value)(lo hi:Option Int):slicePick its.toArray lo hi none=((its.drop (HT.tD its.length 0 lo)).take (HT.tD its.length its.length hi - HT.tD its.length 0 lo)).toArray:=by
 obtain⟨h1,h2,h3⟩:=aew lo hi its.toArray.size
 unfold slicePick
 rw[h1,h2,h3]
 simp only [sliceRange_one,pick_run,List.size_toArray] <;> rfl
inductive atJ (K:Frag)(x:V)(lo:Option Int)(hi:Option Int)(H:Hp)(Q:VK):Prop
 | mk (a:_) (xs:_) (gj:x=.ref a) (gk:bh K H a xs) (jc:∀ p,H p=none->Q (.ref p) (upd H p (.lst (MT xs lo hi)))):atJ K x lo hi H Q
def ayJ (K:Frag):V->Option Int->Option Int->Hp->VK->Prop:=fun x lo hi H Q=>atJ K x lo hi H Q
theorem vq:SlR X (ayJ X.K):=by
 intro pins s σ H x v vl vu lo hi sl Q I rx hs pl pu h
 obtain⟨a,xs,rfl,hx,q⟩:=h
 cases rx
 obtain⟨its,r,ht,hz⟩:=I.list hx
 have hlen:=r.length
 refine⟨"list",_,slot_list_getitem.lookup,ht.isList.typeIs,?_⟩
 refine wpAny_getItem_list_slice ht.isList hs pl pu .none (by simp) ?_ (by rw[List.size_toArray] <;> omega)
 rw[acF,← hlen]
 refine⟨.ref s.heap.objs.size,_,I.laid (t':=s.toks) (o:=.lst (MT xs lo hi)) (fun b ob q=>Heap.get?_push_of_some _ q) (Nat.le_refl _) ?_,rfl,q _ (I.hok.fresh (Nat.le_refl _))⟩
 exact⟨Nat.le_trans (XC xs lo hi) hz,_,0,(r.drop (HT.tD xs.length 0 lo)).take (HT.tD xs.length xs.length hi - HT.tD xs.length 0 lo),Heap.get?_push_size _ rfl⟩
def Hh:V->Bool
 | .non=>true
 | .bl _=>true
 | .int _=>true
 | .str _=>true
 | _=>false
def eqV:V->V->Bool
 | .non,.non=>true
 | .bl a,.bl b=>a == b
 | .bl a,.int b=>(if a then 1 else 0) == b
 | .int a,.bl b=>a == (if b then 1 else 0)
 | .int a,.int b=>a == b
 | .str a,.str b=>a == b
 | _,_=>false
theorem apH {A:Around}{s:Shared}{y x:V}{u v:Value}(ry:RelV y u)(rx:RelV x v)(fy:Hh y=true)(fx:Hh x=true):SeqAt.EqAt A s u v (eqV y x):=by
 cases y with
 | non =>
  cases ry
  cases x with
  | non=>cases rx;exact SeqAt.EqAt.same _
  | bl b=>cases rx;exact SeqAt.EqAt.none_bool b
  | int b=>obtain⟨t,rfl⟩:=rx;exact SeqAt.EqAt.none_int b t
  | str b=>obtain⟨t,rfl⟩:=rx;exact SeqAt.EqAt.none_str b t
  | _=>exact absurd (show false=true from fx) Bool.false_ne_true
 | bl a =>
  cases ry
  cases x with
  | non=>cases rx;exact SeqAt.EqAt.bool_none a
  | bl b=>cases rx;exact SeqAt.EqAt.bool_bool a b
  | int b=>obtain⟨t,rfl⟩:=rx;exact SeqAt.EqAt.bool_int a b t
  | str b=>obtain⟨t,rfl⟩:=rx;exact SeqAt.EqAt.bool_str a b t
  | _=>exact absurd (show false=true from fx) Bool.false_ne_true
 | int a =>
  obtain⟨t',rfl⟩:=ry
  cases x with
  | non=>cases rx;exact SeqAt.EqAt.int_none a t'
  | bl b=>cases rx;exact SeqAt.EqAt.int_bool a t' b
  | int b=>obtain⟨t,rfl⟩:=rx;exact SeqAt.EqAt.int_int a t' b t
  | str b=>obtain⟨t,rfl⟩:=rx;exact SeqAt.EqAt.int_str a t' b t
  | _=>exact absurd (show false=true from fx) Bool.false_ne_true
 | str a =>
  obtain⟨t',rfl⟩:=ry
  cases x with
  | non=>cases rx;exact SeqAt.EqAt.str_none a t'
  | bl b=>cases rx;exact SeqAt.EqAt.str_bool a t' b
  | int b=>obtain⟨t,rfl⟩:=rx;exact SeqAt.EqAt.str_int a t' b t
  | str b=>obtain⟨t,rfl⟩:=rx;exact SeqAt.EqAt.str_str a t' b t
  | _=>exact absurd (show false=true from fx) Bool.false_ne_true
 | _=>exact absurd (show false=true from fy) Bool.false_ne_true
def eqU (x:V)(u:Value):Bool:=match u with
 | .none=>eqV .non x
 | .bool b=>eqV (.bl b) x
 | .int i _=>eqV (.int i) x
 | .str z _=>eqV (.str z) x
 | _=>false
theorem apI {x y:V}{u:Value}(r:RelV y u)(f:Hh y=true):eqU x u=eqV y x:=by
 cases y with
 | non=>cases r;rfl
 | bl b=>cases r;rfl
 | int i=>obtain⟨t,rfl⟩:=r;rfl
 | str z=>obtain⟨t,rfl⟩:=r;rfl
 | _=>exact absurd (show false=true from f) Bool.false_ne_true
theorem QH {x:V}:∀ {xs:List V} {us:List Value},Vals xs us->xs.all Hh=true->us.any (eqU x)=xs.any fun y=>eqV y x
 | _,_,.nil,_=>rfl
 | y :: xs,u :: us,.cons r t,f=>by
  rw[List.all_cons,Bool.and_eq_true] at f
  rw[List.any_cons,List.any_cons,apI r f.1,QH t f.2]
theorem HQ {A:Around}{s:Shared}{x:V}{v:Value}(rx:RelV x v)(fx:Hh x=true):∀ {xs:List V} {us:List Value},Vals xs us->xs.all Hh=true->∀ u∈us,SeqAt.EqAt A s u v (eqU x u)
 | _,_,.nil,_=>fun u hu=>by cases hu
 | y :: xs,u :: us,.cons r t,f=>fun u' hu=>by
  rw[List.all_cons,Bool.and_eq_true] at f
  rcases List.mem_cons.mp hu with rfl | hu
  ·rw[apI r f.1];exact apH r rx f.1 fx
  ·exact HQ rx fx t f.2 u' hu
def inV (x:V)(xs:List V):Bool:=xs.any fun y=>eqV y x
inductive awz (K:Frag)(neg:Bool)(x:V)(y:V)(H:Hp)(Q:VK):Prop
 | mk (p:_) (xs:_) (gj:y=.ref p) (gk:(bh K H p xs∨nJ K H p xs)) (jc:Hh x=true) (n8:xs.all Hh=true) (xJ:Q (.bl (if neg then !inV x xs else inV x xs)) H):awz K neg x y H Q
def rIn (K:Frag)(neg:Bool):R2:=fun x y H Q=>awz K neg x y H Q
theorem gw:En X (compareOp .In) (rIn X.K false):=by
 intro pins s σ H x y v u Q I rx ry h
 obtain⟨p,xs,rfl,hq,fx,fs,q⟩:=h
 cases ry
 rcases hq with hq | hq
 ·obtain⟨its,r,pl,hz⟩:=I.list hq
  refine SeqAt.in_listAt (eqU x) pl.isList (fun w hw=>HQ rx fx r fs w (by simpa using hw)) ⟨.bl _,H,I,rfl,?_⟩
  rw[show its.toArray.any (eqU x)=its.any (eqU x) by simp,QH r fs]
  exact q
 ·obtain⟨its,r,pl,hz⟩:=I.tuple hq
  refine SeqAt.in_tupleAt (eqU x) pl (fun w hw=>HQ rx fx r fs w (by simpa using hw)) ⟨.bl _,H,I,rfl,?_⟩
  rw[show its.toArray.any (eqU x)=its.any (eqU x) by simp,QH r fs]
  exact q
theorem QJ:En X (compareOp .NotIn) (rIn X.K true):=by
 intro pins s σ H x y v u Q I rx ry h
 obtain⟨p,xs,rfl,hq,fx,fs,q⟩:=h
 cases ry
 rcases hq with hq | hq
 ·obtain⟨its,r,pl,hz⟩:=I.list hq
  refine SeqAt.notIn_listAt (eqU x) pl.isList (fun w hw=>HQ rx fx r fs w (by simpa using hw)) ⟨.bl _,H,I,rfl,?_⟩
  rw[show its.toArray.any (eqU x)=its.any (eqU x) by simp,QH r fs]
  exact q
 ·obtain⟨its,r,pl,hz⟩:=I.tuple hq
  refine SeqAt.notIn_tupleAt (eqU x) pl (fun w hw=>HQ rx fx r fs w (by simpa using hw)) ⟨.bl _,H,I,rfl,?_⟩
  rw[show its.toArray.any (eqU x)=its.any (eqU x) by simp,QH r fs]
  exact q
theorem QK:En X (compareOp .NotIn) (fun x y H Q=>∃ i j,x=.str i/\y=.str j/\Q (.bl (!(!(Builtin.Str.occurrences j i 0 j.length 1).isEmpty))) H):=by
 intro pins s σ H x y v u Q I rx ry h
 obtain⟨i,j,rfl,rfl,q⟩:=h
 obtain⟨t,rfl⟩:=rx
 obtain⟨t',rfl⟩:=ry
 exact notIn_str ⟨.bl _,H,I,rfl,q⟩
theorem aM:oh X (.builtin "len") (fun xs H Q=>∃ p ys,xs=[.ref p]/\(bh X.K H p ys∨nJ X.K H p ys)/\Q (.int ys.length) H):=by
 intro pins s σ H xs us Q I r h
 obtain⟨p,ys,rfl,hq,q⟩:=h
 obtain⟨u,rfl,rx⟩:=vals1 r
 cases rx
 have hn:=Uh
 rcases hq with hq | hq
 ·obtain⟨its,r',pl,hz⟩:=I.list hq
  have hlen:=r'.length
  exact Calls.call_len_list pl.isList (by simp only [List.size_toArray] <;> omega) ⟨.int ys.length,H,I.tok _,⟨s.toks+1,by rw[List.size_toArray,hlen]⟩,q⟩
 ·obtain⟨its,r',pl,hz⟩:=I.tuple hq
  have hlen:=r'.length
  exact len_tuple pl (by simp only [List.size_toArray] <;> omega) ⟨.int ys.length,H,I.tok _,⟨s.toks+1,by rw[List.size_toArray,hlen]⟩,q⟩
theorem aN:oh X (.builtin "len") (fun xs H Q=>∃ z,xs=[.str z]/\z.length <= sizeLine/\Q (.int z.length) H):=by
 intro pins s σ H xs us Q I r h
 obtain⟨z,rfl,hz,q⟩:=h
 obtain⟨u,rfl,t,rfl⟩:=vals1 r
 have hn:=Uh
 exact len_str (by omega) ⟨.int z.length,H,I.tok _,⟨_,rfl⟩,q⟩
theorem oh.or {f:Value}{r r':List V->Hp->VK->Prop}(h:oh X f r)(h':oh X f r'):oh X f (fun xs H Q=>r xs H Q∨r' xs H Q):=by
 intro pins s σ H xs us Q I rs q
 rcases q with q | q
 ·exact h pins s σ H xs us Q I rs q
 ·exact h' pins s σ H xs us Q I rs q
theorem QL:oh X (.type "list") (fun xs H Q=>∃ p ys,xs=[.ref p]/\(bh X.K H p ys∨nJ X.K H p ys)/\∀ l,H l=none->Q (.ref l) (upd H l (.lst ys))):=by
 intro pins s σ H xs us Q I r h
 obtain⟨p,ys,rfl,hq,q⟩:=h
 obtain⟨u,rfl,rx⟩:=vals1 r
 cases rx
 have fin:∀ (its:List Value),Vals ys its->ys.length <= sizeLine->∀ (h':Heap) (c':Nat),(∀ b o',s.heap.get? b=some o'->h'.get? b=some o') ->
   h'.get? s.heap.objs.size=some { cls:=.type "list",dict:=none,data:=.seq its.toArray c',slots:=#[] }->EP X pins σ Q (.ref s.heap.objs.size) { s with heap:=h' }:=fun its r' hz h' c' kp e =>
  ⟨.ref s.heap.objs.size,_,I.laid (t':=s.toks) kp (Nat.le_refl _) (show jZ X.prog X.w _ h' _ (.lst ys) from ⟨hz,its,c',r',e⟩),rfl,q _ (I.hok.fresh (Nat.le_refl _))⟩
 rcases hq with hq | hq
 ·obtain⟨its,r',pl,hz⟩:=I.list hq
  have hlen:=r'.length
  obtain⟨o,ho,hc,n,hd⟩:=pl.isList
  exact call_list_seq p (.inl rfl) ho hc hd (fun h' c' kp e=>fin its r' hz h' c' kp e) (by simp only [List.size_toArray] <;> omega)
 ·obtain⟨its,r',pl,hz⟩:=I.tuple hq
  have hlen:=r'.length
  obtain⟨o,ho,hc,n,hd⟩:=pl
  exact call_list_seq p (.inr rfl) ho hc hd (fun h' c' kp e=>fin its r' hz h' c' kp e) (by simp only [List.size_toArray] <;> omega)
def tyV (K:Frag)(T:String)(x:V)(H:Hp):Prop:=match x with
 | .str _=>T = "str"
 | .int _=>T = "int"
 | .ref p=>(T = "list"/\∃ xs,bh K H p xs)∨(T = "tuple"/\∃ o,K.lookup p=some o/\o.cls=.type "tuple"/\o.dict=none) ∨
   (T = "dict"/\((∃ kvs,H p=some (.dK kvs)) ∨ ∃ kvs,H p=some (.dT kvs)))∨(T = "set"/\∃ S n,H p=some (.set S n))
 | _=>False
theorem apJ {pins:List (Addr×Obj)}{σ:St}{H:Hp}{s:Shared}{T:String}{x:V}{v:Value}(I:Inv X pins σ H s)(r:RelV x v)(ty:tyV X.K T x H) :
  s.TypeIs v T/\∀ a,v=.ref a->∃ ob,s.heap.get? a=some ob/\ob.dict=none:=by
 cases x with
 | str z =>
  obtain⟨t,rfl⟩:=r
  cases (show T = "str" from ty)
  exact⟨typeIs_str s z t,fun _ e=>nomatch e⟩
 | int i =>
  obtain⟨t,rfl⟩:=r
  cases (show T = "int" from ty)
  exact⟨typeIs_int s i t,fun _ e=>nomatch e⟩
 | ref p =>
  cases r
  rcases ty with ⟨rfl,xs,hq⟩ | ⟨rfl,o,hk,hc,hd⟩ | ⟨rfl,hk⟩ | ⟨rfl,S,n,hk⟩
  ·obtain⟨its,_,pl,_⟩:=I.list hq
   refine⟨pl.isList.typeIs,fun a e=>?_⟩
   cases e
   obtain⟨o,n,e,c,hd,_⟩:=pl
   exact⟨o,e,hd⟩
  ·refine⟨⟨o,I.Qz p o hk,hc⟩,fun a e=>?_⟩
   cases e
   exact⟨o,I.Qz _ o hk,hd⟩
  ·have z:∃ o,s.heap.get? p=some o/\o.ExactDict:=by
    rcases hk with ⟨kvs,hk⟩ | ⟨kvs,hk⟩
    ·obtain⟨_,_,_,_,o,_,_,e,ex,_⟩:=I.hok p _ hk
     exact⟨o,e,ex⟩
    ·obtain⟨_,_,_,_,o,_,_,e,ex,_⟩:=I.hok p _ hk
     exact⟨o,e,ex⟩
   obtain⟨o,e,ex⟩:=z
   refine⟨⟨o,e,ex.1⟩,fun a e2=>?_⟩
   cases e2
   exact⟨o,e,ex.2.1⟩
  ·obtain⟨o,_,_,_,e,ex,_⟩:=I.hok p _ hk
   refine⟨⟨o,e,ex.1⟩,fun a e2=>?_⟩
   cases e2
   exact⟨o,e,ex.2.1⟩
 | _=>exact False.elim ty
def ayL (K:Frag)(T:String)(r:V->List V->Hp->VK->Prop)(to:TE):TE:=fun σ H Q=>to σ H fun x H1=>tyV K T x H1/\r x [] H1 Q
def tBM (K:Frag)(T:String)(r:V->List V->Hp->VK->Prop)(to:TE)(t:TA):TE:=fun σ H Q=>to σ H fun x H1=>tyV K T x H1/\t σ H1 fun xs H2=>r x xs H2 Q
variable {o e:Expr} {es:List Expr} {to:TE} {t:TA} {name:Str} {apos cpos:Pos} {T id:String} {r:V->List V->Hp->VK->Prop}
theorem aex (pa:PlainAttrs T)(slot:Slot T name id)(hty:typeOf (.builtin id)=pure (.type "method_descriptor"))(hm:MtR X id r)(ho:PE X o to)
  (hbase:attributeBase o name X.env (eval o X.env)=eval o X.env:=by rfl) (hline:(apos.endLine == cpos.line)=true:=by rfl):PE X (.Call (.Attribute o name apos) [] [] cpos) (ayL X.K T r to):=by
 intro pins s σ H Q I h
 refine wpAny_Call_method0_late hbase hline (eX (ho pins s σ H _ I h) fun v s1 ⟨x,H1,I1,r1,ty,q1⟩=>?_)
 obtain⟨h1,h2⟩:=apJ I1 r1 ty
 exact⟨T,id,pa,slot,hty,h1,h2,Calls.callWith_builtin rfl (PySem.evalArgs_none (hm pins s1 σ H1 x [] v [] Q I1 r1 .nil q1))⟩
theorem j4 (pa:PlainAttrs T)(slot:Slot T name id)(hty:typeOf (.builtin id)=pure (.type "method_descriptor"))(hm:MtR X id r)(ho:PE X o to)(ha:PA X (e :: es) t)
  (hbase:attributeBase o name X.env (eval o X.env)=eval o X.env:=by rfl)
  (hfew:((backTo cpos (starEach (e :: es) X.env)).all (fun x=>!x.1) && (backToKw cpos (keywordEach [] X.env)).all (fun x=>x.1.isSome)
   && decide ((e :: es).length+([]:List Keyword).length+(if ([]:List Keyword).isEmpty then 0 else 1) < 30))=true:=by rfl)
  (hline:(apos.endLine == cpos.line)=true:=by rfl) (hs:starEach (e :: es) X.env=(false,eval e X.env) :: starEach es X.env:=by rfl) (hplain:(backTo cpos (starEach es X.env)).any (·.1)=false:=by rfl) :
  PE X (.Call (.Attribute o name apos) (e :: es) [] cpos) (tBM X.K T r to t):=by
 intro pins s σ H Q I h
 refine wpAny_Call_method_late hbase hfew hline rfl (eX (ho pins s σ H _ I h) fun v s1 ⟨x,H1,I1,r1,ty,q1⟩=>?_)
 obtain⟨h1,h2⟩:=apJ I1 r1 ty
 refine⟨T,id,pa,slot,hty,h1,h2,?_⟩
 have hA:=ha cpos pins s1 σ H1 _ I1 q1
 rw[hs] at hA ⊢
 refine Calls.callWith_builtin (by show (false || (backTo cpos (starEach es X.env)).any (·.1))=false;rw[hplain] <;> rfl) (Calls.evalArgs_plain ?_)
 exact eX hA fun us s2 ⟨vs,H2,I2,r2,q2⟩=>hm pins s2 σ H2 x vs v us Q I2 r1 r2 q2
end
end L2
namespace L2
open PySem PySem.Spec PyProof.Rows
def MtM (X:Cx)(id:String)(r:V->List V->Hp->VK->Prop):Prop :=
 ∀ (pins:List (Addr×Obj)) (s:Shared) (σ:St) (H:Hp) (x:V) (xs:List V) (v:Value) (us:List Value) (Q:VK),Inv X pins σ H s->RelV x v->Vals xs us->r x xs H Q ->
  wpAny (model X.prog X.w) X.A (call (.builtin id) (v :: us)) (EP X pins σ Q) X.xe s
theorem Vals.one:∀ {x:V} {us:List Value},Vals [x] us->∃ u,us=[u]/\RelV x u
 | _,_,.cons r .nil=>⟨_,rfl,r⟩
theorem Vals.two:∀ {x y:V} {us:List Value},Vals [x,y] us->∃ u v,us=[u,v]/\RelV x u/\RelV y v
 | _,_,_,.cons r (.cons q .nil)=>⟨_,_,rfl,r,q⟩
theorem Vals.zero:∀ {us:List Value},Vals [] us->us=[]
 | _,.nil=>rfl
theorem Vals.dropLast {xs:List V}{us:List Value}(h:Vals xs us):Vals xs.dropLast us.dropLast:=by
 induction h with
 | nil=>exact .nil
 | cons r t ih =>
  cases t with
  | nil=>exact .nil
  | cons q t'=>exact .cons r ih
theorem Vals.reverse {xs:List V}{us:List Value}(h:Vals xs us):Vals xs.reverse us.reverse:=by
 induction h with
 | nil=>exact .nil
 | cons r t ih=>rw[List.reverse_cons,List.reverse_cons];exact Vals.append ih (.cons r .nil)
theorem Vals.rep {xs:List V}{us:List Value}(h:Vals xs us):∀ k:Nat,Vals (List.replicate k xs).flatten (List.replicate k us).flatten
 | 0=>.nil
 | k+1=>by
  rw[List.replicate_succ,List.replicate_succ,List.flatten_cons,List.flatten_cons]
  exact Vals.append h (Vals.rep h k)
theorem ajB {α:Type}(l:List α):l.eraseIdx (l.length - 1)=l.dropLast:=by
 induction l with
 | nil=>rfl
 | cons a r ih =>
  cases r with
  | nil=>rfl
  | cons b r =>
   have e:(a :: b :: r).length - 1=((b :: r).length - 1)+1:=by
    have h1:(a :: b :: r).length=r.length+2:=rfl
    have h2:(b :: r).length=r.length+1:=rfl
    omega
   rw[e,List.eraseIdx_cons_succ,ih]
   all_goals rfl
theorem foldl_rep (its:List Value):∀ (k:Nat) (acc:List Value),
  List.foldl (fun x1 x2=>x1++x2) acc.toArray (List.replicate k its.toArray)=(acc++(List.replicate k its).flatten).toArray
 | 0,acc=>by simp
 | k+1,acc=>by
  have e:acc.toArray++its.toArray=(acc++its).toArray:=by simp
  have e2:(acc++its)++(List.replicate k its).flatten=acc++(List.replicate (k+1) its).flatten:=by
   rw[List.replicate_succ,List.flatten_cons,List.append_assoc]
  rw[← e2,← foldl_rep its k (acc++its),← e,List.replicate_succ,List.foldl_cons]
section
variable {X:Cx} {pins:List (Addr×Obj)} {σ:St} {H:Hp} {s:Shared} {l b:Addr} {xs ys zs:List V}
theorem Inv.apK {its its':List Value}{n:Nat}{f:Array Value->Array Value}{t':Nat}(I:Inv X pins σ H s)(hH:H l=some (.lst xs))
  (e:s.heap.get? l=some { cls:=.type "list",data:=.seq its.toArray n }) (hf:f its.toArray=its'.toArray) (hv:Vals ys its') (hz:ys.length <= sizeLine) :
  Inv X pins σ (upd H l (.lst ys)) { s with heap:=s.heap.update l (Obj.mapSeq f),toks:=t' }:=by
 have q:=PySem.IsL.update e f
 rw[hf] at q
 refine I.write (x:=l) (e:=l) (by rw[hH];exact trivial) (.inl rfl) (fun b' u hb hu=>(Heap.get?_update_other s.heap (Obj.mapSeq f) (Ne.symm hb)).trans hu) ⟨_,q⟩ ?_
 exact⟨hz,its',_,hv,q⟩
theorem Inv.awA {its:List Value}{t':Nat}(I:Inv X pins σ H s)(hv:Vals ys its)(hz:ys.length <= sizeLine) :
  Inv X pins σ (upd H s.heap.objs.size (.lst ys)) { s with heap:=s.heap.push { cls:=.type "list",data:=.seq its.toArray },toks:=t' } :=
 I.laid (fun _ _ q=>Heap.get?_push_of_some _ q) (Nat.le_refl _) ⟨hz,its,0,hv,Heap.get?_push_size _ rfl⟩
theorem Inv.fresh (I:Inv X pins σ H s):H s.heap.objs.size=none:=I.hok.fresh (Nat.le_refl _)
theorem Inv.aey (I:Inv X pins σ H s)(hH:H l=some (.lst xs)):xs.length <= sizeLine/\∃ (its:List Value) (n:Nat),Vals xs its/\xs.length=its.length/\s.heap.get? l=some { cls:=.type "list",data:=.seq its.toArray n }:=by
 obtain⟨z,its,n,r,e⟩:=I.hok l _ hH
 exact⟨z,its,n,r,r.length,e⟩
theorem Zw {n:Nat}(h:n <= sizeLine):Builtin.List.listTooLong n=false:=by
 unfold Builtin.List.listTooLong
 exact decide_eq_false (by omega)
end
section
variable {X:Cx}
inductive ahN (x:V)(vs:List V)(H:Hp)(Q:VK):Prop
 | mk (l:_) (xs:_) (y:_) (gj:x=.ref l) (gk:vs=[y]) (jc:H l=some (.lst xs)) (n8:xs.length < sizeLine) (xJ:Q .non (upd H l (.lst (xs++[y])))):ahN x vs H Q
def asi :V->List V->Hp->VK->Prop:=fun x vs H Q=>ahN x vs H Q
theorem bK:MtM X "list.append" asi:=by
 intro pins s σ H x vs v us Q I rx rv h
 obtain⟨l,xs,y,rfl,rfl,hH,hz,q⟩:=h
 cases rx
 obtain⟨u,rfl,ru⟩:=rv.one
 obtain⟨z,its,n,r,hl,e⟩:=I.aey hH
 refine call_meets F.slot_list_append ⟨_,e,rfl⟩ F.entry_list_append (F.args_list_append_2 _ _) (PySem.list_append l its.toArray n u (by rw[List.size_toArray];omega)) ⟨e,?_⟩
 refine⟨.non,_,I.apK (its':=its++[u]) hH e (by simp) (r.append (.cons ru .nil)) ?_,rfl,q⟩
 rw[List.length_append,List.length_singleton]
 omega
inductive atL (x:V)(vs:List V)(H:Hp)(Q:VK):Prop
 | mk (l:_) (xs:_) (y:_) (gj:x=.ref l) (gk:vs=[]) (jc:H l=some (.lst xs)) (n8:xs[xs.length - 1]? = some y) (xJ:Q y (upd H l (.lst xs.dropLast))):atL x vs H Q
def ayM :V->List V->Hp->VK->Prop:=fun x vs H Q=>atL x vs H Q
theorem apL:MtM X "list.pop" ayM:=by
 intro pins s σ H x vs v us Q I rx rv h
 obtain⟨l,xs,y,rfl,rfl,hH,hy,q⟩:=h
 cases rx
 have hus:=rv.zero
 subst hus
 obtain⟨z,its,n,r,hl,e⟩:=I.aey hH
 obtain⟨u,hu,ru⟩:=r.get hy
 have hy':its.toArray[its.toArray.size - 1]? = some u:=by
  show its.toArray[its.length - 1]? = some u
  rw[← Array.getElem?_toList,← hl]
  exact hu
 refine call_meets F.slot_list_pop ⟨_,e,rfl⟩ F.entry_list_pop (F.args_list_pop_1 _) (MeetsSeq.list_pop_last l its.toArray n u hy' (by rw[List.size_toArray];omega)) ⟨e,?_⟩
 refine⟨y,_,I.apK (its':=its.dropLast) hH e ?_ r.dropLast ?_,ru,q⟩
 ·show its.toArray.eraseIdxIfInBounds (its.toArray.size - 1)=its.dropLast.toArray
  rw[List.size_toArray,List.eraseIdxIfInBounds_toArray,ajB]
 ·rw[List.length_dropLast]
  omega
inductive adG (x:V)(vs:List V)(H:Hp)(Q:VK):Prop
 | mk (l:_) (xs:_) (gj:x=.ref l) (gk:vs=[]) (jc:H l=some (.lst xs)) (n8:Q .non (upd H l (.lst xs.reverse))):adG x vs H Q
def apM :V->List V->Hp->VK->Prop:=fun x vs H Q=>adG x vs H Q
theorem ajC:MtM X "list.reverse" apM:=by
 intro pins s σ H x vs v us Q I rx rv h
 obtain⟨l,xs,rfl,rfl,hH,q⟩:=h
 cases rx
 have hus:=rv.zero
 subst hus
 obtain⟨z,its,n,r,hl,e⟩:=I.aey hH
 refine call_meets F.slot_list_reverse ⟨_,e,rfl⟩ F.entry_list_reverse (F.args_list_reverse_1 _) (AutoSeq1.list_reverse_list_0 l its.toArray n (by rw[List.size_toArray];omega)) ⟨e,?_⟩
 refine⟨.non,_,I.apK (its':=its.reverse) hH e (by simp) r.reverse ?_,rfl,q⟩
 rw[List.length_reverse]
 omega
inductive al8 (x:V)(vs:List V)(H:Hp)(Q:VK):Prop
 | mk (l:_) (xs:_) (gj:x=.ref l) (gk:vs=[]) (jc:H l=some (.lst xs)) (n8:Q .non (upd H l (.lst []))):al8 x vs H Q
def auI :V->List V->Hp->VK->Prop:=fun x vs H Q=>al8 x vs H Q
theorem apO:MtM X "list.clear" auI:=by
 intro pins s σ H x vs v us Q I rx rv h
 obtain⟨l,xs,rfl,rfl,hH,q⟩:=h
 cases rx
 have hus:=rv.zero
 subst hus
 obtain⟨z,its,n,r,hl,e⟩:=I.aey hH
 refine call_meets F.slot_list_clear ⟨_,e,rfl⟩ F.entry_list_clear (F.args_list_clear_1 _) (AutoSeq1.list_clear_list_0 l its.toArray n (by rw[List.size_toArray];omega)) ⟨e,?_⟩
 exact⟨.non,_,I.apK (its':=[]) (ys:=[]) hH e rfl .nil (Nat.zero_le _),rfl,q⟩
inductive atM (x:V)(y:V)(H:Hp)(Q:VK):Prop
 | mk (l:_) (b:_) (xs:_) (zs:_) (gj:x=.ref l) (gk:y=.ref b) (jc:H l=some (.lst xs)) (n8:H b=some (.lst zs)) (xJ:xs.length+zs.length <= sizeLine) (h5_:∀ p,H p=none->Q (.ref p) (upd H p (.lst (xs++zs)))):atM x y H Q
def ayN :R2:=fun x y H Q=>atM x y H Q
theorem bO:En X (binaryOp .Add) ayN:=by
 intro pins s σ H x y v u Q I rx ry h
 obtain⟨l,b,xs,zs,rfl,rfl,hH,hB,hz,q⟩:=h
 cases rx
 cases ry
 obtain⟨z,its,n,r,hl,e⟩:=I.aey hH
 obtain⟨z2,its2,n2,r2,hl2,e2⟩:=I.aey hB
 refine PySem.P.add_list e e2 ?_ (by rw[List.size_toArray,List.size_toArray];omega)
 have ea:its.toArray++its2.toArray=(its++its2).toArray:=by simp
 rw[ea]
 exact⟨.ref _,_,I.awA (t':=s.toks) (r.append r2) (by rw[List.length_append];omega),rfl,q _ I.fresh⟩
def ayO:R2:=fun x y H Q=>∃ l k xs,x=.ref l/\y=.int k/\H l=some (.lst xs)/\-(2 ^ 63) <= k/\k < 2 ^ 63/\xs.length * k.toNat <= sizeLine /\
 ∀ p,H p=none->Q (.ref p) (upd H p (.lst (List.replicate k.toNat xs).flatten))
theorem len_rep {α:Type}(xs:List α)(k:Nat):(List.replicate k xs).flatten.length=k * xs.length:=by
 induction k with
 | zero=>simp
 | succ k ih=>rw[List.replicate_succ,List.flatten_cons,List.length_append,ih,Nat.succ_mul,Nat.add_comm]
theorem v9:En X (binaryOp .Mult) ayO:=by
 intro pins s σ H x y v u Q I rx ry h
 obtain⟨l,k,xs,rfl,rfl,hH,h1,h2,hz,q⟩:=h
 cases rx
 obtain⟨t,rfl⟩:=ry
 obtain⟨z,its,n,r,hl,e⟩:=I.aey hH
 have hlen:its.toArray.size * k.toNat <= sizeLine:=by rw[List.size_toArray,← hl];exact hz
 have ayP:¬ its.toArray.size * k.toNat > (2 ^ 63 - 1) / 8:=by
  have:(sizeLine:Nat) <= (2 ^ 63 - 1) / 8:=by decide
  omega
 have hfit:¬ (!Builtin.List.listFitsIndex k)=true:=by
  rw[fitsIndex_both h1 h2]
  exact Bool.false_ne_true
 have awB:¬ Builtin.List.listTooLong (its.toArray.size * k.toNat)=true:=by
  rw[Zw hlen]
  exact Bool.false_ne_true
 have hnew:List.foldl (fun x1 x2=>x1++x2) #[] (List.replicate (if its.toArray.isEmpty=true then 0 else k.toNat) its.toArray)=(List.replicate k.toNat its).flatten.toArray:=by
  have f0:∀ m:Nat,List.foldl (fun x1 x2=>x1++x2) #[] (List.replicate m its.toArray)=(List.replicate m its).flatten.toArray:=fun m=>by
   have:=foldl_rep its m []
   rw[List.nil_append] at this
   exact this
  rw[f0]
  cases its with
  | nil=>simp
  | cons a r'=>rw[if_neg (by simp)]
 refine wpAny_binaryOp_repeat_ref (T:="list") (U:="int") (by decide) ⟨_,e,rfl⟩ (fun s'=>typeIs_int s' k t) noFill_list_mul F.fills_int_mul F.slot_int_rmul repeat_list F.slot_int_index.lookup
  (call_meets F.slot_int_rmul (typeIs_int s k t) F.entry_int_rmul (F.args_int_rmul_2 _ _) (int___rmul___int_list k t l its.toArray n)
   ⟨e,rfl,⟨_,e,rfl⟩,call_meets F.slot_list_mul ⟨_,e,rfl⟩ F.entry_list_mul (F.args_list_mul_2 _ _) (AutoListH.list___mul___list_int_3 l its.toArray n k t hfit ayP awB) ⟨e,?_⟩⟩)
 rw[hnew]
 exact⟨.ref _,_,I.awA (t':=s.toks) (r.rep k.toNat) (by rw[len_rep,Nat.mul_comm];exact hz),rfl,q _ I.fresh⟩
end
section
variable {prog:Program} {w:World} {A:Around} {E:Value->Shared->Prop} {s:Shared}
theorem am5 (its its2:List Value)(a c:Nat):its.toArray.extract 0 a++its2.toArray++its.toArray.extract c its.toArray.size=(its.take a++its2++its.drop c).toArray:=by
 apply Array.toList_inj.mp
 first
  | (simp;exact List.take_of_length_le (by simp))
  | simp[List.take_of_length_le]
  | simp
theorem ajD {a c n:Nat}(hac:a <= c)(hc:c <= n):sliceBounds (some (a:Int)) (some (c:Int)) none n=((a:Int),(c:Int),1):=by
 simp only [sliceBounds,Option.getD_none]
 have h1:¬ ((a:Int) < 0):=by omega
 have h2:¬ ((c:Int) < 0):=by omega
 simp only [h1,h2,if_false,show (1:Int) > 0 by decide,if_true]
 congr 1
 ·omega
 ·congr 1;omega
set_option maxRecDepth 100000 in
theorem acG {l b sl:Addr}{items new:Array Value}{n n2:Nat}{vl vu:Value}{a c:Nat}{Q:Unit->Shared->Prop}
  (e:s.heap.get? l=some { cls:=.type "list",data:=.seq items n }) (e2:s.heap.get? b=some { cls:=.type "list",data:=.seq new n2 }) (hne:l≠b)
  (hs:s.heap.IsSliceOf sl vl vu .none) (pl:IsPart vl (some (a:Int))) (pu:IsPart vu (some (c:Int))) (hac:a <= c) (hc:c <= items.size)
  (hsz:items.size+new.size <= sizeLine) (h:Q () { s with heap:=s.heap.update l (Obj.mapSeq fun xs=>xs.extract 0 a++new++xs.extract c xs.size) }) :
  wpAny (model prog w) A (setItem (.ref l) (.ref sl) (.ref b)) Q E s:=by
 have hl:s.heap.IsList l items:=PySem.IsL.isList e
 have hb:s.heap.IsList b new:=PySem.IsL.isList e2
 obtain⟨os,hos,hcs,hds⟩:=id hs
 have hTs:s.TypeIs (.ref sl) "slice":=⟨os,hos,hcs⟩
 have hstep:¬ ((rawPart none == rawInt 0)=true):=Bool.false_ne_true
 have hsame:Builtin.List.listSameRef (.ref l) (.ref b)=false:=by
  unfold Builtin.List.listSameRef
  exact beq_eq_false_iff_ne.mpr hne
 have ayQ:(max (a:Int) (c:Int)).toNat=c:=by omega
 have hz':((fun xs:Array Value=>xs.extract 0 a++new++xs.extract c xs.size) items).size <= sizeLine+1:=by
  simp only [Array.size_append,Array.size_extract]
  omega
 unfold setItem
 try with_reducible refine wpAny_holding ?_
 first | refine wpAny_bind (wpAny_pure ?_) | skip
 refine wpAny_bind (wpAny_sequenceKey hl.typeIs (by decide) ?_)
 refine wpAny_bind (wpAny_callSpecial?_slot (name:=Str.ofString "__setitem__") hl.typeIs slot_list_setitem
  (wpAny_call_entry slot_list_setitem hl.typeIs entry_list_setitem ?_ (args_list_setitem _ _ _)))
 show wpAny _ _ (Builtin.List.listSubscript? (.ref sl) >>= _) _ _ s
 refine wpAny_bind ?_
 unfold Builtin.List.listSubscript?
 refine wpAny_bind (wpAny_specialOf hTs slice_no_index ?_)
 simp only [Option.isNone_none,if_true]
 refine wpAny_pure ?_
 show wpAny _ _ (typeOf (.ref sl) >>= _) _ _ s
 refine wpAny_bind (wpAny_typeOf hTs ?_)
 first
  | rw[if_neg (by decide)]
  | refine PySem.W.KFB.if_not (by decide) ?_
 rw[listSliceParts_eq]
 refine wpAny_bind (wpAny_bind (wpAny_field hos hds (x:=.none) rfl (wpAny_bind (wpAny_listPart .none ?_))))
 rw[if_neg hstep]
 refine wpAny_bind (wpAny_field hos hds (x:=vl) rfl (wpAny_bind (wpAny_listPart pl ?_)))
 refine wpAny_bind (wpAny_field hos hds (x:=vu) rfl (wpAny_bind (wpAny_listPart pu (wpAny_pure ?_))))
 first
  | simp only [hsame,Bool.false_eq_true,if_false]
  | refine PySem.W.KFB.if_not hsame ?_
  | (dsimp only;rw[if_neg (by rw[hsame];exact Bool.false_ne_true)])
 refine wpAny_bind (m:=Builtin.List.listAllItems (.ref b) "must assign iterable to extended slice") ?_
 unfold Builtin.List.listAllItems
 refine wpAny_bind (wpAny_typeOf hb.typeIs ?_)
 first
  | refine PySem.W.KFB.if_so (by decide) ?_
  | rw[if_pos (by decide)]
  | simp only [beq_self_eq_true,Bool.true_or,if_true]
 unfold Builtin.List.listItems
 refine wpAny_bind (wpAny_seqItems e2 rfl (wpAny_pure ?_))
 refine wpAny_bind (wpAny_bind (wpAny_seqItems e rfl (wpAny_pure ?_)))
 refine wpAny_bind (wpAny_of_eq ((sliceIndices_raw (some (a:Int)) (some (c:Int)) none items.size (by simp)).trans (congrArg (pure:Int×Int×Int->Sem (Int×Int×Int)) (ajD hac hc))) ?_)
 show wpAny _ _ (if ((1:Int) == 1)=true then _ else _) _ _ s
 rw[if_pos (by decide)]
 refine wpAny_bind (wpAny_rule ?_)
 first
  | simp only [Zw hsz,Bool.false_eq_true,if_false]
  | refine PySem.W.KFB.if_not (Zw hsz) ?_
 first | refine wpAny_bind (wpAny_pure ?_) | skip
 show wpAny _ _ (updateSeq l (fun xs=>xs.extract 0 ((a:Int)).toNat++new++xs.extract (max (a:Int) (c:Int)).toNat xs.size) >>= _) _ _ s
 rw[ayQ,Int.toNat_natCast]
 refine wpAny_bind (wpAny_updateSeq (hz:=Nat.le_trans (Nat.le_add_right _ _) hsz) (_hz':=hz') e rfl ?_)
 refine wpAny_bind (wpAny_letGo ?_)
 first
  | exact wpAny_bind (wpAny_pure (wpAny_pure ⟨.none,rfl,wpAny_pure h⟩))
  | exact wpAny_pure ⟨.none,rfl,wpAny_pure h⟩
end
section
variable {X:Cx}
theorem am6 {pins:List (Addr×Obj)}{s:Shared}{σ:St}{H:Hp}{l b sl:Addr}{xs ys:List V}{a c:Int}{vl vu:Value}{Q:Unit->Shared->Prop}(I:Inv X pins σ H s)
  (hH:H l=some (.lst xs)) (hB:H b=some (.lst ys)) (hne:l≠b) (hs:s.heap.IsSliceOf sl vl vu .none) (ra:RelV (.int a) vl) (rc:RelV (.int c) vu) (h0:0 <= a) (hac:a <= c) (hc:c <= xs.length)
  (hz:xs.length+ys.length <= sizeLine) (h:∀ s',Inv X pins σ (upd H l (.lst (xs.take a.toNat++ys++xs.drop c.toNat))) s'->Q () s') :
  wpAny (model X.prog X.w) X.A (setItem (.ref l) (.ref sl) (.ref b)) Q X.xe s:=by
 obtain⟨ta,rfl⟩:=ra
 obtain⟨tc,rfl⟩:=rc
 obtain⟨z,its,n,r,hl,e⟩:=I.aey hH
 obtain⟨z2,its2,n2,r2,hl2,e2⟩:=I.aey hB
 obtain⟨a',rfl⟩:=Int.eq_ofNat_of_zero_le h0
 obtain⟨c',rfl⟩:=Int.eq_ofNat_of_zero_le (Int.le_trans h0 hac)
 simp only [Int.toNat_natCast] at h
 refine acG (a:=a') (c:=c') e e2 hne hs (.int _ _) (.int _ _) (by omega) (by rw[List.size_toArray];omega) (by rw[List.size_toArray,List.size_toArray];omega) (h _ ?_)
 refine I.apK (its':=its.take a'++its2++its.drop c') (t':=s.toks) hH e ?_ (Vals.append (Vals.append (r.take _) r2) (r.drop _)) ?_
 ·exact am5 its its2 a' c'
 ·rw[List.length_append,List.length_append,List.length_take,List.length_drop]
  omega
end
end L2
namespace Att
open PySem PySem.W PySem.Calls PyProof.Rows
theorem Yl {P:Params}{h:Heap}:∀ (ns:List Int) (vs:List Value),WellAll P h vs (ns.map WData.int)->IntsAre vs ns:=by
 intro ns
 induction ns with
 | nil =>
  intro vs w
  rw[List.map_nil] at w
  cases w
  exact .nil
 | cons n ns ih =>
  intro vs w
  rw[List.map_cons] at w
  cases w with
  | cons a b =>
   cases a
   exact .cons _ _ (ih _ b)
theorem am7 {l:OpenLaw}{n:Nat}(hn:l.most=some n){P:Params}{h:Heap}{args:List WData}{vals:List Value}
  (hpre:l.row.toRowW.claim.pre args=true) (hwl:WellAll P h vals args) :
  ∃ a vs ns,vals=[Value.ref a]/\args=[WData.list (ns.map WData.int)]/\h.get? a=some { cls:=.type "list",data:=.seq vs.toArray }/\IntsAre vs ns/\ns.length <= n:=by
 have hsh:WShape.hasAll [] args [.list .int]=true:=(pre_splitW hpre).1
 have hc:l.pre.holds [] { args:=args } = true:=(pre_splitW hpre).2
 obtain⟨d,r,rfl,h1,h2⟩:=hasAllW_cons hsh
 obtain rfl:=hasAllW_nil h2
 obtain⟨xs,rfl,h3⟩:=hasW_list h1
 obtain⟨ns,rfl⟩:=items_int h3
 have hlen:ns.length <= n:=by
  unfold OpenLaw.pre at hc
  have h4:(WTm.not (.lt (.lit (.int (n:Int))) (.len (.arg 0)))).holds [] { args:=[.list (ns.map .int)] } = true:=by
   have h4:=(holds_andW hc).1
   rw[hn] at h4
   exact h4
  have h5:=condW_of h4 (w_not (w_lt w_lit (w_len_list (w_arg rfl))))
  rw[List.length_map] at h5
  refine Nat.le_of_not_lt fun q=>?_
  have q':(n:Int) < ((ns.length:Nat):Int):=by omega
  first
   | (rw[decide_eq_true q'] at h5;exact absurd h5 (by decide))
   | (simp at h5;omega)
 cases hwl with
 | cons w1 w2 =>
  cases w2
  cases w1 with
  | list ho hall=>exact⟨_,_,ns,rfl,rfl,ho,Yl ns _ hall,hlen⟩
theorem am8 (l:OpenLaw)(args:List WData):l.row.toRowW.claim.post args (.bool true) args=true :=
 postW_of (r:=l.row.toRowW) (X:=(true == true))
  (show WShape.has [] (.bool true) .bool=true by first | rfl | decide | simp[WShape.has,WShape.arms,WShape.armsAll])
  (show (WTm.eq .res (.lit (.bool true))).value [] { args:=args,res:=some (.bool true),after:=args } = some (.bool (true == true)) from w_eq_bool (w_res rfl) w_lit) rfl
theorem ahO {l:OpenLaw}{n:Nat}{q:Program}{loose:List Str}{XP:(Str->Option Value)->Heap->Prop}{YP:World->Heap->Prop}{d:DefRec}
  (hn:l.most=some n) (hdf:d.params.defaults=[])
  (call:∀ (w:World) (s₀ s₁:Shared) (mg mb:Str->Option Value) (fa:Addr) (o:Obj) (pm cd doc:Value) (a:Addr) (vs:List Value) (ns:List Int),
   Ground q loose [] XP w s₀ mg mb s₁.heap->YP w s₁.heap ->
   s₁.heap.get? fa=some o->o.data=.func (docDef d.name d.params d.body d.scope pm cd doc)->s₁.heap.CodeRec cd d.name->mg d.name=some (.ref fa) ->
   s₁.heap.get? a=some { cls:=.type "list",data:=.seq vs.toArray }->IntsAre vs ns->ns.length <= n->s₁.gens = #[] ->
   codeAny (model l.prog w) callerA (.call (.ref fa) ⟨[.ref a],[]⟩) (fun r s'=>r=.ok (.ret (.bool true))/\OldK s₁.heap s'.heap/\s'.os=s₁.os/\AllBare s'.gens) s₁) :
  WalkO q loose XP YP l.row.toRowW d [] (fun f vs=>PySem.call f vs):=by
 intro w s₀ s₁ mg mb G Y fa o pm cd doc dV kV ho hd hcd hD hmg hg args vals as hpre hlay hrd hwl hlo
 obtain rfl:dV=.none:=Dflts.none hD hdf
 obtain rfl:kV=.none:=Dflts.noKw hD
 obtain⟨a,vs,ns,rfl,rfl,hobj,hints,hlen⟩:=am7 hn hpre hwl
 refine enter_call (codeAny_mono (call w s₀ s₁ mg mb fa o pm cd doc a vs ns G Y ho (fd_plain hd) hcd hmg hobj hints hlen hg) fun r s' hq=>?_)
 obtain⟨rfl,h2,h3,h4⟩:=hq
 exact⟨.inl ⟨.bool true,.bool true,[],rfl,fun _=>rfl,.bool true,am8 l _,fun _=>⟨List.Pairwise.nil,fun _ hm=>(nomatch hm)⟩⟩,h2,h3,h4⟩
section
variable {prog:Program} {w:World} {A:Around} {E:Value->Shared->Prop} {s:Shared} {K:Frag}
end
end Att
namespace L2
open PySem PySem.Spec PyProof.Rows
theorem adH:∀ {vs:List Value} {ns:List Int},IntsAre vs ns->Vals (ns.map V.int) vs
 | _,_,.nil=>.nil
 | _,_,.cons n t h=>.cons ⟨t,rfl⟩ (adH h)
def Only (H:Hp):Prop:=∀ b,H b=none ∨ ∃ o xs,H b=some (.frz o (.lst xs))
theorem apP {P:Program}{w:World}{K:Frag}{mg mb:Str->Option Value}{CX:CXT}{k:Nat}{fa a:Addr}{fd:FuncData}{x:Str}{sp:Sp}{s₁:Shared}{vs:List Value}{ns:List Int}
  (KX:K.In s₁.heap) (hns:s₁.heap.Ns mainGlobals mg) (hb:s₁.heap.Ns builtinsNs mb) (hbb:∀ x:Str,x ≠ "__name__"->mb x=bootBuiltins x) (hlim:s₁.heap.NoLimit) (hg:s₁.gens = #[])
  (ha:s₁.heap.get? a=some { cls:=.type "list",data:=.seq vs.toArray }) (hi:IntsAre vs ns) (hl:ns.length <= sizeLine) (hr:tG k callerA)
  (F:∀ base:Heap,K.In base->base.Ns mainGlobals mg->bW P w K mg base CX k fa fd [x] sp) (hbind:∀ (s:Shared) (u:Value),BindsTo s fd ⟨[u],[]⟩ [(x,u)])
  (hsp:∀ H:Hp,Only H->bh K H a (ns.map V.int)->sp [.ref a] H (fun v _=>v=.bl true) fun _ _ _=>False)
  (hCX:∀ H e s',CX [] H s₁ (fun _ _ _=>False) e s'->False) :
  codeAny (model P w) callerA (.call (.ref fa) ⟨[.ref a],[]⟩) (fun r s'=>r=.ok (.ret (.bool true))/\OldK s₁.heap s'.heap/\s'.os=s₁.os/\AllBare s'.gens) s₁:=by
 have rv:=adH hi
 have lenV:=hi.length
 have core:∀ H:Hp,Only H->bh K H a (ns.map V.int)->Qy P w H s₁.heap->(∀ b,H b≠none->b=a)->(H a≠none->K.lookup a=none) ->
   codeAny (model P w) callerA (.call (.ref fa) ⟨[.ref a],[]⟩) (fun r s'=>r=.ok (.ret (.bool true))/\OldK s₁.heap s'.heap/\s'.os=s₁.os/\AllBare s'.gens) s₁:=by
  intro H hO hS hok hA hK
  have al9:∀ {b:Addr} {o:Obj},s₁.heap.get? b=some o->H b=none->(aet s₁.heap H).get? b=some o:=fun e n=>apm e n
  have noA:∀ {b:Addr} {o:Obj} {es:Array DictEntry} {ep:Nat},s₁.heap.get? b=some o->o.data=.dict es ep->H b=none:=fun {b o es ep} e d=>by
   cases q:H b with
   | none=>rfl
   | some u =>
    have e':b=a:=hA b (by rw[q];simp)
    subst e'
    rw[ha] at e;cases e
    have d':Data.seq vs.toArray _=Data.dict es ep:=d
    cases d'
  have nsK:∀ {b:Addr} {m:Str->Option Value},s₁.heap.Ns b m->(aet s₁.heap H).Ns b m:=fun {b m} ⟨o,es,ep,e,d,r⟩=>⟨o,es,ep,al9 e (noA e d),d,r⟩
  have hKb:K.In (aet s₁.heap H):=fun b o e=>al9 (KX b o e) (by
   cases q:H b with
   | none=>rfl
   | some u =>
    have e':b=a:=hA b (by rw[q];simp)
    subst e'
    rw[hK (by rw[q];simp)] at e;cases e)
  have hM:Mod K mg (aet s₁.heap H):=⟨hKb,nsK hns,⟨mb,nsK hb,hbb⟩,let ⟨mc,h1,h2⟩:=hlim;⟨mc,nsK h1,h2⟩⟩
  have e0:aju P w K mg (aet s₁.heap H) callerA [] s₁ H:=⟨rfl,hM,fun b o e=>ar5 e,Nat.le_of_eq (amT _ _),trivial,fun b hb=>absurd (show b∈([]:List Addr) from hb) (by simp),hok,.of_eq hg⟩
  refine codeAny_mono ((F _ hKb (nsK hns)).run callerA [] s₁ H ⟨[.ref a],[]⟩ [.ref a] [.ref a] _ _ hr e0 (hbind s₁ (.ref a)) (.cons rfl .nil) (hsp H hO hS)) fun r s' h=>?_
  cases r with
  | error e=>exact (hCX H e s' h).elim
  | ok fl =>
   cases fl with
   | next=>exact False.elim h
   | brk=>exact False.elim h
   | cont=>exact False.elim h
   | ret u =>
    obtain⟨v,H',os,bare,un,hok',r',q⟩:=h
    have q':v=.bl true:=q
    subst q'
    obtain rfl:u=Value.bool true:=r'
    refine⟨rfl,OldK.of_keep fun b o e=>?_,os,bare⟩
    cases q:H b with
    | none=>exact un.keep b o e q (by intro z;exact absurd (show b∈([]:List Addr) from z) (by simp)) (by simp)
    | some u =>
     rcases hO b with z | ⟨ob,xs,z⟩
     ·rw[q] at z;cases z
     ·have z2:=un.acD b ob _ z
      obtain⟨e1,_⟩:=hok b _ z
      obtain⟨e2,_⟩:=hok' b _ z2
      rw[e] at e1;cases e1
      exact e2
 cases hk:K.lookup a with
 | some o =>
  have e:=KX a o hk
  rw[ha] at e
  cases e
  refine core (fun _=>none) (fun _=>.inl rfl) (.inr ⟨_,vs.toArray,_,hk,rfl,rfl,rfl,by rw[List.size_toArray,lenV];exact hl,by simpa using rv⟩) (fun b u z=>by have z':(none:Option HO)=some u:=z;cases z') (fun b z=>absurd rfl z) fun z=>absurd rfl z
 | none =>
  refine core (fun b=>if b=a then some (.frz { cls:=.type "list",data:=.seq vs.toArray } (.lst (ns.map V.int))) else none) (fun b=>?_) (.inl (.inr ⟨{ cls:=.type "list",data:=.seq vs.toArray },if_pos rfl⟩)) (fun b u z=>?_) (fun b z=>?_) fun _=>hk
  ·by_cases hb:b=a
   ·exact .inr ⟨_,_,if_pos hb⟩
   ·exact .inl (if_neg hb)
  ·by_cases hb:b=a
   ·have z':=(if_pos hb).symm.trans z
    cases z'
    subst hb
    exact⟨ha,by rw[List.length_map];exact hl,vs,_,rv,ha⟩
   ·have z':=(if_neg hb).symm.trans z
    cases z'
  ·by_cases hb:b=a
   ·exact hb
   ·exact absurd (if_neg hb) z
end L2
namespace L2
open PySem PySem.Spec PyProof.Rows
abbrev KOf {K:Frag}{h:Heap}(_:K.In h):Frag:=K
theorem asj {l:OpenLaw}{n k:Nat}{q:Program}{loose:List Str}{XP:(Str->Option Value)->Heap->Prop}{YP:World->Heap->Prop}{d:DefRec}{K:Params->Frag}{CX:World->CXT}{sp:World->Sp}{x:Str}
  (hn:l.most=some n) (hn2:n <= sizeLine) (hdf:d.params.defaults=[]) (hr:tG k callerA)
  (hY:∀ (w:World) (h:Heap),YP w h->(K w.params).In h)
  (F:∀ (w:World) (mg:Str->Option Value) (fa:Addr) (h:Heap),(K w.params).In h->h.Ns mainGlobals mg->mg d.name=some (.ref fa) ->
   ∃ fd:FuncData,(∀ (s:Shared) (u:Value),BindsTo s fd ⟨[u],[]⟩ [(x,u)]) /\
    ∀ base:Heap,(K w.params).In base->base.Ns mainGlobals mg->bW l.prog w (K w.params) mg base (CX w) k fa fd [x] (sp w))
  (hsp:∀ (w:World) (H:Hp) (a:Addr) (ns:List Int),ns.length <= n->Only H->bh (K w.params) H a (ns.map V.int)->sp w [.ref a] H (fun v _=>v=.bl true) fun _ _ _=>False)
  (hCX:∀ (w:World) (H:Hp) (s:Shared) (e:Value) (s':Shared),CX w [] H s (fun _ _ _=>False) e s'->False) :
  WalkO q loose XP YP l.row.toRowW d [] (fun f vs=>PySem.call f vs):=by
 refine Att.ahO hn hdf fun w s₀ s₁ mg mb fa o pm cd doc a vs ns G Y ho hd hcd hmg hobj hints hlen hg=>?_
 have KX:=hY w _ Y
 obtain⟨fd,hb,hF⟩:=F w mg fa _ KX G.T.g hmg
 exact apP KX G.T.g G.T.b G.T.builtins G.T.nolimit hg hobj hints (Nat.le_trans hlen hn2) hr hF hb (fun H hO hS=>hsp w H a ns hlen hO hS) fun H e s'=>hCX w H s₁ e s'
end L2
namespace L2
open PySem PySem.Spec PyProof.Rows
def inClass (s:Stmt)(j:Nat):Stmt:=match s with
 | .ClassDef _ _ _ body _ _ _ _ _ _ _=>body.getD j (.Pass ⟨0,0,0,0⟩)
 | _=>.Pass ⟨0,0,0,0⟩
def aL (s:Stmt):Arguments:=match s with
 | .FunctionDef _ a _ _ _ _ _ _ _ _=>a
 | _=>{ posonlyargs:=[],args:=[],vararg:=none,kwonlyargs:=[],kw_defaults:=[],kwarg:=none,defaults:=[] }
def aK (s:Stmt):List Stmt:=match s with
 | .FunctionDef _ _ b _ _ _ _ _ _ _=>b
 | _=>[]
def aq (s:Stmt):Scope:=match s with
 | .FunctionDef _ _ _ _ _ _ sc _ _ _=>sc
 | _=>{ kind:=.function,names:=[],isGenerator:=false,isCoroutine:=false }
abbrev jF:CXT:=fun _ _ _ _ _ _=>False
abbrev E0:XK:=fun _ _ _=>False
theorem aF {X:Cx}:Passes jF X E0:=fun _ _ _ _ _ _ _ h=>h.elim
structure lW (K:Frag)(x qual:Str)(st:Stmt)(f:Addr)(fd:FuncData):Prop where
 ex:∃ (oc:Value) (od:Option Addr) (kV doc pm:Value) (an:Option Addr) (cdv ct:Value) (osl:Array (Option Value)),
  fd=fnOf x qual (aL st) (aK st) (aq st) .none kV doc pm an cdv ct/\K.lookup f=some ⟨oc,od,.func fd,osl⟩/\codeIn K cdv qual=true
 kp:keepIn K (.ref f)=true
section
variable {P:Program} {w:World} {K:Frag} {mg:Str->Option Value} {base:Heap}
theorem lW.ok {x qual:Str}{st:Stmt}{f:Addr}{fd:FuncData}{N ps:List Str}{k:Nat}{sp:Sp}(F:lW K x qual st f fd)(S:aP N ps (aq st))(len:∀ vs H Q E,sp vs H Q E->vs.length=ps.length)
  (hbody:∀ (cdv:Value) (A:Around) (outer:List Env) (s:Shared) (H:Hp) (vs:List V) (Q:VK) (E:XK),tG k (A.deeper (envOfC qual (aq st) s.heap.objs.size f cdv))->sp vs H Q E ->
   ∃ t,PSs (ajw jF P w K mg base N qual (aq st) f cdv A outer s H E).nox (aK st) t/\t { nx:=fun _ H'=>Q .non H',rt:=Q } (start N vs) H):bW P w K mg base jF (k+1) f fd ps sp:=by
 obtain⟨oc,od,kV,doc,pm,an,cdv,ct,osl,rfl,lk,hcd⟩:=F.ex
 refine atB lk hcd S len fun A outer s H vs Q E hr hsp=>?_
 obtain⟨t,h,q⟩:=hbody cdv A outer s H vs Q E hr hsp
 exact⟨t,h.nox,q⟩
theorem lW.binds {x qual:Str}{st:Stmt}{f:Addr}{fd:FuncData}{ps:List Str}(F:lW K x qual st f fd)
  (h:∀ (kV doc pm:Value) (an:Option Addr) (cdv ct:Value) (us:List Value),us.length=ps.length->bindArgs (fnOf x qual (aL st) (aK st) (aq st) .none kV doc pm an cdv ct) ⟨us,[]⟩=pure (ps.zip us)):Binds K fd ps []:=by
 obtain⟨oc,od,kV,doc,pm,an,cdv,ct,osl,rfl,lk,hcd⟩:=F.ex
 exact .all (h kV doc pm an cdv ct)
theorem bB {x qual:Str}{st:Stmt}{f:Addr}{oc:Value}{od an:Option Addr}{osl:Array (Option Value)}{kV doc pm cdv ct:Value}(l:K.lookup f=some ⟨oc,od,.func (fnOf x qual (aL st) (aK st) (aq st) .none kV doc pm an cdv ct),osl⟩)
  (c:codeIn K cdv qual=true) (k:keepIn K (.ref f)=true):lW K x qual st f (fnOf x qual (aL st) (aK st) (aq st) .none kV doc pm an cdv ct):=⟨⟨oc,od,kV,doc,pm,an,cdv,ct,osl,rfl,l,c⟩,k⟩
end
theorem QM {A:Around}{k:Nat}(hr:tG k A):A.units+1 < cLine:=Nat.lt_of_le_of_lt (Nat.add_le_add_left (by decide:1 <= 64) _) hr.units
theorem bc {n:Nat}(h:n <= 1000):n < sizeLine:=Nat.lt_of_le_of_lt h (by decide)
section
variable {X:Cx}
theorem pv (i:Nat){x:Str}{pos:Pos}(hN:X.N[i]? = some x:=by rfl)(hv:Vis X.env.scope x:=by first | exact Or.inl rfl | exact Or.inr (Or.inl rfl) | exact Or.inr (Or.inr rfl))(hd:(x == ("__debug__":Str))=false:=by decide)
  (hcd:(x == ("__classdict__":Str))=false:=by decide):PE X (.Name x pos) (awe i):=aur hN hv hd hcd
end
theorem di {A B:Prop}(h:B):if false=true then A else B:=by
 rw[if_neg Bool.false_ne_true]
 exact h
theorem wj {A B:Prop}(h:A):if true=true then A else B:=by
 rw[if_pos rfl]
 exact h
theorem bJ {c A B:Prop}[Decidable c](h1:c->A)(h2:¬ c->B):if c then A else B:=by
 by_cases h:c
 ·rw[if_pos h]
  exact h1 h
 ·rw[if_neg h]
  exact h2 h
def aB (H H':Hp):Prop:=∀ b o,H b=some o->H' b=some o
theorem aB.refl (H:Hp):aB H H:=fun _ _ h=>h
theorem aB.trans {H H1 H2:Hp}(a:aB H H1)(b:aB H1 H2):aB H H2:=fun c o h=>b c o (a c o h)
theorem aB.free {H H':Hp}(e:aB H H'){l:Addr}(h:H' l=Option.none):H l=Option.none:=by
 cases q:H l with
 | none=>rfl
 | some o =>
  rw[e l o q] at h
  cases h
theorem aB.seq {K:Frag}{H H':Hp}{a:Addr}{xs:List V}(e:aB H H')(h:bh K H a xs):bh K H' a xs:=by
 rcases h with (h | ⟨o,h⟩) | h
 ·exact .inl (.inl (e _ _ h))
 ·exact .inl (.inr ⟨o,e _ _ h⟩)
 ·exact .inr h
end L2
set_option maxHeartbeats 4000000
namespace L2
open PySem PySem.Spec PyProof.Rows
def kJ (env:Env):List (Str×NameKind)->List (Str×Addr)->List (Str×Addr)
 | [],acc=>acc
 | p :: l,acc=>kJ env l (if p.2 == .free then (p.1,(env.cells.lookup p.1).getD 0) :: acc else acc)
theorem ama {env:Env}{scope:Scope}(h:∀ p∈scope.names,p.2=.free->∃ c,env.cells.lookup p.1=some c):closureFor scope env=pure (kJ env scope.names []):=by
 have go:∀ (l:List (Str×NameKind)) (acc:List (Str×Addr)),(∀ p∈l,p.2=.free->∃ c,env.cells.lookup p.1=some c) ->
   (forIn l acc fun (p:Str×NameKind) cs=>if (p.2 == NameKind.free)=true then (cellOf env p.1 >>= fun a=>pure (ForInStep.yield ((p.1,a) :: cs))) else pure (ForInStep.yield cs))=(pure (kJ env l acc):Sem (List (Str×Addr))):=by
  intro l
  induction l with
  | nil=>intro acc _;rfl
  | cons p l ih =>
   intro acc hl
   rw[List.forIn_cons]
   have hr:=fun q hq=>hl q (List.mem_cons_of_mem _ hq)
   by_cases hk:p.2=.free
   ·obtain⟨c,hc⟩:=hl p List.mem_cons_self hk
    have e1:(p.2 == NameKind.free)=true:=by rw[hk];rfl
    rw[if_pos e1]
    have e2:cellOf env p.1=pure c:=by unfold cellOf;rw[hc]
    rw[e2,pure_bind,pure_bind]
    show forIn l ((p.1,c) :: acc) _=_
    rw[ih _ hr]
    show _=pure (kJ env l (if p.2 == .free then (p.1,(env.cells.lookup p.1).getD 0) :: acc else acc))
    rw[if_pos e1,hc]
    rfl
   ·have e1:¬ (p.2 == NameKind.free)=true:=by intro z;exact hk (by simpa using z)
    rw[if_neg e1,pure_bind]
    show forIn l acc _=_
    rw[ih _ hr]
    show _=pure (kJ env l (if p.2 == .free then (p.1,(env.cells.lookup p.1).getD 0) :: acc else acc))
    rw[if_neg e1]
 have e:=go scope.names [] h
 unfold closureFor
 show (forIn scope.names ([]:List (Str×Addr)) _ >>= fun r=>pure r)=_
 rw[bind_pure]
 exact e
theorem adI {env:Env}{x:Str}:∀ (l:List (Str×NameKind)) (acc:List (Str×Addr)) {c:Addr},(kJ env l acc).lookup x=some c->acc.lookup x=some c∨((x,NameKind.free)∈l/\c=(env.cells.lookup x).getD 0)
 | [],acc,c,h=>.inl h
 | p :: l,acc,c,h=>by
  rcases adI l _ h with z | ⟨z,e⟩
  ·by_cases hk:(p.2 == NameKind.free)=true
   ·rw[if_pos hk,List.lookup_cons] at z
    by_cases hx:(x == p.1)=true
    ·rw[hx] at z
     have e:x=p.1:=by simpa using hx
     have e2:p.2=.free:=by simpa using hk
     refine .inr ⟨?_,?_⟩
     ·rw[e,← e2];exact List.mem_cons_self
     ·rw[e];exact (Option.some.inj z).symm
    ·have hx':(x == p.1)=false:=by simpa using hx
     rw[hx'] at z
     exact .inl z
   ·rw[if_neg hk] at z
    exact .inl z
  ·exact .inr ⟨List.mem_cons_of_mem _ z,e⟩
theorem Zx {env:Env}{x:Str}:∀ (l:List (Str×NameKind)) (acc:List (Str×Addr)),((acc.lookup x).isSome=true∨(x,NameKind.free)∈l)->((kJ env l acc).lookup x).isSome=true
 | [],acc,h=>by
  rcases h with h | h
  ·exact h
  ·cases h
 | p :: l,acc,h=>by
  refine Zx l _ ?_
  rcases h with h | h
  ·left
   by_cases hk:(p.2 == NameKind.free)=true
   ·rw[if_pos hk,List.lookup_cons]
    cases (x == p.1) with
    | true=>rfl
    | false=>exact h
   ·rw[if_neg hk];exact h
  ·rcases List.mem_cons.mp h with e | h
   ·left
    have e1:p.1=x:=by rw[← e]
    have e2:(p.2 == NameKind.free)=true:=by rw[← e];rfl
    rw[if_pos e2,List.lookup_cons,e1]
    simp
   ·exact .inr h
theorem yC {env:Env}{x:Str}{k:NameKind}:∀ (l:List (Str×NameKind)),
  (l.map fun (n,k)=>if (k == NameKind.free && env.scope.kind == .function && env.kindOf n == some .cell) then (n,NameKind.cell) else (n,k)).lookup x=some k ->
   l.lookup x=some k∨(k=.cell/\l.lookup x=some .free)
 | [],h=>by cases h
 | (n,q) :: l,h=>by
  rw[List.map_cons] at h
  cases hx:(x == n) with
  | true =>
   rw[List.lookup_cons,hx]
   by_cases hc:(q == NameKind.free && env.scope.kind == .function && env.kindOf n == some .cell)=true
   ·simp only [hc,if_true,List.lookup_cons,hx] at h
    have e:q=.free:=by
     have:=(Bool.and_eq_true_iff.mp (Bool.and_eq_true_iff.mp hc).1).1
     simpa using this
    right
    exact⟨(Option.some.inj h).symm,by rw[e]⟩
   ·have hc':(q == NameKind.free && env.scope.kind == .function && env.kindOf n == some .cell)=false:=by simpa using hc
    simp only [hc',Bool.false_eq_true,if_false,List.lookup_cons,hx] at h
    exact .inl h
  | false =>
   rw[List.lookup_cons,hx]
   refine yC (env:=env) l ?_
   by_cases hc:(q == NameKind.free && env.scope.kind == .function && env.kindOf n == some .cell)=true
   ·simp only [hc,if_true,List.lookup_cons,hx] at h
    exact h
   ·have hc':(q == NameKind.free && env.scope.kind == .function && env.kindOf n == some .cell)=false:=by simpa using hc
    simp only [hc',Bool.false_eq_true,if_false,List.lookup_cons,hx] at h
    exact h
structure Bk where
 C:Addr
 s₂:Shared
 aEF:Hp
 fp:List Addr
 xe:Value->Shared->Prop
def eG (X:Cx)(cn:List Str)(scope:Scope)(b:Bk):Cx where
 prog:=X.prog
 w:=X.w
 K:=X.K
 mg:=X.mg
 base:=X.base
 A:=X.A
 N:=cn++X.N
 s₀:=b.s₂
 H₀:=b.aEF
 env:=compEnvC scope (kJ X.env scope.names []) b.C X.env
 outer:=X.stack
 stack:=X.stack
 ex:=b.fp
 fn:=fun _=>false
 calm:=X.calm
 pn:=[]
 xe:=b.xe
def apQ (sc:Scope)(N:List Str)(scope:Scope):Bool :=
 (scope.kind == .function) &&
 (scope.names.all fun p=>(p.2 != .cell) && ((p.2 != .free) || (sc.names.lookup p.1 == some .cell) || (sc.names.lookup p.1 == some .free)) && ((p.2 != .local) || (scope.names.lookup p.1 == some .local))) &&
 (N.all fun x=>scope.names.lookup x != some .local)
structure cU (sc:Scope)(N:List Str)(scope:Scope):Prop where
 kind:scope.kind=.function
 apR:∀ p∈scope.names,p.2≠.cell
 free:∀ p∈scope.names,p.2=.free->sc.names.lookup p.1=some .cell∨sc.names.lookup p.1=some .free
 loc:∀ p∈scope.names,p.2=.local->scope.names.lookup p.1=some .local
 apart:∀ x∈N,scope.names.lookup x≠some .local
theorem cU.of {sc:Scope}{N:List Str}{scope:Scope}(h:apQ sc N scope=true):cU sc N scope:=by
 unfold apQ at h
 rw[Bool.and_eq_true,Bool.and_eq_true] at h
 obtain⟨⟨h1,h2⟩,h3⟩:=h
 rw[List.all_eq_true] at h2 h3
 refine⟨by simpa using h1,fun p hp=>?_,fun p hp e=>?_,fun p hp e=>?_,fun x hx=>?_⟩
 ·have:=h2 p hp
  rw[Bool.and_eq_true,Bool.and_eq_true] at this
  simpa using this.1.1
 ·have:=h2 p hp
  rw[Bool.and_eq_true,Bool.and_eq_true] at this
  have q:=this.1.2
  rw[e] at q
  rw[Bool.or_eq_true,Bool.or_eq_true] at q
  rcases q with (q | q) | q
  ·exact absurd q (by decide)
  ·exact .inl (by simpa using q)
  ·exact .inr (by simpa using q)
 ·have:=h2 p hp
  rw[Bool.and_eq_true,Bool.and_eq_true] at this
  have q:=this.2
  rw[e] at q
  rw[Bool.or_eq_true] at q
  rcases q with q | q
  ·exact absurd q (by decide)
  ·simpa using q
 ·have:=h3 x hx
  simpa using this
section
variable {X:Cx} {pins:List (Addr×Obj)} {σ:St} {H:Hp}
theorem HR {l:List (Str×NameKind)}{x:Str}{k:NameKind}(h:l.lookup x=some k):(x,k)∈l:=PySem.mem_of_lookup h
theorem Inv.block {s₂:Shared}{h₁:Heap}{tk:Nat}{cn:List Str}{scope:Scope}{fp:List Addr}{xe:Value->Shared->Prop}{C D:Addr}{m:Str->Option Value}
  (I:Inv X pins σ H s₂) (F:cU X.env.scope X.N scope) (hc:X.calm=true) (hf:∀ b∈fp,tO X pins H b) (hfl:∀ b∈fp,b < s₂.heap.objs.size)
  (hC:s₂.heap.objs.size <= C) (hD:s₂.heap.objs.size <= D) (hDC:D≠C) (hn:h₁.Ns C m) (old:∀ b o,s₂.heap.get? b=some o->h₁.get? b=some o)
  (hacc:h₁.get? D=some { cls:=.type "list",data:=.seq ([]:List Value).toArray 0 }) :
  Inv (eG X cn scope ⟨C,s₂,H,fp,xe⟩) [] (List.replicate cn.length none++σ) (upd H D (.lst [])) { s₂ with heap:=h₁,toks:=tk }:=by
 have aez:∀ x,((eG X cn scope ⟨C,s₂,H,fp,xe⟩).env.kindOf x=some .cell∨(eG X cn scope ⟨C,s₂,H,fp,xe⟩).env.kindOf x=some .free)->(x,NameKind.free)∈scope.names:=by
  intro x hx
  have hx':(relabel scope X.env).names.lookup x=some .cell∨(relabel scope X.env).names.lookup x=some .free:=hx
  rcases hx' with z | z
  ·rcases yC scope.names z with z | ⟨_,z⟩
   ·exact absurd rfl (F.apR _ (HR z))
   ·exact HR z
  ·rcases yC scope.names z with z | ⟨e,_⟩
   ·exact HR z
   ·cases e
 have amb:∀ x,(x,NameKind.free)∈scope.names->X.env.kindOf x=some .cell∨X.env.kindOf x=some .free:=fun x hx=>F.free _ hx rfl
 have Ep:∀ x c,(kJ X.env scope.names []).lookup x=some c->X.env.cells.lookup x=some c:=by
  intro x c e
  rcases adI _ _ e with z | ⟨z,e2⟩
  ·cases z
  ·obtain⟨c',hc'⟩:=I.ok.has x (amb x z)
   rw[hc'] at e2 ⊢
   rw[e2]
   rfl
 have aBB:(eG X cn scope ⟨C,s₂,H,fp,xe⟩).fs=frs X.stack:=rfl
 have ayS:∀ b∈fp,b ∉ frs X.stack:=by
  intro b hb z
  obtain⟨_,f1,f2,_⟩:=hf b hb
  rcases List.mem_cons.mp (I.ajn b z) with e | e
  ·exact f1 e
  ·exact f2 e
 have auJ:∀ x c,X.env.cells.lookup x=some c->c < s₂.heap.objs.size:=by
  intro x c e
  obtain⟨v,o,ho,_⟩:=I.cell x c e
  exact Heap.lt_size ho
 have ok:(eG X cn scope ⟨C,s₂,H,fp,xe⟩).Ok:=by
  refine⟨I.ok.mod,?_,I.ok.glob,I.ok.blt,hC,fun x y c h1 h2=>I.ok.inj x y c (Ep x c h1) (Ep y c h2),fun x hx=>?_,fun x c z=>?_,fun _=>I.ok.hd hc,I.ok.frames,.inl rfl,fun b hb=>⟨?_,fun x c e=>?_⟩,
   fun b o e=>I.bs b o e,Nat.le_trans I.ok.bsz I.sz,fun b o e hb=>?_,fun b hb=>?_,I.stack,I.alV⟩
  ·show (relabel scope X.env).kind=.function
   exact F.kind
  ·have:=Zx (env:=X.env) (x:=x) scope.names [] (.inr (aez x hx))
   exact Option.isSome_iff_exists.mp this
  ·cases z
  ·exact Nat.ne_of_lt (Nat.lt_of_lt_of_le (hfl b hb) hC)
  ·exact (hf b hb).2.2.2.2.1 x c (Ep x c e)
  ·have:X.base.objs.size <= X.s₀.heap.objs.size:=I.ok.bsz
   rcases (hf b hb).2.2.2.1 with z | z
   ·exact I.ok.ajl b o e z
   ·exact absurd (Nat.lt_of_lt_of_le (Heap.lt_size e) (Nat.le_trans I.ok.bsz z)) (Nat.lt_irrefl _)
  ·exact ayS b hb
 have hDn:H D=none:=I.hok.fresh hD
 have ayT:Qy X.prog X.w (upd H D (.lst [])) h₁:=I.hok.laid old hD ⟨Nat.zero_le _,[],0,.nil,hacc⟩
 refine⟨ok,rfl,I.bare,Un.laid old hD hDn,⟨m,hn,fun i x v e1 e2 e3=>?_⟩,fun x c e=>?_,?_,fun x c e=>?_,fun p hp=>absurd (show p∈([]:List (Addr×Obj)) from hp) (by simp),ayT,?_⟩
 ·have hi:¬ i < cn.length:=by
   intro hi
   rw[List.getElem?_append_left (by simpa using hi),List.getElem?_replicate] at e2
   split at e2 <;> cases e2
  rw[List.getElem?_append_right (by simpa using hi),List.length_replicate] at e2
  have e1':(cn++X.N)[i]? = some x:=e1
  rw[List.getElem?_append_right (by omega)] at e1'
  obtain⟨m0,hm0,hl⟩:=I.loc
  have hxN:x∈X.N:=List.mem_of_getElem? e1'
  have hfr:(x,NameKind.free)∈scope.names:=by
   have e3':(relabel scope X.env).names.lookup x=some .local∨(relabel scope X.env).names.lookup x=some .cell∨(relabel scope X.env).names.lookup x=some .free:=e3
   rcases e3' with z | z | z
   ·rcases yC scope.names z with z | ⟨e,_⟩
    ·exact absurd z (F.apart x hxN)
    ·cases e
   ·exact aez x (.inl z)
   ·exact aez x (.inr z)
  have hk:=amb x hfr
  have vis:Vis X.env.scope x:=by
   rcases hk with z | z
   ·exact .inr (.inl z)
   ·exact .inr (.inr z)
  obtain⟨u,r,lk⟩:=hl (i - cn.length) x v e1' e2 vis
  refine⟨u,r,?_⟩
  rcases lk with ⟨z,_⟩ | ⟨_,c,ec,z⟩
  ·rcases hk with q | q
   ·rw[z] at q;cases q
   ·rw[z] at q;cases q
  ·have hcl:(kJ X.env scope.names []).lookup x=some c:=by
    obtain⟨c',e'⟩:=Option.isSome_iff_exists.mp (Zx (env:=X.env) (x:=x) scope.names [] (.inr hfr))
    rw[e']
    have:=Ep x c' e'
    rw[ec] at this
    exact this.symm
   refine .inr ⟨?_,c,hcl,?_⟩
   ·have e3':(relabel scope X.env).names.lookup x=some .local∨(relabel scope X.env).names.lookup x=some .cell∨(relabel scope X.env).names.lookup x=some .free:=e3
    rcases e3' with y | y | y
    ·rcases yC scope.names y with y | ⟨e,_⟩
     ·exact absurd y (F.apart x hxN)
     ·cases e
    ·exact .inl y
    ·exact .inr y
   ·obtain⟨o,ho,hd⟩:=z
    exact⟨o,old c o ho,hd⟩
 ·obtain⟨v,o,ho,hd⟩:=I.cell x c (Ep x c e)
  exact⟨v,o,old c o ho,hd⟩
 ·show upd H D (.lst []) C=none
  rw[aA (Ne.symm hDC)]
  exact I.hok.fresh hC
 ·rw[aA (Nat.ne_of_lt (Nat.lt_of_lt_of_le (auJ x c (Ep x c e)) hD))]
  exact I.Hg x c (Ep x c e)
 ·show (List.replicate cn.length none++σ).length=(cn++X.N).length
  rw[List.length_append,List.length_replicate,List.length_append,I.len]
theorem Inv.amc {s₂ s':Shared}{h':Heap}{cn:List Str}{scope:Scope}{fp:List Addr}{xe:Value->Shared->Prop}{C:Addr}{H':Hp}{σ':St}{pl:List (Addr×Obj)}
  (I:Inv X pins σ H s₂) (hf:∀ b∈fp,tO X pins H b) (hC:s₂.heap.objs.size <= C) (J:Inv (eG X cn scope ⟨C,s₂,H,fp,xe⟩) pl σ' H' s') (sb:Heap.SameBut C s'.heap h') :
  Inv X pins σ H' { s' with heap:=h' }:=by
 have neC:∀ b o,s₂.heap.get? b=some o->b≠C:=fun b o e=>Nat.ne_of_lt (Nat.lt_of_lt_of_le (Heap.lt_size e) hC)
 have u:Un (frs X.stack) fp H H' s₂.heap s'.heap:=J.base
 have un:Un (frs X.stack) fp H H' s₂.heap h' :=
  ⟨fun b o e n hb hx=>(sb.2 b (neC b o e)).trans (u.keep b o e n hb hx),
   fun b o e n hb hx=>by
   obtain⟨sl,q⟩:=u.slot b o e n hb hx
   exact⟨sl,(sb.2 b (neC b o e)).trans q⟩,
   u.free,fun b o e hx=>by
   obtain⟨o',q⟩:=u.there b o e hx
   exact⟨o',(sb.2 b (neC b o e)).trans q⟩,u.tups,u.acD,u.aes⟩
 have fC:H' C=none:=J.free
 have hok:Qy X.prog X.w H' h':=fun b o e=>by
  refine (J.hok b o e).stay (fun c v hc q=>(sb.2 c ?_).trans q) (fun _ q=>q) fun _ _ q=>q
  rintro rfl
  rcases hc with z | z
  ·rw[← z,fC] at e;cases e
  ·rw[fC] at z;cases z
 have os:s'.os=s₂.os:=J.os
 refine I.call' (s':={ s' with heap:=h' }) os un hok J.bare fun b hb=>?_
 obtain⟨_,f1,_,f3,f4,f5⟩:=hf b hb
 exact⟨f3,f1,f4,f5⟩
end
end L2
set_option maxHeartbeats 4000000
namespace L2
open PySem PySem.Spec PyProof.Rows
theorem am9 {prog:Program}{w:World}{A:Around}{R:Result->Shared->Prop}{s:Shared}{elt tg iter:Expr}{ifs:List Expr}{scope:Scope}{pos:Pos}{it acc:Value}{env:Env}(J:Nat->Shared->Prop)
  (turn:∀ n s,J n s->wpAny (model prog w) A (pyNext it) (fun r s₁=>(r=none/\R (.ok .next) s₁) ∨ ∃ v,r=some v /\
   wpAny (model prog w) A (letOwnedTupleGo tg it v) (fun _ s₂=>wpAny (model prog w) A (assign tg env v) (fun _ s₃ =>
    wpAny (model prog w) A (forIn ifs true fun c r=>if r=true then do let ok ← isTrue c env (eval c env);pure (ForInStep.yield ok) else pure (ForInStep.yield r)) (fun ok s₄ =>
     if ok=true then wpAny (model prog w) A (eval elt env) (fun x s₅=>wpAny (model prog w) A (call (.builtin "list.append") [acc,x]) (fun _ s₆=>∃ m,m < n/\J m s₆) (notedBy (model prog w) A env fun e s'=>R (.error e) s') s₅)
      (notedBy (model prog w) A env fun e s'=>R (.error e) s') s₄
     else ∃ m,m < n/\J m s₄) (notedBy (model prog w) A env fun e s'=>R (.error e) s') s₃) (notedBy (model prog w) A env fun e s'=>R (.error e) s') s₂) (notedBy (model prog w) A env fun e s'=>R (.error e) s') s₁)
   (notedBy (model prog w) A env fun e s'=>R (.error e) s') s)
  (n:Nat) (h:J n s):codeAny (model prog w) A (.compLoop (.ListComp elt [⟨tg,iter,ifs,0⟩] scope pos) 0 it acc env) R s:=by
 refine codeAny_loop rfl J (fun n s hJ=>?_) n h
 refine wpAny_noted (A:=A) (m:=compTurn (.ListComp elt [⟨tg,iter,ifs,0⟩] scope pos) 0 it acc env) (env:=env) ?_
 rw[compTurn_list]
 refine wpAny_bind (wpAny_standAt (wpAny_bind (eX (turn n s hJ) fun r s₁ h₁=>?_)))
 rcases h₁ with ⟨e,h₁⟩ | ⟨v,e,h₁⟩
 ·subst e
  exact wpAny_pure h₁
 ·subst e
  refine wpAny_bind (eX h₁ fun _ s₂ h₂=>wpAny_bind (eX h₂ fun _ s₃ h₃=>wpAny_bind (eX h₃ fun ok s₄ h₄=>?_)))
  cases ok with
  | false=>exact wpAny_pure ⟨rfl,h₄⟩
  | true=>exact wpAny_bind (wpAny_bind (eX h₄ fun x s₅ h₅=>wpAny_bind (eX h₅ fun _ s₆ h₆=>wpAny_pure (wpAny_pure ⟨rfl,h₆⟩))))
def PF (X:Cx)(ifs:List Expr)(t:TT):Prop :=
 ∀ (pins:List (Addr×Obj)) (s:Shared) (σ:St) (H:Hp) (Q:Bool->Hp->Prop),Inv X pins σ H s->t σ H Q ->
  wpAny (model X.prog X.w) X.A (forIn ifs true fun c r=>if r=true then do let ok ← isTrue c X.env (eval c X.env);pure (ForInStep.yield ok) else pure (ForInStep.yield r)) (TP X pins σ Q) X.xe s
def auK:TT:=fun _ H Q=>Q true H
theorem kO {X:Cx}:PF X [] auK:=by
 intro pins s σ H Q I h
 rw[List.forIn_nil]
 exact wpAny_pure ⟨H,I,h⟩
theorem auL {X:Cx}{c:Expr}{t:TT}(hc:PT X c t):PF X [c] t:=by
 intro pins s σ H Q I h
 rw[List.forIn_cons]
 refine wpAny_bind ?_
 rw[if_pos rfl]
 refine wpAny_bind (eX (hc pins s σ H Q I h) fun ok s1 q=>wpAny_pure ?_)
 show wpAny _ _ (forIn [] ok _) _ _ _
 rw[List.forIn_nil]
 exact wpAny_pure q
def ajE (X:Cx)(C:Addr)(e:Value)(s':Shared):Prop :=
 ∃ m,s'.heap.Ns C m/\∀ h',Heap.SameBut C s'.heap h'->∀ cenv:Env,cenv.locals=C->wpAny (model X.prog X.w) X.A (passOn "comprehension.variables-let-go" e cenv:Sem Value) (fun _ _=>False) X.xe { s' with heap:=h' }
def Dh (X:Cx)(scope:Scope)(C:Addr):Value->Shared->Prop :=
 notedBy (model X.prog X.w) X.A (compEnvC scope (kJ X.env scope.names []) C X.env) (ajE X C)
def apS (n:Nat)(wi:TI)(g:Bk->TG)(tc:Bk->TT)(te:Bk->TE):TE:=fun σ H Q=>wi σ H fun J H1=>∀ (D:Addr) (b:Bk),H1 D=none->∃ W:Nat->Nat->List V->St->Hp->Prop,
 (∃ m,W 0 m [] (List.replicate n none++σ) (upd H1 D (.lst [])))/\∀ i m ys σ H,W i m ys σ H ->
  (J.stop i H/\Q (.ref D) H)∨(J.go i H/\∀ x H',J.yld i H x H'->g b x σ H' fun σ2 H2=>tc b σ2 H2 fun ok H3 =>
   if ok=true then te b σ2 H3 fun y H4=>H4 D=some (.lst ys)/\ys.length < sizeLine/\∃ m',m' < m/\W (i+1) m' (ys++[y]) σ2 (upd H4 D (.lst (ys++[y])))
   else ∃ m',m' < m/\W (i+1) m' ys σ2 H3)
section
variable {X:Cx} {tg iter elt:Expr} {ifs:List Expr} {scope:Scope} {pos:Pos} {cn:List Str} {wi:TI} {g:Bk->TG} {tc:Bk->TT} {te:Bk->TE} {TH:Bk->Prop}
theorem ahP {pins:List (Addr×Obj)}{σ:St}{H:Hp}{s₂:Shared}{it:Addr}{fp:List Addr}{tn:Nat->Heap->Prop}{J:It}{RR:Value->Addr->Result->Shared->Prop}{QQ:Addr->Hp->Prop}{EE:Value->Shared->Prop}
  (hcalm:X.calm=true) (F:cU X.env.scope X.N scope) (hg:∀ b,TH b->PG (eG X cn scope b) tg (g b)) (ht:∀ b,TH b->PF (eG X cn scope b) ifs (tc b)) (he:∀ b,TH b->PE (eG X cn scope b) elt (te b))
  (hTH:∀ C,s₂.heap.objs.size <= C->TH ⟨C,s₂,H,fp,Dh X scope C⟩)
  (I:Inv X pins σ H s₂) (T:Turn X.prog X.w X.K tg J fp it tn) (st:tn 0 s₂.heap) (hf:∀ b∈fp,tO X pins H b)
  (h:∀ (D:Addr) (b:Bk),H D=none->∃ W:Nat->Nat->List V->St->Hp->Prop,(∃ m,W 0 m [] (List.replicate cn.length none++σ) (upd H D (.lst [])))/\∀ i m ys σ H,W i m ys σ H ->
   (J.stop i H/\QQ D H)∨(J.go i H/\∀ x H',J.yld i H x H'->g b x σ H' fun σ2 H2=>tc b σ2 H2 fun ok H3 =>
    if ok=true then te b σ2 H3 fun y H4=>H4 D=some (.lst ys)/\ys.length < sizeLine/\∃ m',m' < m/\W (i+1) m' (ys++[y]) σ2 (upd H4 D (.lst (ys++[y])))
    else ∃ m',m' < m/\W (i+1) m' ys σ2 H3))
  (hR:∀ C D σ' H' s',s₂.heap.objs.size <= C->Inv (eG X cn scope ⟨C,s₂,H,fp,Dh X scope C⟩) [] σ' H' s'->QQ D H'->RR (.ref D) C (.ok .next) s')
  (hE:∀ C D e s',ajE X C e s'->RR (.ref D) C (.error e) s') :
  wpAny (model X.prog X.w) X.A (newList []) (fun acc s₃=>wpAny (model X.prog X.w) X.A (newFunctionEnv scope X.env.globals (kJ X.env scope.names []) [] X.env.qual none .none (some X.env)) (fun cenv s₄ =>
   codeAny (model X.prog X.w) X.A (.compStart (.ListComp elt [⟨tg,iter,ifs,0⟩] scope pos) 0 (.ref it) acc { cenv with scope:=relabel scope X.env }) (RR acc cenv.locals) s₄) EE s₃) EE s₂:=by
 refine wpAny_newObj_type (wpAny_newFunctionEnv F.apR (by intro y hy;simp at hy) (fun h₁ hns₁ hsb₁=>?_) F.kind)
 dsimp only at hns₁ hsb₁ ⊢
 generalize hH2:s₂.heap.push { cls:=.type "list",dict:=none,data:=.seq ([]:List Value).toArray } = H2 at hns₁ hsb₁ ⊢
 have hC:H2.objs.size=s₂.heap.objs.size+1:=by rw[← hH2,Heap.size_push]
 have hDC:s₂.heap.objs.size≠H2.objs.size:=by omega
 have hCle:s₂.heap.objs.size <= H2.objs.size:=by omega
 have hfl:∀ b∈fp,b < s₂.heap.objs.size:=fun b hb=>by
  obtain⟨o,e,_⟩:=T.obj 0 _ st b hb
  exact Heap.lt_size e
 have ayV:∀ b o,s₂.heap.get? b=some o->H2.get? b=some o:=fun b o e=>hH2 ▸ Heap.get?_push_of_some _ e
 have old:∀ b o,s₂.heap.get? b=some o->h₁.get? b=some o:=fun b o e=>by
  have hb:=Heap.lt_size e
  refine hsb₁.extBut b o (Nat.ne_of_lt (Nat.lt_of_lt_of_le hb hCle)) (Heap.get?_push_of_some _ (ayV b o e))
 have hacc:h₁.get? s₂.heap.objs.size=some { cls:=.type "list",data:=.seq ([]:List Value).toArray 0 } :=
  hsb₁.extBut _ _ hDC (Heap.get?_push_of_some _ (hH2 ▸ Heap.get?_push_size _ rfl))
 have I0:=Inv.block (cn:=cn) (xe:=Dh X scope H2.objs.size) (tk:=s₂.toks+([]:List (Str×Value)).length) I F hcalm hf hfl hCle (Nat.le_refl _) hDC hns₁ old hacc
 have th:=hTH _ hCle
 obtain⟨W,⟨m0,w0⟩,turn⟩:=h s₂.heap.objs.size ⟨H2.objs.size,s₂,H,fp,Dh X scope H2.objs.size⟩ (I.hok.fresh (Nat.le_refl _))
 have fpx:∀ {H':Hp},(∀ b∈fp,H' b=none)->∀ b∈fp,tO (eG X cn scope ⟨H2.objs.size,s₂,H,fp,Dh X scope H2.objs.size⟩) [] H' b:=fun {H'} hn b hb=>by
  refine⟨hn b hb,(I0.ok.exf b hb).1,I0.ok.ajm b hb,.inl hb,(I0.ok.exf b hb).2,fun p hp=>absurd (show p∈([]:List (Addr×Obj)) from hp) (by simp)⟩
 have atN:(eG X cn scope ⟨H2.objs.size,s₂,H,fp,Dh X scope H2.objs.size⟩).calm=true:=hcalm
 have loop:∀ s₃:Shared,s₃ = { s₂ with heap:=h₁,toks:=s₂.toks+([]:List (Str×Value)).length } ->
   codeAny (model X.prog X.w) X.A (.compLoop (.ListComp elt [⟨tg,iter,ifs,0⟩] scope pos) 0 (.ref it) (.ref s₂.heap.objs.size) (compEnvC scope (kJ X.env scope.names []) H2.objs.size X.env))
    (RR (.ref s₂.heap.objs.size) H2.objs.size) s₃:=by
  rintro s₃ rfl
  have toE:∀ e s',(eG X cn scope ⟨H2.objs.size,s₂,H,fp,Dh X scope H2.objs.size⟩).xe e s' ->
    notedBy (model X.prog X.w) X.A (compEnvC scope (kJ X.env scope.names []) H2.objs.size X.env) (fun e s'=>RR (.ref s₂.heap.objs.size) H2.objs.size (.error e) s') e s':=fun e s' z =>
   wpAny_mono (show notedBy (model X.prog X.w) X.A (compEnvC scope (kJ X.env scope.names []) H2.objs.size X.env) (ajE X H2.objs.size) e s' from z) (fun _ _ q=>hE _ _ _ _ q) fun _ _ q=>hE _ _ _ _ q
  refine am9 (env:=compEnvC scope (kJ X.env scope.names []) H2.objs.size X.env)
   (fun n s'=>∃ i ys σ' H',Inv (eG X cn scope ⟨H2.objs.size,s₂,H,fp,Dh X scope H2.objs.size⟩) [] σ' H' s'/\tn i s'.heap/\(∀ b∈fp,H' b=none)/\W i n ys σ' H') ?_ m0
   ⟨0,[],_,_,I0,T.keep _ _ _ st fun b _ o e=>old b o e,fun b hb=>?_,w0⟩
  ·rintro n s' ⟨i,ys,σ',H',I',st',fr',w'⟩
   rcases turn i n ys σ' H' w' with ⟨stop,qn⟩ | ⟨go,step⟩
   ·refine wpAny_mono (T.done (eG X cn scope ⟨H2.objs.size,s₂,H,fp,Dh X scope H2.objs.size⟩) rfl rfl rfl atN i [] s' σ' H' (fun _ _=>False) I' (fpx fr') st' stop) (fun r s4 ⟨hr,I4⟩=>?_) fun _ _ z=>z.elim
    exact .inl ⟨hr,hR _ _ _ _ _ hCle I4 qn⟩
   ·refine wpAny_mono (T.item (eG X cn scope ⟨H2.objs.size,s₂,H,fp,Dh X scope H2.objs.size⟩) rfl rfl rfl atN i [] s' σ' H' (fun _ _=>False) I' (fpx fr') st' go) (fun r s4 ⟨u,hr,h4⟩=>?_) fun _ _ z=>z.elim
    refine .inr ⟨u,hr,wpAny_mono h4 (fun _ s5 ⟨x,H5,I5,r5,y5,st5,fr5⟩=>?_) fun _ _ z=>z.elim⟩
    have I5':=I5.pinned (fpx fr5) (T.obj _ _ st5)
    refine wpAny_mono (hg _ th _ s5 σ' H5 x u _ I5' r5 (step x H5 y5)) (fun _ s6 ⟨σ6,H6,I6,q6⟩=>?_) toE
    refine wpAny_mono (ht _ th _ s6 σ6 H6 _ I6 q6) (fun ok s7 ⟨H7,I7,q7⟩=>?_) toE
    have back:∀ {σ8:St} {H8:Hp} {s8:Shared},Inv (eG X cn scope ⟨H2.objs.size,s₂,H,fp,Dh X scope H2.objs.size⟩) ([]++Zr fp s5.heap) σ8 H8 s8->tn (i+1) s8.heap/\∀ b∈fp,H8 b=none:=fun {σ8 H8 s8} I8=>by
     refine⟨T.keep _ _ _ st5 fun b hb o e=>(I8.pin (b,o) (List.mem_append_right _ (List.mem_append_right _ (Eo hb e)))).1,fun b hb=>?_⟩
     obtain⟨o,e,d⟩:=T.obj _ _ st5 b hb
     exact (I8.pin (b,o) (List.mem_append_right _ (List.mem_append_right _ (Eo hb e)))).2.1
    cases ok with
    | false =>
     rw[if_neg Bool.false_ne_true] at q7 ⊢
     obtain⟨m',hm,w7⟩:=q7
     obtain⟨t8,f8⟩:=back I7
     exact⟨m',hm,i+1,ys,σ6,H7,I7.HF,t8,f8,w7⟩
    | true =>
     rw[if_pos rfl] at q7 ⊢
     refine wpAny_mono (he _ th _ s7 σ6 H7 _ I7 q7) (fun v s8 ⟨y,H8,I8,r8,hl,hz,m',hm,w8⟩=>?_) toE
     refine wpAny_mono (bK (X:=eG X cn scope ⟨H2.objs.size,s₂,H,fp,Dh X scope H2.objs.size⟩) _ s8 σ6 H8 (.ref s₂.heap.objs.size) [y] (.ref s₂.heap.objs.size) [v] (fun _ H9=>W (i+1) m' (ys++[y]) σ6 H9) I8 rfl (.cons r8 .nil) ⟨_,ys,y,rfl,rfl,hl,hz,w8⟩)
      (fun _ s9 ⟨_,H9,I9,_,w9⟩=>?_) toE
     obtain⟨t9,f9⟩:=back I9
     exact⟨m',hm,i+1,_,σ6,H9,I9.HF,t9,f9,w9⟩
  ·rw[aA (Nat.ne_of_lt (hfl b hb))]
   exact (hf b hb).1
 exact codeAny_compStart_list (loop _ rfl) (T.self _ 0 _ _ _ (T.keep _ _ _ st fun b _ o e=>old b o e) (loop _ rfl))
theorem apT (hcalm:X.calm=true)(F:cU X.env.scope X.N scope)(hi:PI X tg iter wi)(hg:∀ b,TH b->PG (eG X cn scope b) tg (g b))(ht:∀ b,TH b->PF (eG X cn scope b) ifs (tc b))
  (he:∀ b,TH b->PE (eG X cn scope b) elt (te b))
  (hTH:∀ pins σ H s₂ fp C,Inv X pins σ H s₂->(∀ b∈fp,tO X pins H b)->s₂.heap.objs.size <= C->TH ⟨C,s₂,H,fp,Dh X scope C⟩)
  (hs:∀ x,foldedSetIterable iter X.env x=pure x:=by intro _;rfl):PE X (.ListComp elt [⟨tg,iter,ifs,0⟩] scope pos) (apS cn.length wi g tc te):=by
 intro pins s σ H Q I h
 rw[eval_ListComp]
 have hcl:closureFor scope X.env=pure (kJ X.env scope.names []):=ama fun p hp e=>I.ok.has p.1 (F.free p hp e)
 refine wpAny_comprehension_free (use:=none) rfl hs hcl F.kind F.loc (eX (hi pins s σ H _ I h) fun xv s₁ h₁=>eX h₁ fun itv s₂ h₂=>?_)
 obtain⟨it,fp,tn,J,H2,rfl,I2,T,st,f2,R⟩:=h₂
 refine ahP (QQ:=fun D H'=>Q (.ref D) H') (RR:=fun acc C=>compPost (model X.prog X.w) X.A X.xe none (EP X pins σ Q) acc C) hcalm F hg ht he (fun C hC=>hTH pins σ H2 s₂ fp C I2 f2 hC) I2 T st f2 R ?_ ?_
 ·intro C D σ' H' s' hC I' q
  obtain⟨m,hm,_⟩:=I'.loc
  exact⟨m,hm,fun h' sb=>⟨.ref D,H',I2.amc f2 hC I' sb,rfl,q⟩⟩
 ·intro C D e s' z
  exact z
theorem lF (hcalm:X.calm=true)(F:cU X.env.scope X.N scope)(hi:PI X tg iter wi)(hg:∀ b,PG (eG X cn scope b) tg (g b))(ht:∀ b,PF (eG X cn scope b) ifs (tc b))(he:∀ b,PE (eG X cn scope b) elt (te b))
  (hs:∀ x,foldedSetIterable iter X.env x=pure x:=by intro _;rfl):PE X (.ListComp elt [⟨tg,iter,ifs,0⟩] scope pos) (apS cn.length wi g tc te) :=
 apT (TH:=fun _=>True) hcalm F hi (fun b _=>hg b) (fun b _=>ht b) (fun b _=>he b) (fun _ _ _ _ _ _ _ _ _=>trivial) hs
end
end L2
set_option maxHeartbeats 4000000
namespace L2
open PySem PySem.Spec PyProof.Rows
section
variable {X:Cx} {e:Expr} {es:List Expr} {te:TE} {pos:Pos}
abbrev TP1:=St->Hp->(Str->Hp->Prop)->Prop
abbrev TPs:=Str->St->Hp->(Str->Hp->Prop)->Prop
theorem j7:oh X (.type "int") (fun xs H Q=>∃ z n,xs=[.str z]/\PySem.intText? z=some n/\z.length <= 640/\Q (.int n) H):=by
 intro pins s σ H xs us Q I r h
 obtain⟨z,n,rfl,hn,hl,q⟩:=h
 obtain⟨u,rfl,t,rfl⟩:=r.one
 exact PySem.W.KIN.call_text hn hl ⟨.int n,H,I.tok _,⟨_,rfl⟩,q⟩
def ayX:V->Option Int->Option Int->Hp->VK->Prop:=fun x lo hi H Q=>∃ z,x=.str z/\z.length <= sizeLine/\Q (.str (Txt.slice z lo hi)) H
theorem adJ {v:Value}{o:Option Int}(p:IsPart v o):∃ l:Option (Int×Tok),v=partValue l/\l.map (·.1)=o:=by
 cases p with
 | none=>exact⟨none,rfl,rfl⟩
 | int i t=>exact⟨some (i,t),rfl,rfl⟩
theorem BK:SlR X ayX:=by
 intro pins s σ H x v vl vu lo hi sl Q I rx hs pl pu h
 obtain⟨z,rfl,hz,q⟩:=h
 obtain⟨t,rfl⟩:=rx
 obtain⟨l,rfl,el⟩:=adJ pl
 obtain⟨u,rfl,eu⟩:=adJ pu
 subst el eu
 refine⟨"str",_,F.slot_str_getitem.lookup,typeIs_str _ _ _,?_⟩
 obtain⟨o,ho,hc,hd⟩:=hs
 refine wpAny_getItem_str_slice (l:=l) (u:=u) (st:=none) ⟨o,ho,hc,hd⟩ rfl ?_
 exact post_val_or_str ⟨Nat.le_trans (Txt.slice_le z _ _) hz,fun t' k=>⟨.str _,H,I.tok _,⟨t',rfl⟩,q⟩⟩
def Its (z:Str):It:=⟨fun i _=>i < z.cps.size,fun i H x H'=>H'=H/\∃ c,z.cps[i]? = some c/\x=.str ⟨#[c]⟩,fun i _=>z.cps.size <= i⟩
def ayZ (tl:TE):TI:=fun σ H R=>tl σ H fun x H1=>∃ z,x=.str z/\R (Its z) H1
theorem ahQ {P:Program}{w:World}{K:Frag}{tg:Expr}{z:Str}{it:Addr}{T:String}{t:Tok}(hT:["enumerate","zip","dict_itemiterator","dict_reverseitemiterator","odict_iterator","itertools.zip_longest","itertools.pairwise"].contains T=false)
  (W:∀ A:Around,A.handled=none->Walks P w A it [it] [it] z.cps.size (SignAt z) (fun i h=>h.IsStrIter it T z t i)) 
  (S:∀ (A:Around) (i:Nat) (s:Shared) (Q:Value->Shared->Prop) (E:Value->Shared->Prop),s.heap.IsStrIter it T z t i->Q (.ref it) s->wpAny (model P w) A (pyIter (.ref it)) Q E s) :
  Turn P w K tg (Its z) [it] it (fun i h=>h.IsStrIter it T z t i/\i <= z.cps.size) where
 mem:=by simp
 obj:=fun i h st b hb=>by
  have e:b=it:=by simpa using hb
  subst e
  obtain⟨⟨o,e,c,d⟩,_⟩:=st
  exact⟨o,e,fun v q=>by rw[d] at q;cases q⟩
 keep:=fun i h h' st k=>⟨by
  obtain⟨⟨o,e,c,d⟩,_⟩:=st
  exact⟨o,k it (by simp) o e,c,d⟩,st.2⟩
 item:=by
  intro X hP hw hK hc i pins s σ H E I hf st hg
  subst hP hw hK
  obtain⟨f0,f1,f2,f3,f4,f5⟩:=hf it (by simp)
  have hgi:i < z.cps.size:=hg
  refine (W X.A (I.ok.hd hc)).item i s _ _ hgi st.1 fun v h' tk hv st' kk=>?_
  obtain⟨c,u,hc',rfl⟩:=hv
  have I1:Inv X pins σ H { s with heap:=h',toks:=tk }:=I.turned (fun b o hb e=>kk b o (by simpa using hb) e) f0 f1 f3 f4 f5
  obtain⟨o,e,cc,d⟩:=id st'
  exact⟨_,rfl,alY (s:={ s with heap:=h',toks:=tk }) e cc d hT ⟨.str ⟨#[c]⟩,H,I1,⟨u,rfl⟩,⟨rfl,c,hc',rfl⟩,⟨st',hgi⟩,fun b hb=>(hf b hb).1⟩⟩
 done:=by
  intro X hP hw hK hc i pins s σ H E I hf st hg
  subst hP hw hK
  obtain⟨f0,f1,f2,f3,f4,f5⟩:=hf it (by simp)
  have hge:z.cps.size <= i:=hg
  have e:i=z.cps.size:=Nat.le_antisymm st.2 hge
  subst e
  exact (W X.A (I.ok.hd hc)).done s _ _ st.1 fun h' tk kk=>⟨rfl,I.turned (fun b o hb e=>kk b o (by simpa using hb) e) f0 f1 f3 f4 f5⟩
 self:=fun A i s Q E st h=>S A i s Q E st.1 h
theorem auM {tg l:Expr}{tl:TE}(hl:PE X l tl):PI X tg l (ayZ tl):=by
 intro pins s σ H R I h
 refine eX (hl pins s σ H _ I h) fun v s1 ⟨x,H1,I1,r1,q1⟩=>?_
 obtain⟨z,rfl,q⟩:=q1
 obtain⟨t,rfl⟩:=r1
 have fp:∀ b∈[s1.heap.objs.size],tO X pins H1 b:=fun b hb=>by
  have e:b=s1.heap.objs.size:=by simpa using hb
  subst e
  exact I1.acE (Nat.le_refl _) (I1.hok.fresh (Nat.le_refl _))
 cases ha:z.cps.all (· < 128)
 ·refine wpAny_pyIter_wide ha ?_
  refine⟨s1.heap.objs.size,[s1.heap.objs.size],_,_,H1,rfl,I1.kept (t':=s1.toks) fun b o e=>Heap.get?_push_of_some _ e,ahQ (T:="str_iterator") (t:=t) (by decide) (fun A hA=>Walks.strWide hA _ z t)
   (fun A i s Q E st hq=>wpAny_pyIter_striter_wide st hq),⟨⟨_,Heap.get?_push_size _ rfl,rfl,rfl⟩,Nat.zero_le _⟩,fp,q⟩
 ·refine wpAny_pyIter_ascii ha ?_
  refine⟨s1.heap.objs.size,[s1.heap.objs.size],_,_,H1,rfl,I1.kept (t':=s1.toks) fun b o e=>Heap.get?_push_of_some _ e,ahQ (T:="str_ascii_iterator") (t:=t) (by decide) (fun A hA=>Walks.strAscii hA _ z t)
   (fun A i s Q E st hq=>wpAny_pyIter_striter_ascii st hq),⟨⟨_,Heap.get?_push_size _ rfl,rfl,rfl⟩,Nat.zero_le _⟩,fp,q⟩
theorem any_range:∀ bs:List Bool,(List.range bs.length).any (fun i=>bs.getD i false)=bs.any id
 | []=>rfl
 | b :: bs=>by
  rw[List.length_cons,List.range_succ_eq_map,List.any_cons,List.any_map,List.any_cons]
  have:((fun i=>(b :: bs).getD i false) ∘ Nat.succ)=fun i=>bs.getD i false:=by
   funext i
   rfl
  rw[this,any_range bs]
  rfl
theorem apU:oh X (.builtin "any") (fun xs H Q=>X.calm=true/\∃ (a:Addr) (bs:List Bool),xs=[.ref a]/\bh X.K H a (bs.map V.bl)/\Q (.bl (bs.any id)) H):=by
 intro pins s σ H xs us Q I r h
 obtain⟨hc,a,bs,rfl,hq,q⟩:=h
 obtain⟨u,rfl,rfl⟩:=r.one
 obtain⟨its,rv,p,hz⟩:=I.list hq
 have hl:=rv.length
 rw[List.length_map] at hl
 have auN:∀ (i:Nat) (v:Value),its.toArray[i]? = some v->v=Value.bool (bs.getD i false):=by
  intro i v hv
  have hv':its[i]? = some v:=by simpa using hv
  have hi:i < its.length:=(List.getElem?_eq_some_iff.mp hv').1
  have hb:i < bs.length:=by omega
  obtain⟨u,hu,ru⟩:=rv.get (i:=i) (x:=.bl (bs[i])) (by rw[List.getElem?_map,List.getElem?_eq_getElem hb];rfl)
  rw[hv'] at hu;cases hu
  have:v=.bool bs[i]:=ru
  rw[this,List.getD_eq_getElem?_getD,List.getElem?_eq_getElem hb]
  rfl
 refine call_any_walk (wpAny_pyIter_list p.isList ?_)
 have ane:a≠s.heap.objs.size:=by
  obtain⟨o,ho,_⟩:=p.isList
  exact Nat.ne_of_lt (Heap.lt_size ho)
 have hd:X.A.in1.handled=none:=I.ok.hd hc
 refine⟨s.heap.objs.size,_,_,_,_,_,fun i=>bs.getD i false,rfl,Walks.list hd s.heap.objs.size a ane its.toArray,⟨⟨_,Heap.get?_push_size _ rfl,rfl,rfl⟩,p.isList.push _⟩,?_,?_⟩
 ·intro i v s' Q' E' hP hQ'
  rw[auN i v hP]
  exact wpAny_truthy_bool hQ'
 ·intro h' tk kk
  have e:(List.range its.toArray.size).any (fun i=>bs.getD i false)=bs.any id:=by
   rw[List.size_toArray,← hl]
   exact any_range bs
  rw[e]
  refine⟨.bl _,H,I.kept (t':=tk) fun b o e=>kk b o (fun z=>?_) (Heap.get?_push_of_some _ e),rfl,q⟩
  have:b=s.heap.objs.size:=by simpa using z
  exact absurd (Heap.lt_size e) (by rw[this];exact Nat.lt_irrefl _)
end
end L2
set_option maxHeartbeats 4000000
namespace L2
open PySem PySem.Spec PyProof.Rows PySem.SeqAt
inductive Deq (K:Frag)(H:Hp):Nat->V->V->Prop where
 | flat {n:Nat} {x:V} (f:Hh x=true):Deq K H n x x
 | tup {n:Nat} {a b:Addr} {xs ys:List V} (ha:nJ K H a xs) (hb:nJ K H b ys) (hl:xs.length=ys.length) (h:∀ (i:Nat) x y,xs[i]? = some x->ys[i]? = some y->Deq K H n x y):Deq K H (n+1) (.ref a) (.ref b)
 | lst {n:Nat} {a b:Addr} {xs ys:List V} (ha:bh K H a xs) (hb:bh K H b ys) (hl:xs.length=ys.length) (h:∀ (i:Nat) x y,xs[i]? = some x->ys[i]? = some y->Deq K H n x y):Deq K H (n+1) (.ref a) (.ref b)
section
variable {X:Cx} {pins:List (Addr×Obj)} {σ:St} {H:Hp} {s:Shared}
theorem apW:∀ {x:V},Hh x=true->eqV x x=true:=by
 intro x f
 cases x <;> first | (simp[eqV];done) | (cases f)
theorem HS (n:Nat):(List.range n).all (fun _=>true)=true:=by simp
theorem Deq.at {n:Nat}{x y:V}(d:Deq X.K H n x y)(I:Inv X pins σ H s):∀ {A:Around} {u v:Value},A.units+n < cLine->RelV x u->RelV y v ->
  EqAt A s u v true/\(∀ a b,x=.ref a->y=.ref b->RcAt A s u v true/\RcNeAt A s u v false):=by
 induction d with
 | @flat n x f =>
  intro A u v hu ru rv
  refine⟨?_,fun a b e _=>?_⟩
  ·have:=apH (A:=A) (s:=s) ru rv f f
   rw[apW f] at this
   exact this
  ·subst e;cases f
 | @tup n a b xs ys ha hb hl h ih =>
  intro A u v hu ru rv
  cases ru
  cases rv
  obtain⟨its,r,p,_⟩:=I.tuple ha
  obtain⟨its',r',p',_⟩:=I.tuple hb
  have e1:=r.length
  have e2:=r'.length
  have he:∀ j (h1:j < its.toArray.size) (h2:j < its'.toArray.size),EqAt A.in1 s its.toArray[j] its'.toArray[j] true:=by
   intro j h1 h2
   have h1':j < its.length:=by simpa using h1
   have h2':j < its'.length:=by simpa using h2
   have g1:xs[j]? = some xs[j]:=List.getElem?_eq_getElem (by omega)
   have g2:ys[j]? = some ys[j]:=List.getElem?_eq_getElem (by omega)
   obtain⟨u1,q1,k1⟩:=r.get g1
   obtain⟨u2,q2,k2⟩:=r'.get g2
   have z1:its.toArray[j]=u1:=by
    rw[List.getElem?_eq_getElem h1'] at q1
    simpa using q1
   have z2:its'.toArray[j]=u2:=by
    rw[List.getElem?_eq_getElem h2'] at q2
    simpa using q2
   rw[z1,z2]
   exact (ih j _ _ g1 g2 (by show A.units+1+n < cLine;omega) k1 k2).1
  have bt:((List.range (min its.toArray.size its'.toArray.size)).all (fun _=>true) && its.toArray.size == its'.toArray.size)=true:=by
   rw[HS]
   simp
   omega
  have rc:RcAt A s (.ref a) (.ref b) true:=by
   have:=RcAt.tuples (A:=A) (e:=fun _=>true) (show s.heap.IsTuple a its.toArray from p) (show s.heap.IsTuple b its'.toArray from p') (by omega) he
   rw[bt] at this
   exact this
  have rn:RcNeAt A s (.ref a) (.ref b) false:=by
   have:=RcNeAt.tuples (A:=A) (e:=fun _=>true) (show s.heap.IsTuple a its.toArray from p) (show s.heap.IsTuple b its'.toArray from p') (by omega) he
   rw[bt] at this
   exact this
  refine⟨?_,fun _ _ _ _=>⟨rc,rn⟩⟩
  by_cases e:a=b
  ·subst e;exact EqAt.same _
  ·exact EqAt.of_refs e rc
 | @lst n a b xs ys ha hb hl h ih =>
  intro A u v hu ru rv
  cases ru
  cases rv
  obtain⟨its,r,p,_⟩:=I.list ha
  obtain⟨its',r',p',_⟩:=I.list hb
  have e1:=r.length
  have e2:=r'.length
  have he:∀ j (h1:j < its.toArray.size) (h2:j < its'.toArray.size),EqAt A.in1 s its.toArray[j] its'.toArray[j] true:=by
   intro j h1 h2
   have h1':j < its.length:=by simpa using h1
   have h2':j < its'.length:=by simpa using h2
   have g1:xs[j]? = some xs[j]:=List.getElem?_eq_getElem (by omega)
   have g2:ys[j]? = some ys[j]:=List.getElem?_eq_getElem (by omega)
   obtain⟨u1,q1,k1⟩:=r.get g1
   obtain⟨u2,q2,k2⟩:=r'.get g2
   have z1:its.toArray[j]=u1:=by
    rw[List.getElem?_eq_getElem h1'] at q1
    simpa using q1
   have z2:its'.toArray[j]=u2:=by
    rw[List.getElem?_eq_getElem h2'] at q2
    simpa using q2
   rw[z1,z2]
   exact (ih j _ _ g1 g2 (by show A.units+1+n < cLine;omega) k1 k2).1
  have bt:(List.range its.toArray.size).all (fun _=>true)=true:=HS _
  have rc:RcAt A s (.ref a) (.ref b) true:=by
   have:=RcAt.lists (A:=A) (e:=fun _=>true) p.isList p'.isList (by simp;omega) (by omega) he
   rw[bt] at this
   exact this
  have rn:RcNeAt A s (.ref a) (.ref b) false:=by
   have:=RcNeAt.lists (A:=A) (e:=fun _=>true) p.isList p'.isList (by simp;omega) (by omega) he
   rw[bt] at this
   exact this
  refine⟨?_,fun _ _ _ _=>⟨rc,rn⟩⟩
  by_cases e:a=b
  ·subst e;exact EqAt.same _
  ·exact EqAt.of_refs e rc
inductive atO (K:Frag)(b:Bool)(x:V)(y:V)(H:Hp)(Q:VK):Prop
 | mk (a:_) (c:_) (gj:x=.ref a) (gk:y=.ref c) (jc:Deq K H 60 x y/\Q (.bl b) H):atO K b x y H Q
def awD (K:Frag)(b:Bool):R2:=fun x y H Q=>atO K b x y H Q
theorem bQ (hu:X.A.units+64 < cLine):En X (compareOp .Eq) (awD X.K true):=by
 intro pins s σ H x y v u Q I r1 r2 h
 obtain⟨a,c,rfl,rfl,d,q⟩:=h
 exact (((d.at I (A:=X.A) (by omega) r1 r2).2 a c rfl rfl).1) X.prog X.w X.xe _ ⟨.bl true,H,I,rfl,q⟩
theorem tR (hu:X.A.units+64 < cLine):En X (compareOp .NotEq) (awD X.K false):=by
 intro pins s σ H x y v u Q I r1 r2 h
 obtain⟨a,c,rfl,rfl,d,q⟩:=h
 exact (((d.at I (A:=X.A) (by omega) r1 r2).2 a c rfl rfl).2) X.prog X.w X.xe _ ⟨.bl false,H,I,rfl,q⟩
theorem cZ:oh X (.builtin "isinstance") (fun xs H Q=>∃ x T t b,xs=[x,.ty T]/\iT X.K H x t/\kitOne X.K t (.type T)=some b/\Q (.bl b) H):=by
 intro pins s σ H xs us Q I r h
 obtain⟨x,T,t,b,rfl,ty,e,q⟩:=h
 obtain⟨u,v,rfl,r1,r2⟩:=r.two
 cases r2
 exact am3 I r1 ty e fun tk=>⟨.bl b,H,I.tok _,rfl,q⟩
def Ite (K:Frag)(a:Addr):It :=
 ⟨fun i H=>∃ xs x,bh K H a xs/\xs[i]? = some x,fun i H x H'=>∃ y t,x=.ref t/\H t=none/\(∀ xs,bh K H a xs->xs[i]? = some y)/\H'=upd H t (.tup [.int i,y]),fun i H=>∃ xs,bh K H a xs/\xs.length <= i⟩
def Itz (K:Frag)(a b:Addr):It :=
 ⟨fun i H=>∃ xs ys x y,bh K H a xs/\bh K H b ys/\xs[i]? = some x/\ys[i]? = some y,
  fun i H p H'=>∃ x y t,p=.ref t/\H t=none/\(∀ xs,bh K H a xs->xs[i]? = some x)/\(∀ ys,bh K H b ys->ys[i]? = some y)/\H'=upd H t (.tup [x,y]),
  fun i H=>∃ xs ys,bh K H a xs/\bh K H b ys/\min xs.length ys.length=i⟩
theorem dC {a:Addr}{K:Frag}{X:Cx}{pins:List (Addr×Obj)}{σ:St}{H:Hp}{s:Shared}{xs:List V}{b:Addr}{o:Obj}(I:Inv X pins σ H s)(hq:bh X.K H a xs)(e:s.heap.get? b=some o)(hc:o.cls≠.type "list"):a≠b:=by
 rintro rfl
 obtain⟨its,_,p,_⟩:=I.list hq
 obtain⟨o',e',c',_⟩:=p.isList
 rw[e] at e';cases e'
 exact hc c'
theorem Inv.Zy {tk:Nat}{h':Heap}{wr:List Addr}{T:Addr}{xs:List V}{vals:List Value}(I:Inv X pins σ H s)(hw:∀ b∈wr,tO X pins H b)(hT:s.heap.objs.size <= T)(ht:h'.IsTuple T vals.toArray)(rv:Vals xs vals)(hz:xs.length <= sizeLine)
  (kk:∀ b o,b ∉ wr->s.heap.get? b=some o->h'.get? b=some o) (there:∀ b∈wr,∃ o,h'.get? b=some o):Inv X pins σ (upd H T (.tup xs)) { s with heap:=h',toks:=tk }:=by
 have hTn:H T=none:=I.hok.fresh hT
 have nT:∀ b o,s.heap.get? b=some o->b≠T:=fun b o e=>Nat.ne_of_lt (Nat.lt_of_lt_of_le (Heap.lt_size e) hT)
 refine I.step (g':=s.gens) (d':=s.drawn) (ch:=wr) (fun b hb=>?_) (fun b o _ _ hc e _=>kk b o hc e) (fun b o _ _ hc e _=>⟨o.slots,kk b o hc e⟩) (fun b o _ e n=>by rw[aA (nT b o e)];exact n)
  (fun b o hc e=>⟨o,kk b o hc e⟩) (fun b ys e=>by rw[aA (aC e hTn)];exact e) (fun b o u e=>by rw[aA (aC e hTn)];exact e) (fun b ps e=>⟨#[],by rw[aA (aC e hTn),e];simp⟩) (fun m hm=>?_) (fun b u e=>?_) I.bare
 ·obtain⟨_,f1,_,f3,f4,f5⟩:=hw b hb
  exact⟨f3,f1,f4,f5⟩
 ·obtain⟨o,es,ep,ho,r⟩:=hm
  exact⟨o,es,ep,kk _ o (fun z=>(hw _ z).2.1 rfl) ho,r⟩
 ·by_cases hb:b=T
  ·subst hb
   rw[ak] at e
   cases e
   exact⟨hz,vals,rv,ht⟩
  ·rw[aA hb] at e
   refine (I.hok b u e).stay (fun c v hc q=>kk c v (fun z=>?_) q) (fun c q=>by rw[aA (aC q hTn)];exact q) fun c ys q=>by rw[aA (aC q hTn)];exact q
   have hn:=(hw c z).1
   rcases hc with hc | hc
   ·rw[hc,e] at hn;cases hn
   ·rw[hc] at hn;cases hn
theorem Inv.jG {tk:Nat}{h':Heap}{wr:List Addr}(I:Inv X pins σ H s)(hw:∀ b∈wr,tO X pins H b)(kk:∀ b o,b ∉ wr->s.heap.get? b=some o->h'.get? b=some o):Inv X pins σ H { s with heap:=h',toks:=tk }:=by
 refine I.step (g':=s.gens) (d':=s.drawn) (ch:=wr) (fun b hb=>?_) (fun b o _ _ hc e _=>kk b o hc e) (fun b o _ _ hc e _=>⟨o.slots,kk b o hc e⟩) (fun b o _ e n=>n)
  (fun b o hc e=>⟨o,kk b o hc e⟩) (fun b ys e=>e) (fun b o u e=>e) (fun b ps e=>⟨#[],by rw[e];simp⟩) (fun m hm=>?_) (fun b u e=>?_) I.bare
 ·obtain⟨_,f1,_,f3,f4,f5⟩:=hw b hb
  exact⟨f3,f1,f4,f5⟩
 ·obtain⟨o,es,ep,ho,r⟩:=hm
  exact⟨o,es,ep,kk _ o (fun z=>(hw _ z).2.1 rfl) ho,r⟩
 ·refine (I.hok b u e).stay (fun c v hc q=>kk c v (fun z=>?_) q) (fun c q=>q) fun c ys q=>q
  have hn:=(hw c z).1
  rcases hc with hc | hc
  ·rw[hc,e] at hn;cases hn
  ·rw[hc] at hn;cases hn
end
end L2
set_option maxHeartbeats 4000000
namespace L2
open PySem PySem.Spec PyProof.Rows PySem.SeqAt
section
variable {X:Cx}
theorem aY {k:Nat}{A:Around}(hr:tG k A):A.units+64 < cLine:=hr.units
theorem cB:bootBuiltins "len" = some (.builtin "len"):=by decide +kernel
theorem ajF:bootBuiltins "min" = some (.builtin "min"):=by decide +kernel
theorem ajG:bootBuiltins "max" = some (.builtin "max"):=by decide +kernel
theorem QR:bootBuiltins "enumerate" = some (.type "enumerate"):=by decide +kernel
theorem ajH:bootBuiltins "zip" = some (.type "zip"):=by decide +kernel
theorem bF:bootBuiltins "isinstance" = some (.builtin "isinstance"):=by decide +kernel
theorem M3:bootBuiltins "int" = some (.type "int"):=by decide +kernel
theorem amd:bootBuiltins "bool" = some (.type "bool"):=by decide +kernel
theorem aeA:bootBuiltins "str" = some (.type "str"):=by decide +kernel
theorem iu:bootBuiltins "list" = some (.type "list"):=by decide +kernel
theorem QS:bootBuiltins "tuple" = some (.type "tuple"):=by decide +kernel
theorem auO:bootBuiltins "any" = some (.builtin "any"):=by decide +kernel
theorem apY:bootBuiltins "sum" = some (.builtin "sum"):=by decide +kernel
theorem auP:bootBuiltins "all" = some (.builtin "all"):=by decide +kernel
theorem xK:bootBuiltins "dict" = some (.type "dict"):=by decide +kernel
end
end L2
namespace L2
open PySem PySem.Spec PyProof.Rows
end L2
namespace L2
open PySem
theorem jd {K:Frag}{H:Hp}{a l:Addr}{o:HO}{xs:List V}(h:bh K H a xs)(hn:H l=none):bh K (upd H l o) a xs:=by
 have ne:∀ {u},H a=some u->a≠l:=fun e=>aC e hn
 rcases h with (h | ⟨u,h⟩) | h
 ·exact .inl (.inl (by rw[aA (ne h)];exact h))
 ·exact .inl (.inr ⟨u,by rw[aA (ne h)];exact h⟩)
 ·exact .inr h
theorem aB.upd {H:Hp}{l:Addr}{o:HO}(hn:H l=none):aB H (upd H l o):=fun b u e=>by
 rw[aA (aC e hn)]
 exact e
end L2
namespace L2
theorem bA {X:Cx}{b:List PySem.Stmt}{t:TS}{D:Ends}{σ:St}{H:Hp}(h:PSs X b t)(q:t D σ H):∃ t,PSs X b t/\t D σ H:=⟨t,h,q⟩
theorem jm (i j:Int):decide (V.int i=V.int j)=decide (i=j):=by
 by_cases h:i=j
 ·subst h;simp
 ·rw[decide_eq_false h]
  exact decide_eq_false fun e=>h (V.int.inj e)
end L2
namespace L2
open PySem
theorem atP {X:Cx}:∀ cs:List (Str×Pos),PA X (cs.map fun c=>Expr.Constant (.str c.1) 0 c.2) (fun _ H Q=>Q (cs.map fun c=>V.str c.1) H)
 | []=>aj
 | c :: cs=>aa cA (atP cs)
end L2
namespace L2
open PySem
theorem apZ {X:Cx}{i:Nat}{x:Str}{pos pos' p:Pos}(cs:List (Str×Pos))(hN:X.N.Nodup)(hi:X.N[i]? = some x)(hx:Loc X.env.scope x)(hf:X.fn x=true∨X.env.scope.names.lookup x=some .local:=by first | exact .inl rfl | exact .inr rfl | assumption) :
  PS X (.Assign [.Name x pos'] (.List (cs.map fun c=>Expr.Constant (.str c.1) 0 c.2) p) pos) (ar9 (awu (fun _ H Q=>Q (cs.map fun c=>V.str c.1) H)) (adB i)):=aX hN hi hx (cj (atP cs)) rfl hf
end L2
set_option maxHeartbeats 4000000
namespace L2
open PySem PySem.Spec PyProof.Rows
section
variable {X:Cx} {tg:Expr}
theorem Di {pins:List (Addr×Obj)}{σ:St}{H:Hp}{s:Shared}{a:Addr}{xs:List V}{i:Nat}{y:V}(I:Inv X pins σ H s)(hq:bh X.K H a xs)(hy:xs[i]? = some y):∀ ys,bh X.K H a ys->ys[i]? = some y:=fun ys h=>by
 rw[I.ahE h hq]
 exact hy
theorem anc {P:Program}{w:World}{K:Frag}{es:List Expr}{k:Nat}{tp:Pos}(a e it:Addr)(hei:e≠it) :
  Turn P w K (.Tuple es k tp) (Ite K a) [e,it] e (fun i h=>(∃ old,IsEnum h e it i old)/\h.IsListIter it a i) where
 mem:=by simp
 obj:=fun i h st b hb=>by
  obtain⟨⟨old,he⟩,o,e2,c,d⟩:=st
  rcases List.mem_cons.mp hb with rfl | hb
  ·exact⟨_,he,fun v z=>by
    have z':Data.fields _=Data.cell v:=z
    cases z'⟩
  ·have:b=it:=by simpa using hb
   subst this
   exact⟨o,e2,fun v z=>by rw[d] at z;cases z⟩
 keep:=fun i h h' st kp=>by
  obtain⟨⟨old,he⟩,hit⟩:=st
  exact⟨⟨old,kp e (by simp) _ he⟩,hit.at fun o x=>kp it (by simp) o x⟩
 item:=by
  intro X hP hw hK hc i pins s σ H E I hf st hg
  subst hP hw hK
  obtain⟨xs,x,hq,hx⟩:=hg
  obtain⟨its,rv,p,hz⟩:=I.list hq
  obtain⟨u,hu,ru⟩:=rv.get hx
  obtain⟨⟨old,he⟩,hit⟩:=st
  have hle:a≠e:=dC (K:=X.K) I hq he (by intro z;injection z with z;exact absurd z (by decide))
  have hli:a≠it:=by
   obtain⟨o,e2,c,_⟩:=hit
   exact dC (K:=X.K) I hq e2 (by rw[c];intro z;injection z with z;exact absurd z (by decide))
  have hiu:i < its.toArray.size:=by
   have:=(List.getElem?_eq_some_iff.mp hu).1
   simpa using this
  have W:=WalksT.enumerate (prog:=X.prog) (w:=X.w) (I.ok.hd hc) e it a hei hle hli its.toArray
  refine W.item i s _ _ hiu ⟨⟨old,he⟩,hit,p.isList⟩ fun T vals h' tk hv hT ht mid kk=>?_
  refine⟨_,rfl,?_⟩
  obtain⟨t,x',hx',rfl⟩:=hv
  have ex:x'=u:=by
   have:its[i]? = some x':=by simpa using hx'
   rw[hu] at this
   exact (Option.some.inj this).symm
  subst ex
  have fw:∀ b∈[e,it],tO X pins H b:=hf
  have I1:Inv X pins σ (upd H T (.tup [.int i,x])) { s with heap:=h',toks:=tk }:=by
   refine I.Zy (vals:=[.int i t,x']) fw hT (by simpa using ht) (.cons ⟨t,rfl⟩ (.cons ru .nil)) (by show 2 <= sizeLine;decide) kk fun b hb=>?_
   obtain⟨⟨xx,ho⟩,⟨o,e2,_⟩,_⟩:=mid
   rcases List.mem_cons.mp hb with rfl | hb
   ·exact⟨_,ho⟩
   ·have:b=it:=by simpa using hb
    subst this
    exact⟨o,e2⟩
  have hTn:H T=none:=I.hok.fresh hT
  have neT:∀ b∈[e,it],b≠T:=fun b hb z=>by
   subst z
   exact W.apart i b _ mid hb
  refine W.go es k tp i T _ _ _ mid fun h'' st'' ap0=>?_
  have hf2:∀ b∈[e,it],tO X pins (upd H T (.tup [.int i,x])) b:=fun b hb=>by
   obtain⟨f0,fr⟩:=hf b hb
   exact⟨by rw[aA (neT b hb)];exact f0,fr⟩
  refine⟨.ref T,upd H T (.tup [.int i,x]),I1.jG (tk:=tk) hf2 ap0,rfl,⟨x,T,rfl,hTn,Di I hq hx,rfl⟩,⟨st''.1,st''.2.1⟩,fun b hb=>(hf2 b hb).1⟩
 done:=by
  intro X hP hw hK hc i pins s σ H E I hf st hg
  subst hP hw hK
  obtain⟨xs,hq,hx⟩:=hg
  obtain⟨its,rv,p,hz⟩:=I.list hq
  obtain⟨⟨old,he⟩,hit⟩:=st
  have hl:=rv.length
  refine wpAny_pyNext_enum_end (I.ok.hd hc) he hit p.isList (Array.getElem?_eq_none (by simp;omega)) fun h' hx'=>?_
  exact⟨rfl,I.jG (tk:=s.toks) hf fun b o hb q=>hx' b o (fun z=>hb (by simp[z])) q⟩
 self:=fun _ _ _ _ _ st h=>by
  obtain⟨⟨old,he⟩,_⟩:=st
  exact wpAny_pyIter_enum he h
theorem auQ {l:Expr}{tl:TE}(hl:PE X l tl)(hs:starEach [l] X.env=[(false,eval l X.env)])(pos:Pos)(pins:List (Addr×Obj))(s:Shared)(σ:St)(H:Hp){Q:VK}(I:Inv X pins σ H s)(h:tl σ H Q) :
  wpAny (model X.prog X.w) X.A (spliced (backTo pos (starEach [l] X.env))) (fun us s1=>∃ v u H1,Inv X pins σ H1 s1/\us=[u]/\RelV v u/\Q v H1) X.xe s:=by
 have ha:PA X [l] (fun σ H Q=>tl σ H fun x H1=>Q [x] H1):=aa hl aj hs
 have mono:wpAny (model X.prog X.w) X.A (spliced (backTo pos (starEach [l] X.env))) (AP X pins σ fun vs H1=>∃ v,vs=[v]/\Q v H1) X.xe s:=by
  have he:PE X l (fun σ' H' Q'=>σ'=σ/\H'=H/\∀ v H1,Q v H1->Q' v H1):=by
   intro pins s σ' H' Q' I' hw
   obtain⟨rfl,rfl,hm⟩:=hw
   exact eX (hl pins s σ' H' Q I' h) fun u s1 ⟨v,H1,I1,r,q⟩=>⟨v,H1,I1,r,hm v H1 q⟩
  exact aa he aj hs pos pins s σ H _ I ⟨rfl,rfl,fun v H1 q=>⟨v,rfl,q⟩⟩
 refine eX mono fun us s1 ⟨vs,H1,I1,r,v,e,q⟩=>?_
 subst e
 obtain⟨u,rfl,ru⟩:=r.one
 exact⟨v,u,H1,I1,rfl,ru,q⟩
inductive ap1 (K:Frag)(R:(It->Hp->Prop))(x:V)(H1:Hp):Prop
 | mk (a:_) (gj:x=.ref a) (gk:(∃ xs,bh K H1 a xs)/\R (Ite K a) H1):ap1 K R x H1
def awF (K:Frag)(tl:TE):TI:=fun σ H R=>tl σ H fun x H1=>ap1 K R x H1
theorem ame {l:Expr}{tl:TE}{p pos tp:Pos}{es:List Expr}{k:Nat}(hg:Gl X "enumerate")(hm:X.mg "enumerate" = none)(hl:PE X l tl)(hs:starEach [l] X.env=[(false,eval l X.env)]:=by rfl) :
  PI X (.Tuple es k tp) (.Call (.Name "enumerate" p) [l] [] pos) (awF X.K tl):=by
 intro pins s σ H R I h
 refine Call_ (v7 I hg hm QR (PyProof.Rows.callWith_type1 (eX (auQ hl hs pos pins s σ H I h) fun us s1 ⟨v,u,H1,I1,e1,r1,q1⟩=>?_) (by rw[hs];rfl) (by rfl)))
 ·obtain⟨a,rfl,⟨xs,hq⟩,q⟩:=q1
  subst e1
  cases r1
  obtain⟨its,rv,pl,hz⟩:=I1.list hq
  refine call_enumerate_list pl.isList fun h' he hit hsz kk=>?_
  have hee:s1.heap.objs.size+1≠s1.heap.objs.size:=Nat.succ_ne_self _
  refine wpAny_pyIter_enum he ?_
  refine⟨s1.heap.objs.size+1,[s1.heap.objs.size+1,s1.heap.objs.size],_,_,H1,rfl,I1.kept (t':=s1.toks) kk,anc a _ _ hee,⟨⟨.none,he⟩,hit⟩,fun b hb=>?_,q⟩
  have hb':s1.heap.objs.size <= b:=by
   rcases List.mem_cons.mp hb with rfl | hb
   ·exact Nat.le_succ _
   ·have:b=s1.heap.objs.size:=by simpa using hb
    rw[this]
    exact Nat.le_refl _
  exact I1.acE hb' (I1.hok.fresh hb')
end
end L2
set_option maxHeartbeats 4000000
namespace L2
open PySem PySem.Spec PyProof.Rows
structure BL (z TI TO i1 i2:Addr):Prop where
 TIz:TI≠z
 TOz:TO≠z
 i1z:i1≠z
 i2z:i2≠z
 TITO:TI≠TO
 TIi1:TI≠i1
 TIi2:TI≠i2
 TOi1:TO≠i1
 TOi2:TO≠i2
 i12:i1≠i2
section
variable {X:Cx}
def amf (z TI TO i1 i2 a b:Addr)(i:Nat)(h:Heap):Prop:=IsZip h z TI TO .none/\IsPair h TI (.ref i1) (.ref i2)/\(∃ x y,IsPair h TO x y)/\h.IsListIter i1 a i/\h.IsListIter i2 b i
theorem adK {pins:List (Addr×Obj)}{σ:St}{H:Hp}{s:Shared}{z TI TO i1 i2 a b:Addr}{i:Nat}{xs ys:List V}(I:Inv X pins σ H s)(O:BL z TI TO i1 i2)(st:amf z TI TO i1 i2 a b i s.heap)(ha:bh X.K H a xs)(hb:bh X.K H b ys) :
  ZipApart z TI TO i1 i2 a b:=by
 obtain⟨hz,hTI,⟨x,y,hTO⟩,⟨o1,e1,c1,_⟩,⟨o2,e2,c2,_⟩⟩:=st
 have nz:∀ {c:Addr} {zs:List V},bh X.K H c zs->c≠z:=fun h=>dC (K:=X.K) I h hz (by intro q;injection q with q;exact absurd q (by decide))
 have nT:∀ {c:Addr} {zs:List V},bh X.K H c zs->c≠TO:=fun h=>dC (K:=X.K) I h hTO (by intro q;injection q with q;exact absurd q (by decide))
 have n1:∀ {c:Addr} {zs:List V},bh X.K H c zs->c≠i1:=fun h=>dC (K:=X.K) I h e1 (by rw[c1];intro q;injection q with q;exact absurd q (by decide))
 have n2:∀ {c:Addr} {zs:List V},bh X.K H c zs->c≠i2:=fun h=>dC (K:=X.K) I h e2 (by rw[c2];intro q;injection q with q;exact absurd q (by decide))
 exact⟨O.TIz,O.TOz,O.i1z,O.i2z,O.TITO,O.TIi1,O.TIi2,O.TOi1,O.TOi2,O.i12,nz ha,nT ha,n1 ha,n2 ha,nz hb,nT hb,n1 hb,n2 hb⟩
theorem ap2 {P:Program}{w:World}{K:Frag}{es:List Expr}{k:Nat}{tp:Pos}{z TI TO i1 i2:Addr}(a b:Addr)(O:BL z TI TO i1 i2) :
  Turn P w K (.Tuple es k tp) (Itz K a b) [z,TI,TO,i1,i2] z (amf z TI TO i1 i2 a b) where
 mem:=by simp
 obj:=fun i h st c hc=>by
  obtain⟨hz,hTI,⟨x,y,hTO⟩,⟨o1,e1,_,d1⟩,⟨o2,e2,_,d2⟩⟩:=st
  have hc':c=z∨c=TI∨c=TO∨c=i1∨c=i2:=by simpa using hc
  rcases hc' with rfl | rfl | rfl | rfl | rfl
  ·exact⟨_,hz,fun v q=>by
    have q':Data.fields _=Data.cell v:=q
    cases q'⟩
  ·exact⟨_,hTI,fun v q=>by
    have q':Data.seq _ _=Data.cell v:=q
    cases q'⟩
  ·exact⟨_,hTO,fun v q=>by
    have q':Data.seq _ _=Data.cell v:=q
    cases q'⟩
  ·exact⟨o1,e1,fun v q=>by rw[d1] at q;cases q⟩
  ·exact⟨o2,e2,fun v q=>by rw[d2] at q;cases q⟩
 keep:=fun i h h' st kp=>by
  obtain⟨hz,hTI,⟨x,y,hTO⟩,h1,h2⟩:=st
  exact⟨kp z (by simp) _ hz,kp TI (by simp) _ hTI,⟨x,y,kp TO (by simp) _ hTO⟩,h1.at fun o q=>kp i1 (by simp) o q,h2.at fun o q=>kp i2 (by simp) o q⟩
 item:=by
  intro X hP hw hK hc i pins s σ H E I hf st hg
  subst hP hw hK
  obtain⟨xs,ys,x,y,hq,hq2,hx,hy⟩:=hg
  have D:=adK I O st hq hq2
  obtain⟨its,rv,p,_⟩:=I.list hq
  obtain⟨its2,rv2,p2,_⟩:=I.list hq2
  obtain⟨u,hu,ru⟩:=rv.get hx
  obtain⟨u2,hu2,ru2⟩:=rv2.get hy
  have h1:i < its.length:=(List.getElem?_eq_some_iff.mp hu).1
  have h2:i < its2.length:=(List.getElem?_eq_some_iff.mp hu2).1
  have W:=WalksT.zip2 (prog:=X.prog) (w:=X.w) (I.ok.hd hc) z TI TO i1 i2 a b D its.toArray its2.toArray
  obtain⟨hz,hTI,hTO,g1,g2⟩:=st
  refine W.item i s _ _ (by simp;omega) ⟨hz,hTI,hTO,g1,g2,p.isList,p2.isList⟩ fun T vals h' tk hv hT ht mid kk=>?_
  refine⟨_,rfl,?_⟩
  obtain⟨x',y',hx',hy',rfl⟩:=hv
  have ex:x'=u:=by
   have:its[i]? = some x':=by simpa using hx'
   rw[hu] at this
   exact (Option.some.inj this).symm
  have ey:y'=u2:=by
   have:its2[i]? = some y':=by simpa using hy'
   rw[hu2] at this
   exact (Option.some.inj this).symm
  subst ex ey
  have sub:∀ c∈[z,TO,i1,i2],c∈[z,TI,TO,i1,i2]:=fun c hc=>by
   have:c=z∨c=TO∨c=i1∨c=i2:=by simpa using hc
   simp
   rcases this with r | r | r | r <;> simp[r]
  have fw:∀ c∈[z,TO,i1,i2],tO X pins H c:=fun c hc=>hf c (sub c hc)
  have I1:Inv X pins σ (upd H T (.tup [x,y])) { s with heap:=h',toks:=tk }:=by
   refine I.Zy (vals:=[x',y']) fw hT (by simpa using ht) (.cons ru (.cons ru2 .nil)) (by show 2 <= sizeLine;decide) kk fun c hc=>?_
   obtain⟨m1,_,⟨_,_,m2⟩,⟨o1,m3,_⟩,⟨o2,m4,_⟩,_⟩:=mid
   have:c=z∨c=TO∨c=i1∨c=i2:=by simpa using hc
   rcases this with rfl | rfl | rfl | rfl
   ·exact⟨_,m1⟩
   ·exact⟨_,m2⟩
   ·exact⟨_,m3⟩
   ·exact⟨_,m4⟩
  have hTn:H T=none:=I.hok.fresh hT
  have neT:∀ c∈[z,TI,TO,i1,i2],c≠T:=fun c hc q=>by
   subst q
   have:c=TI∨c∈[z,TO,i1,i2]:=by
    have:c=z∨c=TI∨c=TO∨c=i1∨c=i2:=by simpa using hc
    simp
    rcases this with r | r | r | r | r <;> simp[r]
   rcases this with r | r
   ·subst r
    exact absurd (Nat.lt_of_lt_of_le (Heap.lt_size hTI) hT) (Nat.lt_irrefl _)
   ·exact W.apart i c _ mid r
  refine W.go es k tp i T _ _ _ mid fun h'' st'' ap0=>?_
  have hf2:∀ c∈[z,TI,TO,i1,i2],tO X pins (upd H T (.tup [x,y])) c:=fun c hc=>by
   obtain⟨f0,fr⟩:=hf c hc
   exact⟨by rw[aA (neT c hc)];exact f0,fr⟩
  obtain⟨s1,s2,s3,s4,s5,_⟩:=st''
  refine⟨.ref T,upd H T (.tup [x,y]),I1.jG (tk:=tk) (fun c hc=>hf2 c (sub c hc)) ap0,rfl,⟨x,y,T,rfl,hTn,Di I hq hx,Di I hq2 hy,rfl⟩,⟨s1,s2,s3,s4,s5⟩,fun c hc=>(hf2 c hc).1⟩
 done:=by
  intro X hP hw hK hc i pins s σ H E I hf st hg
  subst hP hw hK
  obtain⟨xs,ys,hq,hq2,hx⟩:=hg
  have D:=adK I O st hq hq2
  obtain⟨its,rv,p,_⟩:=I.list hq
  obtain⟨its2,rv2,p2,_⟩:=I.list hq2
  have W:=WalksT.zip2 (prog:=X.prog) (w:=X.w) (I.ok.hd hc) z TI TO i1 i2 a b D its.toArray its2.toArray
  obtain⟨hz,hTI,hTO,g1,g2⟩:=st
  have e:min its.toArray.size its2.toArray.size=i:=by
   rw[List.size_toArray,List.size_toArray,← rv.length,← rv2.length]
   exact hx
  refine W.done s _ _ (by rw[e];exact⟨hz,hTI,hTO,g1,g2,p.isList,p2.isList⟩) fun h' tk kk=>?_
  refine⟨rfl,I.jG (tk:=tk) (wr:=[z,TO,i1,i2]) (fun c hc=>hf c ?_) kk⟩
  have:c=z∨c=TO∨c=i1∨c=i2:=by simpa using hc
  simp
  rcases this with r | r | r | r <;> simp[r]
 self:=fun _ i s _ _ st h=>by
  obtain⟨hz,_⟩:=st
  exact wpAny_pyIter_zip hz h
inductive atQ (K:Frag)(R:(It->Hp->Prop))(x:V)(y:V)(H2:Hp):Prop
 | mk (a:_) (b:_) (gj:x=.ref a) (gk:y=.ref b) (jc:(∃ xs,bh K H2 a xs)/\(∃ ys,bh K H2 b ys)/\R (Itz K a b) H2):atQ K R x y H2
def ay0 (K:Frag)(tl tm:TE):TI:=fun σ H R=>tl σ H fun x H1=>tm σ H1 fun y H2=>atQ K R x y H2
theorem ajI {l m:Expr}{tl tm:TE}(hl:PE X l tl)(hm:PE X m tm)(hs:starEach [l,m] X.env=[(false,eval l X.env),(false,eval m X.env)])(hs2:starEach [m] X.env=[(false,eval m X.env)])(pos:Pos)(pins:List (Addr×Obj))(s:Shared)(σ:St)(H:Hp){Q:V->V->Hp->Prop}(I:Inv X pins σ H s)(h:tl σ H fun x H1=>tm σ H1 fun y H2=>Q x y H2) :
  wpAny (model X.prog X.w) X.A (spliced (backTo pos (starEach [l,m] X.env))) (fun us s1=>∃ x y u v H1,Inv X pins σ H1 s1/\us=[u,v]/\RelV x u/\RelV y v/\Q x y H1) X.xe s:=by
 have he:PE X l (fun σ' H' Q'=>σ'=σ/\H'=H/\∀ x H1,(tm σ H1 fun y H2=>Q x y H2)->Q' x H1):=by
  intro pins s σ' H' Q' I' hw
  obtain⟨rfl,rfl,k⟩:=hw
  exact eX (hl pins s σ' H' _ I' h) fun u s1 ⟨v,H1,I1,r,q⟩=>⟨v,H1,I1,r,k v H1 q⟩
 have hf:PE X m (fun σ' H' Q'=>∃ x,σ'=σ/\(tm σ H' fun y H2=>Q x y H2)/\∀ y H2,Q x y H2->Q' y H2):=by
  intro pins s σ' H' Q' I' hw
  obtain⟨x,rfl,hh,k⟩:=hw
  exact eX (hm pins s σ' H' _ I' hh) fun u s1 ⟨v,H1,I1,r,q⟩=>⟨v,H1,I1,r,k v H1 q⟩
 have main:=aa he (aa hf aj hs2) (by rw[hs,hs2]) pos pins s σ H (fun vs H2=>∃ x y,vs=[x,y]/\Q x y H2) I ⟨rfl,rfl,fun x H1 q=>⟨x,rfl,q,fun y H2 q2=>⟨x,y,rfl,q2⟩⟩⟩
 refine eX main fun us s1 ⟨vs,H1,I1,r,x,y,e,q⟩=>?_
 subst e
 obtain⟨u,v,rfl,r1,r2⟩:=r.two
 exact⟨x,y,u,v,H1,I1,rfl,r1,r2,q⟩
theorem ajJ {l m:Expr}{tl tm:TE}{p pos tp:Pos}{es:List Expr}{k:Nat}(hg:Gl X "zip")(hz:X.mg "zip" = none)(hl:PE X l tl)(hm:PE X m tm)(hs:starEach [l,m] X.env=[(false,eval l X.env),(false,eval m X.env)]:=by rfl)(hs2:starEach [m] X.env=[(false,eval m X.env)]:=by rfl) :
  PI X (.Tuple es k tp) (.Call (.Name "zip" p) [l,m] [] pos) (ay0 X.K tl tm):=by
 intro pins s σ H R I h
 refine Call_ (v7 I hg hz ajH (PyProof.Rows.callWith_type1 (eX (ajI hl hm hs hs2 pos pins s σ H I h) fun us s1 ⟨x,y,u,v,H1,I1,e1,r1,r2,q1⟩=>?_) (by rw[hs,hs2]) (by rw[hs2];rfl)))
 obtain⟨a,b,rfl,rfl,⟨xs,hq⟩,⟨ys,hq2⟩,q⟩:=q1
 subst e1
 cases r1
 cases r2
 obtain⟨its,rv,pl,_⟩:=I1.list hq
 obtain⟨its2,rv2,pl2,_⟩:=I1.list hq2
 refine call_zip_2 pl.isList pl2.isList fun h' z1 z2 z3 z4 z5 hsz kk=>?_
 refine wpAny_pyIter_zip z1 ?_
 have O:BL (s1.heap.objs.size+4) (s1.heap.objs.size+2) (s1.heap.objs.size+3) s1.heap.objs.size (s1.heap.objs.size+1):=by
  constructor <;> exact (by intro q;have q':(_:Nat)=_:=q;omega)
 refine⟨_,[s1.heap.objs.size+4,s1.heap.objs.size+2,s1.heap.objs.size+3,s1.heap.objs.size,s1.heap.objs.size+1],_,_,H1,rfl,I1.kept (t':=s1.toks) kk,ap2 a b O,⟨z1,z2,⟨_,_,z3⟩,z4,z5⟩,fun c hc=>?_,q⟩
 have hc':s1.heap.objs.size <= c:=by
  have:c=s1.heap.objs.size+4∨c=s1.heap.objs.size+2∨c=s1.heap.objs.size+3∨c=s1.heap.objs.size∨c=s1.heap.objs.size+1:=by simpa using hc
  rcases this with r | r | r | r | r <;> (rw[r];first | exact Nat.le_add_right _ _ | exact Nat.le_refl _)
 exact I1.acE hc' (I1.hok.fresh hc')
end
end L2
set_option maxHeartbeats 4000000
namespace L2
open PySem
abbrev amg (J:It)(g:TG)(tc:TT)(te:TE)(D:Addr)(R:Hp->Prop)(σ:St)(H:Hp):Prop:=∃ W:Nat->Nat->List V->St->Hp->Prop,(∃ m,W 0 m [] σ H)/\∀ i m ys σ H,W i m ys σ H ->
  (J.stop i H/\R H)∨(J.go i H/\∀ x H',J.yld i H x H'->g x σ H' fun σ2 H2=>tc σ2 H2 fun ok H3 =>
   if ok=true then te σ2 H3 fun y H4=>H4 D=some (.lst ys)/\ys.length < sizeLine/\∃ m',m' < m/\W (i+1) m' (ys++[y]) σ2 (upd H4 D (.lst (ys++[y])))
   else ∃ m',m' < m/\W (i+1) m' ys σ2 H3)
abbrev Hi (g:TG)(tc:TT)(te:TE)(D:Addr)(ys:List V)(x:V)(σ:St)(H:Hp)(N:List V->St->Hp->Prop):Prop :=
 g x σ H fun σ2 H2=>tc σ2 H2 fun ok H3=>if ok=true then te σ2 H3 fun y H4=>H4 D=some (.lst ys)/\ys.length < sizeLine/\N (ys++[y]) σ2 (upd H4 D (.lst (ys++[y]))) else N ys σ2 H3
theorem Zz {lo:Int}{n:Nat}{g:TG}{tc:TT}{te:TE}{D:Addr}{R:Hp->Prop}{σ:St}{H:Hp}(Pv:Nat->List V->St->Hp->Prop)(h0:Pv 0 [] σ H)
  (hs:∀ i ys σ H,i < n->Pv i ys σ H->∀ N:List V->St->Hp->Prop,(∀ ys σ H,Pv (i+1) ys σ H->N ys σ H)->Hi g tc te D ys (.int (lo+i)) σ H N) (hd:∀ ys σ H,Pv n ys σ H->R H):amg (Itr lo n) g tc te D R σ H:=by
 refine⟨fun i m ys σ H=>m=n - i/\i <= n/\Pv i ys σ H,⟨n,by simp,Nat.zero_le _,h0⟩,?_⟩
 rintro i m ys σ H ⟨rfl,hi,p⟩
 by_cases hlt:i < n
 ·refine .inr ⟨hlt,fun x H' y=>?_⟩
  obtain⟨e,y⟩:=y
  subst e y
  exact hs i ys σ _ hlt p (fun ys' σ' H'=>∃ m',m' < n - i/\m'=n - (i+1)/\i+1 <= n/\Pv (i+1) ys' σ' H') fun ys' σ' H' q=>⟨n - (i+1),by omega,rfl,hlt,q⟩
 ·have e:i=n:=by omega
  subst e
  exact .inl ⟨Nat.le_refl _,hd ys σ H p⟩
theorem eN {K:Frag}{a:Addr}{xs:List V}{g:TG}{tc:TT}{te:TE}{D:Addr}{R:Hp->Prop}{σ:St}{H:Hp}(Pv:Nat->List V->St->Hp->Prop)(h0:Pv 0 [] σ H)(hl:∀ i ys σ H,Pv i ys σ H->bh K H a xs)
  (hs:∀ i ys x σ H,xs[i]? = some x->Pv i ys σ H->∀ N:List V->St->Hp->Prop,(∀ ys σ H,Pv (i+1) ys σ H->N ys σ H)->Hi g tc te D ys x σ H N) (hd:∀ ys σ H,Pv xs.length ys σ H->R H):amg (Itl K a) g tc te D R σ H:=by
 refine⟨fun i m ys σ H=>m=xs.length - i/\i <= xs.length/\Pv i ys σ H,⟨xs.length,by simp,Nat.zero_le _,h0⟩,?_⟩
 rintro i m ys σ H ⟨rfl,hi,p⟩
 have q:=hl i ys σ H p
 by_cases hlt:i < xs.length
 ·refine .inr ⟨⟨xs,xs[i],q,by simp[hlt]⟩,fun x H' y=>?_⟩
  obtain⟨e,y⟩:=y
  subst e
  exact hs i ys x σ _ (y xs q) p (fun ys' σ' H'=>∃ m',m' < xs.length - i/\m'=xs.length - (i+1)/\i+1 <= xs.length/\Pv (i+1) ys' σ' H') fun ys' σ' H' q=>⟨xs.length - (i+1),by omega,rfl,hlt,q⟩
 ·have e:i=xs.length:=by omega
  subst e
  exact .inl ⟨⟨xs,q,Nat.le_refl _⟩,hd ys σ H p⟩
theorem ap3 {z:Str}{g:TG}{tc:TT}{te:TE}{D:Addr}{R:Hp->Prop}{σ:St}{H:Hp}(Pv:Nat->List V->St->Hp->Prop)(h0:Pv 0 [] σ H)
  (hs:∀ i ys c σ H,z.cps[i]? = some c->Pv i ys σ H->∀ N:List V->St->Hp->Prop,(∀ ys σ H,Pv (i+1) ys σ H->N ys σ H)->Hi g tc te D ys (.str ⟨#[c]⟩) σ H N) (hd:∀ ys σ H,Pv z.cps.size ys σ H->R H):amg (Its z) g tc te D R σ H:=by
 refine⟨fun i m ys σ H=>m=z.cps.size - i/\i <= z.cps.size/\Pv i ys σ H,⟨z.cps.size,by simp,Nat.zero_le _,h0⟩,?_⟩
 rintro i m ys σ H ⟨rfl,hi,p⟩
 by_cases hlt:i < z.cps.size
 ·refine .inr ⟨hlt,fun x H' y=>?_⟩
  obtain⟨e,c,hc,y⟩:=y
  subst e y
  exact hs i ys c σ _ hc p (fun ys' σ' H'=>∃ m',m' < z.cps.size - i/\m'=z.cps.size - (i+1)/\i+1 <= z.cps.size/\Pv (i+1) ys' σ' H') fun ys' σ' H' q=>⟨z.cps.size - (i+1),by omega,rfl,hlt,q⟩
 ·have e:i=z.cps.size:=by omega
  subst e
  exact .inl ⟨Nat.le_refl _,hd ys σ H p⟩
theorem ahR {K:Frag}{a:Addr}{xs:List V}{g:TG}{tb:TS}{D:Ends}{σ:St}{H:Hp}(Pv:Nat->St->Hp->Prop)(h0:Pv 0 σ H)(hl:∀ i σ H,Pv i σ H->bh K H a xs)
  (hs:∀ i x t σ H,xs[i]? = some x->Pv i σ H->H t=none->g (.ref t) σ (upd H t (.tup [.int i,x])) fun σ2 H2=>tb { D with nx:=Pv (i+1),ct:=Pv (i+1),bk:=D.nx } σ2 H2) (hd:∀ σ H,Pv xs.length σ H->D.nx σ H) :
  ∃ W:Nat->Nat->St->Hp->Prop,(∃ m,W 0 m σ H)/\∀ i m σ H,W i m σ H ->
   ((Ite K a).stop i H/\D.nx σ H)∨((Ite K a).go i H/\∃ N:St->Hp->Prop,(∀ σ' H',N σ' H'->∃ m',m' < m/\W (i+1) m' σ' H')/\∀ x H',(Ite K a).yld i H x H'->g x σ H' fun σ2 H2=>tb { D with nx:=N,ct:=N,bk:=D.nx } σ2 H2):=by
 refine⟨fun i m σ H=>m=xs.length - i/\i <= xs.length/\Pv i σ H,⟨xs.length,by simp,Nat.zero_le _,h0⟩,?_⟩
 rintro i m σ H ⟨rfl,hi,p⟩
 have q:=hl i σ H p
 by_cases hlt:i < xs.length
 ·refine .inr ⟨⟨xs,xs[i],q,by simp[hlt]⟩,Pv (i+1),fun σ' H' p'=>⟨xs.length - (i+1),by omega,rfl,hlt,p'⟩,fun x H' y=>?_⟩
  obtain⟨y0,t,rfl,hn,hy,rfl⟩:=y
  exact hs i y0 t σ H (hy xs q) p hn
 ·have e:i=xs.length:=by omega
  subst e
  exact .inl ⟨⟨xs,q,Nat.le_refl _⟩,hd σ H p⟩
theorem amh {K:Frag}{a b:Addr}{xs ys:List V}{g:TG}{tb:TS}{D:Ends}{σ:St}{H:Hp}(Pv:Nat->St->Hp->Prop)(he:xs.length=ys.length)(h0:Pv 0 σ H)(hl:∀ i σ H,Pv i σ H->bh K H a xs/\bh K H b ys)
  (hs:∀ i x y t σ H,xs[i]? = some x->ys[i]? = some y->Pv i σ H->H t=none->g (.ref t) σ (upd H t (.tup [x,y])) fun σ2 H2=>tb { D with nx:=Pv (i+1),ct:=Pv (i+1),bk:=D.nx } σ2 H2) (hd:∀ σ H,Pv xs.length σ H->D.nx σ H) :
  ∃ W:Nat->Nat->St->Hp->Prop,(∃ m,W 0 m σ H)/\∀ i m σ H,W i m σ H ->
   ((Itz K a b).stop i H/\D.nx σ H)∨((Itz K a b).go i H/\∃ N:St->Hp->Prop,(∀ σ' H',N σ' H'->∃ m',m' < m/\W (i+1) m' σ' H')/\∀ x H',(Itz K a b).yld i H x H'->g x σ H' fun σ2 H2=>tb { D with nx:=N,ct:=N,bk:=D.nx } σ2 H2):=by
 refine⟨fun i m σ H=>m=xs.length - i/\i <= xs.length/\Pv i σ H,⟨xs.length,by simp,Nat.zero_le _,h0⟩,?_⟩
 rintro i m σ H ⟨rfl,hi,p⟩
 obtain⟨q,q2⟩:=hl i σ H p
 by_cases hlt:i < xs.length
 ·have hlt2:i < ys.length:=by omega
  refine .inr ⟨⟨xs,ys,xs[i],ys[i],q,q2,by simp[hlt],by simp[hlt2]⟩,Pv (i+1),fun σ' H' p'=>⟨xs.length - (i+1),by omega,rfl,hlt,p'⟩,fun x H' y=>?_⟩
  obtain⟨x0,y0,t,rfl,hn,hx,hy,rfl⟩:=y
  exact hs i x0 y0 t σ H (hx xs q) (hy ys q2) p hn
 ·have e:i=xs.length:=by omega
  subst e
  exact .inl ⟨⟨xs,ys,q,q2,by omega⟩,hd σ H p⟩
end L2
namespace L2
open PySem
theorem fU {j:Nat}{te:TE}{D:Addr}{ys:List V}{x:V}{σ:St}{H:Hp}{N:List V->St->Hp->Prop}
  (h:te (σ.set j (some x)) H fun y H4=>H4 D=some (.lst ys)/\ys.length < sizeLine/\N (ys++[y]) (σ.set j (some x)) (upd H4 D (.lst (ys++[y])))):Hi (adB j) auK te D ys x σ H N:=by
 unfold Hi adB auK
 exact (if_pos (rfl:true=true)).mpr h
end L2
set_option maxHeartbeats 4000000
namespace L2
open PySem PySem.Spec PyProof.Rows
open Sem (wp)
abbrev M4 (h:Heap)(z TI TO:Addr)(f0 f1:Value):Prop :=
 h.get? z=some { cls:=.type "zip",dict:=none,data:=.fields #[f0,f1,.bool false,.ref TI,.ref TO],slots:=#[] }
def Loose (f0 f1:Value):Prop:=(f0=.none ∨ ∃ a:Nat,f0=rawInt (a:Int))/\∃ b,f1=.bool b
section
variable {prog:Program} {w:World} {A:Around} {E:Value->Shared->Prop} {s:Shared}
theorem anf {a:Addr}{Q:Option Obj->Shared->Prop}(h:∀ o,Q o s):wpAny (model prog w) A (loadIfAlive a) Q E s:=fun _ _ _=>h _
theorem ahS {z TI TO:Addr}{f0 f1:Value}{Q:Bool->Shared->Prop}(hz:M4 s.heap z TI TO f0 f1)(hf:Loose f0 f1)
  (hQ:∀ (r:Bool) (h':Heap) (g1:Value),M4 h' z TI TO f0 g1->Loose f0 g1->Heap.SameBut z s.heap h'->Q r { s with heap:=h' }) :
  wpAny (model prog w) A (Builtin.SmallTypes.ownedTupleIsFree (.ref z)) Q E s:=by
 unfold Builtin.SmallTypes.ownedTupleIsFree
 refine wpAny_bind (wpAny_field hz rfl (x:=f0) rfl ?_)
 obtain⟨hf0,b,rfl⟩:=hf
 rcases hf0 with rfl | ⟨a,rfl⟩
 ·exact wpAny_pure (hQ true s.heap _ hz ⟨.inl rfl,b,rfl⟩ ⟨rfl,fun _ _=>rfl⟩)
 ·show wpAny _ _ (loadIfAlive ((a:Int).toNat) >>= _) _ _ _
  refine wpAny_bind (anf fun o=>?_)
  cases o with
  | none =>
   simp only [Option.isNone_none,if_true]
   exact wpAny_pure (hQ true s.heap _ hz ⟨.inr ⟨a,rfl⟩,b,rfl⟩ ⟨rfl,fun _ _=>rfl⟩)
  | some o =>
   simp only [Option.isNone_some,Bool.false_eq_true,if_false]
   refine wpAny_bind (wpAny_field hz rfl (x:=.bool b) rfl ?_)
   cases b with
   | true =>
    exact wpAny_pure (hQ false s.heap _ hz ⟨.inr ⟨a,rfl⟩,true,rfl⟩ ⟨rfl,fun _ _=>rfl⟩)
   | false =>
    show wpAny _ _ (setField (.ref z) 1 (.bool true) >>= _) _ _ _
    refine wpAny_bind (wpAny_setField_rec hz (by simp) fun h₁ hz₁ hs₁=>?_)
    exact wpAny_pure (hQ false h₁ _ hz₁ ⟨.inr ⟨a,rfl⟩,true,rfl⟩ hs₁)
theorem ang {z TI TO i1 i2 l1 l2:Addr}{k1 k2:Nat}{xs ys:Array Value}{x y a b f0 f1:Value}{Q:Value->Shared->Prop}(D:ZipApart z TI TO i1 i2 l1 l2)
  (hz:M4 s.heap z TI TO f0 f1) (hf:Loose f0 f1) (hTI:IsPair s.heap TI (.ref i1) (.ref i2)) (hTO:IsPair s.heap TO a b)
  (h1:s.heap.IsListIter i1 l1 k1) (h2:s.heap.IsListIter i2 l2 k2) (hl1:s.heap.IsList l1 xs) (hl2:s.heap.IsList l2 ys) (hx:xs[k1]? = some x) (hy:ys[k2]? = some y)
  (hQ:∀ h',(∃ g0 g1,M4 h' z TI TO g0 g1/\Loose g0 g1)->(∃ a b,IsPair h' TO a b)->h'.IsListIter i1 l1 (k1+1)->h'.IsListIter i2 l2 (k2+1)->IsPair h' s.heap.objs.size x y->h'.objs.size=s.heap.objs.size+1 ->
   (∀ c o,c≠z->c≠TO->c≠i1->c≠i2->s.heap.get? c=some o->h'.get? c=some o)->Q (.ref s.heap.objs.size) { s with heap:=h' }) :
  wpAny (model prog w) A (Builtin.«zip.__next__» ⟨[.ref z],[]⟩) (fun fin s'=>∃ v,fin=.done (.ret v)/\Q v s') E s:=by
 show wpAny _ _ (field (.ref z) 2 >>= _) _ _ _
 refine wpAny_bind (wpAny_field hz rfl (x:=.bool false) rfl ?_)
 show wpAny _ _ (field (.ref z) 3 >>= _) _ _ _
 refine wpAny_bind (wpAny_field hz rfl (x:=.ref TI) rfl ?_)
 refine wpAny_bind (wpAny_seqItems hTI rfl ?_)
 show wpAny _ _ (Builtin.SmallTypes.ownedTupleIsFree (.ref z) >>= _) _ _ _
 refine wpAny_bind (ahS hz hf fun r h₀ g1 avV hl₀ hs₀=>?_)
 cases r with
 | true =>
  simp only [if_true]
  refine wpAny_bind (wpAny_rule ?_)
  refine wpAny_bind (wpAny_field avV rfl (x:=.ref TO) rfl ?_)
  refine wpAny_bind (wpAny_setField_rec avV (by simp) fun h₁ hz₁ ap4=>?_)
  replace hz₁:M4 h₁ z TI TO .ellipsis g1:=hz₁
  have hs₁:Heap.SameBut z s.heap h₁:=⟨ap4.1.trans hs₀.1,fun c hc=>(ap4.2 c hc).trans (hs₀.2 c hc)⟩
  refine wpAny_bind ?_
  simp only [List.zipIdx_cons,List.zipIdx_nil,List.forIn_cons,List.forIn_nil]
  refine wpAny_bind (wpAny_bind (wpAny_onRaise ?_))
  show wpAny _ _ (Builtin.SmallTypes.nextOf (.ref i1) >>= _) _ _ _
  refine wpAny_bind (wpAny_nextOf_list_item (h1.extBut hs₁.extBut D.i1z) (hl1.extBut hs₁.extBut D.l1z) hx fun h₂ h1₂ hs₂=>wpAny_pure ?_)
  have hTO₂:IsPair h₂ TO a b:=hs₂.extBut _ _ D.TOi1 (hs₁.extBut _ _ D.TOz hTO)
  refine wpAny_bind (wpAny_seqItems hTO₂ rfl ?_)
  refine wpAny_bind (wpAny_updateSeq_pair hTO₂ fun h₃ hTO₃ hs₃=>?_)
  replace hTO₃:IsPair h₃ TO x b:=hTO₃
  refine wpAny_bind (wpAny_letGo (wpAny_pure ?_))
  refine wpAny_bind (wpAny_bind (wpAny_onRaise ?_))
  show wpAny _ _ (Builtin.SmallTypes.nextOf (.ref i2) >>= _) _ _ _
  refine wpAny_bind (wpAny_nextOf_list_item (((h2.extBut hs₁.extBut D.i2z).extBut hs₂.extBut D.i12.symm).extBut hs₃.extBut D.TOi2.symm)
   (((hl2.extBut hs₁.extBut D.l2z).extBut hs₂.extBut D.l2i1).extBut hs₃.extBut D.l2TO) hy fun h₄ h2₄ hs₄=>wpAny_pure ?_)
  have hTO₄:IsPair h₄ TO x b:=hs₄.extBut _ _ D.TOi2 hTO₃
  refine wpAny_bind (wpAny_seqItems hTO₄ rfl ?_)
  refine wpAny_bind (wpAny_updateSeq_pair hTO₄ fun h₅ hTO₅ hs₅=>?_)
  replace hTO₅:IsPair h₅ TO x y:=hTO₅
  refine wpAny_bind (wpAny_letGo (wpAny_pure (wpAny_pure ?_)))
  refine wpAny_bind (wpAny_seqItems hTO₅ rfl ?_)
  refine wpAny_bind (wpAny_newTuple ?_)
  have hsz:h₅.objs.size=s.heap.objs.size:=by rw[hs₅.1,hs₄.1,hs₃.1,hs₂.1,hs₁.1]
  have hz₅:M4 h₅ z TI TO .ellipsis g1:=hs₅.extBut _ _ D.TOz.symm (hs₄.extBut _ _ D.i2z.symm (hs₃.extBut _ _ D.TOz.symm (hs₂.extBut _ _ D.i1z.symm hz₁)))
  have hk₅:∀ c o,c≠z->c≠TO->c≠i1->c≠i2->s.heap.get? c=some o->h₅.get? c=some o:=fun c o c1 c2 c3 c4 e =>
   hs₅.extBut _ _ c2 (hs₄.extBut _ _ c4 (hs₃.extBut _ _ c2 (hs₂.extBut _ _ c3 (hs₁.extBut _ _ c1 e))))
  have h1₅:h₅.IsListIter i1 l1 (k1+1):=((h1₂.extBut hs₃.extBut D.TOi1.symm).extBut hs₄.extBut D.i12).extBut hs₅.extBut D.TOi1.symm
  have h2₅:h₅.IsListIter i2 l2 (k2+1):=h2₄.extBut hs₅.extBut D.TOi2.symm
  have hzlt:z < h₅.objs.size:=Heap.lt_size hz₅
  show wpAny _ _ (Builtin.SmallTypes.ownedTupleHandOut (.ref z) (.ref h₅.objs.size) >>= _) _ _ _
  refine wpAny_bind ?_
  unfold Builtin.SmallTypes.ownedTupleHandOut
  have hz₆:M4 (h₅.push { cls:=.type "tuple",data:=.seq #[x,y] }) z TI TO .ellipsis g1:=Heap.get?_push_of_some _ hz₅
  refine wpAny_bind (wpAny_setField_rec hz₆ (by simp) fun h₇ hz₇ hs₇=>?_)
  replace hz₇:M4 h₇ z TI TO (rawInt h₅.objs.size) g1:=hz₇
  refine wpAny_setField_rec hz₇ (by simp) fun h₈ hz₈ hs₈=>?_
  replace hz₈:M4 h₈ z TI TO (rawInt h₅.objs.size) (.bool false):=hz₈
  have up:∀ c o,c≠z->h₅.get? c=some o->h₈.get? c=some o:=fun c o c1 e=>hs₈.extBut _ _ c1 (hs₇.extBut _ _ c1 (Heap.get?_push_of_some _ e))
  have hT₈:IsPair h₈ h₅.objs.size x y:=hs₈.extBut _ _ (Nat.ne_of_gt hzlt) (hs₇.extBut _ _ (Nat.ne_of_gt hzlt) (Heap.get?_push_size _ rfl))
  have hz8:h₈.objs.size=h₅.objs.size+1:=by rw[hs₈.1,hs₇.1,Heap.size_push]
  have hloose:∃ g0 g1,M4 h₈ z TI TO g0 g1/\Loose g0 g1:=⟨_,_,hz₈,.inr ⟨_,rfl⟩,_,rfl⟩
  rw[hsz] at hT₈ hz8
  refine wpAny_pure ⟨_,rfl,?_⟩
  show Q (.ref h₅.objs.size) _
  rw[hsz]
  exact hQ h₈ hloose ⟨_,_,up _ _ D.TOz hTO₅⟩ (h1₅.at fun o e=>up _ o D.i1z e) (h2₅.at fun o e=>up _ o D.i2z e) hT₈ hz8 fun c o c1 c2 c3 c4 e=>up c o c1 (hk₅ c o c1 c2 c3 c4 e)
 | false =>
  simp only [Bool.false_eq_true,if_false]
  have hs₁:=hs₀
  refine wpAny_bind ?_
  rw[← Array.forIn_toList]
  simp only [List.forIn_cons,List.forIn_nil]
  refine wpAny_bind (wpAny_bind (wpAny_holding ?_))
  show wpAny _ _ (Builtin.SmallTypes.nextOf (.ref i1) >>= _) _ _ _
  refine wpAny_bind (wpAny_nextOf_list_item (h1.extBut hs₁.extBut D.i1z) (hl1.extBut hs₁.extBut D.l1z) hx fun h₂ h1₂ hs₂=>wpAny_pure (wpAny_pure ?_))
  refine wpAny_bind (wpAny_bind (wpAny_holding ?_))
  show wpAny _ _ (Builtin.SmallTypes.nextOf (.ref i2) >>= _) _ _ _
  refine wpAny_bind (wpAny_nextOf_list_item ((h2.extBut hs₁.extBut D.i2z).extBut hs₂.extBut D.i12.symm)
   ((hl2.extBut hs₁.extBut D.l2z).extBut hs₂.extBut D.l2i1) hy fun h₄ h2₄ hs₄=>wpAny_pure (wpAny_pure (wpAny_pure ?_)))
  have hsz:h₄.objs.size=s.heap.objs.size:=by rw[hs₄.1,hs₂.1,hs₁.1]
  refine wpAny_bind (wpAny_newTuple (hsz:=by show 2 <= sizeLine;decide) ?_)
  have up:∀ c o,c≠z->c≠i1->c≠i2->s.heap.get? c=some o->(h₄.push { cls:=.type "tuple",data:=.seq #[x,y] }).get? c=some o:=fun c o c1 c3 c4 e =>
   Heap.get?_push_of_some _ (hs₄.extBut _ _ c4 (hs₂.extBut _ _ c3 (hs₁.extBut _ _ c1 e)))
  have hz₄:M4 (h₄.push { cls:=.type "tuple",data:=.seq #[x,y] }) z TI TO f0 g1:=Heap.get?_push_of_some _ (hs₄.extBut _ _ D.i2z.symm (hs₂.extBut _ _ D.i1z.symm avV))
  have hT₈:IsPair (h₄.push { cls:=.type "tuple",data:=.seq #[x,y] }) h₄.objs.size x y:=Heap.get?_push_size _ rfl
  have hz8:(h₄.push { cls:=.type "tuple",data:=.seq #[x,y] }).objs.size=h₄.objs.size+1:=Heap.size_push ..
  refine wpAny_pure ⟨_,rfl,?_⟩
  show Q (.ref h₄.objs.size) { s with heap:=h₄.push { cls:=.type "tuple",data:=.seq #[x,y] } }
  rw[hsz] at hT₈ hz8 ⊢
  exact hQ _ ⟨_,_,hz₄,hl₀⟩ ⟨a,b,up _ _ D.TOz D.TOi1 D.TOi2 hTO⟩ ((h1₂.extBut hs₄.extBut D.i12).at fun o e=>Heap.get?_push_of_some _ e) (h2₄.at fun o e=>Heap.get?_push_of_some _ e) hT₈ hz8 fun c o c1 _ c3 c4 e=>up c o c1 c3 c4 e
theorem ap5 {z TI TO i1 i2 l1 l2:Addr}{k1:Nat}{xs:Array Value}{a b f0 f1:Value}{Q:Fin->Shared->Prop}(hh:A.handled=none)(D:ZipApart z TI TO i1 i2 l1 l2)
  (hz:M4 s.heap z TI TO f0 f1) (hf:Loose f0 f1) (hTI:IsPair s.heap TI (.ref i1) (.ref i2)) (hTO:IsPair s.heap TO a b)
  (h1:s.heap.IsListIter i1 l1 k1) (hl1:s.heap.IsList l1 xs) (hend:xs[k1]? = none)
  (hE:∀ h' e,(∀ c o,c≠z->c≠TO->c≠i1->c≠i2->s.heap.get? c=some o->h'.get? c=some o)->(∃ o,h'.get? e=some o/\o.cls=.type "StopIteration")->E (.ref e) { s with heap:=h' }) :
  wpAny (model prog w) A (Builtin.«zip.__next__» ⟨[.ref z],[]⟩) Q E s:=by
 show wpAny _ _ (field (.ref z) 2 >>= _) _ _ _
 refine wpAny_bind (wpAny_field hz rfl (x:=.bool false) rfl ?_)
 show wpAny _ _ (field (.ref z) 3 >>= _) _ _ _
 refine wpAny_bind (wpAny_field hz rfl (x:=.ref TI) rfl ?_)
 refine wpAny_bind (wpAny_seqItems hTI rfl ?_)
 show wpAny _ _ (Builtin.SmallTypes.ownedTupleIsFree (.ref z) >>= _) _ _ _
 refine wpAny_bind (ahS hz hf fun r h₀ g1 avV hl₀ hs₀=>?_)
 cases r with
 | true =>
  simp only [if_true]
  refine wpAny_bind (wpAny_rule ?_)
  refine wpAny_bind (wpAny_field avV rfl (x:=.ref TO) rfl ?_)
  refine wpAny_bind (wpAny_setField_rec avV (by simp) fun h₁ hz₁ ap4=>?_)
  replace hz₁:M4 h₁ z TI TO .ellipsis g1:=hz₁
  have hs₁:Heap.SameBut z s.heap h₁:=⟨ap4.1.trans hs₀.1,fun c hc=>(ap4.2 c hc).trans (hs₀.2 c hc)⟩
  refine wpAny_bind ?_
  simp only [List.zipIdx_cons,List.zipIdx_nil,List.forIn_cons,List.forIn_nil]
  refine wpAny_bind (wpAny_bind (wpAny_onRaise ?_))
  show wpAny _ _ (Builtin.SmallTypes.nextOf (.ref i1) >>= _) _ _ _
  refine wpAny_bind (wpAny_nextOf_list_end hh (h1.extBut hs₁.extBut D.i1z) (hl1.extBut hs₁.extBut D.l1z) hend fun h₂ e hs₂ he=>?_)
  obtain⟨oe,hoe,hce⟩:=he
  have hz₂:M4 h₂ z TI TO .ellipsis g1:=hs₂ _ _ D.i1z.symm hz₁
  have hez:e≠z:=fun x=>by subst x;rw[hz₂] at hoe;cases hoe;simp at hce
  refine wpAny_setField_rec hz₂ (by simp) fun h₃ _ hs₃=>hE h₃ e (fun c o c1 _ c3 _ x=>hs₃.extBut _ _ c1 (hs₂ _ _ c3 (hs₁.extBut _ _ c1 x))) ⟨oe,hs₃.extBut _ _ hez hoe,hce⟩
 | false =>
  simp only [Bool.false_eq_true,if_false]
  refine wpAny_bind ?_
  rw[← Array.forIn_toList]
  simp only [List.forIn_cons,List.forIn_nil]
  refine wpAny_bind (wpAny_bind (wpAny_holding ?_))
  show wpAny _ _ (Builtin.SmallTypes.nextOf (.ref i1) >>= _) _ _ _
  exact wpAny_bind (wpAny_nextOf_list_end hh (h1.extBut hs₀.extBut D.i1z) (hl1.extBut hs₀.extBut D.l1z) hend fun h₂ e hs₂ he=>hE h₂ e (fun c o c1 _ c3 _ x=>hs₂ _ _ c3 (hs₀.extBut _ _ c1 x)) he)
def ap6 (z TI TO i1 i2 a b:Addr)(i:Nat)(h:Heap):Prop:=(∃ f0 f1,M4 h z TI TO f0 f1/\Loose f0 f1)/\IsPair h TI (.ref i1) (.ref i2)/\(∃ x y,IsPair h TO x y)/\h.IsListIter i1 a i/\h.IsListIter i2 b i
theorem asl {e z TI TO i1 i2 l1 l2:Addr}{i:Nat}{xs ys:Array Value}{x y old:Value}{Q:Option Value->Shared->Prop}(D:ZipApart z TI TO i1 i2 l1 l2)(hne:∀ c∈[z,TI,TO,i1,i2],e≠c)
  (he:IsEnum s.heap e z i old) (hst:ap6 z TI TO i1 i2 l1 l2 i s.heap) (hl1:s.heap.IsList l1 xs) (hl2:s.heap.IsList l2 ys) (hx:xs[i]? = some x) (hy:ys[i]? = some y)
  (hQ:∀ h' tk,IsEnumOut h' e z ((i:Int)+1) (.ref s.heap.objs.size) (s.heap.objs.size+1)->ap6 z TI TO i1 i2 l1 l2 (i+1) h'->IsPair h' s.heap.objs.size x y ->
   h'.get? (s.heap.objs.size+1)=some { cls:=.type "tuple",data:=.seq #[.int i tk,.ref s.heap.objs.size] } ->
   (∀ c o,c ∉ [e,z,TO,i1,i2]->s.heap.get? c=some o->h'.get? c=some o)->Q (some (.ref (s.heap.objs.size+1))) { s with heap:=h',toks:=tk+1 }) :
  wpAny (model prog w) A (pyNext (.ref e)) Q E s:=by
 have hT:s.TypeIs (.ref e) "enumerate":=⟨_,he,rfl⟩
 unfold pyNext
 refine wpAny_bind (wpAny_attempt (wpAny_callSpecial?_slot (name:=Str.ofString "__next__") hT PySem.F.slot_enumerate_next
  (wpAny_call_entry PySem.F.slot_enumerate_next hT PySem.F.entry_enumerate_next ?_ (PySem.F.args_enumerate_next_1 _))))
 obtain⟨hp,g,d,tk,os⟩:=s
 obtain⟨⟨f0,f1,hz,hlo⟩,hTI,⟨ta,tb,hTO⟩,g1,g2⟩:=hst
 have ne:=fun c hc=>(hne c hc)
 have ez:e≠z:=hne z (by simp)
 have eTI:e≠TI:=hne TI (by simp)
 have eTO:e≠TO:=hne TO (by simp)
 have ei1:e≠i1:=hne i1 (by simp)
 have ei2:e≠i2:=hne i2 (by simp)
 show wpAny _ _ (field (.ref e) 2 >>= _) _ _ _
 refine wpAny_bind (wpAny_field he rfl (x:=.ref z) rfl ?_)
 refine wpAny_bind ?_
 have hTz:Shared.TypeIs ⟨hp,g,d,tk,os⟩ (.ref z) "zip":=⟨_,hz,rfl⟩
 unfold Builtin.SmallTypes.nextOf
 refine wpAny_bind (wpAny_callSpecial?_slot (name:=Str.ofString "__next__") hTz PySem.F.slot_zip_next
  (wpAny_call_entry PySem.F.slot_zip_next hTz PySem.F.entry_zip_next (ang D hz hlo hTI hTO g1 g2 hl1 hl2 hx hy fun h₁ q1 q2 q3 q4 q5 q6 q7=>wpAny_pure ?_) (PySem.F.args_zip_next_1 _)))
 replace q5:IsPair h₁ hp.objs.size x y:=q5
 replace q6:h₁.objs.size=hp.objs.size+1:=q6
 replace q7:∀ c o,c≠z->c≠TO->c≠i1->c≠i2->hp.get? c=some o->h₁.get? c=some o:=q7
 have he₁:IsEnum h₁ e z i old:=q7 e _ ez eTO ei1 ei2 he
 have st₁:ap6 z TI TO i1 i2 l1 l2 (i+1) h₁:=⟨q1,q7 TI _ D.TIz D.TITO D.TIi1 D.TIi2 hTI,q2,q3,q4⟩
 show wpAny _ _ (field (.ref e) 3 >>= _) _ _ ⟨h₁,g,d,tk,os⟩
 refine wpAny_bind (wpAny_field he₁ rfl (x:=rawInt i) rfl ?_)
 show wpAny _ _ (field (.ref e) 4 >>= _) _ _ ⟨h₁,g,d,tk,os⟩
 refine wpAny_bind (wpAny_field he₁ rfl (x:=.none) rfl ?_)
 show wpAny _ _ (mkInt i >>= _) _ _ ⟨h₁,g,d,tk,os⟩
 refine wpAny_bind (wpAny_mkInt ?_)
 show wpAny _ _ (setField (.ref e) 3 (rawInt ((i:Int)+1)) >>= _) _ _ ⟨h₁,g,d,tk+1,os⟩
 refine wpAny_bind (wpAny_setField_rec he₁ (by simp) fun h₂ he₂ hs₂=>?_)
 replace hs₂:Heap.SameBut e h₁ h₂:=hs₂
 replace he₂:IsEnum h₂ e z ((i:Int)+1) old:=he₂
 show wpAny _ _ (setField (.ref e) 4 .none >>= _) _ _ ⟨h₂,g,d,tk+1,os⟩
 refine wpAny_bind (wpAny_setField_rec he₂ (by simp) fun h₃ he₃ hs₃=>?_)
 replace hs₃:Heap.SameBut e h₂ h₃:=hs₃
 replace he₃:IsEnum h₃ e z ((i:Int)+1) old:=he₃
 show wpAny _ _ (newTuple [.int i tk,.ref hp.objs.size] >>= _) _ _ ⟨h₃,g,d,tk+1,os⟩
 refine wpAny_bind (wpAny_newTuple ?_)
 have he₄:IsEnum (h₃.push { cls:=.type "tuple",data:=.seq #[.int i tk,.ref hp.objs.size] }) e z ((i:Int)+1) old:=Heap.get?_push_of_some _ he₃
 have hsz:h₃.objs.size=hp.objs.size+1:=by rw[hs₃.1,hs₂.1,q6]
 have hel:e < hp.objs.size:=Heap.lt_size he
 have ht₄:(h₃.push { cls:=.type "tuple",data:=.seq #[.int i tk,.ref hp.objs.size] }).get? (hp.objs.size+1)=some { cls:=.type "tuple",data:=.seq #[.int i tk,.ref hp.objs.size] }:=by rw[← hsz];exact Heap.get?_push_size _ rfl
 have aAv:∀ c o,c≠e->h₁.get? c=some o->(h₃.push { cls:=.type "tuple",data:=.seq #[.int i tk,.ref hp.objs.size] }).get? c=some o:=fun c o hc q =>
  Heap.get?_push_of_some _ (hs₃.extBut c o hc (hs₂.extBut c o hc q))
 generalize h₃.push { cls:=.type "tuple",data:=.seq #[.int i tk,.ref hp.objs.size] } = h₄ at he₄ ht₄ aAv
 show wpAny _ _ (Builtin.SmallTypes.ownedTupleIsFree (.ref e) >>= _) _ _ ⟨h₄,g,d,tk+1,os⟩
 rw[hsz]
 refine wpAny_bind ?_
 unfold Builtin.SmallTypes.ownedTupleIsFree
 refine wpAny_bind (wpAny_field he₄ rfl (x:=.none) rfl (wpAny_pure ?_))
 simp only [if_true]
 refine wpAny_bind (wpAny_rule ?_)
 refine wpAny_bind (wpAny_field he₄ rfl (x:=old) rfl ?_)
 refine wpAny_bind (wpAny_setField_rec he₄ (by simp) fun h₅ he₅ hs₅=>?_)
 replace hs₅:Heap.SameBut e h₄ h₅:=hs₅
 replace he₅:IsEnum h₅ e z ((i:Int)+1) (.ref hp.objs.size):=he₅
 show wpAny _ _ (Builtin.SmallTypes.ownedTupleHandOut (.ref e) (.ref (hp.objs.size+1)) >>= _) _ _ ⟨h₅,g,d,tk+1,os⟩
 refine wpAny_bind ?_
 unfold Builtin.SmallTypes.ownedTupleHandOut
 refine wpAny_bind (wpAny_setField_rec he₅ (by simp) fun h₆ he₆ hs₆=>?_)
 replace hs₆:Heap.SameBut e h₅ h₆:=hs₆
 replace he₆:IsEnumOut h₆ e z ((i:Int)+1) (.ref hp.objs.size) (hp.objs.size+1):=he₆
 refine wpAny_setField_rec he₆ (by simp) fun h₇ he₇ hs₇=>?_
 replace hs₇:Heap.SameBut e h₆ h₇:=hs₇
 replace he₇:IsEnumOut h₇ e z ((i:Int)+1) (.ref hp.objs.size) (hp.objs.size+1):=he₇
 have up:∀ c o,c≠e->h₁.get? c=some o->h₇.get? c=some o:=fun c o hc q=>hs₇.extBut c o hc (hs₆.extBut c o hc (hs₅.extBut c o hc (aAv c o hc q)))
 have nT:(hp.objs.size:Nat)≠e:=Nat.ne_of_gt hel
 have nT1:(hp.objs.size+1:Nat)≠e:=Nat.ne_of_gt (Nat.lt_succ_of_lt hel)
 refine wpAny_bind (wpAny_letGo (wpAny_pure ⟨_,rfl,wpAny_pure (hQ h₇ tk he₇ ?_ (up _ _ nT q5) ?_ ?_)⟩))
 ·obtain⟨⟨u0,u1,u2,u3⟩,u4,⟨u5,u6,u7⟩,u8,u9⟩:=st₁
  exact⟨⟨u0,u1,up _ _ ez.symm u2,u3⟩,up _ _ eTI.symm u4,⟨u5,u6,up _ _ eTO.symm u7⟩,u8.at fun o q=>up _ o ei1.symm q,u9.at fun o q=>up _ o ei2.symm q⟩
 ·exact hs₇.extBut _ _ nT1 (hs₆.extBut _ _ nT1 (hs₅.extBut _ _ nT1 ht₄))
 ·intro c o hc q
  have hc':c≠e/\c≠z/\c≠TO/\c≠i1/\c≠i2:=by simpa using hc
  exact up c o hc'.1 (q7 c o hc'.2.1 hc'.2.2.1 hc'.2.2.2.1 hc'.2.2.2.2 q)
theorem auS {e z TI TO i1 i2 l1 l2:Addr}{i:Nat}{xs:Array Value}{old:Value}{Q:Option Value->Shared->Prop}(hh:A.handled=none)(D:ZipApart z TI TO i1 i2 l1 l2)
  (he:IsEnum s.heap e z i old) (hst:ap6 z TI TO i1 i2 l1 l2 i s.heap) (hl1:s.heap.IsList l1 xs) (hx:xs[i]? = none)
  (hQ:∀ h',(∀ c o,c ∉ [e,z,TO,i1,i2]->s.heap.get? c=some o->h'.get? c=some o)->Q none { s with heap:=h' }):wpAny (model prog w) A (pyNext (.ref e)) Q E s:=by
 have hT:s.TypeIs (.ref e) "enumerate":=⟨_,he,rfl⟩
 obtain⟨⟨f0,f1,hz,hlo⟩,hTI,⟨ta,tb,hTO⟩,g1,g2⟩:=hst
 unfold pyNext
 refine wpAny_bind (wpAny_attempt (wpAny_callSpecial?_slot (name:=Str.ofString "__next__") hT PySem.F.slot_enumerate_next
  (wpAny_call_entry PySem.F.slot_enumerate_next hT PySem.F.entry_enumerate_next ?_ (PySem.F.args_enumerate_next_1 _))))
 show wpAny _ _ (field (.ref e) 2 >>= _) _ _ _
 refine wpAny_bind (wpAny_field he rfl (x:=.ref z) rfl ?_)
 refine wpAny_bind ?_
 have hTz:s.TypeIs (.ref z) "zip":=⟨_,hz,rfl⟩
 unfold Builtin.SmallTypes.nextOf
 refine wpAny_bind (wpAny_callSpecial?_slot (name:=Str.ofString "__next__") hTz PySem.F.slot_zip_next
  (wpAny_call_entry PySem.F.slot_zip_next hTz PySem.F.entry_zip_next (ap5 hh D hz hlo hTI hTO g1 hl1 hx fun h' x hk hx'=>?_) (PySem.F.args_zip_next_1 _)))
 obtain⟨o,ho,hc⟩:=hx'
 refine wpAny_bind (wpAny_isInstance (T:="StopIteration") (b:=true) ⟨o,ho,hc⟩ isSubtype_stop ?_)
 refine wpAny_pure (hQ _ fun c o hc q=>?_)
 have hc':c≠e/\c≠z/\c≠TO/\c≠i1/\c≠i2:=by simpa using hc
 exact hk c o hc'.2.1 hc'.2.2.1 hc'.2.2.2.1 hc'.2.2.2.2 q
theorem HW (z TI TO:Addr) :
  Meets (Builtin.«enumerate.__new__» ⟨[.type "enumerate",.ref z],[]⟩) (fun _ R s=>IsZip s.heap z TI TO .none /\
   R (.ok (.ret (.ref s.heap.objs.size)))
    { s with heap:=s.heap.push { cls:=.type "enumerate",data:=.fields #[.none,.bool false,.ref z,rawInt 0,.none,.none] } }) :=
 .of_wp fun prog w A R s h=>by
  obtain⟨hp,g,d,tk,os⟩:=s;obtain⟨hl,h⟩:=h
  have hsub:=sub_enumerate
  have hL:IsZip (Shared.heap ⟨hp,g,d,tk,os⟩) z TI TO .none:=hl
  wp_walk using wpAny_loadPart' hl
  refine wpAny_stack_any fun st=>wpAny_pure ?_
  split
  ·rename_i c _ _ _ _ _
   cases (c == Value.type "enumerate")
   ·wp_walk using wpAny_loadPart' hl,wpAny_pyIter_zip hL
    exact⟨_,rfl,h⟩
   ·wp_walk using wpAny_loadPart' hl,wpAny_pyIter_zip hL
    exact⟨_,rfl,h⟩
  ·wp_walk using wpAny_loadPart' hl,wpAny_pyIter_zip hL
   exact⟨_,rfl,h⟩
theorem M5 {z TI TO:Addr}{Q:Value->Shared->Prop}(hz:IsZip s.heap z TI TO .none)
  (h:∀ h',IsEnum h' s.heap.objs.size z 0 .none->(∀ b o,s.heap.get? b=some o->h'.get? b=some o)->Q (.ref s.heap.objs.size) { s with heap:=h' }) :
  wpAny (model prog w) A (call (.type "enumerate") [.ref z]) Q E s:=by
 refine callType_new PySem.F.called_enumerate (by decide) (PySem.F.typeCall_enumerate_1 _) (PySem.F.newCall_enumerate_1 _) (fun obj=>PySem.F.args_object_init_2 obj _) PySem.F.entry_enumerate_new
  (HW z TI TO) ⟨hz,?_⟩
 show _/\_
 have he:IsEnum (s.heap.push { cls:=.type "enumerate",data:=.fields #[.none,.bool false,.ref z,rawInt 0,.none,.none] }) s.heap.objs.size z 0 .none:=Heap.get?_push_size _ rfl
 exact⟨⟨_,he,rfl⟩,h _ he fun b o x=>Heap.get?_push_of_some _ x⟩
end
end L2
set_option maxHeartbeats 4000000
namespace L2
open PySem PySem.Spec PyProof.Rows
section
variable {X:Cx} {pins:List (Addr×Obj)} {σ:St} {H:Hp} {s:Shared}
theorem Inv.asm {tk:Nat}{h':Heap}{wr:List Addr}{T U:Addr}{xs ys:List V}{vals vals2:List Value}(I:Inv X pins σ H s)(hw:∀ b∈wr,tO X pins H b)(hT:s.heap.objs.size <= T)(hU:s.heap.objs.size <= U)(hTU:T≠U)
  (ht:h'.IsTuple T vals.toArray) (rv:Vals xs vals) (hz:xs.length <= sizeLine) (hu:h'.IsTuple U vals2.toArray) (rv2:Vals ys vals2) (hz2:ys.length <= sizeLine)
  (kk:∀ b o,b ∉ wr->s.heap.get? b=some o->h'.get? b=some o) (there:∀ b∈wr,∃ o,h'.get? b=some o):Inv X pins σ (upd (upd H T (.tup xs)) U (.tup ys)) { s with heap:=h',toks:=tk }:=by
 have hTn:H T=none:=I.hok.fresh hT
 have hUn:H U=none:=I.hok.fresh hU
 have nT:∀ b o,s.heap.get? b=some o->b≠T:=fun b o e=>Nat.ne_of_lt (Nat.lt_of_lt_of_le (Heap.lt_size e) hT)
 have nU:∀ b o,s.heap.get? b=some o->b≠U:=fun b o e=>Nat.ne_of_lt (Nat.lt_of_lt_of_le (Heap.lt_size e) hU)
 have up:∀ {b:Addr} {o:HO},H b=some o->upd (upd H T (.tup xs)) U (.tup ys) b=some o:=fun e=>by
  rw[aA (aC e hUn),aA (aC e hTn)];exact e
 refine I.step (g':=s.gens) (d':=s.drawn) (ch:=wr) (fun b hb=>?_) (fun b o _ _ hc e _=>kk b o hc e) (fun b o _ _ hc e _=>⟨o.slots,kk b o hc e⟩) (fun b o _ e n=>by rw[aA (nU b o e),aA (nT b o e)];exact n)
  (fun b o hc e=>⟨o,kk b o hc e⟩) (fun b ys e=>up e) (fun b o u e=>up e) (fun b ps e=>⟨#[],by rw[up e];simp⟩) (fun m hm=>?_) (fun b u e=>?_) I.bare
 ·obtain⟨_,f1,_,f3,f4,f5⟩:=hw b hb
  exact⟨f3,f1,f4,f5⟩
 ·obtain⟨o,es,ep,ho,r⟩:=hm
  exact⟨o,es,ep,kk _ o (fun z=>(hw _ z).2.1 rfl) ho,r⟩
 ·by_cases hb:b=U
  ·subst hb
   rw[ak] at e
   cases e
   exact⟨hz2,vals2,rv2,hu⟩
  ·rw[aA hb] at e
   by_cases hb2:b=T
   ·subst hb2
    rw[ak] at e
    cases e
    exact⟨hz,vals,rv,ht⟩
   ·rw[aA hb2] at e
    refine (I.hok b u e).stay (fun c v hc q=>kk c v (fun z=>?_) q) (fun c q=>up q) fun c ys q=>up q
    have hn:=(hw c z).1
    rcases hc with hc | hc
    ·rw[hc,e] at hn;cases hn
    ·rw[hc] at hn;cases hn
def anh (K:Frag)(a b:Addr):It :=
 ⟨fun i H=>∃ xs ys x y,bh K H a xs/\bh K H b ys/\xs[i]? = some x/\ys[i]? = some y,
  fun i H p H'=>∃ x y t0 t1,p=.ref t1/\H t0=none/\H t1=none/\t0≠t1/\(∀ xs,bh K H a xs->xs[i]? = some x)/\(∀ ys,bh K H b ys->ys[i]? = some y)/\H'=upd (upd H t0 (.tup [x,y])) t1 (.tup [.int i,.ref t0]),
  fun i H=>∃ xs ys,bh K H a xs/\bh K H b ys/\xs.length <= i⟩
theorem asn {P:Program}{w:World}{K:Frag}{es:List Expr}{k:Nat}{tp:Pos}{e z TI TO i1 i2:Addr}(a b:Addr)(O:BL z TI TO i1 i2)(hne:∀ c∈[z,TI,TO,i1,i2],e≠c) :
  Turn P w K (.Tuple es k tp) (anh K a b) [e,z,TI,TO,i1,i2] e (fun i h=>(∃ old,IsEnum h e z i old)/\ap6 z TI TO i1 i2 a b i h) where
 mem:=by simp
 obj:=fun i h st c hc=>by
  obtain⟨⟨old,he⟩,⟨f0,f1,hz,_⟩,hTI,⟨x,y,hTO⟩,⟨o1,e1,_,d1⟩,⟨o2,e2,_,d2⟩⟩:=st
  have hc':c=e∨c=z∨c=TI∨c=TO∨c=i1∨c=i2:=by simpa using hc
  rcases hc' with rfl | rfl | rfl | rfl | rfl | rfl
  ·exact⟨_,he,fun v q=>by
    have q':Data.fields _=Data.cell v:=q
    cases q'⟩
  ·exact⟨_,hz,fun v q=>by
    have q':Data.fields _=Data.cell v:=q
    cases q'⟩
  ·exact⟨_,hTI,fun v q=>by
    have q':Data.seq _ _=Data.cell v:=q
    cases q'⟩
  ·exact⟨_,hTO,fun v q=>by
    have q':Data.seq _ _=Data.cell v:=q
    cases q'⟩
  ·exact⟨o1,e1,fun v q=>by rw[d1] at q;cases q⟩
  ·exact⟨o2,e2,fun v q=>by rw[d2] at q;cases q⟩
 keep:=fun i h h' st kp=>by
  obtain⟨⟨old,he⟩,⟨f0,f1,hz,hl⟩,hTI,⟨x,y,hTO⟩,h1,h2⟩:=st
  exact⟨⟨old,kp e (by simp) _ he⟩,⟨f0,f1,kp z (by simp) _ hz,hl⟩,kp TI (by simp) _ hTI,⟨x,y,kp TO (by simp) _ hTO⟩,h1.at fun o q=>kp i1 (by simp) o q,h2.at fun o q=>kp i2 (by simp) o q⟩
 item:=by
  intro X hP hw hK hc i pins s σ H E I hf st hg
  subst hP hw hK
  obtain⟨xs,ys,x,y,hq,hq2,hx,hy⟩:=hg
  obtain⟨⟨old,he⟩,stz⟩:=st
  have D:ZipApart z TI TO i1 i2 a b:=by
   obtain⟨⟨f0,f1,hz,_⟩,hTI,⟨x,y,hTO⟩,⟨o1,e1,c1,_⟩,⟨o2,e2,c2,_⟩⟩:=stz
   have nz:∀ {c:Addr} {zs:List V},bh X.K H c zs->c≠z:=fun h=>dC (K:=X.K) I h hz (by intro q;injection q with q;exact absurd q (by decide))
   have nT:∀ {c:Addr} {zs:List V},bh X.K H c zs->c≠TO:=fun h=>dC (K:=X.K) I h hTO (by intro q;injection q with q;exact absurd q (by decide))
   have n1:∀ {c:Addr} {zs:List V},bh X.K H c zs->c≠i1:=fun h=>dC (K:=X.K) I h e1 (by rw[c1];intro q;injection q with q;exact absurd q (by decide))
   have n2:∀ {c:Addr} {zs:List V},bh X.K H c zs->c≠i2:=fun h=>dC (K:=X.K) I h e2 (by rw[c2];intro q;injection q with q;exact absurd q (by decide))
   exact⟨O.TIz,O.TOz,O.i1z,O.i2z,O.TITO,O.TIi1,O.TIi2,O.TOi1,O.TOi2,O.i12,nz hq,nT hq,n1 hq,n2 hq,nz hq2,nT hq2,n1 hq2,n2 hq2⟩
  obtain⟨its,rv,p,_⟩:=I.list hq
  obtain⟨its2,rv2,p2,_⟩:=I.list hq2
  obtain⟨u,hu,ru⟩:=rv.get hx
  obtain⟨u2,hu2,ru2⟩:=rv2.get hy
  refine asl D hne he stz p.isList p2.isList (x:=u) (y:=u2) (by simpa using hu) (by simpa using hu2) fun h' tk q1 q2 q3 q4 kk=>?_
  refine⟨_,rfl,?_⟩
  have sub:∀ c∈[e,z,TO,i1,i2],c∈[e,z,TI,TO,i1,i2]:=fun c hc=>by
   have:c=e∨c=z∨c=TO∨c=i1∨c=i2:=by simpa using hc
   simp
   rcases this with r | r | r | r | r <;> simp[r]
  have fw:∀ c∈[e,z,TO,i1,i2],tO X pins H c:=fun c hc=>hf c (sub c hc)
  have I1:Inv X pins σ (upd (upd H s.heap.objs.size (.tup [x,y])) (s.heap.objs.size+1) (.tup [.int i,.ref s.heap.objs.size])) { s with heap:=h',toks:=tk+1 }:=by
   refine I.asm (vals:=[u,u2]) (vals2:=[.int i tk,.ref s.heap.objs.size]) fw (Nat.le_refl _) (Nat.le_succ _) (Nat.ne_of_lt (Nat.lt_succ_self _)) ⟨_,q3,rfl,_,rfl⟩ (.cons ru (.cons ru2 .nil)) (by show 2 <= sizeLine;decide)
    ⟨_,q4,rfl,_,rfl⟩ (.cons ⟨tk,rfl⟩ (.cons rfl .nil)) (by show 2 <= sizeLine;decide) kk fun c hc=>?_
   obtain⟨⟨f0,f1,m1,_⟩,_,⟨_,_,m2⟩,⟨o1,m3,_⟩,⟨o2,m4,_⟩⟩:=q2
   have:c=e∨c=z∨c=TO∨c=i1∨c=i2:=by simpa using hc
   rcases this with rfl | rfl | rfl | rfl | rfl
   ·exact⟨_,q1⟩
   ·exact⟨_,m1⟩
   ·exact⟨_,m2⟩
   ·exact⟨_,m3⟩
   ·exact⟨_,m4⟩
  have hT0:H s.heap.objs.size=none:=I.hok.fresh (Nat.le_refl _)
  have hT1:H (s.heap.objs.size+1)=none:=I.hok.fresh (Nat.le_succ _)
  have lt:∀ c∈[e,z,TI,TO,i1,i2],c < s.heap.objs.size:=fun c hc=>by
   obtain⟨⟨f0,f1,m1,_⟩,m5,⟨_,_,m2⟩,⟨o1,m3,_⟩,⟨o2,m4,_⟩⟩:=stz
   have hc':c=e∨c=z∨c=TI∨c=TO∨c=i1∨c=i2:=by simpa using hc
   rcases hc' with rfl | rfl | rfl | rfl | rfl | rfl
   ·exact Heap.lt_size he
   ·exact Heap.lt_size m1
   ·exact Heap.lt_size m5
   ·exact Heap.lt_size m2
   ·exact Heap.lt_size m3
   ·exact Heap.lt_size m4
  refine wpAny_letOwnedTupleGo_enum q1 fun h'' ay2 hs''=>?_
  have hf2:∀ c∈[e,z,TI,TO,i1,i2],tO X pins (upd (upd H s.heap.objs.size (.tup [x,y])) (s.heap.objs.size+1) (.tup [.int i,.ref s.heap.objs.size])) c:=fun c hc=>by
   obtain⟨f0,fr⟩:=hf c hc
   have l:=lt c hc
   exact⟨by rw[aA (Nat.ne_of_lt (Nat.lt_succ_of_lt l)),aA (Nat.ne_of_lt l)];exact f0,fr⟩
  have kk2:∀ c o,c ∉ [e]->h'.get? c=some o->h''.get? c=some o:=fun c o hc q=>hs''.extBut c o (fun r=>hc (by simp[r])) q
  have up:∀ {c:Addr} {o:Obj},c∈[z,TI,TO,i1,i2]->h'.get? c=some o->h''.get? c=some o:=fun hc q=>hs''.extBut _ _ (hne _ hc).symm q
  have fe:∀ c∈[e],tO X pins (upd (upd H s.heap.objs.size (.tup [x,y])) (s.heap.objs.size+1) (.tup [.int i,.ref s.heap.objs.size])) c:=fun c hc=>by
   have:c=e:=by simpa using hc
   exact hf2 c (by simp[this])
  refine⟨.ref (s.heap.objs.size+1),_,I1.jG (tk:=tk+1) (wr:=[e]) fe kk2,rfl,⟨x,y,s.heap.objs.size,s.heap.objs.size+1,rfl,hT0,hT1,Nat.ne_of_lt (Nat.lt_succ_self _),Di I hq hx,Di I hq2 hy,rfl⟩,?_,fun c hc=>(hf2 c hc).1⟩
  obtain⟨⟨f0,f1,m1,m1'⟩,m5,⟨_,_,m2⟩,m3,m4⟩:=q2
  exact⟨⟨_,by simpa using ay2⟩,⟨f0,f1,up (by simp) m1,m1'⟩,up (by simp) m5,⟨_,_,up (by simp) m2⟩,m3.at fun o q=>up (by simp) q,m4.at fun o q=>up (by simp) q⟩
 done:=by
  intro X hP hw hK hc i pins s σ H E I hf st hg
  subst hP hw hK
  obtain⟨xs,ys,hq,hq2,hx⟩:=hg
  obtain⟨⟨old,he⟩,stz⟩:=st
  have D:ZipApart z TI TO i1 i2 a b:=by
   obtain⟨⟨f0,f1,hz,_⟩,hTI,⟨x,y,hTO⟩,⟨o1,e1,c1,_⟩,⟨o2,e2,c2,_⟩⟩:=stz
   have nz:∀ {c:Addr} {zs:List V},bh X.K H c zs->c≠z:=fun h=>dC (K:=X.K) I h hz (by intro q;injection q with q;exact absurd q (by decide))
   have nT:∀ {c:Addr} {zs:List V},bh X.K H c zs->c≠TO:=fun h=>dC (K:=X.K) I h hTO (by intro q;injection q with q;exact absurd q (by decide))
   have n1:∀ {c:Addr} {zs:List V},bh X.K H c zs->c≠i1:=fun h=>dC (K:=X.K) I h e1 (by rw[c1];intro q;injection q with q;exact absurd q (by decide))
   have n2:∀ {c:Addr} {zs:List V},bh X.K H c zs->c≠i2:=fun h=>dC (K:=X.K) I h e2 (by rw[c2];intro q;injection q with q;exact absurd q (by decide))
   exact⟨O.TIz,O.TOz,O.i1z,O.i2z,O.TITO,O.TIi1,O.TIi2,O.TOi1,O.TOi2,O.i12,nz hq,nT hq,n1 hq,n2 hq,nz hq2,nT hq2,n1 hq2,n2 hq2⟩
  obtain⟨its,rv,p,_⟩:=I.list hq
  have hl:=rv.length
  refine auS (I.ok.hd hc) D he stz p.isList (Array.getElem?_eq_none (by simp;omega)) fun h' kk=>?_
  refine⟨rfl,I.jG (tk:=s.toks) (wr:=[e,z,TO,i1,i2]) (fun c hc=>hf c ?_) kk⟩
  have:c=e∨c=z∨c=TO∨c=i1∨c=i2:=by simpa using hc
  simp
  rcases this with r | r | r | r | r <;> simp[r]
 self:=fun _ _ _ _ _ st h=>by
  obtain⟨⟨old,he⟩,_⟩:=st
  exact wpAny_pyIter_enum he h
inductive awI (K:Frag)(R:(It->Hp->Prop))(x:V)(y:V)(H2:Hp):Prop
 | mk (a:_) (b:_) (gj:x=.ref a) (gk:y=.ref b) (jc:(∃ xs,bh K H2 a xs)/\(∃ ys,bh K H2 b ys)/\R (anh K a b) H2):awI K R x y H2
def iEz (K:Frag)(tl tm:TE):TI:=fun σ H R=>tl σ H fun x H1=>tm σ H1 fun y H2=>awI K R x y H2
theorem aso {l m:Expr}{tl tm:TE}{p pos:Pos}(hg:Gl X "zip")(hz:X.mg "zip" = none)(hl:PE X l tl)(hm:PE X m tm)(hs:starEach [l,m] X.env=[(false,eval l X.env),(false,eval m X.env)])(hs2:starEach [m] X.env=[(false,eval m X.env)])
  {R:V->V->Hp->Prop} (I:Inv X pins σ H s) (h:tl σ H fun x H1=>tm σ H1 fun y H2=>R x y H2) (hR:∀ x y H1,R x y H1->∃ a b,x=.ref a/\y=.ref b/\(∃ xs,bh X.K H1 a xs)/\∃ ys,bh X.K H1 b ys) :
  wpAny (model X.prog X.w) X.A (eval (.Call (.Name "zip" p) [l,m] [] pos) X.env) (fun v s1=>∃ a b z TI TO i1 i2 H1,R (.ref a) (.ref b) H1/\v=.ref z/\Inv X pins σ H1 s1/\BL z TI TO i1 i2/\IsZip s1.heap z TI TO .none/\amf z TI TO i1 i2 a b 0 s1.heap/\∀ c∈[z,TI,TO,i1,i2],tO X pins H1 c) X.xe s:=by
 refine Call_ (v7 I hg hz ajH (PyProof.Rows.callWith_type1 (eX (ajI hl hm hs hs2 pos pins s σ H I h) fun us s1 ⟨x,y,u,v,H1,I1,e1,r1,r2,q1⟩=>?_) (by rw[hs,hs2]) (by rw[hs2];rfl)))
 obtain⟨a,b,rfl,rfl,⟨xs,hq⟩,⟨ys,hq2⟩⟩:=hR _ _ _ q1
 subst e1
 cases r1
 cases r2
 obtain⟨its,rv,pl,_⟩:=I1.list hq
 obtain⟨its2,rv2,pl2,_⟩:=I1.list hq2
 refine call_zip_2 pl.isList pl2.isList fun h' z1 z2 z3 z4 z5 hsz kk=>?_
 have O:BL (s1.heap.objs.size+4) (s1.heap.objs.size+2) (s1.heap.objs.size+3) s1.heap.objs.size (s1.heap.objs.size+1):=by
  constructor <;> exact (by intro q;have q':(_:Nat)=_:=q;omega)
 refine⟨a,b,_,_,_,_,_,H1,q1,rfl,I1.kept (t':=s1.toks) kk,O,z1,⟨z1,z2,⟨_,_,z3⟩,z4,z5⟩,fun c hc=>?_⟩
 have hc':s1.heap.objs.size <= c:=by
  have:c=s1.heap.objs.size+4∨c=s1.heap.objs.size+2∨c=s1.heap.objs.size+3∨c=s1.heap.objs.size∨c=s1.heap.objs.size+1:=by simpa using hc
  rcases this with r | r | r | r | r <;> (rw[r];first | exact Nat.le_add_right _ _ | exact Nat.le_refl _)
 exact I1.acE hc' (I1.hok.fresh hc')
theorem awJ {l m:Expr}{tl tm:TE}{p p2 pos pos2 tp:Pos}{es:List Expr}{k:Nat}(hg:Gl X "zip")(hz:X.mg "zip" = none)(hg2:Gl X "enumerate")(hm2:X.mg "enumerate" = none)(hl:PE X l tl)(hm:PE X m tm)
  (hs:starEach [l,m] X.env=[(false,eval l X.env),(false,eval m X.env)]:=by rfl) (hs2:starEach [m] X.env=[(false,eval m X.env)]:=by rfl)
  (hs3:starEach [Expr.Call (.Name "zip" p) [l,m] [] pos] X.env=[(false,eval (.Call (.Name "zip" p) [l,m] [] pos) X.env)]:=by rfl) :
  PI X (.Tuple es k tp) (.Call (.Name "enumerate" p2) [.Call (.Name "zip" p) [l,m] [] pos] [] pos2) (iEz X.K tl tm):=by
 intro pins s σ H R I h
 have hev:wpAny (model X.prog X.w) X.A (spliced (backTo pos2 (starEach [Expr.Call (.Name "zip" p) [l,m] [] pos] X.env))) (fun us s1=>∃ a b z TI TO i1 i2 H1,R (anh X.K a b) H1/\us=[.ref z]/\Inv X pins σ H1 s1/\BL z TI TO i1 i2/\IsZip s1.heap z TI TO .none/\amf z TI TO i1 i2 a b 0 s1.heap/\∀ c∈[z,TI,TO,i1,i2],tO X pins H1 c) X.xe s:=by
  rw[hs3]
  refine Calls.spliced_cons (eX (aso hg hz hl hm hs hs2 I h fun x y H1 ⟨a,b,e1,e2,q1,q2,_⟩=>⟨a,b,e1,e2,q1,q2⟩) fun v s1 ⟨a,b,z,TI,TO,i1,i2,H1,q,e,I1,O,g1,g2,g3⟩=>Calls.spliced_nil ?_)
  obtain⟨a',b',e1,e2,_,_,q⟩:=q
  cases e1
  cases e2
  exact⟨a,b,z,TI,TO,i1,i2,H1,q,by rw[e],I1,O,g1,g2,g3⟩
 refine Call_ (v7 I hg2 hm2 QR (PyProof.Rows.callWith_type1 (eX hev fun us s1 ⟨a,b,z,TI,TO,i1,i2,H1,q,e,I1,O,g1,g2,g3⟩=>?_) (by rw[hs3];rfl) (by rfl)))
 subst e
 refine M5 g1 fun h' he kk=>?_
 refine wpAny_pyIter_enum he ?_
 obtain⟨y1,y2,⟨y3,y4,y5⟩,y6,y7⟩:=g2
 have hne:∀ c∈[z,TI,TO,i1,i2],s1.heap.objs.size≠c:=fun c hc=>by
  have hc':c=z∨c=TI∨c=TO∨c=i1∨c=i2:=by simpa using hc
  rcases hc' with rfl | rfl | rfl | rfl | rfl
  ·exact Nat.ne_of_gt (Heap.lt_size y1)
  ·exact Nat.ne_of_gt (Heap.lt_size y2)
  ·exact Nat.ne_of_gt (Heap.lt_size y5)
  ·obtain⟨_,y,_⟩:=y6;exact Nat.ne_of_gt (Heap.lt_size y)
  ·obtain⟨_,y,_⟩:=y7;exact Nat.ne_of_gt (Heap.lt_size y)
 refine⟨s1.heap.objs.size,[s1.heap.objs.size,z,TI,TO,i1,i2],_,_,H1,rfl,I1.kept (t':=s1.toks) kk,asn a b O hne,⟨⟨.none,he⟩,⟨.none,.bool false,kk _ _ y1,.inl rfl,false,rfl⟩,kk _ _ y2,⟨y3,y4,kk _ _ y5⟩,y6.at fun o q=>kk _ _ q,y7.at fun o q=>kk _ _ q⟩,fun c hc=>?_,q⟩
 rcases List.mem_cons.mp hc with rfl | hc
 ·exact I1.acE (Nat.le_refl _) (I1.hok.fresh (Nat.le_refl _))
 ·exact g3 c hc
end
theorem auT {K:Frag}{a b:Addr}{xs ys:List V}{g:TG}{tb:TS}{D:Ends}{σ:St}{H:Hp}(Pv:Nat->St->Hp->Prop)(he:xs.length=ys.length)(h0:Pv 0 σ H)(hl:∀ i σ H,Pv i σ H->bh K H a xs/\bh K H b ys)
  (hs:∀ i x y t u σ H,xs[i]? = some x->ys[i]? = some y->Pv i σ H->H t=none->H u=none->t≠u->g (.ref u) σ (upd (upd H t (.tup [x,y])) u (.tup [.int i,.ref t])) fun σ2 H2=>tb { D with nx:=Pv (i+1),ct:=Pv (i+1),bk:=D.nx } σ2 H2) (hd:∀ σ H,Pv xs.length σ H->D.nx σ H) :
  ∃ W:Nat->Nat->St->Hp->Prop,(∃ m,W 0 m σ H)/\∀ i m σ H,W i m σ H ->
   ((anh K a b).stop i H/\D.nx σ H)∨((anh K a b).go i H/\∃ N:St->Hp->Prop,(∀ σ' H',N σ' H'->∃ m',m' < m/\W (i+1) m' σ' H')/\∀ x H',(anh K a b).yld i H x H'->g x σ H' fun σ2 H2=>tb { D with nx:=N,ct:=N,bk:=D.nx } σ2 H2):=by
 refine⟨fun i m σ H=>m=xs.length - i/\i <= xs.length/\Pv i σ H,⟨xs.length,by simp,Nat.zero_le _,h0⟩,?_⟩
 rintro i m σ H ⟨rfl,hi,p⟩
 obtain⟨q,q2⟩:=hl i σ H p
 by_cases hlt:i < xs.length
 ·have hlt2:i < ys.length:=by omega
  refine .inr ⟨⟨xs,ys,xs[i],ys[i],q,q2,by simp[hlt],by simp[hlt2]⟩,Pv (i+1),fun σ' H' p'=>⟨xs.length - (i+1),by omega,rfl,hlt,p'⟩,fun x H' y=>?_⟩
  obtain⟨x0,y0,t,u,rfl,hn,hn2,tu,hx,hy,rfl⟩:=y
  exact hs i x0 y0 t u σ H (hx xs q) (hy ys q2) p hn hn2 tu
 ·have e:i=xs.length:=by omega
  subst e
  exact .inl ⟨⟨xs,ys,q,q2,Nat.le_refl _⟩,hd σ H p⟩
end L2
set_option maxHeartbeats 4000000
namespace L2
open PySem PySem.Spec PyProof.Rows
structure aeB (K:Frag)(x qual:Str)(st:Stmt)(f:Addr)(fd:FuncData)(dV:Value):Prop where
 ex:∃ (oc:Value) (od:Option Addr) (kV doc pm:Value) (an:Option Addr) (cdv ct:Value) (osl:Array (Option Value)),
  fd=fnOf x qual (aL st) (aK st) (aq st) dV kV doc pm an cdv ct/\K.lookup f=some ⟨oc,od,.func fd,osl⟩/\codeIn K cdv qual=true
 kp:keepIn K (.ref f)=true
section
variable {P:Program} {w:World} {K:Frag} {mg:Str->Option Value} {base:Heap}
theorem aeB.ok {x qual:Str}{st:Stmt}{f:Addr}{fd:FuncData}{dV:Value}{N ps:List Str}{k:Nat}{sp:Sp}(F:aeB K x qual st f fd dV)(S:aP N ps (aq st))(len:∀ vs H Q E,sp vs H Q E->vs.length=ps.length)
  (hbody:∀ (cdv:Value) (A:Around) (outer:List Env) (s:Shared) (H:Hp) (vs:List V) (Q:VK) (E:XK),tG k (A.deeper (envOfC qual (aq st) s.heap.objs.size f cdv))->sp vs H Q E ->
   ∃ t,PSs (ajw jF P w K mg base N qual (aq st) f cdv A outer s H E).nox (aK st) t/\t { nx:=fun _ H'=>Q .non H',rt:=Q } (start N vs) H):bW P w K mg base jF (k+1) f fd ps sp:=by
 obtain⟨oc,od,kV,doc,pm,an,cdv,ct,osl,rfl,lk,hcd⟩:=F.ex
 refine atB lk hcd S len fun A outer s H vs Q E hr hsp=>?_
 obtain⟨t,h,q⟩:=hbody cdv A outer s H vs Q E hr hsp
 exact⟨t,h.nox,q⟩
theorem aeB.binds {x qual:Str}{st:Stmt}{f:Addr}{fd:FuncData}{T:Addr}{o:Obj}{items:Array Value}{n:Nat}{ps:List Str}{ds:List Value}(F:aeB K x qual st f fd (.ref T))(lk:K.lookup T=some o)(hs:o.data=.seq items n)
  (h:∀ (kV doc pm:Value) (an:Option Addr) (cdv ct:Value) (us:List Value),(us++ds).length=ps.length->∃ k,bindArgs (fnOf x qual (aL st) (aK st) (aq st) (.ref T) kV doc pm an cdv ct) ⟨us,[]⟩=seqItems? (.ref T) >>= k/\k (some items)=pure (ps.zip (us++ds))):Binds K fd ps ds:=by
 obtain⟨oc,od,kV,doc,pm,an,cdv,ct,osl,rfl,lkf,hcd⟩:=F.ex
 intro s us KI hl
 obtain⟨k,h1,h2⟩:=h kV doc pm an cdv ct us hl
 exact BindsTo.of_defaults rfl (KI _ _ lk) hs h1 h2
theorem Zb {x qual:Str}{st:Stmt}{f:Addr}{oc:Value}{od an:Option Addr}{osl:Array (Option Value)}{dV kV doc pm cdv ct:Value}(l:K.lookup f=some ⟨oc,od,.func (fnOf x qual (aL st) (aK st) (aq st) dV kV doc pm an cdv ct),osl⟩)
  (c:codeIn K cdv qual=true) (k:keepIn K (.ref f)=true):aeB K x qual st f (fnOf x qual (aL st) (aK st) (aq st) dV kV doc pm an cdv ct) dV:=⟨⟨oc,od,kV,doc,pm,an,cdv,ct,osl,rfl,l,c⟩,k⟩
end
inductive ajK (w:World):List DictEntry->List (Str×V)->Prop
 | nil:ajK w [] []
 | cons {x:Str} {t:Tok} {u:Value} {v:V} {es:List DictEntry} {kvs:List (Str×V)}:RelV v u->ajK w es kvs->ajK w (⟨PyData.keyHash w.params x,.str x t,u⟩ :: es) ((x,v) :: kvs)
structure KD (K:Frag)(w:World)(a:Addr)(kvs:List (Str×V)):Prop where
 sys:(a == sysModules)=false
 ok:∃ es n,K.lookup a=some ⟨.type "dict",none,.dict es n,#[]⟩/\ajK w es.toList kvs/\(kvs.map (·.1)).Nodup
theorem ajK.vs (P:Program){w:World}:∀ {es:List DictEntry} {kvs:List (Str×V)},ajK w es kvs->∃ vs:List (Key×Value),Pairs (dz P w) es vs/\vs.map (·.1)=kvs.map (fun p=>(Sum.inr p.1:Key)) /\
  (∀ e∈es,∃ k,(dz P w).is k e.key=true/\e.hash=(dz P w).hash k)/\∀ x,De (kvs.lookup x) (valueAt vs (Sum.inr x))
 | _,_,.nil=>⟨[],.nil,rfl,fun e h=>by simp at h,fun x=>True.intro⟩
 | _,_,.cons (x:=x) (t:=t) (u:=u) (v:=v) r q=>by
  obtain⟨vs,h1,h2,h3,h4⟩:=ajK.vs P q
  refine⟨(Sum.inr x,u) :: vs,.cons (pM P w x t) rfl h1,by rw[List.map_cons,List.map_cons,h2],fun e he=>?_,fun y=>?_⟩
  ·rcases List.mem_cons.mp he with rfl | he
   ·exact⟨Sum.inr x,pM P w x t,rfl⟩
   ·exact h3 e he
  ·by_cases hy:y=x
   ·subst hy
    unfold valueAt
    simp only [List.lookup_cons,List.find?_cons]
    simp
    exact r
   ·unfold valueAt
    have h5:=h4 y
    unfold valueAt at h5
    have e1:(y == x)=false:=by simpa using hy
    have e2:decide ((Sum.inr x:Key)=Sum.inr y)=false:=decide_eq_false fun e=>hy (Sum.inr.inj e).symm
    simp only [List.lookup_cons,e1,List.find?_cons,e2]
    exact h5
theorem Uk:∀ {l:List Str},l.Nodup->(l.map (fun p=>(Sum.inr p:Key))).Nodup
 | [],_=>.nil
 | x :: l,h=>by
  rw[List.map_cons,List.nodup_cons]
  obtain⟨h1,h2⟩:=List.nodup_cons.mp h
  refine⟨fun z=>?_,Uk h2⟩
  obtain⟨y,hy,e⟩:=List.mem_map.mp z
  cases e
  exact h1 hy
theorem KD.dict (P:Program){K:Frag}{w:World}{a:Addr}{kvs:List (Str×V)}{h:Heap}(d:KD K w a kvs)(hi:K.In h):∃ vs,h.DictOf (dz P w) a vs/\∀ x,De (kvs.lookup x) (valueAt vs (Sum.inr x)):=by
 obtain⟨es,n,lk,ok,nd⟩:=d.ok
 obtain⟨vs,h1,h2,h3,h4⟩:=ok.vs P
 refine⟨vs,⟨_,es,n,hi _ _ lk,⟨rfl,rfl,rfl⟩,rfl,fun e he=>h3 e (by simpa using he),h1,?_⟩,h4⟩
 rw[h2]
 have:=Uk nd
 rw[List.map_map] at this
 exact this
theorem De.asp {o:Option V}{u:Option Value}(r:De o u):o.isSome=u.isSome:=by
 cases o <;> cases u <;> first | rfl | exact False.elim r
theorem De.awK {o:Option V}{u:Option Value}{d:V}{d':Value}(r:De o u)(rd:RelV d d'):RelV (o.getD d) (u.getD d'):=by
 cases o with
 | none=>cases u with
  | none=>exact rd
  | some _=>exact False.elim r
 | some v=>cases u with
  | none=>exact False.elim r
  | some _=>exact r
section
variable {X:Cx}
theorem ap7:En X (compareOp .In) (fun x y H Q=>∃ a z kvs,x=.str z/\y=.ref a/\KD X.K X.w a kvs/\Q (.bl (kvs.lookup z).isSome) H):=by
 intro pins s σ H x y v u Q I rx ry h
 obtain⟨a,z,kvs,rfl,rfl,d,q⟩:=h
 obtain⟨t,rfl⟩:=rx
 cases ry
 obtain⟨vs,dd,rel⟩:=d.dict X.prog I.Qz
 refine wpAny_in_of (knd:=dz X.prog X.w) (k:=Sum.inr z) (pM _ _ z t) d.sys dd.mapOf ?_
 rw[← (rel z).asp]
 exact⟨.bl _,H,I.tok _,rfl,q⟩
theorem atR:IxR X (fun x y H Q=>∃ a z kvs r,x=.ref a/\y=.str z/\KD X.K X.w a kvs/\kvs.lookup z=some r/\Q r H):=by
 intro value slice pins s σ H x y v u Q I rx ry h hs
 obtain⟨a,z,kvs,r,rfl,rfl,d,l,q⟩:=h
 cases rx
 obtain⟨t,rfl⟩:=ry
 obtain⟨vs,dd,rel⟩:=d.dict X.prog I.Qz
 have hr:=rel z
 rw[l] at hr
 cases hv:valueAt vs (Sum.inr z) with
 | none=>rw[hv] at hr;exact False.elim hr
 | some rv =>
  rw[hv] at hr
  exact subscriptTail_builtinR (x:=rv) dd.typeIs PySem.F.slot_dict_getitem.lookup
   (wpAny_getItem_of (knd:=dz X.prog X.w) (k:=Sum.inr z) (pM _ _ z t) dd.mapOf hv ⟨rfl,⟨r,H,I.tok _,hr,q⟩⟩) hs
def auU (K:Frag)(w:World)(td ty tx:TE):TE:=fun σ H Q=>td σ H fun x H1=>∃ a kvs,x=.ref a/\KD K w a kvs/\ty σ H1 fun y H2=>tx σ H2 fun z H3=>∃ k,y=.str k/\Q ((kvs.lookup k).getD z) H3
theorem ap8 {o e f:Expr}{apos cpos:Pos}{td ty tx:TE}(ho:PE X o td)(he:PE X e ty)(hf:PE X f tx)
  (base:attributeBase o "get" X.env (eval o X.env)=eval o X.env:=by rfl)
  (few:((backTo cpos (starEach [e,f] X.env)).all (fun x=>!x.1) && (backToKw cpos (keywordEach [] X.env)).all (fun x=>x.1.isSome)
   && decide (([e,f]:List Expr).length+([]:List Keyword).length+(if ([]:List Keyword).isEmpty then 0 else 1) < 30))=true:=by rfl)
  (line:(apos.endLine == cpos.line)=true:=by rfl) (trees:backTo cpos (starEach [e,f] X.env)=[(false,eval e X.env),(false,eval f X.env)]:=by rfl) :
  PE X (.Call (.Attribute o "get" apos) [e,f] [] cpos) (auU X.K X.w td ty tx):=by
 intro pins s σ H Q I h
 refine wpAny_Call_method base few line PySem.F.plainAttrs_dict PySem.F.slot_dict_get PySem.F.type_dict_get (eX (ho pins s σ H _ I h) fun u s1 ⟨x,H1,I1,rx,a,kvs,ex,d,q1⟩=>?_)
 subst ex
 obtain rfl:u=Value.ref a:=rx
 obtain⟨vs,dd,rel⟩:=d.dict X.prog I1.Qz
 refine⟨dd.typeIs,fun b q=>?_,?_⟩
 ·cases q
  obtain⟨ob,_,_,h1,h2,_⟩:=dd
  exact⟨ob,h1,h2.2.1⟩
 rw[trees]
 refine Calls.callWith_builtin rfl (Calls.evalArgs_plain (Calls.spliced_cons (eX (he pins s1 σ H1 _ I1 q1) fun iv s2 ⟨y,H2,I2,ry,q2⟩ =>
  Calls.spliced_cons (eX (hf pins s2 σ H2 _ I2 q2) fun fv s3 ⟨z,H3,I3,rz,k,ek,q3⟩=>Calls.spliced_nil ?_))))
 subst ek
 obtain⟨t,rfl⟩:=ry
 obtain⟨vs3,dd3,ay3⟩:=d.dict X.prog I3.Qz
 exact call_meetsIn PySem.F.slot_dict_get dd3.typeIs PySem.F.entry_dict_get (PySem.F.args_dict_get_3 _ _ _) (meets_dict_get_default (dz X.prog X.w) a (pM _ _ k t) d.sys fv) ⟨_,dd3.mapOf,_,H3,I3.tok _,(ay3 k).awK rz,q3⟩
def Dj:List Int->Int
 | []=>0
 | x :: l=>x+Dj l
theorem ani (l:List Int)(x:Int):Dj (l++[x])=Dj l+x:=by
 induction l with
 | nil=>simp[Dj]
 | cons y l ih=>simp only [List.cons_append,Dj,ih];omega
theorem HX (ns:List Int):∀ k,k <= ns.length->preSum (fun i=>ns.getD i 0) k=Dj (ns.take k)
 | 0,_=>by simp[preSum,Dj]
 | k+1,h=>by
  have e:ns.take (k+1)=ns.take k++[ns.getD k 0]:=by
   rw[List.take_succ_eq_append_getElem (by omega)]
   rw[List.getD_eq_getElem?_getD,List.getElem?_eq_getElem (by omega)]
   rfl
  rw[e,ani,preSum,HX ns k (by omega)]
theorem ZC:∀ (ns:List Int),(∀ x∈ns,0 <= x/\x <= 1000)->0 <= Dj ns/\Dj ns <= 1000 * ns.length
 | [],_=>by simp[Dj]
 | x :: l,h=>by
  have h1:=h x List.mem_cons_self
  have h2:=ZC l fun y hy=>h y (List.mem_cons_of_mem _ hy)
  simp only [Dj,List.length_cons]
  omega
theorem ahT:oh X (.builtin "sum") (fun xs H Q=>X.calm=true/\∃ (a:Addr) (ns:List Int),xs=[.ref a]/\bh X.K H a (ns.map V.int)/\(∀ x∈ns,0 <= x/\x <= 1000)/\ns.length <= 1000/\Q (.int (Dj ns)) H):=by
 intro pins s σ H xs us Q I r h
 obtain⟨hc,a,ns,rfl,hq,hb,hlen,q⟩:=h
 obtain⟨u,rfl,rfl⟩:=r.one
 obtain⟨its,rv,p,hz⟩:=I.list hq
 have hl:=rv.length
 rw[List.length_map] at hl
 have at_:∀ (i:Nat) (v:Value),its.toArray[i]? = some v->∃ t,v=Value.int (ns.getD i 0) t:=by
  intro i v hv
  have hv':its[i]? = some v:=by simpa using hv
  have hi:i < its.length:=(List.getElem?_eq_some_iff.mp hv').1
  have hn:i < ns.length:=by omega
  obtain⟨u,hu,ru⟩:=rv.get (i:=i) (x:=.int (ns[i])) (by rw[List.getElem?_map,List.getElem?_eq_getElem hn];rfl)
  rw[hv'] at hu;cases hu
  obtain⟨t,rfl⟩:=ru
  refine⟨t,?_⟩
  rw[List.getD_eq_getElem?_getD,List.getElem?_eq_getElem hn]
  rfl
 have ane:a≠s.heap.objs.size:=by
  obtain⟨o,ho,_⟩:=p.isList
  exact Nat.ne_of_lt (Heap.lt_size ho)
 have hd:X.A.in1.handled=none:=I.ok.hd hc
 refine call_sum_walk (wpAny_pyIter_list p.isList ?_)
 refine⟨s.heap.objs.size,_,_,_,_,_,fun i=>ns.getD i 0,rfl,Walks.list hd s.heap.objs.size a ane its.toArray,⟨⟨_,Heap.get?_push_size _ rfl,rfl,rfl⟩,p.isList.push _⟩,?_,?_,?_,?_⟩
 ·intro b hb
  obtain⟨o,ho,_⟩:=p.isList
  have e:b=s.heap.objs.size∨b=a:=by simpa using hb
  have z:(s.heap.push { cls:=.type "list_iterator",data:=.fields #[.ref a,.int 0 0] }).objs.size=s.heap.objs.size+1:=Heap.size_push ..
  show b < (s.heap.push _).objs.size
  rw[z]
  rcases e with rfl | rfl
  ·exact Nat.lt_succ_self _
  ·exact Nat.lt_succ_of_lt (Heap.lt_size ho)
 ·intro i v hP
  exact at_ i v hP
 ·intro j hj
  have hj':j < ns.length:=by rw[List.size_toArray] at hj;omega
  have b1:0 <= ns.getD j 0/\ns.getD j 0 <= 1000:=by
   rw[List.getD_eq_getElem?_getD,List.getElem?_eq_getElem hj']
   exact hb _ (List.getElem_mem hj')
  have b2:=ZC (ns.take (j+1)) fun x hx=>hb x (List.mem_of_mem_take hx)
  have b3:(ns.take (j+1)).length <= 1000:=by rw[List.length_take];omega
  rw[HX ns (j+1) hj']
  show InLong (ns.getD j 0)/\_
  constructor
  ·constructor <;> (have:(2:Int) ^ 63=9223372036854775808:=by decide) <;> (try rw[this]) <;> omega
  ·constructor <;> (have:(2:Int) ^ 63=9223372036854775808:=by decide) <;> (try rw[this]) <;> omega
 ·intro h' tk t' kk
  have e:preSum (fun i=>ns.getD i 0) its.toArray.size=Dj ns:=by
   rw[List.size_toArray,← hl,HX ns _ (Nat.le_refl _),List.take_length]
  rw[e]
  refine⟨.int _,H,I.kept (t':=tk) fun b o e=>kk b o (fun z=>?_) (Heap.get?_push_of_some _ e),⟨t',rfl⟩,q⟩
  have:b=s.heap.objs.size:=by simpa using z
  exact absurd (Heap.lt_size e) (by rw[this];exact Nat.lt_irrefl _)
end
end L2
set_option maxHeartbeats 4000000
namespace L2
open PySem PySem.Spec PyProof.Rows
def awL (t:TE):TE:=fun σ H Q=>∃ R:V->Hp->Prop,t σ H R/\∀ v H',R v H'->Q v H'
def awM (t:TT):TT:=fun σ H Q=>∃ R:Bool->Hp->Prop,t σ H R/\∀ v H',R v H'->Q v H'
def awN (t:TS):TS:=fun D σ H=>∃ R:St->Hp->Prop,t { D with nx:=R } σ H/\∀ σ' H',R σ' H'->D.nx σ' H'
section
variable {X:Cx}
theorem fV {e:Expr}{t:TE}(h:PE X e t):PE X e (awL t):=by
 intro pins s σ H Q I ⟨R,hR,hQ⟩
 exact eX (h pins s σ H R I hR) fun u s1 ⟨v,H1,I1,r,q⟩=>⟨v,H1,I1,r,hQ v H1 q⟩
theorem cG {e:Expr}{t:TT}(h:PT X e t):PT X e (awM t):=by
 intro pins s σ H Q I ⟨R,hR,hQ⟩
 exact eX (h pins s σ H R I hR) fun u s1 ⟨H1,I1,q⟩=>⟨H1,I1,hQ u H1 q⟩
theorem wk {st:Stmt}{t:TS}(h:PS X st t):PS X st (awN t):=by
 intro pins s σ H D I ⟨R,hR,hQ⟩
 refine eX (h pins s σ H _ I hR) fun f s1 q=>?_
 cases f with
 | next=>exact let ⟨σ',H',I',q'⟩:=q;⟨σ',H',I',hQ _ _ q'⟩
 | brk=>exact q
 | cont=>exact q
 | ret u=>exact q
end
theorem ZD {t:TE}{σ:St}{H:Hp}{Q:VK}(v:V)(h:t σ H fun x H1=>x=v/\H1=H)(q:Q v H):∃ R:V->Hp->Prop,t σ H R/\∀ v H',R v H'->Q v H':=⟨_,h,by rintro _ _ ⟨rfl,rfl⟩;exact q⟩
theorem oE {t:TT}{σ:St}{H:Hp}{Q:Bool->Hp->Prop}(b:Bool)(h:t σ H fun x H1=>x=b/\H1=H)(q:Q b H):∃ R:Bool->Hp->Prop,t σ H R/\∀ v H',R v H'->Q v H':=⟨_,h,by rintro _ _ ⟨rfl,rfl⟩;exact q⟩
theorem ap9 {t:TS}{σ:St}{H:Hp}{D:Ends}(σ':St)(H':Hp)(h:t { D with nx:=fun σ1 H1=>σ1=σ'/\H1=H' } σ H)(q:D.nx σ' H'):∃ R:St->Hp->Prop,t { D with nx:=R } σ H/\∀ σ' H',R σ' H'->D.nx σ' H' :=
 ⟨_,h,by rintro _ _ ⟨rfl,rfl⟩;exact q⟩
theorem xM {x v:V}{H:Hp}(e:x=v):x=v/\H=H:=⟨e,rfl⟩
theorem fu {x v:Bool}{H:Hp}(e:x=v):x=v/\H=H:=⟨e,rfl⟩
end L2
set_option maxHeartbeats 4000000
namespace L2
open PySem PySem.Spec PyProof.Rows
abbrev Cx.names (X:Cx)(N:List Str):Cx:={ X with N:=N }
section
variable {X:Cx} {pins:List (Addr×Obj)} {σ:St} {H:Hp} {s:Shared}
theorem Cx.Ok.names {N:List Str}(o:X.Ok):(X.names N).Ok:=⟨o.mod,o.kind,o.glob,o.blt,o.above,o.inj,o.has,o.cab,o.hd,o.frames,o.stk,o.exf,o.bs,o.bsz,o.ajl,o.ajm,o.QC,o.frf⟩
theorem Cx.Ok.aeC {N:List Str}(o:(X.names N).Ok):X.Ok:=⟨o.mod,o.kind,o.glob,o.blt,o.above,o.inj,o.has,o.cab,o.hd,o.frames,o.stk,o.exf,o.bs,o.bsz,o.ajl,o.ajm,o.QC,o.frf⟩
theorem Inv.names {N:List Str}(I:Inv X pins σ H s)(hl:N.length=X.N.length)(h:∀ (j:Nat) x v,N[j]? = some x->σ[j]? = some (some v)->X.N[j]? = some x):Inv (X.names N) pins σ H s:=by
 obtain⟨m,hm,hq⟩:=I.loc
 exact⟨I.ok.names,I.os,I.bare,I.base,⟨m,hm,fun i x v e1 e2 e3=>hq i x v (h i x v e1 e2) e2 e3⟩,I.cell,I.free,I.Hg,I.pin,I.hok,by rw[I.len];exact hl.symm⟩
theorem Inv.aeC {N:List Str}(I:Inv (X.names N) pins σ H s)(hl:N.length=X.N.length)(h:∀ (j:Nat) x v,X.N[j]? = some x->σ[j]? = some (some v)->N[j]? = some x):Inv X pins σ H s:=by
 obtain⟨m,hm,hq⟩:=I.loc
 exact⟨I.ok.aeC,I.os,I.bare,I.base,⟨m,hm,fun i x v e1 e2 e3=>hq i x v (h i x v e1 e2) e2 e3⟩,I.cell,I.free,I.Hg,I.pin,I.hok,by rw[I.len];exact hl⟩
end
end L2
set_option maxHeartbeats 4000000
namespace L2
open PySem PySem.Spec PyProof.Rows
section
variable {X:Cx} {tg iter elt:Expr} {ifs:List Expr} {scope:Scope} {pos:Pos} {cn:List Str} {wi:TI} {g:Bk->TG} {tc:Bk->TT} {te:Bk->TE}
theorem yD {i:Nat}{x:Str}{pos' spos:Pos}(hN:X.N.Nodup)(hix:X.N[i]? = some x)(hx:X.env.scope.names.lookup x=some .local)(hcalm:X.calm=true)(F:cU X.env.scope X.N scope)(hi:PI X tg iter wi)
  (hg:∀ b,PG (eG X cn scope b) tg (g b)) (ht:∀ b,PF (eG X cn scope b) ifs (tc b)) (he:∀ b,PE (eG X cn scope b) elt (te b))
  (hsw:swapsWith (.ListComp elt [⟨tg,iter,ifs,0⟩] scope pos) (some (.Name x pos')) spos.line X.env=pure true:=by rfl)
  (hs:∀ x,foldedSetIterable iter X.env x=pure x:=by intro _;rfl):PS X (.Assign [.Name x pos'] (.ListComp elt [⟨tg,iter,ifs,0⟩] scope pos) spos) (ar9 (apS cn.length wi g tc te) (adB i)):=by
 intro pins s σ H D I h
 rw[exec_Assign_Name_used _ _ _ _ hsw]
 refine wpAny_bind (wpAny_standAt (wpAny_bind ?_))
 rw[arm_evalThenUse_ListComp]
 refine wpAny_bind ?_
 have hcl:closureFor scope X.env=pure (kJ X.env scope.names []):=ama fun p hp e=>I.ok.has p.1 (F.free p hp e)
 refine wpAny_comprehension_free (use:=some (assign (.Name x pos') X.env)) rfl hs hcl F.kind F.loc (eX (hi pins s σ H _ I h) fun xv s₁ h₁=>eX h₁ fun itv s₂ h₂=>?_)
 obtain⟨it,fp,tn,J,H2,rfl,I2,T,st,f2,R⟩:=h₂
 refine ahP (TH:=fun _=>True) (QQ:=fun D' H'=>D.nx (σ.set i (some (.ref D'))) H') (RR:=fun acc C=>compPost (model X.prog X.w) X.A X.xe (some (assign (.Name x pos') X.env)) _ acc C) hcalm F (fun b _=>hg b) (fun b _=>ht b) (fun b _=>he b) (fun _ _=>trivial) I2 T st f2 R ?_ ?_
 ·intro C D' σ' H' s' hC I' q
  obtain⟨m,hm,_⟩:=I'.loc
  have hCn:H' C=none:=I'.free
  have fC:tO X pins H' C:=I2.acE hC hCn
  have I3:Inv X pins σ H' s':=I2.amc f2 hC I' ⟨rfl,fun _ _=>rfl⟩
  show wpAny (model X.prog X.w) X.A (assign (.Name x pos') X.env (.ref D')) _ X.xe s'
  refine wpAny_assign_Name (adA I3 hN hix (.inl hx) (v:=.ref D') rfl (fun s'' I4 ⟨a,sa,ha⟩=>?_) (.inr hx))
  have hne:C≠a:=by
   rcases ha with e | e
   ·rw[e];exact fC.2.1
   ·exact fun z=>fC.2.2.2.2.1 _ _ e z.symm
  obtain⟨o,es,ep,ho,r⟩:=hm
  refine⟨m,⟨o,es,ep,(sa.2 C hne).trans ho,r⟩,fun h' sb=>?_⟩
  refine wpAny_pure (wpAny_pure ⟨_,H',?_,q⟩)
  exact I4.jG (tk:=s''.toks) (wr:=[C]) (fun b hb=>by
   have:b=C:=by simpa using hb
   rw[this];exact fC) fun b o hb e=>(sb.2 b (fun z=>hb (by simp[z]))).trans e
 ·intro C D' e s' z
  exact z
end
theorem asq {X:Cx}{st:Stmt}{t:TS}(k:Nat)(N:List Str)(h:PS (X.names N) st t)(hN:N=X.N.set k "":=by rfl):PS X st (fun D σ H=>σ[k]? = some none/\t { nx:=fun σ' H'=>σ'[k]? = some none/\D.nx σ' H',rt:=fun _ _=>False } σ H):=by
 intro pins s σ H D I ⟨hk,hw⟩
 have hl:N.length=X.N.length:=by rw[hN,List.length_set]
 have a1:∀ (σ:St),σ[k]? = some none->∀ (j:Nat) (x:Str) (v:V),σ[j]? = some (some v)->N[j]? = X.N[j]?:=fun σ hk j x v e2=>by
  have hj:k≠j:=fun z=>by rw[← z,hk] at e2;cases e2
  rw[hN,List.getElem?_set_ne hj]
 refine eX (h pins s σ H _ (I.names hl fun j x v e1 e2=>by rw[← a1 σ hk j x v e2];exact e1) hw) fun f s1 q=>?_
 cases f with
 | next =>
  obtain⟨σ',H',I',hk',q'⟩:=q
  exact⟨σ',H',I'.aeC hl fun j x v e1 e2=>by rw[a1 σ' hk' j x v e2];exact e1,q'⟩
 | brk=>exact (let ⟨_,_,_,z⟩:=q;z.elim)
 | cont=>exact (let ⟨_,_,_,z⟩:=q;z.elim)
 | ret u=>exact (let ⟨_,_,_,_,_,z⟩:=q;z.elim)
end L2
set_option maxHeartbeats 4000000
namespace L2
open PySem PySem.Spec PyProof.Rows PySem.SeqAt
section
variable {X:Cx}
inductive atU (K:Frag)(neg:Bool)(x:V)(y:V)(H:Hp)(Q:VK):Prop
 | mk (a:_) (c:_) (xs:_) (gj:x=.ref a) (gk:y=.ref c) (jc:bh K H a xs) (n8:bh K H c []) (xJ:Q (.bl (if neg then !xs.isEmpty else xs.isEmpty)) H):atU K neg x y H Q
def awO (K:Frag)(neg:Bool):R2:=fun x y H Q=>atU K neg x y H Q
theorem aqa {pins:List (Addr×Obj)}{σ:St}{H:Hp}{s:Shared}{a c:Addr}{xs:List V}(hu:X.A.units+64 < cLine)(I:Inv X pins σ H s)(ha:bh X.K H a xs)(hc:bh X.K H c []):RcAt X.A s (.ref a) (.ref c) xs.isEmpty/\RcNeAt X.A s (.ref a) (.ref c) (!xs.isEmpty):=by
 obtain⟨its,r,p,_⟩:=I.list ha
 obtain⟨its',r',p',_⟩:=I.list hc
 have e1:=r.length
 have e2:=r'.length
 simp at e2
 cases xs with
 | nil =>
  simp at e1
  have z1:its=[]:=by simpa using e1.symm
  have z2:its'=[]:=by simpa using e2.symm
  subst z1 z2
  constructor
  ·have:=RcAt.lists (A:=X.A) (e:=fun _=>true) p.isList p'.isList rfl (by omega) (fun j h1 _=>absurd h1 (by simp))
   simpa using this
  ·have:=RcNeAt.lists (A:=X.A) (e:=fun _=>true) p.isList p'.isList rfl (by omega) (fun j h1 _=>absurd h1 (by simp))
   simpa using this
 | cons x t =>
  have hne:(its.toArray.size != its'.toArray.size)=true:=by
   simp at e1
   have z2:its'=[]:=by simpa using e2.symm
   subst z2
   have:its.length≠0:=by omega
   simpa using this
  exact⟨RcAt.lists_lengths p.isList p'.isList hne (by omega),RcNeAt.lists_lengths p.isList p'.isList hne (by omega)⟩
theorem M6 (hu:X.A.units+64 < cLine):En X (compareOp .Eq) (awO X.K false):=by
 intro pins s σ H x y v u Q I r1 r2 h
 obtain⟨a,c,xs,rfl,rfl,ha,hc,q⟩:=h
 cases r1
 cases r2
 exact (aqa hu I ha hc).1 X.prog X.w X.xe _ ⟨.bl _,H,I,rfl,q⟩
theorem auV (hu:X.A.units+64 < cLine):En X (compareOp .NotEq) (awO X.K true):=by
 intro pins s σ H x y v u Q I r1 r2 h
 obtain⟨a,c,xs,rfl,rfl,ha,hc,q⟩:=h
 cases r1
 cases r2
 exact (aqa hu I ha hc).2 X.prog X.w X.xe _ ⟨.bl _,H,I,rfl,q⟩
end
end L2
set_option maxHeartbeats 4000000
namespace L2
open PySem PySem.Spec PyProof.Rows
structure PEw (X:Cx)(e:Expr)(t:TE):Prop where
 out:PE X e t
structure PAw (X:Cx)(es:List Expr)(t:TA):Prop where
 out:PA X es t
end L2
set_option maxHeartbeats 4000000
namespace L2
open PySem PySem.Spec PyProof.Rows
abbrev XSt:=St->Value->Hp->Prop
section
variable {X:Cx} {pins:List (Addr×Obj)} {σ:St} {H H':Hp} {s s':Shared}
end
section
variable {P:Program} {w:World} {K:Frag} {mg:Str->Option Value} {base:Heap}
end
inductive asr (C:Addr)(m:Str)(sp:Sp)(QB:List V)(XS:XSt)(t:TA)(σ:St)(Q:VK)(x:V)(H1:Hp):Prop
 | mk (a:_) (dx:_) (fs:_) (gj:x=.ref a) (gk:H1 a=some (.ins C dx fs)) (jc:fs.lookup m=none) (n8:t σ H1 fun vs H2=>sp (x :: (vs++QB)) H2 Q fun cls _ H'=>XS σ cls H'):asr C m sp QB XS t σ Q x H1
section
variable {X:Cx} {W:Value->Shared->Prop} {XS:XSt} {k:Nat} {f C:Addr} {fd:FuncData} {ps:List Str} {sp:Sp} {QB:List V} {ds:List Value} {x m:Str} {p pos apos:Pos} {e o:Expr} {es:List Expr} {ta:TE} {t:TA}
end
abbrev awP:List Value:=[.type "ValueError",.type "Exception",.type "BaseException",.type "object"]
def ExC (K:Frag)(C:Addr):Prop:=excIn K C awP "ValueError.__new__" = true
abbrev Cx.pnd (X:Cx)(pn:List (Addr×Obj)):Cx:={ X with pn:=pn }
abbrev Cx.hand (X:Cx)(a:Addr):Cx:={ X with A:=X.A.mark (some (.ref a)),calm:=false,xe:=fun _ _=>False }
section
variable {X:Cx} {pins apn:List (Addr×Obj)} {σ:St} {H H':Hp} {s:Shared}
end
end L2
set_option maxHeartbeats 4000000
namespace L2
open PySem PySem.Spec PyProof.Rows
structure ExA (K:Frag)(C:Addr):Prop where
 exc:ExC K C
 ga:findIn K (.ref C) "__getattribute__" = some (some (.builtin "BaseException.__getattribute__"))
 aBL:findIn K (.ref C) "__getattr__" = some none
 cl:findIn K (.ref C) "__class__" = some (some (.builtin "object.__class__"))
section
variable {prog:Program} {w:World} {A:Around} {E:Value->Shared->Prop} {h:Heap} {g:Array GenState} {d:Drawn} {t:Nat} {os:OsState} {a:Addr} {o:Obj} {vs:Array Value} {K:Frag}
 {nm q:Str} {C N:Addr} {bs bm:List Value} {hdct:Bool} {sn:List Str} {sub:List Value} {ab:Bool} {col:Option Bool} {dd:Option Addr} {k0 k1 k2 k3 k5:Option Value} {newId:String}
end
section
variable {X:Cx}
end
end L2
set_option maxHeartbeats 4000000
namespace L2
open PySem PySem.Spec PyProof.Rows
section
variable {P:Program} {w:World} {K:Frag} {mg:Str->Option Value} {base:Heap}
end
section
variable {X:Cx} {tg iter elt:Expr} {ifs:List Expr} {scope:Scope} {pos:Pos} {cn:List Str} {wi:TI} {g:Bk->TG} {tc:Bk->TT} {te:Bk->TE} {TH:Bk->Prop}
end
end L2
set_option maxHeartbeats 4000000
namespace L2
open PySem PySem.Spec PyProof.Rows
def auW (to:TE)(tl th:St->Hp->(Option Int->Hp->Prop)->Prop):TG:=fun v σ H Q=>to σ H fun x H1=>tl σ H1 fun l H2=>th σ H2 fun u H3 =>
 ∃ (p b:Addr) (xs ys:List V) (a c:Int),x=.ref p/\v=.ref b/\l=some a/\u=some c/\H3 p=some (.lst xs)/\H3 b=some (.lst ys)/\p≠b/\0 <= a/\a <= c/\c <= xs.length/\xs.length+ys.length <= sizeLine/\Q σ (upd H3 p (.lst (xs.take a.toNat++ys++xs.drop c.toNat)))
theorem ahU {X:Cx}{o:Expr}{lo hi:Option Expr}{p2 pos:Pos}{to:TE}{tl th:St->Hp->(Option Int->Hp->Prop)->Prop}(ho:PE X o to)(hl:PO X lo tl)(hu:PO X hi th)
  (ha:∀ v,assign (.Subscript o (.Slice lo hi none p2) pos) X.env v=(do
   let ov ← holding [v] (eval o X.env)
   let iv ← holding [v,ov] (eval (.Slice lo hi none p2) X.env)
   standAt pos
   holding [v,ov,iv] (setItem ov iv v)
   release [iv,v,ov] []):=by intro _;rfl):PG X (.Subscript o (.Slice lo hi none p2) pos) (auW to tl th):=by
 intro pins s σ H v u Q I r h
 rw[ha]
 refine wpAny_bind (wpAny_holding (eX (ho pins s σ H _ I h) fun ov s1 ⟨x,H1,I1,r1,q1⟩=>?_))
 refine wpAny_bind (wpAny_holding ?_)
 refine wpAny_Slice (eX (hl pins s1 σ H1 _ I1 q1) fun vl s2 ⟨l,H2,I2,pl,q2⟩=>eX (hu pins s2 σ H2 _ I2 q2) fun vu s3 ⟨uu,H3,I3,pu,q3⟩=>?_)
 rw[evalPart_none]
 refine wpAny_pure ?_
 have I4:Inv X pins σ H3 { s3 with heap:=s3.heap.push { cls:=.type "slice",data:=.fields #[vl,vu,.none] } }:=I3.kept (t':=s3.toks) fun b ob q=>Heap.get?_push_of_some _ q
 obtain⟨p,b,xs,ys,a,c,rfl,rfl,rfl,rfl,hp,hb,hne,h0,hac,hc,hz,q4⟩:=q3
 cases r1
 cases r
 refine wpAny_bind (wpAny_standAt (wpAny_bind (wpAny_holding ?_)))
 refine am6 I4 hp hb hne (Heap.IsSliceOf.new ..) (by cases pl;exact⟨_,rfl⟩) (by cases pu;exact⟨_,rfl⟩) h0 hac hc hz fun s5 I5=>?_
 exact wpAny_release ⟨σ,_,I5,q4⟩
end L2
namespace L2
open PySem PySem.Spec PyProof.Rows
section
variable {X:Cx}
theorem all_range:∀ bs:List Bool,(List.range bs.length).all (fun i=>bs.getD i false)=bs.all id
 | []=>rfl
 | b :: bs=>by
  rw[List.length_cons,List.range_succ_eq_map,List.all_cons,List.all_map,List.all_cons]
  have:((fun i=>(b :: bs).getD i false) ∘ Nat.succ)=fun i=>bs.getD i false:=by
   funext i
   rfl
  rw[this,all_range bs]
  rfl
theorem aqb:oh X (.builtin "all") (fun xs H Q=>X.calm=true/\∃ (a:Addr) (bs:List Bool),xs=[.ref a]/\bh X.K H a (bs.map V.bl)/\Q (.bl (bs.all id)) H):=by
 intro pins s σ H xs us Q I r h
 obtain⟨hc,a,bs,rfl,hq,q⟩:=h
 obtain⟨u,rfl,rfl⟩:=r.one
 obtain⟨its,rv,p,hz⟩:=I.list hq
 have hl:=rv.length
 rw[List.length_map] at hl
 have auN:∀ (i:Nat) (v:Value),its.toArray[i]? = some v->v=Value.bool (bs.getD i false):=by
  intro i v hv
  have hv':its[i]? = some v:=by simpa using hv
  have hi:i < its.length:=(List.getElem?_eq_some_iff.mp hv').1
  have hb:i < bs.length:=by omega
  obtain⟨u,hu,ru⟩:=rv.get (i:=i) (x:=.bl (bs[i])) (by rw[List.getElem?_map,List.getElem?_eq_getElem hb];rfl)
  rw[hv'] at hu;cases hu
  have:v=.bool bs[i]:=ru
  rw[this,List.getD_eq_getElem?_getD,List.getElem?_eq_getElem hb]
  rfl
 refine call_all_walk (wpAny_pyIter_list p.isList ?_)
 have ane:a≠s.heap.objs.size:=by
  obtain⟨o,ho,_⟩:=p.isList
  exact Nat.ne_of_lt (Heap.lt_size ho)
 have hd:X.A.in1.handled=none:=I.ok.hd hc
 refine⟨s.heap.objs.size,_,_,_,_,_,fun i=>bs.getD i false,rfl,Walks.list hd s.heap.objs.size a ane its.toArray,⟨⟨_,Heap.get?_push_size _ rfl,rfl,rfl⟩,p.isList.push _⟩,?_,?_⟩
 ·intro i v s' Q' E' hP hQ'
  rw[auN i v hP]
  exact wpAny_truthy_bool hQ'
 ·intro h' tk kk
  have e:(List.range its.toArray.size).all (fun i=>bs.getD i false)=bs.all id:=by
   rw[List.size_toArray,← hl]
   exact all_range bs
  rw[e]
  refine⟨.bl _,H,I.kept (t':=tk) fun b o e=>kk b o (fun z=>?_) (Heap.get?_push_of_some _ e),rfl,q⟩
  have:b=s.heap.objs.size:=by simpa using z
  exact absurd (Heap.lt_size e) (by rw[this];exact Nat.lt_irrefl _)
def Itd (lo:Int)(n:Nat):It:={ go:=fun i _=>i < n,yld:=fun i H x H'=>H'=H/\x=V.int (lo - (i:Int)),stop:=fun i _=>n <= i }
theorem anj {P:Program}{w:World}{K:Frag}{tg:Expr}(it:Addr)(lo:Int)(n:Nat):Turn P w K tg (Itd lo n) [it] it (fun i h=>IsRangeIter h it (lo+(i:Nat) * (-1)) ((n:Int) - (i:Nat)) (-1)) where
 mem:=by simp
 obj:=fun i h st b hb=>by
  have e:b=it:=by simpa using hb
  subst e
  exact⟨_,st,fun v z=>by
   have z':Data.fields _=Data.cell v:=z
   cases z'⟩
 keep:=fun i h h' st k=>k it (by simp) _ st
 item:=by
  intro X hP hw hK hc i pins s σ H E I hf st hg
  subst hP hw hK
  obtain⟨f0,f1,f2,f3,f4,f5⟩:=hf it (by simp)
  have W:=Walks.range (prog:=X.prog) (w:=X.w) (I.ok.hd hc) it lo (-1) n
  refine W.item i s _ _ hg st fun v h' tk hv st' kk=>?_
  obtain⟨t,rfl⟩:=hv
  have I1:Inv X pins σ H { s with heap:=h',toks:=tk }:=I.turned (fun b o hb e=>kk b o (by simpa using hb) e) f0 f1 f3 f4 f5
  refine⟨_,rfl,alY (s:={ s with heap:=h',toks:=tk }) (n:="range_iterator") st' rfl rfl (by decide) ⟨.int (lo - i),H,I1,⟨t,?_⟩,⟨rfl,rfl⟩,st',fun b hb=>(hf b hb).1⟩⟩
  have:lo+(i:Int) * (-1)=lo - i:=by omega
  rw[this]
 done:=by
  intro X hP hw hK hc i pins s σ H E I hf st hg
  subst hP hw hK
  obtain⟨f0,f1,f2,f3,f4,f5⟩:=hf it (by simp)
  exact wpAny_pyNext_range_end (I.ok.hd hc) st (by have:n <= i:=hg;omega) fun h' eb=>⟨rfl,I.turned (t':=s.toks) (fun b o hb e=>eb b o hb e) f0 f1 f3 f4 f5⟩
 self:=fun _ _ _ _ _ st h=>wpAny_pyIter_rangeiter st h
theorem rangeSize_down (a b:Int):Builtin.Range.rangeSize a b (-1)=if b < a then a - b else 0:=by
 unfold Builtin.Range.rangeSize
 rw[if_neg (by decide)]
 by_cases h:a > b
 ·rw[if_pos h,if_pos h]
  show (a - b - 1) / 1+1=a - b
  omega
 ·rw[if_neg h,if_neg h]
theorem small_down {a b:Int}(h1:-(2 ^ 62) <= a)(h2:a < 2 ^ 62)(h3:-(2 ^ 62) <= b)(h4:b < 2 ^ 62):Builtin.Range.small a b (-1)=true:=by
 unfold Builtin.Range.small
 rw[rangeSize_down]
 have f:∀ x:Int,-(2 ^ 63) <= x->x < 2 ^ 63->Builtin.Range.rangeFitsLong x=true:=fun x p q=>by
  unfold Builtin.Range.rangeFitsLong
  simp
  omega
 rw[f a (by omega) (by omega),f b (by omega) (by omega),f (-1) (by omega) (by omega),f _ (by split <;> omega) (by split <;> omega),if_neg (show ¬ ((-1:Int) > 0) by decide),f (b+(-1+1)) (by omega) (by omega)]
 simp
theorem ass {tg:Expr}{pins:List (Addr×Obj)}{σ:St}{H:Hp}{s:Shared}{R:It->Hp->Prop}{E:Value->Shared->Prop}{lo hi:Int}{t u v:Tok}{tk:Nat}(I:Inv X pins σ H s)(h1:-(2 ^ 62) <= lo)(h2:lo < 2 ^ 62)(h3:-(2 ^ 62) <= hi)(h4:hi < 2 ^ 62)
  (q:R (Itd lo (lo - hi).toNat) H):wpAny (model X.prog X.w) X.A (pyIter (.ref s.heap.objs.size)) (PIE X pins σ tg R) E { s with heap:=s.heap.push { cls:=.type "range",data:=.fields #[.int lo t,.int hi u,.int (-1) v] },toks:=tk }:=by
 refine wpAny_pyIter_range (IsRange.new ..) (small_down h1 h2 h3 h4) ?_
 have I1:Inv X pins σ H { s with heap:=s.heap.push { cls:=.type "range",data:=.fields #[.int lo t,.int hi u,.int (-1) v] },toks:=tk }:=I.kept fun b o e=>Heap.get?_push_of_some _ e
 refine⟨(s.heap.push { cls:=.type "range",data:=.fields #[.int lo t,.int hi u,.int (-1) v] }).objs.size,[(s.heap.push { cls:=.type "range",data:=.fields #[.int lo t,.int hi u,.int (-1) v] }).objs.size],_,_,H,rfl,
  I1.kept (t':=tk) fun b o e=>Heap.get?_push_of_some _ e,anj _ lo (lo - hi).toNat,?_,fun b hb=>?_,q⟩
 ·have e1:lo+((0:Nat):Int) * (-1)=lo:=by simp
  have e2:(((lo - hi).toNat:Nat):Int) - ((0:Nat):Int)=Builtin.Range.rangeSize lo hi (-1):=by rw[rangeSize_down];split <;> omega
  show IsRangeIter _ _ (lo+((0:Nat):Int) * (-1)) ((((lo - hi).toNat:Nat):Int) - ((0:Nat):Int)) (-1)
  rw[e1,e2]
  exact Heap.get?_push_size _ rfl
 ·have e:b=(s.heap.push { cls:=.type "range",data:=.fields #[.int lo t,.int hi u,.int (-1) v] }).objs.size:=by simpa using hb
  subst e
  exact I1.acE (Nat.le_refl _) (I1.hok.fresh (Nat.le_refl _))
def awQ (ta:TA):TI:=fun σ H R=>ta σ H fun vs H1=>∃ i j:Int,vs=[.int i,.int j,.int (-1)]/\(-(2 ^ 62) <= i/\i < 2 ^ 62/\-(2 ^ 62) <= j/\j < 2 ^ 62)/\R (Itd i (i - j).toNat) H1
theorem ank {tg:Expr}{a b c:Expr}{ta:TA}{p pos:Pos}(hg:Gl X "range")(hm:X.mg "range" = none)(ha:PA X [a,b,c] ta)(hs:starEach [a,b,c] X.env=[(false,eval a X.env),(false,eval b X.env),(false,eval c X.env)]:=by rfl)(hs2:starEach [b,c] X.env=[(false,eval b X.env),(false,eval c X.env)]:=by rfl) :
  PI X tg (.Call (.Name "range" p) [a,b,c] [] pos) (awQ ta):=by
 intro pins s σ H R I h
 refine Call_ (v7 I hg hm boot_range (PyProof.Rows.callWith_type1 (eX (ha pos pins s σ H _ I h) fun us s1 ⟨vs,H1,I1,r1,q1⟩=>?_) (by rw[hs,hs2]) (by rw[hs2];rfl)))
 obtain⟨i,j,e,⟨q1,q2,q3,q4⟩,q⟩:=q1
 subst e
 cases r1 with
 | cons r rr =>
  cases rr with
  | cons r' rr =>
   cases rr with
   | cons r'' rr =>
    cases rr
    obtain⟨t,rfl⟩:=r
    obtain⟨t',rfl⟩:=r'
    obtain⟨t'',rfl⟩:=r''
    exact call_range_3 (by decide) (ass I1 q1 q2 q3 q4 q) (.inl rfl)
theorem aqc {lo:Int}{n:Nat}{g:TG}{tb:TS}{D:Ends}{σ:St}{H:Hp}(Pv:Nat->St->Hp->Prop)(h0:Pv 0 σ H)
  (hs:∀ i σ H,i < n->Pv i σ H->g (.int (lo - i)) σ H fun σ2 H2=>tb { D with nx:=Pv (i+1),ct:=Pv (i+1),bk:=D.nx } σ2 H2) (hd:∀ σ H,Pv n σ H->D.nx σ H) :
  ∃ W:Nat->Nat->St->Hp->Prop,(∃ m,W 0 m σ H)/\∀ i m σ H,W i m σ H ->
   ((Itd lo n).stop i H/\D.nx σ H)∨((Itd lo n).go i H/\∃ N:St->Hp->Prop,(∀ σ' H',N σ' H'->∃ m',m' < m/\W (i+1) m' σ' H')/\∀ x H',(Itd lo n).yld i H x H'->g x σ H' fun σ2 H2=>tb { D with nx:=N,ct:=N,bk:=D.nx } σ2 H2):=by
 refine⟨fun i m σ H=>m=n - i/\i <= n/\Pv i σ H,⟨n,by simp,Nat.zero_le _,h0⟩,?_⟩
 rintro i m σ H ⟨rfl,hi,p⟩
 by_cases hlt:i < n
 ·refine .inr ⟨hlt,Pv (i+1),fun σ' H' p'=>⟨n - (i+1),by omega,rfl,hlt,p'⟩,fun x H' y=>?_⟩
  obtain⟨e,y⟩:=y
  subst e y
  exact hs i σ _ hlt p
 ·have e:i=n:=by omega
  subst e
  exact .inl ⟨Nat.le_refl _,hd _ _ p⟩
def asu:TE:=fun _ _ _=>False
theorem aqd {e:Expr}:PE X e asu:=fun _ _ _ _ _ _ h=>h.elim
end
end L2
namespace L2
open PySem PySem.Spec PyProof.Rows
section
variable {κ:Type} [DecidableEq κ]
def Hw (kvs:List (κ×V))(k:κ):Option V:=(kvs.find? fun kv=>decide (kv.1=k)).map (·.2)
def putK (kvs:List (κ×V))(k:κ)(v:V):List (κ×V) :=
 if (kvs.any fun kv=>decide (kv.1=k))=true then kvs.map (fun kv=>if kv.1=k then (kv.1,v) else kv) else kvs++[(k,v)]
theorem ZF {p:κ×V}{r:List (κ×V)}{k:κ}(e:p.1=k):Hw (p :: r) k=some p.2:=by simp[Hw,List.find?_cons,e]
theorem ZG {p:κ×V}{r:List (κ×V)}{k:κ}(e:¬ p.1=k):Hw (p :: r) k=Hw r k:=by simp[Hw,List.find?_cons,e]
theorem ZJ (k:κ):∀ kvs:List (κ×V),(kvs.any fun kv=>decide (kv.1=k))=(Hw kvs k).isSome
 | []=>rfl
 | p :: r=>by
  rw[List.any_cons]
  by_cases e:p.1=k
  ·simp only [ZF e,decide_eq_true e,Bool.true_or,Option.isSome_some]
  ·rw[ZG e,decide_eq_false e,Bool.false_or];exact ZJ k r
theorem ahV (kvs:List (κ×V))(k:κ)(v:V):(putK kvs k v).length <= kvs.length+1:=by
 unfold putK
 split
 ·rw[List.length_map];omega
 ·rw[List.length_append,List.length_cons,List.length_nil];omega
theorem aqe {kvs:List (κ×V)}{k:κ}(v:V)(h:Hw kvs k=none):putK kvs k v=kvs++[(k,v)]:=by
 unfold putK
 rw[ZJ,h]
 exact if_neg (by decide)
theorem KV.val {kvs:List (κ×V)}{vs:List (κ×Value)}(r:KV kvs vs)(k:κ):De (Hw kvs k) (valueAt vs k):=by
 unfold KV at r
 induction r with
 | nil=>exact True.intro
 | @cons p q ps qs h t ih =>
  obtain⟨h1,h2⟩:=h
  by_cases e:p.1=k
  ·have e':q.1=k:=h1.symm.trans e
   have b:valueAt (q :: qs) k=some q.2:=by simp[valueAt,List.find?_cons,e']
   rw[ZF e,b];exact h2
  ·have e':¬ q.1=k:=fun z=>e (h1.trans z)
   have b:valueAt (q :: qs) k=valueAt qs k:=by simp[valueAt,List.find?_cons,e']
   rw[ZG e,b];exact ih
theorem KV.any {kvs:List (κ×V)}{vs:List (κ×Value)}(r:KV kvs vs)(k:κ):(kvs.any fun kv=>decide (kv.1=k))=vs.any fun kv=>decide (kv.1=k):=by
 unfold KV at r
 induction r with
 | nil=>rfl
 | cons h t ih=>rw[List.any_cons,List.any_cons,ih,h.1]
theorem KV.repl {kvs:List (κ×V)}{vs:List (κ×Value)}(r:KV kvs vs)(k:κ){y:V}{u:Value}(ry:RelV y u) :
  KV (kvs.map fun kv=>if kv.1=k then (kv.1,y) else kv) (vs.map fun kv=>if kv.1=k then (kv.1,u) else kv):=by
 unfold KV at r ⊢
 induction r with
 | nil=>exact .nil
 | @cons p q ps qs h t ih =>
  rw[List.map_cons,List.map_cons]
  refine .cons ?_ ih
  obtain⟨h1,h2⟩:=h
  by_cases e:p.1=k
  ·rw[if_pos e,if_pos (h1.symm.trans e)];exact⟨h1,ry⟩
  ·rw[if_neg e,if_neg (fun z=>e (h1.trans z))];exact⟨h1,h2⟩
theorem KV.put {kvs:List (κ×V)}{vs:List (κ×Value)}(r:KV kvs vs)(k:κ){y:V}{u:Value}(ry:RelV y u):KV (putK kvs k y) (stored vs k u):=by
 unfold putK stored
 rw[r.any k]
 by_cases e:(vs.any fun kv=>decide (kv.1=k))=true
 ·rw[if_pos e,if_pos e];exact r.repl k ry
 ·rw[if_neg e,if_neg e];exact Paired.snoc r ⟨rfl,ry⟩
theorem KV.keys {kvs:List (κ×V)}{vs:List (κ×Value)}(r:KV kvs vs):kvs.map (·.1)=vs.map (·.1):=by
 unfold KV at r
 induction r with
 | nil=>rfl
 | cons h t ih=>rw[List.map_cons,List.map_cons,ih,h.1]
theorem KV.length {kvs:List (κ×V)}{vs:List (κ×Value)}(r:KV kvs vs):kvs.length=vs.length:=Paired.length r
end
theorem aqf {P:Program}{w:World}{k:Key}{u:Value}(r:RelV (kV k) u):(dz P w).is k u=true:=by
 cases k with
 | inl i=>obtain⟨t,e⟩:=(show ∃ t,u=Value.int i t from r);subst e;exact ahC P w i t
 | inr x=>obtain⟨t,e⟩:=(show ∃ t,u=Value.str x t from r);subst e;exact pM P w x t
theorem adL {P:Program}{w:World}:∀ {ks:List Key} {us:List Value},Vals (ks.map kV) us->ItemsAre (dz P w) ks us
 | [],_,r=>by rw[List.map_nil] at r;cases r;exact .nil
 | k :: ks,_,r=>by
  rw[List.map_cons] at r
  cases r with
  | cons h t=>exact .cons (aqf h) (adL t)
abbrev KT (H:Hp):List (List Key×V)->List (List Key×Addr×Value)->Prop:=Paired fun p q=>p.1=q.1/\H q.2.1=some (.tup (p.1.map kV))/\RelV p.2 q.2.2
theorem KT.val {H:Hp}{kvs:List (List Key×V)}{xs:List (List Key×Addr×Value)}(r:KT H kvs xs)(k:List Key):De (Hw kvs k) ((atKey xs k).map (·.2)):=by
 induction r with
 | nil=>exact True.intro
 | @cons p q ps qs h t ih =>
  obtain⟨h1,_,h2⟩:=h
  by_cases e:p.1=k
  ·have e':q.1=k:=h1.symm.trans e
   have b:atKey (q :: qs) k=some q.2:=by simp[atKey,List.find?_cons,e']
   rw[ZF e,b];exact h2
  ·have e':¬ q.1=k:=fun z=>e (h1.trans z)
   have b:atKey (q :: qs) k=atKey qs k:=by simp[atKey,List.find?_cons,e']
   rw[ZG e,b];exact ih
section
variable {P:Program} {w:World} {H:Hp} {h:Heap} {a:Addr}
theorem atV {u:HO}(ok:Qy P w H h)(e:Rd H a u):jZ P w H h a u:=e.ok ok
theorem aqg {kvs:List (Key×V)}(ok:Qy P w H h)(e:Rd H a (.dK kvs)):kvs.length <= sizeLine/\(a == sysModules)=false/\∃ vs,KV kvs vs/\h.DictOf (dz P w) a vs :=
 show jZ P w H h a (.dK kvs) from atV ok e
theorem aqh {ks:List Key}(ok:Qy P w H h)(e:H a=some (.tup (ks.map kV))):(tupleKind (dz P w)).is h ks a:=by
 obtain⟨_,its,r,o,h1,h2,n,h3⟩:=(show jZ P w H h a (.tup (ks.map kV)) from ok a _ e)
 exact⟨o,its.toArray,n,h1,h2,h3,by simpa using adL r⟩
theorem atX {kvs:List (List Key×V)}(ok:Qy P w H h)(e:Rd H a (.dT kvs)):kvs.length <= sizeLine/\(a == sysModules)=false /\
  ∃ xs,KT H kvs xs/\h.DictOfH (tupleKind (dz P w)) a xs:=by
 obtain⟨z,y,xs,r,o,es,ep,h1,h2,h3,h4,h5⟩:=(show jZ P w H h a (.dT kvs) from atV ok e)
 refine⟨z,y,xs,r,o,es,ep,h1,h2,h3,h4,fun x hx=>?_,h5⟩
 have all:∀ {l:List (List Key×V)} {m:List (List Key×Addr×Value)},KT H l m->∀ x∈m,(tupleKind (dz P w)).is h x.1 x.2.1:=by
  intro l m q
  induction q with
  | nil=>intro x hx;exact nomatch hx
  | @cons p q ps qs hq t ih =>
   intro x hx
   rcases List.mem_cons.mp hx with e | hx
   ·subst e
    exact aqh ok (by rw[← hq.1];exact hq.2.1)
   ·exact ih x hx
 exact all r x hx
end
def ZK (H:Hp)(a:Addr)(y:V)(r:Option V):Prop :=
 (∃ kvs k,Rd H a (.dK kvs)/\y=kV k/\r=Hw kvs k) ∨ ∃ kvs k b,Rd H a (.dT kvs)/\y=.ref b/\H b=some (.tup (k.map kV))/\r=Hw kvs k
theorem ZK.k {H:Hp}{a:Addr}{kvs:List (Key×V)}{k:Key}(e:H a=some (.dK kvs)):ZK H a (kV k) (Hw kvs k):=.inl ⟨kvs,k,.inl e,rfl,rfl⟩
section
variable {X:Cx} {pins:List (Addr×Obj)} {σ:St} {H:Hp} {s:Shared} {a:Addr} {y v:V} {u r:Value} {o:Option V} {A:Around} {E:Value->Shared->Prop}
theorem Inv.big (I:Inv X pins σ H s):sysModules < s.heap.objs.size:=by
 have h:mainGlobals < s.heap.objs.size:=(I.mod.glob.keeps I.bk).lt
 exact Nat.lt_trans (by decide) h
theorem anl {Q:Value->Shared->Prop}(hu:A.units+1 < cLine)(I:Inv X pins σ H s)(g:ZK H a y (some v))(ry:RelV y u)(h:∀ w' s',Inv X pins σ H s'->RelV v w'->Q w' s') :
  wpAny (model X.prog X.w) A (getItem (.ref a) u) Q E s:=by
 rcases g with ⟨kvs,k,e,ey,l⟩ | ⟨kvs,k,b,e,ey,eb,l⟩
 ·subst ey
  obtain⟨z,hd,vs,rel,dd⟩:=aqg I.hok e
  obtain⟨w',hw,rw'⟩:=De.some_of (v:=v) (o:=valueAt vs k) (by rw[l];exact rel.val k)
  exact wpAny_getItem_of (aqf ry) dd.mapOf hw (h w' _ (I.tok _) rw')
 ·subst ey
  cases (show u=Value.ref b from ry)
  obtain⟨z,hd,xs,rel,dd⟩:=atX I.hok e
  obtain⟨w',hw,rw'⟩:=De.some_of (v:=v) (o:=(atKey xs k).map (·.2)) (by rw[l];exact rel.val k)
  obtain⟨p,hp,hp2⟩:=Option.map_eq_some_iff.mp hw
  refine wpAny_getItem_heap (tupleKind_room_in1 hu) (aqh I.hok eb) dd hp ?_
  rw[hp2]
  exact h w' _ (I.tok _) rw'
theorem auX {P:Program}{w:World}{H':Hp}{h':Heap}{kvs:List (Key×V)}{vs:List (Key×Value)}(z:kvs.length <= sizeLine)(hd:(a == sysModules)=false)(rel:KV kvs vs)(dd:h'.DictOf (dz P w) a vs) :
  jZ P w H' h' a (.dK kvs):=⟨z,hd,vs,rel,dd⟩
end
section
variable {X:Cx} {pins:List (Addr×Obj)} {σ:St} {H:Hp} {s:Shared} {a:Addr} {kvs:List (Key×V)} {k:Key} {u:Value} {A:Around} {E:Value->Shared->Prop}
end
def awR (i:Expr):Prop:=∀ ov iv,subscripted i false ov iv=operate [ov,iv] (getItem ov iv)
theorem asv {prog:Program}{w:World}{A:Around}{E:Value->Shared->Prop}{s:Shared}{env:Env}{value slice:Expr}{pos:Pos}{T id:String}{Q:Value->Shared->Prop}
  (hl:typeLookup (.type T) "__getitem__" = pure (some (.builtin id))) (hs:awR slice)
  (h:wpAny (model prog w) A (eval value env) (fun o s₁=>wpAny (model prog w) A (eval slice env) (fun i s₂=>s₂.TypeIs o T/\wpAny (model prog w) A (getItem o i) Q E s₂) E s₁) E s) :
  wpAny (model prog w) A (eval (.Subscript value slice pos) env) Q E s:=by
 refine Subscript_ (wpAny_mono h (fun o s₁ h₁=>wpAny_mono h₁ (fun i s₂ h₂=>?_) fun _ _ x=>x) fun _ _ x=>x)
 obtain⟨hT,h₂⟩:=h₂
 unfold subscriptTail
 refine wpAny_bind ?_
 rw[getitemInPython_of_ne hT.not_modules]
 refine wpAny_bind (wpAny_specialOf hT hl ?_)
 have fin:wpAny (model prog w) A (subscripted slice false o i) (fun r s₃=>wpAny (model prog w) A (letTemporaryGo value o r >>= fun _=>pure r) Q E s₃) E s₂:=by
  rw[hs o i]
  exact wpAny_operating (wpAny_mono h₂ (fun r s₃ h₃=>wpAny_bind (wpAny_letTemporaryGo (wpAny_pure h₃))) fun _ _ x=>x)
 first
  | exact wpAny_pure (wpAny_bind fin)
  | exact wpAny_bind (wpAny_pure (wpAny_bind fin))
  | exact wpAny_bind fin
theorem ahW {X:Cx}{pins:List (Addr×Obj)}{σ:St}{H:Hp}{s:Shared}{a:Addr}{y:V}{o:Option V}(I:Inv X pins σ H s)(g:ZK H a y o):s.TypeIs (.ref a) "dict":=by
 rcases g with ⟨kvs,k,e,_,_⟩ | ⟨kvs,k,b,e,_,_,_⟩
 ·obtain⟨_,_,vs,_,dd⟩:=aqg I.hok e
  exact dd.typeIs
 ·obtain⟨_,_,xs,_,dd⟩:=atX I.hok e
  exact dd.typeIs
def awS (td ty:TE):TE:=fun σ H Q=>td σ H fun x H1=>ty σ H1 fun y H2=>∃ a v,x=.ref a/\ZK H2 a y (some v)/\Q v H2
section
variable {X:Cx} {o i e value:Expr} {pos pos' tpos:Pos} {td ty tv:TE}
theorem xN (hu:X.A.units+1 < cLine)(ho:PE X o td)(hi:PE X i ty)(hs:awR i):PE X (.Subscript o i pos) (awS td ty):=by
 intro pins s σ H Q I h
 refine asv PySem.F.slot_dict_getitem.lookup hs (eX (ho pins s σ H _ I h) fun u s1 ⟨x,H1,I1,rx,q1⟩=>eX (hi pins s1 σ H1 _ I1 q1) fun iv s2 ⟨y,H2,I2,ry,a,v,ex,g,q2⟩=>?_)
 subst ex
 obtain rfl:u=Value.ref a:=rx
 exact⟨ahW I2 g,anl hu I2 g ry fun w' s3 I3 rw'=>⟨v,H2,I3,rw',q2⟩⟩
end
section
variable {X:Cx} {pos:Pos}
end
abbrev VV:List (V×V)->List (Value×Value)->Prop:=Paired fun p q=>RelV p.1 q.1/\RelV p.2 q.2
def lX (kvs more:List (Key×V)):List (Key×V):=more.foldl (fun acc kv=>putK acc kv.1 kv.2) kvs
theorem KV.merge:∀ {more:List (Key×V)} {rs:List (Key×Value)} {kvs:List (Key×V)} {vs:List (Key×Value)},KV more rs->KV kvs vs->KV (lX kvs more) (merged vs rs):=by
 intro more rs kvs vs r
 unfold KV at r
 induction r generalizing kvs vs with
 | nil=>intro q;exact q
 | @cons p q ps qs h t ih =>
  intro r0
  have e:KV (putK kvs p.1 p.2) (stored vs q.1 q.2):=by
   have:=r0.put p.1 h.2
   rw[← h.1];exact this
  exact ih e
theorem Mj:∀ (more kvs:List (Key×V)),(lX kvs more).length <= kvs.length+more.length
 | [],kvs=>by show kvs.length <= kvs.length+0;omega
 | p :: r,kvs=>by
  have h1:=Mj r (putK kvs p.1 p.2)
  have h2:=ahV kvs p.1 p.2
  show (lX (putK kvs p.1 p.2) r).length <= _
  rw[List.length_cons];omega
structure M1 (X:Cx)(o:Expr)(m:Str)(apos:Pos)(e:Expr)(cpos:Pos):Prop where
 base:attributeBase o m X.env (eval o X.env)=eval o X.env
 few:((backTo cpos (starEach [e] X.env)).all (fun x=>!x.1) && (backToKw cpos (keywordEach [] X.env)).all (fun x=>x.1.isSome)
  && decide (([e]:List Expr).length+([]:List Keyword).length+(if ([]:List Keyword).isEmpty then 0 else 1) < 30))=true
 line:(apos.endLine == cpos.line)=true
 trees:backTo cpos (starEach [e] X.env)=[(false,eval e X.env)]
structure M2 (X:Cx)(o:Expr)(m:Str)(apos:Pos)(e f:Expr)(cpos:Pos):Prop where
 base:attributeBase o m X.env (eval o X.env)=eval o X.env
 few:((backTo cpos (starEach [e,f] X.env)).all (fun x=>!x.1) && (backToKw cpos (keywordEach [] X.env)).all (fun x=>x.1.isSome)
  && decide (([e,f]:List Expr).length+([]:List Keyword).length+(if ([]:List Keyword).isEmpty then 0 else 1) < 30))=true
 line:(apos.endLine == cpos.line)=true
 trees:backTo cpos (starEach [e,f] X.env)=[(false,eval e X.env),(false,eval f X.env)]
section
variable {X:Cx} {pins:List (Addr×Obj)} {σ:St} {H:Hp} {s:Shared} {a:Addr} {y d:V} {u r:Value} {o:Option V} {A:Around} {E:Value->Shared->Prop}
end
section
variable {X:Cx} {o e f:Expr} {apos cpos:Pos} {td ty tx:TE}
end
section
variable {X:Cx} {pins:List (Addr×Obj)} {σ:St} {H:Hp} {s:Shared} {a:Addr} {kvs:List (Key×V)} {A:Around} {E:Value->Shared->Prop}
end
section
variable {X:Cx} {pins:List (Addr×Obj)} {σ:St} {H:Hp} {s:Shared} {a:Addr} {y:V} {u:Value} {A:Around} {E:Value->Shared->Prop}
end
end L2
namespace L2
open PySem PySem.Spec PyProof.Rows
section
variable {X:Cx}
end
section
variable {κ:Type} [DecidableEq κ]
theorem asw {kvs:List (κ×V)}{k:κ}{v:V}(h:Hw kvs k=some v):k∈kvs.map (·.1):=by
 have q:(kvs.any fun kv=>decide (kv.1=k))=true:=by
  rw[ZJ,h]
  all_goals rfl
 obtain⟨p,hp,e⟩:=List.any_eq_true.mp q
 exact List.mem_map.mpr ⟨p,hp,of_decide_eq_true e⟩
end
end L2
set_option maxHeartbeats 4000000
namespace L2
open PySem PySem.Spec PyProof.Rows
theorem awT {P:Program}{w:World}{k:Key}{u:Value}(h:(dz P w).is k u=true):RelV (kV k) u:=by
 rcases gh (show Zn k u=true from h) with ⟨i,t,rfl,rfl⟩ | ⟨x,t,rfl,rfl⟩
 ·exact⟨t,rfl⟩
 ·exact⟨t,rfl⟩
theorem atY:∀ {xs:List V} {us:List Value},xs.length=us.length->(∀ (i:Nat) (x:V) (u:Value),xs[i]? = some x->us[i]? = some u->RelV x u)->Vals xs us
 | [],[],_,_=>.nil
 | x :: xs,u :: us,hl,h=>.cons (h 0 x u rfl rfl) (atY (by simpa using hl) fun i y v e1 e2=>h (i+1) y v (by simpa using e1) (by simpa using e2))
 | [],_ :: _,hl,_=>by simp at hl
 | _ :: _,[],hl,_=>by simp at hl
section
variable {X:Cx}
theorem yE:oh X (.type "list") (fun xs H Q=>X.calm=true/\∃ p kvs,xs=[.ref p]/\Rd H p (.dK kvs)/\∀ l,H l=none->Q (.ref l) (upd H l (.lst (kvs.map fun kv=>kV kv.1)))):=by
 intro pins s σ H xs us Q I r h
 obtain⟨hc,p,kvs,rfl,hp,q⟩:=h
 obtain⟨u,rfl,rx⟩:=vals1 r
 cases rx
 obtain⟨z,hd,vs,rel,dd⟩:=aqg I.hok hp
 obtain⟨ep,da⟩:=dd.dictAt
 have hl:=rel.length
 refine PySem.W.kdl_call (PySem.W.kdl_dict (knd:=dz X.prog X.w) (kvs:=vs) (ep:=ep) hd) (I.ok.hd hc) da (by omega) fun h' tk acc' c' kp e it=>?_
 refine⟨.ref s.heap.objs.size,_,I.laid (t':=tk) kp (Nat.le_refl _) (show jZ X.prog X.w _ h' _ (.lst (kvs.map fun kv=>kV kv.1)) from ⟨by rw[List.length_map];exact z,acc'.toList,c',?_,by rw[Array.toArray_toList];exact e⟩),rfl,q _ (I.hok.fresh (Nat.le_refl _))⟩
 have hk:=rel.keys
 have h1:acc'.toList.length=vs.length:=by rw[Array.length_toList];exact it.1
 refine atY (by rw[List.length_map,h1,hl]) fun i x u e1 e2=>?_
 obtain⟨k,y,e3,e4⟩:=it.2 i u (by rw[← Array.getElem?_toList];exact e2)
 have e5:(kvs.map (·.1))[i]? = some k:=by rw[hk,List.getElem?_map,e3];rfl
 have e6:(kvs.map fun kv=>kV kv.1)[i]? = some (kV k):=by
  rw[List.getElem?_map] at e5 ⊢
  cases e7:kvs[i]? with
  | none=>rw[e7] at e5;cases e5
  | some w=>rw[e7] at e5;cases e5;rfl
 rw[e6] at e1
 cases e1
 exact awT e4
end
section
variable {P:Program} {w:World} {K:Frag} {mg:Str->Option Value} {base:Heap}
end
end L2
set_option maxHeartbeats 4000000
namespace L2
open PySem PySem.Spec PyProof.Rows
theorem aeD:typeLookup (.type "list") "keys" = pure none:=by rw[typeLookup_type,builtinLookup_eq_fast];kernel_rfl
theorem XD:entryFor table "dict.update.loop" = some Builtin.«dict.update.loop»:=entryFor_of_tree (by kernel_rfl)
theorem zZ:plainId "dict.update.loop" = true:=by decide +kernel
theorem auY {α:Type}{xs:List α}{i:Nat}{y:α}(h:xs[i]? = some y):xs.drop i=y :: xs.drop (i+1):=by
 obtain⟨h1,h2⟩:=List.getElem?_eq_some_iff.mp h
 rw[List.drop_eq_getElem_cons h1,h2]
theorem acH {K:Type}[DecidableEq K](kvs:List (K×Value))(k:K)(v:Value):(stored kvs k v).length <= kvs.length+1:=by
 unfold stored
 split
 ·simp
 ·simp
section
variable {prog:Program} {w:World} {A:Around} {E:Value->Shared->Prop} {s:Shared}
theorem auZ {a:Addr}{o:Obj}{xs:Array Value}{k:Nat}{Q:Option Value->Shared->Prop}(hx:s.heap.get? a=some o)(hc:o.cls=.type "list")(hdat:o.data=.seq xs k)(hd:o.dict=none)(hA:A.handled=none)
  (h:∀ h' tk,(∀ b ob,s.heap.get? b=some ob->h'.get? b=some ob)->Q none { s with heap:=h',toks:=tk }):wpAny (model prog w) A (getAttr? (.ref a) "keys") Q E s:=by
 obtain⟨oc,od,dt,sl⟩:=o
 simp only at hc hdat hd
 subst hc hdat hd
 obtain⟨hp,g,d,tk,os⟩:=s
 have hT:∀ tk',(⟨hp,g,d,tk',os⟩:Shared).TypeIs (.ref a) "list":=fun _=>⟨_,hx,rfl⟩
 have f1:=sub_AttributeError
 have f3:=F.slot_list_getattribute.lookup
 have f4:=F.slot_list_getattribute.bind (.ref a)
 have f5:=am_list_getattr_none
 unfold getAttr? getAttrBy? getAttrBy
 repeat (any_goals (first | assumption | exact hT _ | ((with_reducible show wpAny _ _ (call (Value.builtin "list.__getattribute__") _ _) _ _ _);refine call_meets F.slot_list_getattribute (hT _) am_entry_list_getattribute (F.args_list_getattribute_2 _ _) (meets_getattribute_miss_list a xs k sl "keys" _ aeD (by decide +kernel) (by size_fits)) ⟨hx,hA,fun h' tk' e hx'=>?_⟩) | wp_step))
 obtain⟨t',u',he⟩:=hx'.there
 show wpAny _ _ (getattributeRaised _ _ _ _ _ _ _) _ _ _
 unfold getattributeRaised
 repeat (any_goals (first | assumption | wp_step))
 exact h _ _ hx'.keeps
theorem awU {K:Type}[DecidableEq K]{knd:KeyKind prog w K}{I d:Addr}{fp wr:List Addr}{n:Nat}{P:Nat->Value->Prop}{St:Nat->Heap->Prop}(W:Walks prog w A.in1 I fp wr n P St)(hdf:d ∉ fp)(hn:n <= 1000)(h0:Heap)(ps:List (K×Value))(hl:ps.length=n){R:Result->Shared->Prop}
  (hP:∀ i v,i < n->P i v->∃ p o k key u m,ps[i]? = some (k,u)/\v=.ref p/\h0.get? p=some o/\o.cls=.type "tuple"/\o.data=.seq #[key,u] m/\knd.is k key=true/\p≠d/\p ∉ wr) :
  ∀ (j i:Nat) (s:Shared) (kvs:List (K×Value)),n - i=j->i <= n->St i s.heap->s.heap.DictOf knd d kvs->kvs.length <= i->(∀ b o,b≠d->b ∉ wr->h0.get? b=some o->s.heap.get? b=some o) ->
  (∀ h' tk,h'.DictOf knd d ((ps.drop i).foldl (fun acc q=>stored acc q.1 q.2) kvs)->(∀ b o,b≠d->b ∉ wr->h0.get? b=some o->h'.get? b=some o)->R (.ok (.ret .none)) { s with heap:=h',toks:=tk }) ->
  codeAny (model prog w) A (.builtin "dict.update.loop" ⟨[.ref d,.ref I,rawInt i,.none],[]⟩) R s:=by
 have hdw:d ∉ wr:=fun h=>hdf (W.sub _ h)
 intro j
 induction j with
 | zero =>
  intro i s kvs hk hi hst hD hlen hkp hR
  have hin:i=n:=by omega
  subst hin
  refine codeAny_builtin XD ?_
  rw[Around.under_plainId zZ _]
  show wpAny _ A.in1 (pyNext (.ref I) >>= _) _ _ s
  refine wpAny_bind (W.done s _ _ hst fun h' tk hm=>?_)
  show wpAny _ _ (Builtin.Dict.addKeywords d [] >>= _) _ _ _
  refine wpAny_bind (wpAny_pure (wpAny_pure ?_))
  refine hR h' tk ?_ fun b o hb hb' e=>hm b o hb' (hkp b o hb hb' e)
  rw[List.drop_eq_nil_of_le (by omega)]
  obtain⟨o,es,ep,e,r⟩:=hD
  exact⟨o,es,ep,hm d o hdw e,r⟩
 | succ j ih =>
  intro i s kvs hk hi hst hD hlen hkp hR
  have hlt:i < n:=by omega
  refine codeAny_builtin XD ?_
  rw[Around.under_plainId zZ _]
  show wpAny _ A.in1 (pyNext (.ref I) >>= _) _ _ s
  refine wpAny_bind (W.item i s _ _ hlt hst fun v h' tk hPv hst' hm=>?_)
  obtain⟨p,o,k,key,u,m,hps,rfl,hp,hc,hdt,hkey,hpd,hpw⟩:=hP i v hlt hPv
  have hp':h'.get? p=some o:=hm p o hpw (hkp p o hpd hpw hp)
  have hD':h'.DictOf knd d kvs:=by
   obtain⟨o,es,ep,e,r⟩:=hD
   exact⟨o,es,ep,hm d o hdw e,r⟩
  refine wpAny_bind (wpAny_holding (wpAny_bind (wpAny_tryCatch ?_)))
  unfold Builtin.Dict.pairItems
  refine wpAny_bind (wpAny_typeOf (T:="tuple") ⟨o,hp',hc⟩ ?_)
  rw[if_pos (by decide)]
  refine wpAny_bind (wpAny_seqItems hp' hdt ?_)
  refine wpAny_pure ?_
  show wpAny _ _ (holding [key,u] (dictSet d key u)) _ _ _
  refine wpAny_holding (wpAny_dictSet_pairs (knd:=knd) hkey hD' (fun h'' hd'' hs''=>?_) (by rw[sizeLine_eq];omega))
  refine wpAny_pure ⟨plainId_quiet zZ _,?_⟩
  have awV:St (i+1) h'':=W.frame _ _ _ hst' fun b hb o e=>(hs''.2 b fun z=>hdf (z ▸ hb)).trans e
  refine ih (i+1) { s with heap:=h'',toks:=tk+1 } (stored kvs k u) (by omega) hlt awV hd'' (by have:=acH kvs k u;omega) (fun b o hb hb' e=>(hs''.2 b hb).trans (hm b o hb' (hkp b o hb hb' e))) fun h3 tk3 hd3 hk3=>?_
  refine hR h3 tk3 ?_ hk3
  rw[auY hps]
  exact hd3
end
section
variable {X:Cx}
theorem jH:oh X (.type "dict") (fun xs H Q=>X.calm=true/\∃ (p:Addr) (ys:List V) (kvs:List (Key×V)),xs=[.ref p]/\bh X.K H p ys/\Paired (fun y kv=>∃ q,y=.ref q/\H q=some (.tup [kV kv.1,kv.2])) ys kvs/\kvs.length <= 900/\∀ l,H l=none->Q (.ref l) (upd H l (.dK (lX [] kvs)))):=by
 intro pins s σ H xs us Q I r h
 obtain⟨hcalm,p,ys,kvs,rfl,hp,hy,hz,q⟩:=h
 obtain⟨u,rfl,rx⟩:=vals1 r
 cases rx
 obtain⟨its,ri,⟨ol,nl,hol,hcl,hdl,hdat⟩,hsz⟩:=I.list hp
 have aBM:=hy.length
 have aBN:=ri.length
 have build:∀ {ys:List V} {kvs:List (Key×V)} {its:List Value},Paired (fun y kv=>∃ q,y=.ref q/\H q=some (.tup [kV kv.1,kv.2])) ys kvs->Vals ys its->∃ ps:List (Key×Value),KV kvs ps/\ps.length=its.length /\
   ∀ (i:Nat) v,its[i]? = some v->∃ p o k key u m,ps[i]? = some (k,u)/\v=.ref p/\s.heap.get? p=some o/\o.cls=.type "tuple"/\o.data=.seq #[key,u] m/\(dz X.prog X.w).is k key=true:=by
  intro ys kvs its h1
  induction h1 generalizing its with
  | nil =>
   intro h2
   cases h2
   exact⟨[],.nil,rfl,fun i v e=>by simp at e⟩
  | @cons y kv ys kvs r _ ih =>
   intro h2
   cases h2 with
   | @cons _ u _ us ry rt =>
    obtain⟨q,rfl,hq⟩:=r
    obtain rfl:u=Value.ref q:=ry
    obtain⟨tv,rv,⟨o,ho,hc,m,hd⟩,_⟩:=I.tuple (nJ.of hq)
    obtain⟨k1,hk1⟩:∃ a b,tv=[a,b]:=by
     have:=rv.length
     match tv,this with
     | [a,b],_=>exact⟨a,b,rfl⟩
    obtain⟨u1,rfl⟩:=hk1
    cases rv with
    | cons r1 rv2 =>
     cases rv2 with
     | cons r2 _ =>
      obtain⟨ps,h3,h4,h5⟩:=ih rt
      refine⟨(kv.1,u1) :: ps,.cons ⟨rfl,r2⟩ h3,by simp[h4],fun i v e=>?_⟩
      match i,e with
      | 0,e =>
       simp at e
       subst e
       exact⟨q,o,kv.1,k1,u1,m,rfl,rfl,ho,hc,hd,aqf r1⟩
      | i+1,e =>
       simp at e
       obtain⟨p,o,k,key,u,m,z1,z2⟩:=h5 i v e
       exact⟨p,o,k,key,u,m,by simpa using z1,z2⟩
 obtain⟨ps,rel,lps,hps⟩:=build hy ri
 refine callType_codes (Q₁:=fun obj s₁=>obj=.ref s.heap.objs.size/\s₁ = { s with heap:=s.heap.push { cls:=.type "dict",data:=.dict #[] } }) PySem.F.kt_called_dict (PySem.F.kt_typeCall_dict_1 _) PySem.F.entry_dict_init (kt_code_dict_new _ ⟨rfl,rfl⟩) ?_
 rintro obj s₁ ⟨rfl,rfl⟩
 have hnew:(s.heap.push { cls:=.type "dict",data:=.dict #[] }).DictOf (dz X.prog X.w) s.heap.objs.size []:=Heap.DictOf.new s.heap
 have up:∀ b o,s.heap.get? b=some o->(s.heap.push { cls:=.type "dict",data:=.dict #[] }).get? b=some o:=fun b o e=>Heap.get?_push_of_some _ e
 refine⟨hnew.typeIs,PySem.F.args_dict_init_2 _ _,?_⟩
 unfold Builtin.«dict.__init__»
 refine wpAny_bind ?_
 unfold Builtin.Dict.selfAndRest
 refine wpAny_bind (wpAny_notOrdered_dict hnew.typeIs ?_)
 show wpAny _ _ (pure (s.heap.objs.size,[Value.ref p])) _ _ _
 refine wpAny_pure ?_
 show wpAny _ _ (Builtin.Dict.updateFrom "dict.__init__" s.heap.objs.size (.ref p) [] .none) _ _ _
 unfold Builtin.Dict.updateFrom
 refine wpAny_bind (wpAny_typeOf (T:="list") ⟨ol,up _ _ hol,hcl⟩ ?_)
 rw[if_pos (by decide)]
 have hA:X.A.handled=none:=I.ok.hd hcalm
 refine wpAny_bind (auZ (up _ _ hol) hcl hdat hdl hA fun h1 tk1 kp1=>?_)
 rw[if_pos (show (none:Option Value).isNone=true from rfl)]
 refine wpAny_bind (wpAny_rule ?_)
 have up1:∀ b o,s.heap.get? b=some o->h1.get? b=some o:=fun b o e=>kp1 b o (up b o e)
 have il:h1.IsList p its.toArray:=⟨ol,up1 _ _ hol,hcl,nl,hdat⟩
 refine wpAny_bind (wpAny_pyIter_list il ?_)
 have hsz1:s.heap.objs.size < h1.objs.size:=Heap.lt_size (kp1 _ _ (Heap.get?_push_size _ rfl))
 have hpI:p≠h1.objs.size:=Nat.ne_of_lt (Heap.lt_size (up1 _ _ hol))
 have hD1:h1.DictOf (dz X.prog X.w) s.heap.objs.size []:=by
  obtain⟨o,es,ep,e,r⟩:=hnew
  exact⟨o,es,ep,kp1 _ _ e,r⟩
 have lt0:∀ {b o},s.heap.get? b=some o->b < s.heap.objs.size:=fun e=>Heap.lt_size e
 refine wpAny_pure ⟨plainId_quiet zZ _,?_⟩
 have W:Walks X.prog X.w X.A.in1.in1 h1.objs.size [h1.objs.size,p] [h1.objs.size] its.toArray.size (fun i v=>its.toArray[i]? = some v) (fun i h=>h.IsListIter h1.objs.size p i/\h.IsList p its.toArray):=Walks.list (show X.A.in1.in1.handled=none from hA) h1.objs.size p hpI its.toArray
 have hn:its.toArray.size <= 1000:=by rw[List.size_toArray];omega
 refine awU (knd:=dz X.prog X.w) W (d:=s.heap.objs.size) ?_ hn s.heap ps (by rw[List.size_toArray];exact lps) ?_ _ 0 _ [] rfl (Nat.zero_le _) ⟨⟨_,Heap.get?_push_size _ rfl,rfl,rfl⟩,?_⟩ ?_ (Nat.zero_le _) ?_ ?_
 ·intro z
  rcases List.mem_cons.mp z with z | z
  ·exact absurd z (Nat.ne_of_lt hsz1)
  ·exact absurd (List.mem_singleton.mp z) (Nat.ne_of_gt (lt0 hol))
 ·intro i v hi e
  obtain⟨p',o,k,key,u,m,z1,z2,z3,z4,z5,z6⟩:=hps i v (by simpa using e)
  exact⟨p',o,k,key,u,m,z1,z2,z3,z4,z5,z6,Nat.ne_of_lt (lt0 z3),fun z=>absurd (List.mem_singleton.mp z) (Nat.ne_of_lt (Nat.lt_trans (lt0 z3) hsz1))⟩
 ·exact il.push _
 ·obtain⟨o,es,ep,e,r⟩:=hD1
  exact⟨o,es,ep,Heap.get?_push_of_some _ e,r⟩
 ·exact fun b o hb hb' e=>Heap.get?_push_of_some _ (up1 b o e)
 ·intro h' tk hd' hk'
  refine⟨rfl,.ref s.heap.objs.size,_,I.laid (a:=s.heap.objs.size) (o:=.dK (lX [] kvs)) (t':=tk) (fun b o e=>?_) (Nat.le_refl _) (auX ?_ (beq_eq_false_iff_ne.mpr (Ne.symm (Nat.ne_of_lt I.big))) (rel.merge .nil) hd'),rfl,q _ (I.hok.fresh (Nat.le_refl _))⟩
  ·exact hk' b o (Nat.ne_of_lt (lt0 e)) (fun z=>absurd (List.mem_singleton.mp z) (Nat.ne_of_lt (Nat.lt_trans (lt0 e) hsz1))) e
  ·have h1:=Mj kvs []
   rw[List.length_nil] at h1
   rw[sizeLine_eq];omega
end
end L2
set_option maxHeartbeats 4000000
namespace L2
open PySem PySem.Spec PyProof.Rows
section
variable {prog:Program} {w:World} {A:Around} {E:Value->Shared->Prop} {s:Shared}
theorem asx {it l:Addr}{i:Nat}{items:Array Value}{R:Value->Shared->Prop}{E:Value->Shared->Prop}(hh:A.handled=none)(hne:l≠it)(st:s.heap.IsTupleIter it l i/\s.heap.IsTuple l items)
  (some_:∀ x,items[i]? = some x->∀ h',(h'.IsTupleIter it l (i+1)/\h'.IsTuple l items)->Heap.SameBut it s.heap h'->R x { s with heap:=h' })
  (none_:items[i]? = none->∀ h' e,Heap.ExtBut it s.heap h'->(∃ o,h'.get? e=some o/\o.cls=.type "StopIteration")->E (.ref e) { s with heap:=h' }) :
  wpAny (model prog w) A (Builtin.«tuple_iterator.__next__» ⟨[.ref it],[]⟩) (fun fin s'=>∃ v,fin=.done (.ret v)/\R v s') E s:=by
 have ti:=st.1
 obtain⟨⟨o,ho,hc,hd⟩,tl⟩:=st
 obtain⟨ol,hol,hcl,nl,hdl⟩:=id tl
 show wpAny _ _ (field (.ref it) 0 >>= _) _ _ s
 refine wpAny_bind (wpAny_field ho hd (x:=.ref l) rfl ?_)
 show wpAny _ _ (ite _ _ _) _ _ s
 rw[if_neg (by exact Bool.false_ne_true)]
 show wpAny _ _ (field (.ref it) 1 >>= _) _ _ s
 refine wpAny_bind (wpAny_field ho hd (x:=.int i 0) rfl (wpAny_bind (wpAny_seqItems hol hdl ?_)))
 rw[Int.toNat_natCast]
 cases hx:items[i]? with
 | some x =>
  simp only [hx]
  refine wpAny_bind (wpAny_setField ho hd (by simp) (wpAny_pure ⟨x,rfl,some_ x hx _ ⟨⟨_,Heap.get?_update_self _ ho (Obj.isFreed_of_fields (Obj.data_mapFields hd _)),(Obj.cls_mapFields ..).trans hc,?_⟩,tl.extBut (Heap.SameBut.update ..).extBut hne⟩ (Heap.SameBut.update ..)⟩))
  rw[Obj.data_mapFields hd]
  simp[rawInt]
 | none =>
  simp only [hx]
  refine wpAny_bind (wpAny_rule (wpAny_bind (wpAny_setField ho hd (by simp) ?_)))
  refine wpAny_bind (m:=newExc (.type "StopIteration") []) ?_
  unfold newExc newTuple
  refine wpAny_bind (wpAny_newObj_type ?_ (by size_fits))
  refine wpAny_bind (m:=firstArgMember _ _) (wpAny_of_eq (a:=Value.none) (by rfl) (wpAny_newObj_type ?_ (by size_fits)))
  unfold raiseNew
  refine wpAny_bind (wpAny_handled ?_)
  rw[hh]
  refine wpAny_bind (wpAny_pure (wpAny_throw ?_))
  exact none_ hx _ _ (((Heap.SameBut.update ..).extBut.push _).push _) ⟨_,Heap.get?_push_size _ rfl,rfl⟩
theorem ami {it l:Addr}{i:Nat}{items:Array Value}{R:Value->Shared->Prop}{E:Value->Shared->Prop}(hh:A.handled=none)(hne:l≠it)(st:s.heap.IsTupleIter it l i/\s.heap.IsTuple l items)
  (some_:∀ x,items[i]? = some x->∀ h',(h'.IsTupleIter it l (i+1)/\h'.IsTuple l items)->Heap.SameBut it s.heap h'->R x { s with heap:=h' })
  (none_:items[i]? = none->∀ h' e,Heap.ExtBut it s.heap h'->(∃ o,h'.get? e=some o/\o.cls=.type "StopIteration")->E (.ref e) { s with heap:=h' }) :
  wpAny (model prog w) A (Builtin.SmallTypes.nextOf (.ref it)) R E s:=by
 unfold Builtin.SmallTypes.nextOf
 refine wpAny_bind (wpAny_callSpecial?_slot (name:=Str.ofString "__next__") st.1.typeIs F.slot_tuple_iterator_next (wpAny_call_entry F.slot_tuple_iterator_next st.1.typeIs F.entry_tuple_iterator_next ?_ (F.args_tuple_iterator_next_1 _)))
 exact asx (A:=A.in1) hh hne st (fun x hx h' a b=>wpAny_pure (some_ x hx h' a b)) none_
theorem Ld (hh:A.handled=none)(it l:Addr)(hne:l≠it)(items:Array Value) :
  Draws prog w A it [it,l] items.size (fun i v=>items[i]? = some v) (fun i h=>h.IsTupleIter it l i/\h.IsTuple l items) where
 live:=fun _ _ st=>let ⟨o,ho,_⟩:=st.1;⟨o,ho⟩
 frame:=fun _ _ _ st hk=>⟨st.1.at fun o e=>hk it (by simp) o e,st.2.at fun o e=>hk l (by simp) o e⟩
 item:=fun i s Q E hi st hQ=>ami hh hne st (fun x hx h' a b=>hQ x h' s.toks hx a b) fun e=>by rw[Array.getElem?_eq_getElem hi] at e;cases e
 done:=fun s Q E st hE=>ami hh hne st (fun x hx=>by rw[Array.getElem?_eq_none (Nat.le_refl _)] at hx;cases hx) fun _=>hE
structure Zap (z TI TO i1 i2:Addr)(f1 f2:List Addr):Prop where
 zt:TI≠z/\TO≠z/\TI≠TO
 m1:i1∈f1
 m2:i2∈f2
 o1:∀ c∈f1,c≠z/\c≠TI/\c≠TO/\c≠i2
 o2:∀ c∈f2,c≠z/\c≠TI/\c≠TO/\c≠i1
variable {z TI TO i1 i2:Addr} {f1 f2:List Addr} {n1 n2:Nat} {P1 P2:Nat->Value->Prop} {S1 S2:Nat->Heap->Prop} {i j:Nat} {a b:Value}
theorem asy {R:Value->Shared->Prop}(Z:Zap z TI TO i1 i2 f1 f2)(D1:Draws prog w A i1 f1 n1 P1 S1)(D2:Draws prog w A i2 f2 n2 P2 S2)
  (hz:IsZip s.heap z TI TO .none) (hTI:IsPair s.heap TI (.ref i1) (.ref i2)) (hTO:IsPair s.heap TO a b) (h1:S1 i s.heap) (h2:S2 j s.heap) (l1:i <= n1) (l2:j <= n2)
  (both:i < n1->j < n2->∀ x y h' tk T,P1 i x->P2 j y->s.heap.objs.size <= T->IsZip h' z TI TO (rawInt T)->IsPair h' TO x y->S1 (i+1) h'->S2 (j+1) h'->IsPair h' T x y ->
   (∀ c o,c ∉ [z,TO,i1,i2]->s.heap.get? c=some o->h'.get? c=some o)->R (.ref T) { s with heap:=h',toks:=tk })
  (stop:i=n1∨j=n2->∀ h' tk e,(∀ c o,c ∉ [z,TO,i1,i2]->s.heap.get? c=some o->h'.get? c=some o)->(∃ o,h'.get? e=some o/\o.cls=.type "StopIteration")->E (.ref e) { s with heap:=h',toks:=tk }) :
  wpAny (model prog w) A (Builtin.«zip.__next__» ⟨[.ref z],[]⟩) (fun fin s'=>∃ v,fin=.done (.ret v)/\R v s') E s:=by
 obtain⟨tz,oz,tt⟩:=Z.zt
 have a1:=Z.o1 i1 Z.m1
 have a2:=Z.o2 i2 Z.m2
 show wpAny _ _ (field (.ref z) 2 >>= _) _ _ _
 refine wpAny_bind (wpAny_field hz rfl (x:=.bool false) rfl ?_)
 refine wpAny_bind (m:=field (.ref z) 3) (wpAny_field hz rfl (x:=.ref TI) rfl (wpAny_bind (wpAny_seqItems hTI rfl ?_)))
 refine wpAny_bind (m:=Builtin.SmallTypes.ownedTupleIsFree (.ref z)) ?_
 unfold Builtin.SmallTypes.ownedTupleIsFree
 refine wpAny_bind (wpAny_field hz rfl (x:=.none) rfl (wpAny_pure ?_))
 simp only [if_true]
 refine wpAny_bind (wpAny_rule (wpAny_bind (wpAny_field hz rfl (x:=.ref TO) rfl (wpAny_bind (wpAny_setField_rec hz (by simp) fun g1 z1 b1=>?_)))))
 replace z1:IsZip g1 z TI TO .ellipsis:=z1
 have s1:S1 i g1:=D1.frame _ _ _ h1 fun c hc o e=>b1.extBut _ _ (Z.o1 c hc).1 e
 have s2:S2 j g1:=D2.frame _ _ _ h2 fun c hc o e=>b1.extBut _ _ (Z.o2 c hc).1 e
 have o1:IsPair g1 TO a b:=b1.extBut _ _ oz hTO
 refine wpAny_bind ?_
 simp only [List.zipIdx_cons,List.zipIdx_nil,List.forIn_cons,List.forIn_nil]
 refine wpAny_bind (wpAny_bind (wpAny_onRaise ?_))
 refine wpAny_bind (m:=Builtin.SmallTypes.nextOf (.ref i1)) ?_
 by_cases e1:i < n1
 ·refine D1.item i _ _ _ e1 s1 fun x g2 t2 px s1' b2=>wpAny_pure ?_
  have z2:IsZip g2 z TI TO .ellipsis:=b2.extBut _ _ (Ne.symm a1.1) z1
  have o2:IsPair g2 TO a b:=b2.extBut _ _ (Ne.symm a1.2.2.1) o1
  have s2':S2 j g2:=D2.frame _ _ _ s2 fun c hc o e=>b2.extBut _ _ (Z.o2 c hc).2.2.2 e
  refine wpAny_bind (wpAny_seqItems o2 rfl (wpAny_bind (wpAny_updateSeq_pair o2 fun g3 o3 b3=>wpAny_bind (wpAny_letGo (wpAny_pure ?_)))))
  replace o3:IsPair g3 TO x b:=o3
  have z3:IsZip g3 z TI TO .ellipsis:=b3.extBut _ _ (Ne.symm oz) z2
  have s13:S1 (i+1) g3:=D1.frame _ _ _ s1' fun c hc o e=>b3.extBut _ _ (Z.o1 c hc).2.2.1 e
  have s23:S2 j g3:=D2.frame _ _ _ s2' fun c hc o e=>b3.extBut _ _ (Z.o2 c hc).2.2.1 e
  refine wpAny_bind (wpAny_bind (wpAny_onRaise ?_))
  refine wpAny_bind (m:=Builtin.SmallTypes.nextOf (.ref i2)) ?_
  by_cases e2:j < n2
  ·refine D2.item j _ _ _ e2 s23 fun y g4 t4 py s24 b4=>wpAny_pure ?_
   have z4:IsZip g4 z TI TO .ellipsis:=b4.extBut _ _ (Ne.symm a2.1) z3
   have o4:IsPair g4 TO x b:=b4.extBut _ _ (Ne.symm a2.2.2.1) o3
   have s14:S1 (i+1) g4:=D1.frame _ _ _ s13 fun c hc o e=>b4.extBut _ _ (Z.o1 c hc).2.2.2 e
   refine wpAny_bind (wpAny_seqItems o4 rfl (wpAny_bind (wpAny_updateSeq_pair o4 fun g5 o5 b5=>wpAny_bind (wpAny_letGo (wpAny_pure (wpAny_pure ?_))))))
   replace o5:IsPair g5 TO x y:=o5
   have z5:IsZip g5 z TI TO .ellipsis:=b5.extBut _ _ (Ne.symm oz) z4
   have s15:S1 (i+1) g5:=D1.frame _ _ _ s14 fun c hc o e=>b5.extBut _ _ (Z.o1 c hc).2.2.1 e
   have s25:S2 (j+1) g5:=D2.frame _ _ _ s24 fun c hc o e=>b5.extBut _ _ (Z.o2 c hc).2.2.1 e
   have sz:g5.objs.size=s.heap.objs.size:=by rw[b5.1,b4.1,b3.1,b2.1,b1.1]
   refine wpAny_bind (wpAny_seqItems o5 rfl (wpAny_bind (wpAny_newTuple ?_)))
   refine wpAny_bind (m:=Builtin.SmallTypes.ownedTupleHandOut (.ref z) (.ref g5.objs.size)) ?_
   unfold Builtin.SmallTypes.ownedTupleHandOut
   have z6:IsZip (g5.push { cls:=.type "tuple",data:=.seq #[x,y] }) z TI TO .ellipsis:=Heap.get?_push_of_some _ z5
   refine wpAny_bind (wpAny_setField_rec z6 (by simp) fun g7 z7 b7=>?_)
   replace z7:IsZip g7 z TI TO (rawInt g5.objs.size):=z7
   refine wpAny_setField_rec z7 (by simp) fun g8 z8 b8=>wpAny_pure ⟨_,rfl,?_⟩
   have up:∀ c o,c≠z->g5.get? c=some o->g8.get? c=some o:=fun c o hc e=>b8.extBut _ _ hc (b7.extBut _ _ hc (Heap.get?_push_of_some _ e))
   refine both e1 e2 x y g8 _ g5.objs.size px py (by rw[sz];exact Nat.le_refl _) z8 (up _ _ oz o5) (D1.frame _ _ _ s15 fun c hc o e=>up _ _ (Z.o1 c hc).1 e) (D2.frame _ _ _ s25 fun c hc o e=>up _ _ (Z.o2 c hc).1 e)
    (b8.extBut _ _ (Nat.ne_of_gt (Heap.lt_size z5)) (b7.extBut _ _ (Nat.ne_of_gt (Heap.lt_size z5)) (Heap.get?_push_size _ rfl))) fun c o hc e=>?_
   simp only [List.mem_cons,List.not_mem_nil,or_false,not_or] at hc
   obtain⟨c1,c2,c3,c4⟩:=hc
   exact up _ _ c1 (b5.extBut _ _ c2 (b4.extBut _ _ c4 (b3.extBut _ _ c2 (b2.extBut _ _ c3 (b1.extBut _ _ c1 e)))))
  ·have ej:j=n2:=by omega
   refine D2.done _ _ _ (ej ▸ s23) fun g4 e b4 he=>?_
   obtain⟨oe,hoe,hce⟩:=he
   have z4:IsZip g4 z TI TO .ellipsis:=b4 _ _ (Ne.symm a2.1) z3
   have hez:e≠z:=fun q=>by subst q;rw[z4] at hoe;cases hoe;simp at hce
   refine wpAny_setField_rec z4 (by simp) fun g5 _ b5=>stop (.inr ej) g5 _ e (fun c o hc q=>?_) ⟨oe,b5.extBut _ _ hez hoe,hce⟩
   simp only [List.mem_cons,List.not_mem_nil,or_false,not_or] at hc
   obtain⟨c1,c2,c3,c4⟩:=hc
   exact b5.extBut _ _ c1 (b4 _ _ c4 (b3.extBut _ _ c2 (b2.extBut _ _ c3 (b1.extBut _ _ c1 q))))
 ·have ei:i=n1:=by omega
  refine D1.done _ _ _ (ei ▸ s1) fun g2 e b2 he=>?_
  obtain⟨oe,hoe,hce⟩:=he
  have z2:IsZip g2 z TI TO .ellipsis:=b2 _ _ (Ne.symm a1.1) z1
  have hez:e≠z:=fun q=>by subst q;rw[z2] at hoe;cases hoe;simp at hce
  refine wpAny_setField_rec z2 (by simp) fun g3 _ b3=>stop (.inl ei) g3 _ e (fun c o hc q=>?_) ⟨oe,b3.extBut _ _ hez hoe,hce⟩
  simp only [List.mem_cons,List.not_mem_nil,or_false,not_or] at hc
  obtain⟨c1,c2,c3,c4⟩:=hc
  exact b3.extBut _ _ c1 (b2 _ _ c3 (b1.extBut _ _ c1 q))
theorem amj {R:Option Value->Shared->Prop}(Z:Zap z TI TO i1 i2 f1 f2)(D1:Draws prog w A.in1 i1 f1 n1 P1 S1)(D2:Draws prog w A.in1 i2 f2 n2 P2 S2)
  (hz:IsZip s.heap z TI TO .none) (hTI:IsPair s.heap TI (.ref i1) (.ref i2)) (hTO:IsPair s.heap TO a b) (h1:S1 i s.heap) (h2:S2 j s.heap) (l1:i <= n1) (l2:j <= n2)
  (both:i < n1->j < n2->∀ x y h' tk T,P1 i x->P2 j y->s.heap.objs.size <= T->IsZip h' z TI TO (rawInt T)->IsPair h' TO x y->S1 (i+1) h'->S2 (j+1) h'->IsPair h' T x y ->
   (∀ c o,c ∉ [z,TO,i1,i2]->s.heap.get? c=some o->h'.get? c=some o)->R (some (.ref T)) { s with heap:=h',toks:=tk })
  (stop:i=n1∨j=n2->∀ h' tk,(∀ c o,c ∉ [z,TO,i1,i2]->s.heap.get? c=some o->h'.get? c=some o)->R none { s with heap:=h',toks:=tk }) :
  wpAny (model prog w) A (pyNext (.ref z)) R E s:=by
 have hT:s.TypeIs (.ref z) "zip":=⟨_,hz,rfl⟩
 unfold pyNext
 refine wpAny_bind (wpAny_attempt (wpAny_callSpecial?_slot (name:=Str.ofString "__next__") hT F.slot_zip_next (wpAny_call_entry F.slot_zip_next hT F.entry_zip_next ?_ (F.args_zip_next_1 _))))
 refine asy Z D1 D2 hz hTI hTO h1 h2 l1 l2 (fun e1 e2 x y h' tk T px py hT z' o' s1 s2 p k=>wpAny_pure (both e1 e2 x y h' tk T px py hT z' o' s1 s2 p k)) fun e h' tk ex k ⟨o,ho,hc⟩=>?_
 exact wpAny_bind (wpAny_isInstance (T:="StopIteration") (b:=true) ⟨o,ho,hc⟩ isSubtype_stop (wpAny_pure (stop e h' tk k)))
def aeE (n:Nat)(l1 l2:Addr)(h h':Heap):Prop:=IsZip h' (n+4) (n+2) (n+3) .none/\IsPair h' (n+2) (.ref n) (.ref (n+1))/\IsPair h' (n+3) .none .none/\h'.IsTupleIter n l1 0/\h'.IsTupleIter (n+1) l2 0/\∀ c o,h.get? c=some o->h'.get? c=some o
theorem ajL (h:Heap)(l1 l2:Addr):∀ g1 g2 g3 g4 g5:Heap,g1=h.push { cls:=.type "tuple_iterator",data:=.fields #[.ref l1,.int 0 0] }->g2=g1.push { cls:=.type "tuple_iterator",data:=.fields #[.ref l2,.int 0 0] } ->
  g3=g2.push { cls:=.type "tuple",data:=.seq #[.ref h.objs.size,.ref g1.objs.size] }->g4=g3.push { cls:=.type "tuple",data:=.seq #[.none,.none] } ->
  g5=g4.push { cls:=.type "zip",data:=.fields #[.none,.bool false,.bool false,.ref g2.objs.size,.ref g3.objs.size] }->g4.objs.size=h.objs.size+4/\aeE h.objs.size l1 l2 h g5:=by
 rintro g1 g2 g3 g4 g5 e1 e2 e3 e4 e5
 have n1:g1.objs.size=h.objs.size+1:=by rw[e1,Heap.size_push]
 have n2:g2.objs.size=h.objs.size+2:=by rw[e2,Heap.size_push,n1]
 have n3:g3.objs.size=h.objs.size+3:=by rw[e3,Heap.size_push,n2]
 have n4:g4.objs.size=h.objs.size+4:=by rw[e4,Heap.size_push,n3]
 have k1:∀ c o,h.get? c=some o->g1.get? c=some o:=fun c o q=>by rw[e1];exact Heap.get?_push_of_some _ q
 have k2:∀ c o,g1.get? c=some o->g2.get? c=some o:=fun c o q=>by rw[e2];exact Heap.get?_push_of_some _ q
 have k3:∀ c o,g2.get? c=some o->g3.get? c=some o:=fun c o q=>by rw[e3];exact Heap.get?_push_of_some _ q
 have k4:∀ c o,g3.get? c=some o->g4.get? c=some o:=fun c o q=>by rw[e4];exact Heap.get?_push_of_some _ q
 have k5:∀ c o,g4.get? c=some o->g5.get? c=some o:=fun c o q=>by rw[e5];exact Heap.get?_push_of_some _ q
 have a1:g1.get? h.objs.size=some { cls:=.type "tuple_iterator",data:=.fields #[.ref l1,.int 0 0] }:=by rw[e1];exact Heap.get?_push_size _ rfl
 have a2:g2.get? (h.objs.size+1)=some { cls:=.type "tuple_iterator",data:=.fields #[.ref l2,.int 0 0] }:=by rw[e2,← n1];exact Heap.get?_push_size _ rfl
 have a3:g3.get? (h.objs.size+2)=some { cls:=.type "tuple",data:=.seq #[.ref h.objs.size,.ref (h.objs.size+1)] }:=by rw[e3,← n1,← n2];exact Heap.get?_push_size _ rfl
 have a4:g4.get? (h.objs.size+3)=some { cls:=.type "tuple",data:=.seq #[.none,.none] }:=by rw[e4,← n3];exact Heap.get?_push_size _ rfl
 have a5:g5.get? (h.objs.size+4)=some { cls:=.type "zip",data:=.fields #[.none,.bool false,.bool false,.ref (h.objs.size+2),.ref (h.objs.size+3)] }:=by rw[e5,← n2,← n3,← n4];exact Heap.get?_push_size _ rfl
 exact⟨n4,a5,k5 _ _ (k4 _ _ a3),k5 _ _ a4,⟨_,k5 _ _ (k4 _ _ (k3 _ _ (k2 _ _ a1))),rfl,rfl⟩,⟨_,k5 _ _ (k4 _ _ (k3 _ _ a2)),rfl,rfl⟩,fun c o q=>k5 _ _ (k4 _ _ (k3 _ _ (k2 _ _ (k1 _ _ q))))⟩
theorem au0 (l1 l2:Addr)(xs ys:Array Value):Meets (Builtin.«zip.__new__» ⟨[.type "zip",.ref l1,.ref l2],[]⟩)
  (fun _ R s=>s.heap.IsTuple l1 xs/\s.heap.IsTuple l2 ys/\∀ h',aeE s.heap.objs.size l1 l2 s.heap h'->R (.ok (.ret (.ref (s.heap.objs.size+4)))) { s with heap:=h' }) :=
 .of_wp fun prog w A R s q=>by
  obtain⟨hp,g,d,tk,os⟩:=s
  obtain⟨t1,t2,q⟩:=q
  have hsub:=sub_zip
  have w1:Heap.IsTuple (Shared.heap ⟨hp,g,d,tk,os⟩) l1 xs:=t1
  have w2:Heap.IsTuple (Shared.heap ⟨hp.push { cls:=.type "tuple_iterator",data:=.fields #[.ref l1,.int 0 0] },g,d,tk,os⟩) l2 ys:=Heap.IsTuple.push t2 _
  wp_walk using wpAny_pyIter_tuple w1,wpAny_pyIter_tuple w2
  refine⟨_,rfl,?_⟩
  obtain⟨e,m⟩:=ajL hp l1 l2 _ _ _ _ _ rfl rfl rfl rfl rfl
  have q':=q _ m
  rw[show (Shared.heap ⟨hp,g,d,tk,os⟩).objs.size+4=_ from e.symm] at q'
  exact q'
theorem asz {l1 l2:Addr}{xs ys:Array Value}{Q:Value->Shared->Prop}(t1:s.heap.IsTuple l1 xs)(t2:s.heap.IsTuple l2 ys)
  (q:∀ h',aeE s.heap.objs.size l1 l2 s.heap h'->Q (.ref (s.heap.objs.size+4)) { s with heap:=h' }):wpAny (model prog w) A (call (.type "zip") [.ref l1,.ref l2]) Q E s:=by
 refine callType_new F.called_zip (by decide) (F.typeCall_zip_2 _ _) (F.newCall_zip_2 _ _) (fun obj=>F.args_object_init_3 obj _ _) F.entry_zip_new (au0 l1 l2 xs ys) ⟨t1,t2,fun h' m=>?_⟩
 exact⟨⟨_,m.1,rfl⟩,q h' m⟩
end
def aqj (a b:Addr):It :=
 ⟨fun i H=>∃ xs ys x y,H a=some (.tup xs)/\H b=some (.tup ys)/\xs[i]? = some x/\ys[i]? = some y,
  fun i H p H'=>∃ x y t,p=.ref t/\H t=none/\(∀ xs,H a=some (.tup xs)->xs[i]? = some x)/\(∀ ys,H b=some (.tup ys)->ys[i]? = some y)/\H'=upd H t (.tup [x,y]),
  fun i H=>∃ xs ys,H a=some (.tup xs)/\H b=some (.tup ys)/\min xs.length ys.length=i⟩
section
variable {X:Cx}
theorem ahY {H:Hp}{a:Addr}{xs:List V}{i:Nat}{y:V}(hq:H a=some (.tup xs))(hy:xs[i]? = some y):∀ ys,H a=some (.tup ys)->ys[i]? = some y:=fun ys h=>by
 rw[hq] at h
 cases h
 exact hy
def au1 (z TI TO i1 i2 a b:Addr)(i:Nat)(h:Heap):Prop:=IsZip h z TI TO .none/\IsPair h TI (.ref i1) (.ref i2)/\(∃ x y,IsPair h TO x y)/\h.IsTupleIter i1 a i/\h.IsTupleIter i2 b i
theorem ZL {pins:List (Addr×Obj)}{H:Hp}{z TI TO i1 i2 a b:Addr}{xs ys:List V}(O:BL z TI TO i1 i2)(hf:∀ c∈[z,TI,TO,i1,i2],tO X pins H c)(ha:H a=some (.tup xs))(hb:H b=some (.tup ys)) :
  Zap z TI TO i1 i2 [i1,a] [i2,b]/\a≠i1/\b≠i2:=by
 have n:∀ {c:Addr} {zs:List V},H c=some (.tup zs)->∀ d∈[z,TI,TO,i1,i2],c≠d:=fun h d hd q=>by
  rw[q,(hf d hd).1] at h
  cases h
 refine⟨⟨⟨O.TIz,O.TOz,O.TITO⟩,by simp,by simp,fun c hc=>?_,fun c hc=>?_⟩,n ha _ (by simp),n hb _ (by simp)⟩
 ·rcases List.mem_cons.mp hc with rfl | hc
  ·exact⟨O.i1z,Ne.symm O.TIi1,Ne.symm O.TOi1,O.i12⟩
  ·rw[List.mem_singleton.mp hc]
   exact⟨n ha _ (by simp),n ha _ (by simp),n ha _ (by simp),n ha _ (by simp)⟩
 ·rcases List.mem_cons.mp hc with rfl | hc
  ·exact⟨O.i2z,Ne.symm O.TIi2,Ne.symm O.TOi2,Ne.symm O.i12⟩
  ·rw[List.mem_singleton.mp hc]
   exact⟨n hb _ (by simp),n hb _ (by simp),n hb _ (by simp),n hb _ (by simp)⟩
theorem anm {P:Program}{w:World}{K:Frag}{es:List Expr}{k:Nat}{tp:Pos}{z TI TO i1 i2:Addr}(a b:Addr)(O:BL z TI TO i1 i2) :
  Turn P w K (.Tuple es k tp) (aqj a b) [z,TI,TO,i1,i2] z (au1 z TI TO i1 i2 a b) where
 mem:=by simp
 obj:=fun i h st c hc=>by
  obtain⟨hz,hTI,⟨x,y,hTO⟩,⟨o1,e1,_,d1⟩,⟨o2,e2,_,d2⟩⟩:=st
  have hc':c=z∨c=TI∨c=TO∨c=i1∨c=i2:=by simpa using hc
  rcases hc' with rfl | rfl | rfl | rfl | rfl
  ·exact⟨_,hz,fun v q=>by
    have q':Data.fields _=Data.cell v:=q
    cases q'⟩
  ·exact⟨_,hTI,fun v q=>by
    have q':Data.seq _ _=Data.cell v:=q
    cases q'⟩
  ·exact⟨_,hTO,fun v q=>by
    have q':Data.seq _ _=Data.cell v:=q
    cases q'⟩
  ·exact⟨o1,e1,fun v q=>by rw[d1] at q;cases q⟩
  ·exact⟨o2,e2,fun v q=>by rw[d2] at q;cases q⟩
 keep:=fun i h h' st kp=>by
  obtain⟨hz,hTI,⟨x,y,hTO⟩,h1,h2⟩:=st
  exact⟨kp z (by simp) _ hz,kp TI (by simp) _ hTI,⟨x,y,kp TO (by simp) _ hTO⟩,h1.at fun o q=>kp i1 (by simp) o q,h2.at fun o q=>kp i2 (by simp) o q⟩
 item:=by
  intro X hP hw hK hc i pins s σ H E I hf st hg
  subst hP hw hK
  obtain⟨xs,ys,x,y,hq,hq2,hx,hy⟩:=hg
  obtain⟨Z,ne1,ne2⟩:=ZL O hf hq hq2
  obtain⟨its,rv,p,_⟩:=I.tuple (nJ.of hq)
  obtain⟨its2,rv2,p2,_⟩:=I.tuple (nJ.of hq2)
  obtain⟨u,hu,ru⟩:=rv.get hx
  obtain⟨u2,hu2,ru2⟩:=rv2.get hy
  have h1:i < its.toArray.size:=by rw[List.size_toArray];exact (List.getElem?_eq_some_iff.mp hu).1
  have h2:i < its2.toArray.size:=by rw[List.size_toArray];exact (List.getElem?_eq_some_iff.mp hu2).1
  obtain⟨hz,hTI,⟨a0,b0,hTO⟩,g1,g2⟩:=st
  refine amj Z (Ld (A:=X.A.in1) (I.ok.hd hc) i1 a ne1 its.toArray) (Ld (A:=X.A.in1) (I.ok.hd hc) i2 b ne2 its2.toArray) hz hTI hTO ⟨g1,p⟩ ⟨g2,p2⟩ (Nat.le_of_lt h1) (Nat.le_of_lt h2) ?_ ?_
  ·intro _ _ x' y' h' tk T px py hT zz oo s1 s2 pr kk
   refine⟨_,rfl,?_⟩
   have ex:x'=u:=by
    have:its[i]? = some x':=by simpa using px
    rw[hu] at this
    exact (Option.some.inj this).symm
   have ey:y'=u2:=by
    have:its2[i]? = some y':=by simpa using py
    rw[hu2] at this
    exact (Option.some.inj this).symm
   subst ex ey
   have sub:∀ c∈[z,TO,i1,i2],c∈[z,TI,TO,i1,i2]:=fun c hc=>by
    have:c=z∨c=TO∨c=i1∨c=i2:=by simpa using hc
    simp
    rcases this with r | r | r | r <;> simp[r]
   have lt:∀ c∈[z,TI,TO,i1,i2],c < s.heap.objs.size:=fun c hc=>by
    have:c=z∨c=TI∨c=TO∨c=i1∨c=i2:=by simpa using hc
    rcases this with rfl | rfl | rfl | rfl | rfl
    ·exact Heap.lt_size hz
    ·exact Heap.lt_size hTI
    ·exact Heap.lt_size hTO
    ·obtain⟨_,e,_⟩:=g1;exact Heap.lt_size e
    ·obtain⟨_,e,_⟩:=g2;exact Heap.lt_size e
   have neT:∀ c∈[z,TI,TO,i1,i2],c≠T:=fun c hc q=>by
    have:=lt c hc
    rw[q] at this
    exact absurd (Nat.lt_of_lt_of_le this hT) (Nat.lt_irrefl _)
   have I1:Inv X pins σ (upd H T (.tup [x,y])) { s with heap:=h',toks:=tk }:=by
    refine I.Zy (vals:=[x',y']) (fun c hc=>hf c (sub c hc)) hT ⟨_,pr,rfl,0,rfl⟩ (.cons ru (.cons ru2 .nil)) (by show 2 <= sizeLine;decide) kk fun c hc=>?_
    have:c=z∨c=TO∨c=i1∨c=i2:=by simpa using hc
    rcases this with rfl | rfl | rfl | rfl
    ·exact⟨_,zz⟩
    ·exact⟨_,oo⟩
    ·obtain⟨o,e,_⟩:=s1.1;exact⟨o,e⟩
    ·obtain⟨o,e,_⟩:=s2.1;exact⟨o,e⟩
   have hTn:H T=none:=I.hok.fresh hT
   have hf2:∀ c∈[z,TI,TO,i1,i2],tO X pins (upd H T (.tup [x,y])) c:=fun c hc=>by
    obtain⟨f0,fr⟩:=hf c hc
    exact⟨by rw[aA (neT c hc)];exact f0,fr⟩
   refine wpAny_letOwnedTupleGo_zip zz fun h'' zz' sb=>?_
   have ay6:IsPair h' TI (.ref i1) (.ref i2):=kk _ _ (by simp;exact⟨O.TIz,O.TITO,O.TIi1,O.TIi2⟩) hTI
   refine⟨.ref T,upd H T (.tup [x,y]),I1.jG (tk:=tk) (wr:=[z]) (fun c hc=>hf2 c (by rw[List.mem_singleton.mp hc];simp)) (fun c o hc e=>sb.extBut _ _ (fun q=>hc (by rw[q];simp)) e),rfl,⟨x,y,T,rfl,hTn,ahY hq hx,ahY hq2 hy,rfl⟩,?_,fun c hc=>(hf2 c hc).1⟩
   exact⟨zz',sb.extBut _ _ O.TIz ay6,⟨_,_,sb.extBut _ _ O.TOz oo⟩,s1.1.extBut sb.extBut O.i1z,s2.1.extBut sb.extBut O.i2z⟩
  ·intro e
   exfalso
   rcases e with e | e <;> omega
 done:=by
  intro X hP hw hK hc i pins s σ H E I hf st hg
  subst hP hw hK
  obtain⟨xs,ys,hq,hq2,hx⟩:=hg
  obtain⟨Z,ne1,ne2⟩:=ZL O hf hq hq2
  obtain⟨its,rv,p,_⟩:=I.tuple (nJ.of hq)
  obtain⟨its2,rv2,p2,_⟩:=I.tuple (nJ.of hq2)
  obtain⟨hz,hTI,⟨a0,b0,hTO⟩,g1,g2⟩:=st
  have e1:its.toArray.size=xs.length:=by rw[List.size_toArray,rv.length]
  have e2:its2.toArray.size=ys.length:=by rw[List.size_toArray,rv2.length]
  refine amj Z (Ld (A:=X.A.in1) (I.ok.hd hc) i1 a ne1 its.toArray) (Ld (A:=X.A.in1) (I.ok.hd hc) i2 b ne2 its2.toArray) hz hTI hTO ⟨g1,p⟩ ⟨g2,p2⟩ (by omega) (by omega) ?_ ?_
  ·intro l1 l2
   exfalso
   omega
  ·intro _ h' tk kk
   refine⟨rfl,I.jG (tk:=tk) (wr:=[z,TO,i1,i2]) (fun c hc=>hf c ?_) kk⟩
   have:c=z∨c=TO∨c=i1∨c=i2:=by simpa using hc
   simp
   rcases this with r | r | r | r <;> simp[r]
 self:=fun _ i s _ _ st h=>by
  obtain⟨hz,_⟩:=st
  exact wpAny_pyIter_zip hz h
inductive aqk (R:(It->Hp->Prop))(x:V)(y:V)(H2:Hp):Prop
 | mk (a:_) (b:_) (xs:_) (ys:_) (gj:x=.ref a) (gk:y=.ref b) (jc:H2 a=some (.tup xs)) (n8:H2 b=some (.tup ys)) (xJ:R (aqj a b) H2):aqk R x y H2
def awX (tl tm:TE):TI:=fun σ H R=>tl σ H fun x H1=>tm σ H1 fun y H2=>aqk R x y H2
theorem asA {l m:Expr}{tl tm:TE}{p pos tp:Pos}{es:List Expr}{k:Nat}(hg:Gl X "zip")(hz:X.mg "zip" = none)(hl:PE X l tl)(hm:PE X m tm)(hs:starEach [l,m] X.env=[(false,eval l X.env),(false,eval m X.env)]:=by rfl)(hs2:starEach [m] X.env=[(false,eval m X.env)]:=by rfl) :
  PI X (.Tuple es k tp) (.Call (.Name "zip" p) [l,m] [] pos) (awX tl tm):=by
 intro pins s σ H R I h
 refine Call_ (v7 I hg hz ajH (PyProof.Rows.callWith_type1 (eX (ajI hl hm hs hs2 pos pins s σ H I h) fun us s1 ⟨x,y,u,v,H1,I1,e1,r1,r2,q1⟩=>?_) (by rw[hs,hs2]) (by rw[hs2];rfl)))
 obtain⟨a,b,xs,ys,rfl,rfl,hq,hq2,q⟩:=q1
 subst e1
 cases r1
 cases r2
 obtain⟨its,rv,pl,_⟩:=I1.tuple (nJ.of hq)
 obtain⟨its2,rv2,pl2,_⟩:=I1.tuple (nJ.of hq2)
 refine asz pl pl2 fun h' ⟨z1,z2,z3,z4,z5,kk⟩=>?_
 refine wpAny_pyIter_zip z1 ?_
 have O:BL (s1.heap.objs.size+4) (s1.heap.objs.size+2) (s1.heap.objs.size+3) s1.heap.objs.size (s1.heap.objs.size+1):=by
  constructor <;> exact (by intro q;have q':(_:Nat)=_:=q;omega)
 refine⟨_,[s1.heap.objs.size+4,s1.heap.objs.size+2,s1.heap.objs.size+3,s1.heap.objs.size,s1.heap.objs.size+1],_,_,H1,rfl,I1.kept (t':=s1.toks) kk,anm a b O,⟨z1,z2,⟨_,_,z3⟩,z4,z5⟩,fun c hc=>?_,q⟩
 have hc':s1.heap.objs.size <= c:=by
  have:c=s1.heap.objs.size+4∨c=s1.heap.objs.size+2∨c=s1.heap.objs.size+3∨c=s1.heap.objs.size∨c=s1.heap.objs.size+1:=by simpa using hc
  rcases this with r | r | r | r | r <;> (rw[r];first | exact Nat.le_add_right _ _ | exact Nat.le_refl _)
 exact I1.acE hc' (I1.hok.fresh hc')
end
theorem aql {a b:Addr}{xs ys:List V}{g:TG}{tb:TS}{D:Ends}{σ:St}{H:Hp}(Pv:Nat->St->Hp->Prop)(he:xs.length=ys.length)(h0:Pv 0 σ H)(hl:∀ i σ H,Pv i σ H->H a=some (.tup xs)/\H b=some (.tup ys))
  (hs:∀ i x y t σ H,xs[i]? = some x->ys[i]? = some y->Pv i σ H->H t=none->g (.ref t) σ (upd H t (.tup [x,y])) fun σ2 H2=>tb { D with nx:=Pv (i+1),ct:=Pv (i+1),bk:=D.nx } σ2 H2) (hd:∀ σ H,Pv xs.length σ H->D.nx σ H) :
  ∃ W:Nat->Nat->St->Hp->Prop,(∃ m,W 0 m σ H)/\∀ i m σ H,W i m σ H ->
   ((aqj a b).stop i H/\D.nx σ H)∨((aqj a b).go i H/\∃ N:St->Hp->Prop,(∀ σ' H',N σ' H'->∃ m',m' < m/\W (i+1) m' σ' H')/\∀ x H',(aqj a b).yld i H x H'->g x σ H' fun σ2 H2=>tb { D with nx:=N,ct:=N,bk:=D.nx } σ2 H2):=by
 refine⟨fun i m σ H=>m=xs.length - i/\i <= xs.length/\Pv i σ H,⟨xs.length,by simp,Nat.zero_le _,h0⟩,?_⟩
 rintro i m σ H ⟨rfl,hi,p⟩
 obtain⟨q,q2⟩:=hl i σ H p
 by_cases hlt:i < xs.length
 ·have hlt2:i < ys.length:=by omega
  refine .inr ⟨⟨xs,ys,xs[i],ys[i],q,q2,by simp[hlt],by simp[hlt2]⟩,Pv (i+1),fun σ' H' p'=>⟨xs.length - (i+1),by omega,rfl,hlt,p'⟩,fun x H' y=>?_⟩
  obtain⟨x0,y0,t,rfl,hn,hx,hy,rfl⟩:=y
  exact hs i x0 y0 t σ H (hx xs q) (hy ys q2) p hn
 ·have e:i=xs.length:=by omega
  subst e
  exact .inl ⟨⟨xs,ys,q,q2,by omega⟩,hd σ H p⟩
end L2
set_option maxHeartbeats 4000000
namespace L2
open PySem PySem.Spec PyProof.Rows
section
variable {X:Cx} {pins:List (Addr×Obj)} {σ:St} {H:Hp}
end
section
variable {X:Cx} {tg iter kx vx:Expr} {ifs:List Expr} {scope:Scope} {pos:Pos} {cn:List Str} {wi:TI} {g:Bk->TG} {tc:Bk->TT} {tk tv:Bk->TE} {TH:Bk->Prop}
end
abbrev ay7 (J:It)(g:TG)(tc:TT)(tk tv:TE)(D:Addr)(R:Hp->Prop)(σ:St)(H:Hp):Prop:=∃ W:Nat->Nat->St->Hp->Prop,(∃ m,W 0 m σ H)/\∀ i m σ H,W i m σ H ->
  (J.stop i H/\R H)∨(J.go i H/\∀ x H',J.yld i H x H'->g x σ H' fun σ2 H2=>tc σ2 H2 fun ok H3 =>
   if ok=true then tk σ2 H3 fun y H4=>tv σ2 H4 fun z H5=>∃ (kvs:List (Key×V)) (k:Key),y=kV k/\H5 D=some (.dK kvs)/\kvs.length < sizeLine/\∃ m',m' < m/\W (i+1) m' σ2 (upd H5 D (.dK (putK kvs k z)))
   else ∃ m',m' < m/\W (i+1) m' σ2 H3)
abbrev ay8 (g:TG)(tc:TT)(tk tv:TE)(D:Addr)(x:V)(σ:St)(H:Hp)(N:St->Hp->Prop):Prop:=g x σ H fun σ2 H2=>tc σ2 H2 fun ok H3 =>
 if ok=true then tk σ2 H3 fun y H4=>tv σ2 H4 fun z H5=>∃ (kvs:List (Key×V)) (k:Key),y=kV k/\H5 D=some (.dK kvs)/\kvs.length < sizeLine/\N σ2 (upd H5 D (.dK (putK kvs k z))) else N σ2 H3
section
variable {X:Cx}
theorem Le {ns:List Int}{its:List Value}(rv:Vals (ns.map V.int) its)(i:Nat)(v:Value)(hv:its.toArray[i]? = some v):∃ t,v=Value.int (ns.getD i 0) t:=by
 have hl:=rv.length
 rw[List.length_map] at hl
 have hv':its[i]? = some v:=by simpa using hv
 have hi:i < its.length:=(List.getElem?_eq_some_iff.mp hv').1
 have hn:i < ns.length:=by omega
 obtain⟨u,hu,ru⟩:=rv.get (i:=i) (x:=.int (ns[i])) (by rw[List.getElem?_map,List.getElem?_eq_getElem hn];rfl)
 rw[hv'] at hu;cases hu
 obtain⟨t,rfl⟩:=ru
 refine⟨t,?_⟩
 rw[List.getD_eq_getElem?_getD,List.getElem?_eq_getElem hn]
 rfl
theorem Ul {ns:List Int}{i:Nat}(h:i < ns.length):ns.getD i 0∈ns:=by
 rw[List.getD_eq_getElem?_getD,List.getElem?_eq_getElem h]
 exact List.getElem_mem h
theorem Um {ns:List Int}{a:Int}(h:a∈ns):∃ j,j < ns.length/\ns.getD j 0=a:=by
 obtain⟨j,hj,e⟩:=List.getElem_of_mem h
 exact⟨j,hj,by rw[List.getD_eq_getElem?_getD,List.getElem?_eq_getElem hj];exact e⟩
theorem adM:oh X (.builtin "max") (fun xs H Q=>X.calm=true/\∃ (a:Addr) (ns:List Int),xs=[.ref a]/\bh X.K H a (ns.map V.int)/\ns≠[]/\∀ m,m∈ns->(∀ x∈ns,x <= m)->Q (.int m) H):=by
 intro pins s σ H xs us Q I r h
 obtain⟨hc,a,ns,rfl,hq,hne,q⟩:=h
 obtain⟨u,rfl,rfl⟩:=r.one
 obtain⟨its,rv,p,hz⟩:=I.list hq
 have hl:=rv.length
 rw[List.length_map] at hl
 have hpos:0 < ns.length:=by cases ns with | nil=>exact absurd rfl hne | cons _ _=>exact Nat.succ_pos _
 have ane:a≠s.heap.objs.size:=by
  obtain⟨o,ho,_⟩:=p.isList
  exact Nat.ne_of_lt (Heap.lt_size ho)
 have hd:X.A.in1.handled=none:=I.ok.hd hc
 refine call_max_walk (wpAny_pyIter_list p.isList ?_)
 refine⟨s.heap.objs.size,_,_,_,_,_,_,rfl,Walks.list hd s.heap.objs.size a ane its.toArray,⟨⟨_,Heap.get?_push_size _ rfl,rfl,rfl⟩,p.isList.push _⟩,?_,?_,CmpOf.ints_gt (fun i=>ns.getD i 0) (fun i v hP=>Le rv i v hP),?_⟩
 ·intro b hb
  obtain⟨o,ho,_⟩:=p.isList
  have e:b=s.heap.objs.size∨b=a:=by simpa using hb
  have z:(s.heap.push { cls:=.type "list_iterator",data:=.fields #[.ref a,.int 0 0] }).objs.size=s.heap.objs.size+1:=Heap.size_push ..
  show b < (s.heap.push _).objs.size
  rw[z]
  rcases e with rfl | rfl
  ·exact Nat.lt_succ_self _
  ·exact Nat.lt_succ_of_lt (Heap.lt_size ho)
 ·rw[List.size_toArray];omega
 ·intro v h' tk hP kk
  obtain⟨h1,h2⟩:=argBest_gt (fun i=>ns.getD i 0) (its.toArray.size - 1)
  obtain⟨t,rfl⟩:=Le rv _ v hP
  refine⟨.int _,H,I.kept (t':=tk) fun b o e=>kk b o (fun z=>?_) (Heap.get?_push_of_some _ e),⟨t,rfl⟩,q _ (Ul ?_) fun x hx=>?_⟩
  ·have:b=s.heap.objs.size:=by simpa using z
   exact absurd (Heap.lt_size e) (by rw[this];exact Nat.lt_irrefl _)
  ·rw[List.size_toArray] at h1 ⊢;omega
  ·obtain⟨j,hj,rfl⟩:=Um hx
   exact h2 j (by rw[List.size_toArray];omega)
theorem adN:oh X (.builtin "min") (fun xs H Q=>X.calm=true/\∃ (a:Addr) (ns:List Int),xs=[.ref a]/\bh X.K H a (ns.map V.int)/\ns≠[]/\∀ m,m∈ns->(∀ x∈ns,m <= x)->Q (.int m) H):=by
 intro pins s σ H xs us Q I r h
 obtain⟨hc,a,ns,rfl,hq,hne,q⟩:=h
 obtain⟨u,rfl,rfl⟩:=r.one
 obtain⟨its,rv,p,hz⟩:=I.list hq
 have hl:=rv.length
 rw[List.length_map] at hl
 have hpos:0 < ns.length:=by cases ns with | nil=>exact absurd rfl hne | cons _ _=>exact Nat.succ_pos _
 have ane:a≠s.heap.objs.size:=by
  obtain⟨o,ho,_⟩:=p.isList
  exact Nat.ne_of_lt (Heap.lt_size ho)
 have hd:X.A.in1.handled=none:=I.ok.hd hc
 refine call_min_walk (wpAny_pyIter_list p.isList ?_)
 refine⟨s.heap.objs.size,_,_,_,_,_,_,rfl,Walks.list hd s.heap.objs.size a ane its.toArray,⟨⟨_,Heap.get?_push_size _ rfl,rfl,rfl⟩,p.isList.push _⟩,?_,?_,CmpOf.ints_lt (fun i=>ns.getD i 0) (fun i v hP=>Le rv i v hP),?_⟩
 ·intro b hb
  obtain⟨o,ho,_⟩:=p.isList
  have e:b=s.heap.objs.size∨b=a:=by simpa using hb
  have z:(s.heap.push { cls:=.type "list_iterator",data:=.fields #[.ref a,.int 0 0] }).objs.size=s.heap.objs.size+1:=Heap.size_push ..
  show b < (s.heap.push _).objs.size
  rw[z]
  rcases e with rfl | rfl
  ·exact Nat.lt_succ_self _
  ·exact Nat.lt_succ_of_lt (Heap.lt_size ho)
 ·rw[List.size_toArray];omega
 ·intro v h' tk hP kk
  obtain⟨h1,h2⟩:=argBest_lt (fun i=>ns.getD i 0) (its.toArray.size - 1)
  obtain⟨t,rfl⟩:=Le rv _ v hP
  refine⟨.int _,H,I.kept (t':=tk) fun b o e=>kk b o (fun z=>?_) (Heap.get?_push_of_some _ e),⟨t,rfl⟩,q _ (Ul ?_) fun x hx=>?_⟩
  ·have:b=s.heap.objs.size:=by simpa using z
   exact absurd (Heap.lt_size e) (by rw[this];exact Nat.lt_irrefl _)
  ·rw[List.size_toArray] at h1 ⊢;omega
  ·obtain⟨j,hj,rfl⟩:=Um hx
   exact h2 j (by rw[List.size_toArray];omega)
end
section
variable {prog:Program} {w:World} {A:Around} {R:Result->Shared->Prop} {I:Addr} {fp wr:List Addr} {n:Nat} {P:Nat->Value->Prop} {St:Nat->Heap->Prop}
def aqm (P:Nat->Value->Prop)(bt:Nat->Nat->Bool)(S:Addr):Nat->Heap->Prop
 | 0,h=>∃ c,h.get? S=some { cls:=.type "list",dict:=none,data:=.seq #[] c,slots:=#[] }
 | j+1,h=>∃ v c,P (argBest bt j) v/\h.get? S=some { cls:=.type "list",dict:=none,data:=.seq #[v,v] c,slots:=#[] }
theorem au2 (W:Walks prog w A.in1 I fp wr n P St)(bt:Nat->Nat->Bool)(hcmp:CmpOf prog w A.in1 .Gt P bt)(S:Addr)(hSf:S ∉ fp)(d:Value):∀ (k j:Nat) (s:Shared),n - j=k->j <= n->St j s.heap->aqm P bt S j s.heap ->
  (0 < n->∀ v h' tk,P (argBest bt (n - 1)) v->(∀ b o,b ∉ wr->b≠S->s.heap.get? b=some o->h'.get? b=some o)->R (.ok (.ret v)) { s with heap:=h',toks:=tk }) ->
  (n=0->∀ h' tk,(∀ b o,b ∉ wr->b≠S->s.heap.get? b=some o->h'.get? b=some o)->R (.ok (.ret d)) { s with heap:=h',toks:=tk }) ->
  codeAny (model prog w) A (.builtin "max.loop" ⟨[.ref I,.none,.ref S],[("default",d)]⟩) R s:=by
 have hSw:S ∉ wr:=fun h=>hSf (W.sub _ h)
 have nm:(toString "max" ++ toString ".loop":String) = "max.loop":=by decide
 intro k
 induction k with
 | zero =>
  intro j s hk hj hst hS q1 q0
  have e:j=n:=by omega
  subst e
  refine codeAny_builtin F.entry_max_loop ?_
  rw[Around.under_plainId F.plain_max_loop _]
  cases j with
  | zero =>
   obtain⟨c,hS⟩:=hS
   refine wpAny_bind (m:=seqItems? (.ref S)) (wpAny_seqItems hS rfl ?_)
   refine wpAny_bind (m:=tryCatch (pyNext (.ref I)) _) (wpAny_tryCatch (W.done s _ _ hst fun h' tk kk=>?_))
   exact wpAny_bind (wpAny_rule (wpAny_pure (q0 rfl h' tk fun b o hb _ e=>kk b o hb e)))
  | succ j =>
   obtain⟨vb,c,pb,hS⟩:=hS
   refine wpAny_bind (m:=seqItems? (.ref S)) (wpAny_seqItems hS rfl ?_)
   refine wpAny_bind (m:=tryCatch (pyNext (.ref I)) _) (wpAny_tryCatch (W.done s _ _ hst fun h' tk kk=>?_))
   refine wpAny_bind (m:=updateSeq S fun _=>#[]) (wpAny_updateSeq (kk S _ hSw hS) rfl (wpAny_bind (wpAny_letGo (wpAny_pure ?_))))
   exact q1 (Nat.succ_pos _) vb _ tk pb fun b o hb hn e=>(Heap.get?_update_other _ _ (Ne.symm hn)).trans (kk b o hb e)
 | succ k ih =>
  intro j s hk hj hst hS q1 q0
  have lt:j < n:=by omega
  refine codeAny_builtin F.entry_max_loop ?_
  rw[Around.under_plainId F.plain_max_loop _]
  have step:∀ (h':Heap) (tk:Nat) (v:Value),St (j+1) h'->(∀ b o,b ∉ wr->s.heap.get? b=some o->h'.get? b=some o)->∀ (g:Heap),(∀ b o,b≠S->h'.get? b=some o->g.get? b=some o)->aqm P bt S (j+1) g ->
    codeAny (model prog w) A (.builtin "max.loop" ⟨[.ref I,.none,.ref S],[("default",d)]⟩) R { s with heap:=g,toks:=tk }:=by
   intro h' tk v st' kk g kg best
   refine ih (j+1) { s with heap:=g,toks:=tk } (by omega) lt (W.frame _ _ _ st' fun b hb o e=>kg b o (fun z=>hSf (z ▸ hb)) e) best (fun hn v' h'' tk'' pv ap0=>q1 hn v' h'' tk'' pv fun b o hb hs e=>ap0 b o hb hs (kg b o hs (kk b o hb e))) fun hn=>by omega
  cases j with
  | zero =>
   obtain⟨c,hS⟩:=hS
   refine wpAny_bind (m:=seqItems? (.ref S)) (wpAny_seqItems hS rfl ?_)
   refine wpAny_bind (m:=tryCatch (pyNext (.ref I)) _) (wpAny_tryCatch (W.item 0 s _ _ lt hst fun v h' tk pv st' kk=>?_))
   have hS':=kk S _ hSw hS
   refine wpAny_bind (m:=updateSeq S fun _=>#[v,v]) (wpAny_updateSeq hS' rfl ?_)
   rw[nm]
   exact wpAny_pure ⟨plainId_quiet F.plain_max_loop _,step h' tk v st' kk _ (fun b o hb e=>(Heap.get?_update_other _ _ (Ne.symm hb)).trans e) ⟨v,_,pv,Heap.get?_update_self _ hS' rfl⟩⟩
  | succ j =>
   obtain⟨vb,c,pb,hS⟩:=hS
   refine wpAny_bind (m:=seqItems? (.ref S)) (wpAny_seqItems hS rfl ?_)
   refine wpAny_bind (m:=tryCatch (pyNext (.ref I)) _) (wpAny_tryCatch (W.item (j+1) s _ _ lt hst fun v h' tk pv st' kk=>?_))
   have hS':=kk S _ hSw hS
   refine wpAny_bind (m:=tryCatch (holding [v,v] (richCompare .Gt v vb >>= _)) _) (wpAny_tryCatch (wpAny_holding (wpAny_bind (hcmp (j+1) (argBest bt j) v vb _ _ _ pv pb ?_))))
   refine wpAny_bind (wpAny_holding (wpAny_truthy_bool (wpAny_bind (wpAny_letGo (wpAny_pure ?_)))))
   cases hb:bt (j+1) (argBest bt j) with
   | true =>
    rw[if_pos rfl]
    refine wpAny_bind (wpAny_updateSeq hS' rfl (wpAny_bind (wpAny_letGo ?_)))
    rw[nm]
    exact wpAny_pure ⟨plainId_quiet F.plain_max_loop _,step h' tk v st' kk _ (fun b o hb e=>(Heap.get?_update_other _ _ (Ne.symm hb)).trans e) ⟨v,_,by unfold argBest;rw[hb,if_pos rfl];exact pv,Heap.get?_update_self _ hS' rfl⟩⟩
   | false =>
    rw[if_neg Bool.false_ne_true]
    refine wpAny_bind (wpAny_letGo ?_)
    rw[nm]
    exact wpAny_pure ⟨plainId_quiet F.plain_max_loop _,step h' tk v st' kk _ (fun b o _ e=>e) ⟨vb,_,by unfold argBest;rw[hb,if_neg Bool.false_ne_true];exact pb,hS'⟩⟩
end
theorem ano (a d:Value):argsOk "max" ⟨[a],[("default",d)]⟩:=by unfold argsOk;kernel_rfl
section
variable {X:Cx}
theorem asB {pins:List (Addr×Obj)}{s:Shared}{σ:St}{H:Hp}{a:Addr}{ns:List Int}{dv:Value}{E:Value->Shared->Prop}{Q:Value->Shared->Prop}(I:Inv X pins σ H s)(hc:X.calm=true)(hq:bh X.K H a (ns.map V.int))
  (q0:ns=[]->∀ s',Inv X pins σ H s'->Q dv s') (q1:∀ m t,m∈ns->(∀ x∈ns,x <= m)->∀ s',Inv X pins σ H s'->Q (.int m t) s'):wpAny (model X.prog X.w) X.A (call (.builtin "max") [.ref a] [("default",dv)]) Q E s:=by
 obtain⟨its,rv,p,hz⟩:=I.list hq
 have hl:=rv.length
 rw[List.length_map] at hl
 have ane:a≠s.heap.objs.size:=by
  obtain⟨o,ho,_⟩:=p.isList
  exact Nat.ne_of_lt (Heap.lt_size ho)
 have hd:X.A.in1.handled=none:=I.ok.hd hc
 have nm:(toString "max" ++ toString ".loop":String) = "max.loop":=by decide
 refine wpAny_call (codeAny_call_builtin F.plain_max F.entry_max ?_)
 simp only [checkBuiltinCall,F.kind_max]
 have body:wpAny (model X.prog X.w) X.A.in1 (Builtin.«max» ⟨[.ref a],[("default",dv)]⟩) (fun fin s'=>match fin with
   | .done f=>(match (Except.ok f:Result) with | .ok (.ret v)=>Q v s' | .ok _=>False | .error e=>E e s')
   | .again c'=>c'.quiet=true/\codeAny (model X.prog X.w) X.A c' (fun r s'=>match r with | .ok (.ret v)=>Q v s' | .ok _=>False | .error e=>E e s') s') E s:=by
  refine wpAny_bind (m:=Builtin.Builtins.bindParams "max" ["key","default"] 0 ⟨[],[("default",dv)]⟩) (wpAny_of_eq (show Builtin.Builtins.bindParams "max" ["key","default"] 0 ⟨[],[("default",dv)]⟩=pure [none,some dv] from rfl) ?_)
  refine wpAny_bind (wpAny_pure (wpAny_bind (wpAny_pyIter_list p.isList (wpAny_bind (wpAny_newObj_type ?_)))))
  rw[nm]
  have W:=Walks.list (prog:=X.prog) (w:=X.w) hd s.heap.objs.size a ane its.toArray
  have z1:(s.heap.push { cls:=.type "list_iterator",data:=.fields #[.ref a,.int 0 0] }).objs.size=s.heap.objs.size+1:=Heap.size_push ..
  have alt:a < s.heap.objs.size:=by obtain⟨o,ho,_⟩:=p.isList;exact Heap.lt_size ho
  have st0:(s.heap.push { cls:=.type "list_iterator",data:=.fields #[.ref a,.int 0 0] }).IsListIter s.heap.objs.size a 0/\(s.heap.push { cls:=.type "list_iterator",data:=.fields #[.ref a,.int 0 0] }).IsList a its.toArray:=⟨⟨_,Heap.get?_push_size _ rfl,rfl,rfl⟩,p.isList.push _⟩
  refine wpAny_pure ⟨plainId_quiet F.plain_max_loop _,au2 W _ (CmpOf.ints_gt (fun i=>ns.getD i 0) (fun i v hP=>Le rv i v hP)) _ ?_ dv _ 0 _ rfl (Nat.zero_le _) (W.frame _ _ _ st0 fun b _ o e=>Heap.get?_push_of_some _ e) ⟨_,Heap.get?_push_size _ rfl⟩ ?_ ?_⟩
  ·intro hm
   have:(s.heap.push { cls:=.type "list_iterator",data:=.fields #[.ref a,.int 0 0] }).objs.size=s.heap.objs.size∨(s.heap.push { cls:=.type "list_iterator",data:=.fields #[.ref a,.int 0 0] }).objs.size=a:=by simpa using hm
   rw[z1] at this
   rcases this with e | e
   ·exact absurd e (Nat.succ_ne_self _)
   ·exact absurd alt (by rw[← e];exact Nat.not_lt.mpr (Nat.le_succ _))
  ·intro hn v h' tk hP kk
   obtain⟨h1,h2⟩:=argBest_gt (fun i=>ns.getD i 0) (its.toArray.size - 1)
   obtain⟨t,rfl⟩:=Le rv _ v hP
   rw[List.size_toArray] at hn
   refine q1 _ t (Ul ?_) (fun x hx=>?_) _ (I.kept (t':=tk) fun b o e=>kk b o (fun z=>?_) (fun z=>?_) (Heap.get?_push_of_some _ (Heap.get?_push_of_some _ e)))
   ·rw[List.size_toArray] at h1 ⊢;omega
   ·obtain⟨j,hj,rfl⟩:=Um hx
    exact h2 j (by rw[List.size_toArray];omega)
   ·have:b=s.heap.objs.size:=by simpa using z
    exact absurd (Heap.lt_size e) (by rw[this];exact Nat.lt_irrefl _)
   ·have:=Heap.lt_size e
    rw[z,z1] at this
    exact absurd this (Nat.not_lt.mpr (Nat.le_succ _))
  ·intro hn h' tk kk
   rw[List.size_toArray] at hn
   refine q0 (List.length_eq_zero_iff.mp (by omega)) _ (I.kept (t':=tk) fun b o e=>kk b o (fun z=>?_) (fun z=>?_) (Heap.get?_push_of_some _ (Heap.get?_push_of_some _ e)))
   ·have:b=s.heap.objs.size:=by simpa using z
    exact absurd (Heap.lt_size e) (by rw[this];exact Nat.lt_irrefl _)
   ·have:=Heap.lt_size e
    rw[z,z1] at this
    exact absurd this (Nat.not_lt.mpr (Nat.le_succ _))
 cases hsig:Manifest.signature? "max" with
 | none=>exact wpAny_pure body
 | some sig =>
  have ha:=ano (.ref a) dv
  simp only [argsOk,hsig] at ha
  show wpAny _ X.A.in1 (Bind.checkArgs "max" sig ⟨[.ref a],[("default",dv)]⟩) _ _ s
  rw[show Bind.checkArgs "max" sig ⟨[.ref a],[("default",dv)]⟩=pure () from ha]
  exact wpAny_pure body
def awY (K:Frag)(te:TA)(td:TE):TE:=fun σ H Q=>te σ H fun xs H1=>td σ H1 fun y H2=>∃ (a:Addr) (ns:List Int),xs=[.ref a]/\bh K H2 a (ns.map V.int)/\∀ v,((ns=[]/\v=y) ∨ ∃ m,v=.int m/\m∈ns/\∀ x∈ns,x <= m)->Q v H2
theorem asC {e d:Expr}{te:TA}{td:TE}{p kp pos:Pos}(hc:X.calm=true)(hg:Gl X "max")(hm:X.mg "max" = none)(he:PA X [e] te)(hd:PE X d td)
  (h1:starEach [e] X.env=(false,eval e X.env) :: starEach [] X.env:=by rfl) (h2:(backTo pos (starEach [e] X.env)).any (·.1)=false:=by rfl)
  (h3:(backToKw pos (keywordEach [⟨some "default",d,kp⟩] X.env)).all (·.1.isSome)=true:=by rfl) (h4:(backToKw pos (keywordEach [⟨some "default",d,kp⟩] X.env)).any (·.1.isNone)=false:=by rfl) :
  PE X (.Call (.Name "max" p) [e] [⟨some "default",d,kp⟩] pos) (awY X.K te td):=by
 intro pins s σ H Q I h
 refine wpAny_Call_Name_kw (v7 I hg hm boot_max (callWith_builtin_kwB h2 h4 (evalArgs_kw2 h3 (eX (he pos pins s σ H _ I h) fun us s1 ⟨vs,H1,I1,r1,q1⟩=>kwAll_cons (eX (hd pins s1 σ H1 _ I1 q1) fun v s2 ⟨y,H2,I2,r2,a,ns,e1,e2,q0⟩=>kwAll_nil ?_)) h1)) (by decide) (by decide))
 subst e1
 obtain⟨u,rfl,rfl⟩:=r1.one
 exact asB I2 hc e2 (fun e s' I'=>⟨y,H2,I',r2,q0 _ (.inl ⟨e,rfl⟩)⟩) fun m t hm hx s' I'=>⟨.int m,H2,I',⟨t,rfl⟩,q0 _ (.inr ⟨m,rfl,hm,hx⟩)⟩
end
end L2
set_option maxHeartbeats 1000000
namespace aeF
open PySem L2
inductive Kd where
 | G | D | R | s | d | r | dot | three | two
 deriving DecidableEq,Repr
def Kd.str:Kd->Str
 | .G=>"G" | .D=>"D" | .R=>"R" | .s=>"s" | .d=>"d" | .r=>"r" | .dot=>"." | .three=>"3" | .two=>"2"
def Kd.cp:Kd->Nat
 | .G=>71 | .D=>68 | .R=>82 | .s=>115 | .d=>100 | .r=>114 | .dot=>46 | .three=>51 | .two=>50
def Kd.great:Kd->Bool
 | .G=>true | .D=>true | .R=>true | _=>false
def Kd.small:Kd->Bool
 | .s=>true | .d=>true | .r=>true | _=>false
def Kd.parting:Kd->Bool
 | .dot=>true | .three=>true | .two=>true | _=>false
def Kd.meas:Kd->Bool
 | .three=>true | .two=>true | _=>false
def Kd.BP:Kd->Bool
 | .G=>true | .D=>true | .s=>true | .d=>true | _=>false
def z9:Option Kd->Str
 | some k=>k.str
 | none=>""
abbrev Sg:=Kd×Int
def inS (x y:Str):Bool:=!(Builtin.Str.occurrences y x 0 y.length 1).isEmpty
theorem awZ (k:Kd):k.str=⟨#[k.cp]⟩:=by cases k <;> decide +kernel
theorem str_inj {a b:Kd}:a.str=b.str ↔ a=b:=by
 constructor
 ·revert a b
  have:∀ a b:Kd,a.str=b.str->a=b:=by
   intro a b
   cases a <;> cases b <;> first | (intro _;rfl) | (intro h;exact absurd h (by decide +kernel))
  exact fun {a b}=>this a b
 ·exact fun h=>by rw[h]
theorem ahZ {a b:Option Kd}:z9 a=z9 b ↔ a=b:=by
 constructor
 ·have:∀ a b:Option Kd,z9 a=z9 b->a=b:=by
   intro a b
   cases a with
   | none=>cases b with
    | none=>intro _;rfl
    | some b=>cases b <;> (intro h;exact absurd h (by decide +kernel))
   | some a=>cases b with
    | none=>cases a <;> (intro h;exact absurd h (by decide +kernel))
    | some b=>intro h;exact congrArg some (str_inj.mp h)
  exact fun h=>this a b h
 ·exact fun h=>by rw[h]
theorem asF (a b:Str):decide (V.str a=V.str b)=decide (a=b):=by
 by_cases h:a=b
 ·rw[h];simp
 ·rw[decide_eq_false h];exact decide_eq_false fun e=>h (V.str.inj e)
theorem anp (a b:Kd):decide (V.str a.str=V.str b.str)=decide (a=b):=by
 rw[asF];exact decide_eq_decide.mpr str_inj
theorem aw0 (a b:Option Kd):decide (V.str (z9 a)=V.str (z9 b))=decide (a=b):=by
 rw[asF];exact decide_eq_decide.mpr ahZ
theorem o_G (o:Option Kd):decide (V.str (z9 o)=V.str "G")=decide (o=some .G):=aw0 o (some .G)
theorem k_G (k:Kd):decide (V.str k.str=V.str "G")=decide (k=.G):=anp k .G
theorem k_D (k:Kd):decide (V.str k.str=V.str "D")=decide (k=.D):=anp k .D
theorem o_s (o:Option Kd):decide (V.str (z9 o)=V.str "s")=decide (o=some .s):=aw0 o (some .s)
theorem k_s (k:Kd):decide (V.str k.str=V.str "s")=decide (k=.s):=anp k .s
theorem aw1 (k:Kd):decide (V.str k.str=V.str ".")=decide (k=.dot):=anp k .dot
theorem aeG (k:Kd):decide (V.str k.str=V.str "3")=decide (k=.three):=anp k .three
theorem aqn (k:Kd):decide (V.str k.str=V.str "2")=decide (k=.two):=anp k .two
def ajM (H:Hp)(v:V)(s:Sg):Prop:=∃ p,v=.ref p/\H p=some (.tup [.str s.1.str,.int s.2])
theorem ajM.same {H H':Hp}{v:V}{s:Sg}(e:aB H H')(h:ajM H v s):ajM H' v s:=by
 obtain⟨p,rfl,q⟩:=h
 exact⟨p,rfl,e _ _ q⟩
abbrev nP (H:Hp):List V->List Sg->Prop:=Paired (ajM H)
theorem nP.same {H H':Hp}(e:aB H H'):∀ {xs:List V} {ss:List Sg},nP H xs ss->nP H' xs ss
 | _,_,.nil=>.nil
 | _,_,.cons a b=>.cons (a.same e) (nP.same e b)
theorem wu {α β:Type}{F:α->β->Prop}:∀ {xs:List α} {ys:List β} {i:Nat} {x:α},Paired F xs ys->xs[i]? = some x->∃ y,ys[i]? = some y/\F x y
 | _,_,_,_,.nil,e=>by simp at e
 | _,_,0,_,.cons r _,e=>by simp at e;subst e;exact⟨_,rfl,r⟩
 | _,_,i+1,x,.cons _ t,e=>by
  obtain⟨u,h1,h2⟩:=wu (i:=i) (x:=x) t (by simpa using e)
  exact⟨u,by simpa using h1,h2⟩
theorem Hj {α β:Type}{F:α->β->Prop}:∀ {xs:List α} {ys:List β} {i:Nat} {y:β},Paired F xs ys->ys[i]? = some y->∃ x,xs[i]? = some x/\F x y
 | _,_,_,_,.nil,e=>by simp at e
 | _,_,0,_,.cons r _,e=>by simp at e;subst e;exact⟨_,rfl,r⟩
 | _,_,i+1,x,.cons _ t,e=>by
  obtain⟨u,h1,h2⟩:=Hj (i:=i) t (by simpa using e)
  exact⟨u,by simpa using h1,h2⟩
theorem bZ {α β:Type}{F:α->β->Prop}{xs:List α}{ys:List β}(h:Paired F xs ys):xs.length=ys.length:=Paired.length h
theorem oF {α β:Type}{F:α->β->Prop}:∀ {xs:List α} {ys:List β} {x:α} {y:β},Paired F xs ys->F x y->Paired F (xs++[x]) (ys++[y])
 | _,_,_,_,.nil,h=>.cons h .nil
 | _,_,_,_,.cons a b,h=>.cons a (oF b h)
theorem M7 {α β:Type}{F:α->β->Prop}:∀ {xs:List α} {ys:List β} {xs':List α} {ys':List β},Paired F xs ys->Paired F xs' ys'->Paired F (xs++xs') (ys++ys')
 | _,_,_,_,.nil,h=>h
 | _,_,_,_,.cons a b,h=>.cons a (M7 b h)
theorem ZM {α β:Type}{F:α->β->Prop}:∀ {xs:List α} {ys:List β} (n:Nat),Paired F xs ys->Paired F (xs.drop n) (ys.drop n)
 | _,_,0,h=>h
 | _,_,n+1,.nil=>.nil
 | _,_,n+1,.cons a b=>ZM n b
theorem XF {α β:Type}{F:α->β->Prop}:∀ {xs:List α} {ys:List β} (n:Nat),Paired F xs ys->Paired F (xs.take n) (ys.take n)
 | _,_,0,h=>.nil
 | _,_,n+1,.nil=>.nil
 | _,_,n+1,.cons a b=>.cons a (XF n b)
theorem bV {α β:Type}{F G:α->β->Prop}(h:∀ x y,F x y->G x y):∀ {xs:List α} {ys:List β},Paired F xs ys->Paired G xs ys
 | _,_,.nil=>.nil
 | _,_,.cons a b=>.cons (h _ _ a) (bV h b)
theorem dD {H0 H:Hp}{l:Addr}{o:HO}(s:aB H0 H)(hl:H0 l=none):aB H0 (upd H l o):=fun b u e=>by
 rw[aA (aC e hl)]
 exact s b u e
theorem ah0 {H:Hp}{D:Addr}{o:HO}{zs:List V}{v:V}{s:Sg}(hD:H D=some (.lst zs))(h:ajM H v s):ajM (upd H D o) v s:=by
 obtain⟨p,e,q⟩:=h
 exact⟨p,e,by rw[aA (vH q hD (by intro z;cases z))];exact q⟩
theorem aeH {H:Hp}{D:Addr}{o:HO}{zs:List V}{xs:List V}{ss:List Sg}(hD:H D=some (.lst zs))(h:nP H xs ss):nP (upd H D o) xs ss:=bV (fun _ _ q=>ah0 hD q) h
theorem M8 {ms:List Int}{i:Nat}{x:V}(h:(ms.map V.int)[i]? = some x):∃ z,ms[i]? = some z/\x=V.int z:=by
 rw[List.getElem?_map] at h
 cases e:ms[i]? with
 | none=>rw[e] at h;cases h
 | some z=>rw[e] at h;exact⟨z,rfl,(Option.some.inj h).symm⟩
section
variable {K:Frag} {H:Hp} {p:Addr} {Q:VK}
theorem ix0 {a b:V}(h:H p=some (.tup [a,b]))(q:Q a H):ahK K (.ref p) (.int 0) H Q∨ahL K (.ref p) (.int 0) H Q∨ahM (.ref p) (.int 0) H Q:=.inr (.inl ⟨p,_,0,a,rfl,rfl,nJ.of h,rfl,q⟩)
theorem ix1 {a b:V}(h:H p=some (.tup [a,b]))(q:Q b H):ahK K (.ref p) (.int 1) H Q∨ahL K (.ref p) (.int 1) H Q∨ahM (.ref p) (.int 1) H Q:=.inr (.inl ⟨p,_,1,b,rfl,rfl,nJ.of h,rfl,q⟩)
theorem ixL {xs:List V}{i:Int}{n:Nat}{v:V}(h:bh K H p xs)(hn:i=n)(e:xs[n]? = some v)(q:Q v H):ahK K (.ref p) (.int i) H Q∨ahL K (.ref p) (.int i) H Q∨ahM (.ref p) (.int i) H Q:=.inl ⟨p,xs,i,v,rfl,rfl,h,by rw[hn];exact QG e,q⟩
theorem acI {xs:List V}{ss:List Sg}{i:Int}{n:Nat}{s:Sg}(h:bh K H p xs)(g:nP H xs ss)(hn:i=n)(e:ss[n]? = some s)(q:∀ b,H b=some (.tup [.str s.1.str,.int s.2])->Q (.ref b) H) :
  ahK K (.ref p) (.int i) H Q∨ahL K (.ref p) (.int i) H Q∨ahM (.ref p) (.int i) H Q:=by
 obtain⟨x,hx,b,rfl,hb⟩:=Hj g e
 exact ixL h hn hx (q b hb)
theorem aqo {ns:List Int}{i:Int}{n:Nat}{z:Int}(h:bh K H p (ns.map V.int))(hn:i=n)(e:ns[n]? = some z)(q:Q (.int z) H):ahK K (.ref p) (.int i) H Q∨ahL K (.ref p) (.int i) H Q∨ahM (.ref p) (.int i) H Q :=
 ixL h hn (by rw[List.getElem?_map,e];rfl) q
end
set_option maxHeartbeats 1000000
def nm (m:Int):Kd->Int
 | .three=>3
 | .two=>2
 | _=>m
def Ms (m:Int):Prop:=m=3∨m=2
theorem Ms.nm {m:Int}(h:Ms m)(k:Kd):Ms (nm m k):=by
 cases k <;> first | exact h | exact .inl rfl | exact .inr rfl
def lG (m:Int):List Kd->List Int
 | []=>[]
 | k :: t=>nm m k :: lG (nm m k) t
theorem Uo (m:Int)(ks:List Kd):(lG m ks).length=ks.length:=by
 induction ks generalizing m with
 | nil=>rfl
 | cons k t ih=>simp[lG,ih]
def pw:Kd->Int->Int
 | .G,m=>if m=2 then 2 else 3
 | .R,m=>if m=2 then 2 else 3
 | .D,_=>2
 | .s,_=>1
 | .d,_=>1
 | .r,_=>1
 | _,_=>0
def bw (m:Int)(k:Kd)(n:Option Kd):Int:=if m=2/\k=.G/\n=some .dot then 3 else pw k m
def lH (m:Int):List Kd->List Int
 | []=>[]
 | k :: t=>bw (nm m k) k t.head? :: lH (nm m k) t
def M9:List Kd->List Int->List Int
 | k :: t,m :: ms=>bw m k t.head? :: M9 t ms
 | _,_=>[]
theorem ah1 (m:Int)(ks:List Kd):M9 ks (lG m ks)=lH m ks:=by
 induction ks generalizing m with
 | nil=>rfl
 | cons k t ih=>simp[lG,M9,lH,ih]
theorem Dk (m:Int)(ks:List Kd):(lH m ks).length=ks.length:=by
 induction ks generalizing m with
 | nil=>rfl
 | cons k t ih=>simp[lH,ih]
def inR (m:Int)(k:Kd):Bool:=decide (m≠2) && k.small
def oG (m:Int):List Kd->List Bool
 | []=>[]
 | k :: t=>inR (nm m k) k :: oG (nm m k) t
theorem yF (m:Int)(ks:List Kd):(oG m ks).length=ks.length:=by
 induction ks generalizing m with
 | nil=>rfl
 | cons k t ih=>simp[oG,ih]
def ah2:List Kd->List Int->List Bool
 | k :: t,m :: ms=>inR m k :: ah2 t ms
 | _,_=>[]
theorem ajN (m:Int)(ks:List Kd):ah2 ks (lG m ks)=oG m ks:=by
 induction ks generalizing m with
 | nil=>rfl
 | cons k t ih=>simp[lG,ah2,oG,ih]
def gU (at' first:Nat):List Bool->List (Nat×Nat)
 | []=>if first < at' then [(first,at')] else []
 | true :: t=>gU (at'+1) first t
 | false :: t=>(if first < at' then [(first,at')] else [])++gU (at'+1) (at'+1) t
def Hk (m:Int)(ks:List Kd):List (Nat×Nat):=gU 0 0 (oG m ks)
def kAt (ks:List Kd)(i:Int):Option Kd:=if 0 <= i then ks[i.toNat]? else none
theorem Aa (ks:List Kd)(n:Nat):kAt ks (n:Int)=ks[n]?:=by
 unfold kAt
 rw[if_pos (by omega)]
 rfl
def BR:Option Kd->Bool
 | some k=>k.great
 | none=>false
def oH (ks:List Kd)(f:List Int)(a:Nat):Bool:=decide (kAt ks ((a:Int) - 1)=some .G) && decide (f.getD (a - 1) 0=3)
def jJ (ks:List Kd)(z:Nat):Bool:=decide (ks[z]? = some .G) && !BR ks[z+1]?
def Lf (ks:List Kd)(f:List Int)(a z:Nat):Bool×List Int:=if oH ks f a then (true,f.set (a - 1) 2) else if jJ ks z then (true,f.set z 2) else (false,f)
def Lg (ks:List Kd)(f:List Int)(a z:Nat):Bool×List Int:=if BR ks[z]? && decide (ks[z - 1]? = some .s) then (true,f.set (z - 1) 2) else if oH ks f a && jJ ks z then (true,(f.set (a - 1) 2).set z 2) else (false,f)
def settle (ks:List Kd)(f:List Int)(a z:Nat):Bool×List Int:=if (z - a) % 3=1 then Lf ks f a z else if (z - a) % 3=2 then Lg ks f a z else (true,f)
theorem Nb (ks:List Kd)(f:List Int)(a z:Nat):(settle ks f a z).2.length=f.length:=by
 unfold settle Lf Lg
 repeat' split
 all_goals simp
abbrev RdS:=List Int×List (Nat×Nat)
def yG (ks:List Kd)(c:RdS)(p:Nat×Nat):RdS:=((settle ks c.1 p.1 p.2).2,if (settle ks c.1 p.1 p.2).1 then c.2 else c.2++[p])
def oJ (m:Int)(ks:List Kd):RdS:=(Hk m ks).foldl (yG ks) (lH m ks,[])
theorem aqp (ks:List Kd)(rs:List (Nat×Nat))(c:RdS):(rs.foldl (yG ks) c).1.length=c.1.length:=by
 induction rs generalizing c with
 | nil=>rfl
 | cons p t ih=>rw[List.foldl_cons,ih];exact Nb ..
theorem yg (m:Int)(ks:List Kd):(oJ m ks).1.length=ks.length:=by
 unfold oJ
 rw[aqp,Dk]
theorem ZP:∀ (bs:List Bool) (at' first:Nat),first <= at'->∀ p∈gU at' first bs,first <= p.1/\p.1 < p.2/\p.2 <= at'+bs.length
 | [],at',first,h,p,hp=>by
  unfold gU at hp
  split at hp
  ·have:p=(first,at'):=by simpa using hp
   subst this
   exact⟨Nat.le_refl _,by assumption,by simp⟩
  ·cases hp
 | true :: t,at',first,h,p,hp=>by
  have:=ZP t (at'+1) first (by omega) p hp
  simp only [List.length_cons]
  omega
 | false :: t,at',first,h,p,hp=>by
  unfold gU at hp
  simp only [List.length_cons]
  rcases List.mem_append.mp hp with hp | hp
  ·split at hp
   ·have:p=(first,at'):=by simpa using hp
    subst this
    exact⟨Nat.le_refl _,by assumption,by simp⟩
   ·cases hp
  ·have:=ZP t (at'+1) (at'+1) (Nat.le_refl _) p hp
   omega
theorem aqq (m:Int)(ks:List Kd):∀ p∈Hk m ks,p.1 < p.2/\p.2 <= ks.length:=by
 intro p hp
 have:=ZP (oG m ks) 0 0 (Nat.le_refl _) p hp
 rw[yF] at this
 omega
theorem vI:∀ (bs:List Bool) (at' first:Nat),(gU at' first bs).length <= bs.length+1
 | [],at',first=>by unfold gU;split <;> simp
 | true :: t,at',first=>by
  unfold gU
  have:=vI t (at'+1) first
  simp only [List.length_cons];omega
 | false :: t,at',first=>by
  unfold gU
  have:=vI t (at'+1) (at'+1)
  simp only [List.length_cons,List.length_append]
  split <;> simp <;> omega
def anq (H:Hp)(v:V)(q:Nat×Nat):Prop:=∃ p,v=.ref p/\H p=some (.tup [.int (q.1:Int),.int (q.2:Int)])
abbrev Prs (H:Hp):List V->List (Nat×Nat)->Prop:=Paired (anq H)
theorem anq.same {H H':Hp}{v:V}{q:Nat×Nat}(e:aB H H')(h:anq H v q):anq H' v q:=by
 obtain⟨p,rfl,z⟩:=h
 exact⟨p,rfl,e _ _ z⟩
theorem Ab {H H':Hp}(e:aB H H'){xs:List V}{qs:List (Nat×Nat)}(h:Prs H xs qs):Prs H' xs qs:=bV (fun _ _ z=>z.same e) h
theorem ah3 {H:Hp}{D:Addr}{o:HO}{zs:List V}{v:V}{q:Nat×Nat}(hD:H D=some (.lst zs))(h:anq H v q):anq (upd H D o) v q:=by
 obtain⟨p,e,z⟩:=h
 exact⟨p,e,by rw[aA (vH z hD (by intro z;cases z))];exact z⟩
theorem yH {H:Hp}{D:Addr}{o:HO}{zs:List V}{xs:List V}{qs:List (Nat×Nat)}(hD:H D=some (.lst zs))(h:Prs H xs qs):Prs (upd H D o) xs qs:=bV (fun _ _ q=>ah3 hD q) h
theorem QT {H:Hp}{a:Addr}{o:HO}(h:H a=some o):upd H a o=H:=by
 funext b
 unfold upd
 split
 ·rename_i e;rw[e,h]
 ·rfl
theorem Up {ks:List Kd}{f:List Int}{a:Nat}(h:oH ks f a=true):1 <= a/\a - 1 < ks.length:=by
 unfold oH at h
 have h1:=of_decide_eq_true (Bool.and_eq_true_iff.mp h).1
 unfold kAt at h1
 split at h1
 ·have:=(List.getElem?_eq_some_iff.mp h1).1
  omega
 ·cases h1
theorem Nf {ks:List Kd}{z:Nat}(h:jJ ks z=true):z < ks.length:=by
 unfold jJ at h
 have h1:=of_decide_eq_true (Bool.and_eq_true_iff.mp h).1
 exact (List.getElem?_eq_some_iff.mp h1).1
theorem Ac {n:Nat}{i:Int}{j:Nat}(e:i=j)(h:j < n):ixN n i=some j:=by
 unfold ixN
 subst e
 rw[if_pos (by omega),if_pos (by omega)]
 rfl
theorem xO {α:Type}{l:List α}{i:Nat}{x:α}(h:l[i]? = some x):l.drop i=x :: l.drop (i+1):=by
 obtain⟨hi,e⟩:=List.getElem?_eq_some_iff.mp h
 rw[List.drop_eq_getElem_cons hi,e]
theorem HY {α β:Type}{l:List α}{f:α->β}{i:Nat}{x:α}(h:l[i]? = some x):(l.map f)[i]? = some (f x):=by rw[List.getElem?_map,h];rfl
abbrev cu (ss:List Sg):List Kd:=ss.map Prod.fst
theorem vm {fs:List Int}{j:Nat}{v:Int}:(fs.map V.int).set j (V.int v)=(fs.set j v).map V.int:=by rw[List.map_set]
theorem big {n:Nat}(h:n <= 1000):n <= sizeLine:=Nat.le_of_lt (bc h)
theorem head_drop {α:Type}(l:List α)(i:Nat):(l.drop i).head? = l[i]?:=by
 rw[List.head?_drop]
def ph (m:Int):List Kd->List Bool
 | []=>[]
 | k :: t=>decide (nm m k=3) :: ph (nm m k) t
theorem ajP (m:Int)(ks:List Kd):(ph m ks).length=ks.length:=by
 induction ks generalizing m with
 | nil=>rfl
 | cons k t ih=>simp[ph,ih]
def lead:List Bool->Nat
 | true :: t=>lead t+1
 | _=>0
theorem amk:∀ bs:List Bool,lead bs <= bs.length
 | []=>Nat.le_refl _
 | true :: t=>by simp only [lead,List.length_cons];have:=amk t;omega
 | false :: t=>Nat.zero_le _
theorem ZQ:∀ (bs:List Bool) (at' first:Nat),first < at'+lead bs∨lead bs=0->first <= at'->gU at' first bs=(if first < at'+lead bs then [(first,at'+lead bs)] else [])++gU (at'+lead bs) (at'+lead bs) (bs.drop (lead bs))
 | [],at',first,_,h=>by
  show (if first < at' then [(first,at')] else [])=(if first < at' then [(first,at')] else [])++gU at' at' []
  rw[show gU at' at' []=[] by unfold gU;rw[if_neg (Nat.lt_irrefl _)],List.append_nil]
 | true :: t,at',first,h0,h=>by
  have ih:=ZQ t (at'+1) first (.inl (by omega)) (by omega)
  have e:at'+1+lead t=at'+(lead t+1):=by omega
  rw[e] at ih
  simp only [gU,lead,List.drop_succ_cons]
  exact ih
 | false :: t,at',first,_,h=>by
  show (if first < at' then [(first,at')] else [])++gU (at'+1) (at'+1) t=(if first < at' then [(first,at')] else [])++((if at' < at' then [(at',at')] else [])++gU (at'+1) (at'+1) t)
  rw[if_neg (Nat.lt_irrefl at'),List.nil_append]
theorem aml {m:Int}(h:Ms m):∀ (ks:List Kd) (i:Nat) (k:Kd),ks[i]? = some k->∃ b,(ph m ks)[i]? = some b/\(oG m ks)[i]? = some (k.small && b)
 | [],i,k,e=>by simp at e
 | c :: t,0,k,e=>by
  have:c=k:=by simpa using e
  subst this
  refine⟨decide (nm m c=3),rfl,?_⟩
  simp only [oG,List.getElem?_cons_zero,inR]
  have hm:=h.nm c
  rcases hm with e | e <;> rw[e] <;> cases c <;> rfl
 | c :: t,i+1,k,e=>by
  obtain⟨b,h1,h2⟩:=aml (h.nm c) t i k (by simpa using e)
  exact⟨b,by simpa [ph] using h1,by simpa [oG] using h2⟩
theorem amm:∀ (bs:List Bool) (j:Nat),j <= lead bs->(j < lead bs ↔ bs[j]? = some true)
 | [],j,h=>by simp[lead]
 | true :: t,0,h=>by simp[lead]
 | true :: t,j+1,h=>by
  have:=amm t j (by simp only [lead] at h;omega)
  simp only [lead,List.getElem?_cons_succ]
  rw[← this]
  omega
 | false :: t,j,h=>by
  have:j=0:=by simp only [lead] at h;omega
  subst this
  simp[lead]
theorem au3 {m:Int}{ks:List Kd}{low j:Nat}:((oG m ks).drop low)[j]? = (oG m ks)[low+j]?:=by rw[List.getElem?_drop]
set_option maxHeartbeats 1000000
theorem amn (xs:List V)(n:Nat):MT xs none (some (n:Int))=xs.take n:=by
 unfold MT
 have e:HT.tD xs.length xs.length (some (n:Int))=min n xs.length:=HT.al3 xs.length xs.length n
 rw[HT.Zu,e,Nat.sub_zero,List.drop_zero]
 rcases Nat.le_total n xs.length with h | h
 ·rw[Nat.min_eq_left h]
 ·rw[Nat.min_eq_right h,List.take_length,List.take_of_length_le h]
theorem Zc (xs:List V)(n:Nat)(h:n <= xs.length):MT xs (some (n:Int)) none=xs.drop n:=by
 unfold MT
 have e:HT.tD xs.length 0 (some (n:Int))=min n xs.length:=HT.al3 xs.length 0 n
 rw[HT.Zu,e,Nat.min_eq_left h]
 exact List.take_of_length_le (by rw[List.length_drop];omega)
theorem aw2 {K:Frag}{H:Hp}{p p2:Addr}{s:Sg}(n:Nat)(h1:H p=some (.tup [.str s.1.str,.int s.2]))(h2:H p2=some (.tup [.str s.1.str,.int s.2])):Deq K H (n+1) (.ref p) (.ref p2):=by
 refine .tup (nJ.of h1) (nJ.of h2) rfl fun i x y e1 e2=>?_
 have e:x=y:=Option.some.inj (e1.symm.trans e2)
 subst e
 match i,e1 with
 | 0,e1=>cases e1;exact .flat rfl
 | 1,e1=>cases e1;exact .flat rfl
 | n+2,e1=>simp at e1
def PrI (H:Hp)(v:V)(q:Int×Int):Prop:=∃ p,v=.ref p/\H p=some (.tup [.int q.1,.int q.2])
abbrev aBX (H:Hp):List V->List (Int×Int)->Prop:=Paired (PrI H)
structure aza (H0 H:Hp)(l:Addr)(xs:List V)(ss:List Sg):Prop where
 same:aB H0 H
 new:H0 l=none
 at':H l=some (.lst xs)
 sg:nP H xs ss
def ZR (K:Frag):Sp:=fun vs H Q _=>∃ (a:Addr) (ns:List Int),vs=[.ref a]/\bh K H a (ns.map V.int)/\ns.length <= 63/\∀ H',Q (.bl true) H'
theorem anr {K:Frag}{H:Hp}{a:Addr}{ns:List Int}(hl:ns.length <= 63)(_:Only H)(hS:bh K H a (ns.map V.int)):ZR K [.ref a] H (fun v _=>v=.bl true) fun _ _ _=>False :=
 ⟨a,ns,rfl,hS,hl,fun _=>rfl⟩
set_option maxHeartbeats 1000000
theorem BV {k:Str}{v:V}{r:List (Str×V)}:((k,v) :: r).lookup k=some v:=by simp[List.lookup]
theorem aW {k g:Str}{v:V}{r:List (Str×V)}(h:¬ g=k):((k,v) :: r).lookup g=r.lookup g:=by
 have:(g == k)=false:=beq_eq_false_iff_ne.mpr h
 simp[List.lookup,this]
theorem oV {k g:Str}{x y:V}{r:List (Str×V)}(h:¬ g=k):tE k y ((g,x) :: r)=(g,x) :: tE k y r:=if_neg h
def voF (n:Str)(tm:V)(L:Addr):List (Str×V):=[("name",V.str n),("terms",tm),("signs",V.ref L)]
theorem ah4 (n:Str)(tm:V)(L:Addr):(voF n tm L).lookup ("name":Str)=some (V.str n):=BV
theorem adO (n:Str)(tm:V)(L:Addr):(voF n tm L).lookup ("terms":Str)=some (tm):=(aW (by decide +kernel)).trans (BV)
theorem Dl (n:Str)(tm:V)(L:Addr):(voF n tm L).lookup ("signs":Str)=some (V.ref L):=(aW (by decide +kernel)).trans ((aW (by decide +kernel)).trans (BV))
theorem aeJ (v0:V):tE "name" v0 ([]:List (Str×V))=([("name",v0)]:List (Str×V)):=rfl
theorem amo (v0 v1:V):tE "terms" v1 ([("name",v0)]:List (Str×V))=([("name",v0),("terms",v1)]:List (Str×V)):=(oV (by decide +kernel)).trans (congrArg _ (rfl))
theorem asH (v0 v1 v2:V):tE "signs" v2 ([("name",v0),("terms",v1)]:List (Str×V))=([("name",v0),("terms",v1),("signs",v2)]:List (Str×V)):=(oV (by decide +kernel)).trans (congrArg _ ((oV (by decide +kernel)).trans (congrArg _ (rfl))))
def ZS (T:Addr)(at_:Int)(B A:Addr):List (Str×V):=[("things",V.ref T),("at",V.int at_),("before",V.ref B),("after",V.ref A)]
theorem ZV (T:Addr)(at_:Int)(B A:Addr):(ZS T at_ B A).lookup ("things":Str)=some (V.ref T):=BV
theorem aeK (T:Addr)(at_:Int)(B A:Addr):(ZS T at_ B A).lookup ("at":Str)=some (V.int at_):=(aW (by decide +kernel)).trans (BV)
theorem ZW (T:Addr)(at_:Int)(B A:Addr):(ZS T at_ B A).lookup ("before":Str)=some (V.ref B):=(aW (by decide +kernel)).trans ((aW (by decide +kernel)).trans (BV))
theorem adP (T:Addr)(at_:Int)(B A:Addr):(ZS T at_ B A).lookup ("after":Str)=some (V.ref A):=(aW (by decide +kernel)).trans ((aW (by decide +kernel)).trans ((aW (by decide +kernel)).trans (BV)))
theorem adQ (T:Addr)(at_:Int)(B A:Addr):(ZS T at_ B A).lookup ("do":Str)=none:=(aW (by decide +kernel)).trans ((aW (by decide +kernel)).trans ((aW (by decide +kernel)).trans ((aW (by decide +kernel)).trans (rfl))))
theorem ah5 (T:Addr)(at_:Int)(B A:Addr):(ZS T at_ B A).lookup ("undo":Str)=none:=(aW (by decide +kernel)).trans ((aW (by decide +kernel)).trans ((aW (by decide +kernel)).trans ((aW (by decide +kernel)).trans (rfl))))
theorem Zd (v0:V):tE "things" v0 ([]:List (Str×V))=([("things",v0)]:List (Str×V)):=rfl
theorem aeL (v0 v1:V):tE "at" v1 ([("things",v0)]:List (Str×V))=([("things",v0),("at",v1)]:List (Str×V)):=(oV (by decide +kernel)).trans (congrArg _ (rfl))
theorem amq (v0 v1 v2:V):tE "before" v2 ([("things",v0),("at",v1)]:List (Str×V))=([("things",v0),("at",v1),("before",v2)]:List (Str×V)):=(oV (by decide +kernel)).trans (congrArg _ ((oV (by decide +kernel)).trans (congrArg _ (rfl))))
theorem asI (v0 v1 v2 v3:V):tE "after" v3 ([("things",v0),("at",v1),("before",v2)]:List (Str×V))=([("things",v0),("at",v1),("before",v2),("after",v3)]:List (Str×V)):=(oV (by decide +kernel)).trans (congrArg _ ((oV (by decide +kernel)).trans (congrArg _ ((oV (by decide +kernel)).trans (congrArg _ (rfl))))))
def QV (V_ D U:Addr):List (Str×V):=[("voices",V.ref V_),("done",V.ref D),("undone",V.ref U)]
theorem yI (V_ D U:Addr):(QV V_ D U).lookup ("voices":Str)=some (V.ref V_):=BV
theorem QW (V_ D U:Addr):(QV V_ D U).lookup ("done":Str)=some (V.ref D):=(aW (by decide +kernel)).trans (BV)
theorem Er (V_ D U:Addr):(QV V_ D U).lookup ("undone":Str)=some (V.ref U):=(aW (by decide +kernel)).trans ((aW (by decide +kernel)).trans (BV))
theorem Dp (V_ D U:Addr):(QV V_ D U).lookup ("add_voice":Str)=none:=(aW (by decide +kernel)).trans ((aW (by decide +kernel)).trans ((aW (by decide +kernel)).trans (rfl)))
theorem Uq (V_ D U:Addr):(QV V_ D U).lookup ("add_canon":Str)=none:=(aW (by decide +kernel)).trans ((aW (by decide +kernel)).trans ((aW (by decide +kernel)).trans (rfl)))
theorem ZX (V_ D U:Addr):(QV V_ D U).lookup ("put":Str)=none:=(aW (by decide +kernel)).trans ((aW (by decide +kernel)).trans ((aW (by decide +kernel)).trans (rfl)))
theorem ajQ (V_ D U:Addr):(QV V_ D U).lookup ("cut":Str)=none:=(aW (by decide +kernel)).trans ((aW (by decide +kernel)).trans ((aW (by decide +kernel)).trans (rfl)))
theorem ah6 (V_ D U:Addr):(QV V_ D U).lookup ("swap":Str)=none:=(aW (by decide +kernel)).trans ((aW (by decide +kernel)).trans ((aW (by decide +kernel)).trans (rfl)))
theorem vJ (V_ D U:Addr):(QV V_ D U).lookup ("undo":Str)=none:=(aW (by decide +kernel)).trans ((aW (by decide +kernel)).trans ((aW (by decide +kernel)).trans (rfl)))
theorem XH (V_ D U:Addr):(QV V_ D U).lookup ("redo":Str)=none:=(aW (by decide +kernel)).trans ((aW (by decide +kernel)).trans ((aW (by decide +kernel)).trans (rfl)))
theorem qy (V_ D U:Addr):(QV V_ D U).lookup ("names":Str)=none:=(aW (by decide +kernel)).trans ((aW (by decide +kernel)).trans ((aW (by decide +kernel)).trans (rfl)))
theorem vK (V_ D U:Addr):(QV V_ D U).lookup ("line":Str)=none:=(aW (by decide +kernel)).trans ((aW (by decide +kernel)).trans ((aW (by decide +kernel)).trans (rfl)))
theorem Ia (V_ D U:Addr):(QV V_ D U).lookup ("kept":Str)=none:=(aW (by decide +kernel)).trans ((aW (by decide +kernel)).trans ((aW (by decide +kernel)).trans (rfl)))
theorem qz (V_ D U:Addr):(QV V_ D U).lookup ("canon":Str)=none:=(aW (by decide +kernel)).trans ((aW (by decide +kernel)).trans ((aW (by decide +kernel)).trans (rfl)))
theorem qC (V_ D U:Addr):(QV V_ D U).lookup ("perform":Str)=none:=(aW (by decide +kernel)).trans ((aW (by decide +kernel)).trans ((aW (by decide +kernel)).trans (rfl)))
theorem Ml (V_ D U:Addr):(QV V_ D U).lookup ("put_in":Str)=none:=(aW (by decide +kernel)).trans ((aW (by decide +kernel)).trans ((aW (by decide +kernel)).trans (rfl)))
theorem Ad (V_ D U:Addr):(QV V_ D U).lookup ("refuse_new":Str)=none:=(aW (by decide +kernel)).trans ((aW (by decide +kernel)).trans ((aW (by decide +kernel)).trans (rfl)))
theorem je (V_ D U:Addr):(QV V_ D U).lookup ("voice_called":Str)=none:=(aW (by decide +kernel)).trans ((aW (by decide +kernel)).trans ((aW (by decide +kernel)).trans (rfl)))
theorem jK (V_ D U:Addr):(QV V_ D U).lookup ("plain_voice":Str)=none:=(aW (by decide +kernel)).trans ((aW (by decide +kernel)).trans ((aW (by decide +kernel)).trans (rfl)))
theorem aeM (v0:V):tE "voices" v0 ([]:List (Str×V))=([("voices",v0)]:List (Str×V)):=rfl
theorem amr (v0 v1:V):tE "done" v1 ([("voices",v0)]:List (Str×V))=([("voices",v0),("done",v1)]:List (Str×V)):=(oV (by decide +kernel)).trans (congrArg _ (rfl))
theorem asJ (v0 v1 v2:V):tE "undone" v2 ([("voices",v0),("done",v1)]:List (Str×V))=([("voices",v0),("done",v1),("undone",v2)]:List (Str×V)):=(oV (by decide +kernel)).trans (congrArg _ ((oV (by decide +kernel)).trans (congrArg _ (rfl))))
set_option maxHeartbeats 1000000
theorem Ng {a b:TS}{D:Ends}{σ:St}{H:Hp}(h:∀ N:St->Hp->Prop,(∀ σ H,b D σ H->N σ H)->a { D with nx:=N } σ H):awi a b D σ H:=h (b D) fun _ _ z=>z
structure Vx where
 o:Addr
 d:Addr
 n:Str
 tm:V
 l:Addr
def asK (C:Addr)(H:Hp)(v:V)(a:Vx):Prop:=v=.ref a.o/\H a.o=some (.ins C a.d (voF a.n a.tm a.l))
structure Dd where
 o:Addr
 d:Addr
 T:Addr
 i:Nat
 B:Addr
 A:Addr
 bs:List V
 as:List V
def xP (C:Addr)(H:Hp)(v:V)(e:Dd):Prop:=v=.ref e.o/\H e.o=some (.ins C e.d (ZS e.T (e.i:Int) e.B e.A))/\H e.B=some (.lst e.bs)/\H e.A=some (.lst e.as)
abbrev MM:=Addr->List V
def putAt (S:MM)(T:Addr)(zs:List V):MM:=fun b=>if b=T then zs else S b
theorem jL {S:MM}{T:Addr}{zs:List V}:putAt S T zs T=zs:=if_pos rfl
theorem yJ {S:MM}{T b:Addr}{zs:List V}(h:b≠T):putAt S T zs b=S b:=if_neg h
def Lz (e:Dd)(S:MM):MM:=putAt S e.T ((S e.T).take e.i++e.as++(S e.T).drop (e.i+e.bs.length))
def unD (e:Dd)(S:MM):MM:=putAt S e.T ((S e.T).take e.i++e.bs++(S e.T).drop (e.i+e.as.length))
def Fits (e:Dd)(S:MM):Prop:=e.i+e.bs.length <= (S e.T).length/\((S e.T).drop e.i).take e.bs.length=e.bs
theorem aw3 {α:Type}{xs bs as:List α}{i:Nat}(h:i+bs.length <= xs.length):(xs.take i++as++xs.drop (i+bs.length)).take i=xs.take i/\(xs.take i++as++xs.drop (i+bs.length)).drop (i+as.length)=xs.drop (i+bs.length):=by
 have h1:(xs.take i).length=i:=by rw[List.length_take];omega
 constructor
 ·rw[List.append_assoc]
  exact List.take_left' h1
 ·exact List.drop_left' (by rw[List.length_append,h1])
theorem aw4 {e:Dd}{S:MM}(h:Fits e S):unD e (Lz e S)=S:=by
 funext b
 unfold unD
 by_cases hb:b=e.T
 ·subst hb
  rw[jL]
  unfold Lz
  rw[jL,(aw3 h.1).1,(aw3 h.1).2]
  have h2:e.bs++(S e.T).drop (e.i+e.bs.length)=(S e.T).drop e.i:=by
   rw[← List.drop_drop]
   have:=List.take_append_drop e.bs.length ((S e.T).drop e.i)
   rw[h.2] at this
   exact this
  rw[List.append_assoc,h2,List.take_append_drop]
 ·rw[yJ hb]
  unfold Lz
  rw[yJ hb]
theorem asL {e:Dd}{S:MM}(h:Fits e S):e.i+e.as.length <= (Lz e S e.T).length:=by
 unfold Lz
 rw[jL,List.length_append,List.length_append,List.length_take]
 have:=h.1
 omega
inductive Path:List MM->List Dd->MM->Prop
 | nil {M:MM}:Path [] [] M
 | snoc {Ps:List MM} {es:List Dd} {S:MM} {e:Dd}:Path Ps es S->Fits e S->Path (Ps++[S]) (es++[e]) (Lz e S)
inductive Fut:MM->List Dd->List MM->Prop
 | nil {M:MM}:Fut M [] []
 | snoc {M:MM} {us:List Dd} {Fs:List MM} {e:Dd}:Fits e M->Fut (Lz e M) us Fs->Fut M (us++[e]) (Fs++[Lz e M])
theorem qD {α:Type}{a b:List α}{x y:α}(h:a++[x]=b++[y]):a=b/\x=y:=by
 have:=List.append_inj' h rfl
 exact⟨this.1,by simpa using this.2⟩
theorem Path.last {Ps:List MM}{es:List Dd}{e:Dd}{M:MM}(h:Path Ps (es++[e]) M):∃ Ps' S,Ps=Ps'++[S]/\Path Ps' es S/\Fits e S/\M=Lz e S:=by
 generalize he:es++[e]=es' at h
 cases h with
 | nil=>simp at he
 | snoc p f =>
  obtain⟨rfl,rfl⟩:=qD he
  exact⟨_,_,rfl,p,f,rfl⟩
theorem Fut.last {us:List Dd}{e:Dd}{M:MM}{Fs:List MM}(h:Fut M (us++[e]) Fs):∃ Fs',Fs=Fs'++[Lz e M]/\Fits e M/\Fut (Lz e M) us Fs':=by
 generalize he:us++[e]=us' at h
 cases h with
 | nil=>simp at he
 | snoc f p =>
  obtain⟨rfl,rfl⟩:=qD he
  exact⟨_,rfl,f,p⟩
theorem Path.len {Ps:List MM}{es:List Dd}{M:MM}(h:Path Ps es M):Ps.length=es.length:=by
 induction h with
 | nil=>rfl
 | snoc _ _ ih=>rw[List.length_append,List.length_append,ih];rfl
theorem Fut.len {us:List Dd}{M:MM}{Fs:List MM}(h:Fut M us Fs):Fs.length=us.length:=by
 induction h with
 | nil=>rfl
 | snoc _ _ ih=>rw[List.length_append,List.length_append,ih];rfl
def qF (s:Sg):Prop:=(s.1.BP=true->0 <= s.2/\s.2 < 100)/\(s.1.BP=false->s.2=0)
def GV (H:Hp)(v:V):Prop:=∃ s,ajM H v s/\qF s
structure WF (H:Hp)(L:Addr)(all:List Vx)(S:MM):Prop where
 vs:∃ vx:List Vx,Paired (fun v a=>v=V.ref a.o/\a∈all) (S L) vx
 ln:∀ a∈all,(S a.l).length <= 200/\∀ v∈S a.l,GV H v
 len:(S L).length <= 12
 out:∀ b,b≠L->(∀ a∈all,b≠a.l)->S b=[]
inductive Th where
 | pl (ss:List Sg)
 | cn (ld:Str) (lt sl:Int) (tn:Bool)
abbrev Vw:=List (Str×Th)
def aqs (H:Hp)(S:MM)(a:Vx):Th->Prop
 | .pl ss=>a.tm=.non/\nP H (S a.l) ss
 | .cn ld lt sl tn=>∃ p,a.tm=.ref p/\H p=some (.tup [.str ld,.int lt,.int sl,.bl tn])
def ant (H:Hp)(all:List Vx)(S:MM)(v:V)(q:Str×Th):Prop:=∃ a∈all,v=.ref a.o/\a.n=q.1/\aqs H S a q.2
abbrev Is (H:Hp)(L:Addr)(all:List Vx)(S:MM)(vw:Vw):Prop:=Paired (ant H all S) (S L) vw
structure LC (vw:Vw):Prop where
 nd:(vw.map (·.1)).Nodup
 ld:∀ n ld lt sl tn,(n,Th.cn ld lt sl tn)∈vw->(∃ ss,(ld,Th.pl ss)∈vw)/\0 <= lt/\lt <= 999/\1 <= sl/\sl <= 9
 gd:∀ n ss,(n,Th.pl ss)∈vw->ss.length <= 200/\∀ s∈ss,qF s
 len:vw.length <= 12
structure BkI (CB CV CD:Addr)(H:Hp)(x L D U:Addr)(all:List Vx)(M:MM)(Ps Fs:List MM)(es us:List Dd):Prop where
 hx:∃ dx,H x=some (.ins CB dx (QV L D U))
 hL:H L=some (.lst (M L))
 hD:∃ xs,H D=some (.lst xs)/\Paired (xP CD H) xs es
 hU:∃ xs,H U=some (.lst xs)/\Paired (xP CD H) xs us
 ha:∀ a∈all,H a.o=some (.ins CV a.d (voF a.n a.tm a.l))/\H a.l=some (.lst (M a.l))
 LD:L≠D
 LU:L≠U
 DU:D≠U
 nl:∀ a∈all,a.l≠L/\a.l≠D/\a.l≠U
 ni:∀ a∈all,∀ b∈all,a.l=b.l->a=b
 no:∀ a∈all,∀ b∈all,a.o=b.o->a=b
 dd:∀ e,e∈es∨e∈us->(e.T=L ∨ ∃ a∈all,e.T=a.l)/\(e.B≠L/\e.B≠D/\e.B≠U/\∀ a∈all,e.B≠a.l)/\(e.A≠L/\e.A≠D/\e.A≠U/\∀ a∈all,e.A≠a.l)/\e.bs.length <= 1/\e.as.length <= 1
 past:Path Ps es M
 fut:Fut M us Fs
 wf:∀ S,S∈Ps∨S=M∨S∈Fs->WF H L all S
structure ajR (F:Addr->Prop)(L D U:Addr)(all:List Vx)(es us:List Dd):Prop where
 L:F L
 D:F D
 U:F U
 l:∀ a∈all,F a.l
 d:∀ e,e∈es∨e∈us->F e.B/\F e.A
structure Bk (CB CV CD:Addr)(H:Hp)(x:Addr)(F:Addr->Prop)(vw:Vw)(ps fs:List Vw):Prop where
 ex:∃ (L D U:Addr) (all:List Vx) (M:MM) (Ps Fs:List MM) (es us:List Dd),BkI CB CV CD H x L D U all M Ps Fs es us/\Is H L all M vw/\Paired (Is H L all) Ps ps/\Paired (Is H L all) Fs fs/\ajR F L D U all es us
 wv:∀ v,v∈ps∨v=vw∨v∈fs->LC v
def Kept (F:Addr->Prop)(H H':Hp):Prop:=∀ y o,H y=some o->(F y ∨ ∀ xs,o≠.lst xs)->H' y=some o
theorem Kept.same {F:Addr->Prop}{H H':Hp}(s:aB H H'):Kept F H H':=fun y o e _=>s y o e
section
variable {CB CV CD:Addr} {H H':Hp} {x L D U:Addr} {all:List Vx} {M S:MM} {Ps Fs:List MM} {es us:List Dd} {F:Addr->Prop} {vw:Vw} {ps fs:List Vw}
theorem Kept.sgs (k:Kept F H H'){xs:List V}{ss:List Sg}(h:nP H xs ss):nP H' xs ss:=bV (fun _ _ ⟨p,e1,e2⟩=>⟨p,e1,k _ _ e2 (.inr fun _ z=>nomatch z)⟩) h
theorem Kept.gv (k:Kept F H H'){v:V}(h:GV H v):GV H' v:=by
 obtain⟨s,⟨p,e1,e2⟩,g⟩:=h
 exact⟨s,⟨p,e1,k _ _ e2 (.inr fun _ z=>nomatch z)⟩,g⟩
theorem WF.kept (k:Kept F H H')(h:WF H L all S):WF H' L all S:=⟨h.vs,fun a ha=>⟨(h.ln a ha).1,fun v hv=>k.gv ((h.ln a ha).2 v hv)⟩,h.len,h.out⟩
theorem ant.kept (k:Kept F H H'){v:V}{q:Str×Th}(h:ant H all S v q):ant H' all S v q:=by
 obtain⟨a,ha,e1,e2,t⟩:=h
 refine⟨a,ha,e1,e2,?_⟩
 cases hq:q.2 with
 | pl ss=>rw[hq] at t;exact⟨t.1,k.sgs t.2⟩
 | cn ld lt sl tn =>
  rw[hq] at t
  obtain⟨p,e3,e4⟩:=t
  exact⟨p,e3,k _ _ e4 (.inr fun _ z=>nomatch z)⟩
theorem Is.kept (k:Kept F H H')(h:Is H L all S vw):Is H' L all S vw:=bV (fun _ _ q=>ant.kept k q) h
theorem pN (k:Kept F H H'){v:V}{e:Dd}(f:F e.B/\F e.A)(h:xP CD H v e):xP CD H' v e:=⟨h.1,k _ _ h.2.1 (.inr fun _ z=>nomatch z),k _ _ h.2.2.1 (.inl f.1),k _ _ h.2.2.2 (.inl f.2)⟩
theorem Es {α β:Type}{F G:α->β->Prop}:∀ {xs:List α} {ys:List β},(∀ x y,y∈ys->F x y->G x y)->Paired F xs ys->Paired G xs ys
 | _,_,_,.nil=>.nil
 | _,_,h,.cons a b=>.cons (h _ _ (List.mem_cons_self ..) a) (Es (fun x y hy=>h x y (List.mem_cons_of_mem _ hy)) b)
theorem BkI.kept (h:BkI CB CV CD H x L D U all M Ps Fs es us)(f:ajR F L D U all es us)(k:Kept F H H'):BkI CB CV CD H' x L D U all M Ps Fs es us :=
 {
  h with
  hx:=let ⟨dx,e⟩:=h.hx;⟨dx,k _ _ e (.inr fun _ z=>nomatch z)⟩
  hL:=k _ _ h.hL (.inl f.L)
  hD:=let ⟨xs,e,p⟩:=h.hD;⟨xs,k _ _ e (.inl f.D),Es (fun _ e he q=>pN k (f.d e (.inl he)) q) p⟩
  hU:=let ⟨xs,e,p⟩:=h.hU;⟨xs,k _ _ e (.inl f.U),Es (fun _ e he q=>pN k (f.d e (.inr he)) q) p⟩
  ha:=fun a m=>⟨k _ _ (h.ha a m).1 (.inr fun _ z=>nomatch z),k _ _ (h.ha a m).2 (.inl (f.l a m))⟩
  wf:=fun S hS=>(h.wf S hS).kept k }
theorem Bk.kept (h:Bk CB CV CD H x F vw ps fs)(k:Kept F H H'):Bk CB CV CD H' x F vw ps fs:=by
 obtain⟨L,D,U,all,M,Ps,Fs,es,us,b,i,pp,pf,f⟩:=h.ex
 exact⟨⟨L,D,U,all,M,Ps,Fs,es,us,b.kept f k,Is.kept k i,bV (fun _ _ q=>Is.kept k q) pp,bV (fun _ _ q=>Is.kept k q) pf,f⟩,h.wv⟩
theorem Bk.same (h:Bk CB CV CD H x F vw ps fs)(s:aB H H'):Bk CB CV CD H' x F vw ps fs:=h.kept (.same s)
theorem BkI.Ib (b:BkI CB CV CD H x L D U all M Ps Fs es us)(i:Is H L all M vw):∃ vx:List Vx,Paired (asK CV H) (M L) vx/\Paired (fun a q=>a∈all/\a.n=q.1/\aqs H M a q.2) vx vw:=by
 have go:∀ {xs:List V} {vw:Vw},Paired (ant H all M) xs vw->∃ vx:List Vx,Paired (asK CV H) xs vx/\Paired (fun a q=>a∈all/\a.n=q.1/\aqs H M a q.2) vx vw:=by
  intro xs vw h
  induction h with
  | nil=>exact⟨[],.nil,.nil⟩
  | cons q _ ih =>
   obtain⟨a,ha,e1,e2,e3⟩:=q
   obtain⟨vx,p1,p2⟩:=ih
   exact⟨a :: vx,.cons ⟨e1,(b.ha a ha).1⟩ p1,.cons ⟨ha,e2,e3⟩ p2⟩
 exact go i
def aqt (L D U:Addr)(all:List Vx)(e:Dd):Prop:=(e.T=L ∨ ∃ a∈all,e.T=a.l)/\(e.B≠L/\e.B≠D/\e.B≠U/\∀ a∈all,e.B≠a.l)/\(e.A≠L/\e.A≠D/\e.A≠U/\∀ a∈all,e.A≠a.l)/\e.bs.length <= 1/\e.as.length <= 1
theorem BkI.lists (b:BkI CB CV CD H x L D U all M Ps Fs es us){T:Addr}(tg:T=L ∨ ∃ a∈all,T=a.l):H T=some (.lst (M T))/\T≠D/\T≠U:=by
 rcases tg with rfl | ⟨a,ha,rfl⟩
 ·exact⟨b.hL,b.LD,b.LU⟩
 ·exact⟨(b.ha a ha).2,(b.nl a ha).2.1,(b.nl a ha).2.2⟩
theorem BkI.chg (b:BkI CB CV CD H x L D U all M Ps Fs es us){T:Addr}(tg:T=L ∨ ∃ a∈all,T=a.l){H2:Hp}(fr:∀ y o,H y=some o->y≠T->y≠D->y≠U->H2 y=some o){M':MM}(m1:∀ c,c≠T->M' c=M c)(hT:H2 T=some (.lst (M' T)))
  {dx:List V} {es':List Dd} (hD:H2 D=some (.lst dx)) (pD:Paired (xP CD H) dx es') {ux:List V} {us':List Dd} (hU:H2 U=some (.lst ux)) (pU:Paired (xP CD H) ux us') (dd':∀ e,e∈es'∨e∈us'->aqt L D U all e)
  {Ps' Fs':List MM} (aw5:Path Ps' es' M') (aze:Fut M' us' Fs') (wf':∀ S,S∈Ps'∨S=M'∨S∈Fs'->WF H L all S):BkI CB CV CD H2 x L D U all M' Ps' Fs' es' us'/\Kept (fun _=>False) H H2:=by
 obtain⟨hT0,TD,TU⟩:=b.lists tg
 obtain⟨dx0,hD0,_⟩:=b.hD
 obtain⟨ux0,hU0,_⟩:=b.hU
 have kN:∀ y o,H y=some o->(∀ zs,o≠.lst zs)->H2 y=some o:=fun y o hy hn=>fr y o hy
  (fun e=>by rw[e,hT0] at hy;cases hy;exact hn _ rfl) (fun e=>by rw[e,hD0] at hy;cases hy;exact hn _ rfl) (fun e=>by rw[e,hU0] at hy;cases hy;exact hn _ rfl)
 have k:Kept (fun _=>False) H H2:=fun y o hy h=>kN y o hy (h.elim False.elim id)
 have dk:∀ {v e},aqt L D U all e->xP CD H v e->xP CD H2 v e:=fun {v e} ok h=>by
  have nT:∀ {c:Addr},c≠L/\c≠D/\c≠U/\(∀ a∈all,c≠a.l)->c≠T:=fun {c} q z=>by
   rcases tg with rfl | ⟨a,ha,rfl⟩
   ·exact q.1 z
   ·exact q.2.2.2 a ha z
  exact⟨h.1,kN _ _ h.2.1 (fun _ z=>nomatch z),fr _ _ h.2.2.1 (nT ok.2.1) ok.2.1.2.1 ok.2.1.2.2.1,fr _ _ h.2.2.2 (nT ok.2.2.1) ok.2.2.1.2.1 ok.2.2.1.2.2.1⟩
 have at_:∀ {c:Addr},(c=L ∨ ∃ a∈all,c=a.l)->H2 c=some (.lst (M' c)):=fun {c} hc=>by
  by_cases e:c=T
  ·rw[e];exact hT
  ·obtain⟨h1,h2,h3⟩:=b.lists hc
   rw[m1 c e]
   exact fr _ _ h1 e h2 h3
 refine⟨{
      hx:=let ⟨dx,e⟩:=b.hx;⟨dx,kN _ _ e (fun _ z=>nomatch z)⟩
      hL:=at_ (.inl rfl)
      hD:=⟨_,hD,Es (fun _ e he q=>dk (dd' e (.inl he)) q) pD⟩
      hU:=⟨_,hU,Es (fun _ e he q=>dk (dd' e (.inr he)) q) pU⟩
      ha:=fun a ha=>⟨kN _ _ (b.ha a ha).1 (fun _ z=>nomatch z),at_ (.inr ⟨a,ha,rfl⟩)⟩
      LD:=b.LD,LU:=b.LU,DU:=b.DU,nl:=b.nl,ni:=b.ni,no:=b.no,dd:=dd'
      past:=aw5
      fut:=aze
      wf:=fun S hS=>(wf' S hS).kept k },k⟩
theorem BkI.grow (b:BkI CB CV CD H x L D U all M Ps Fs es us){a:Vx}{H1:Hp}(s:aB H H1)(n1:H a.o=none)(n2:H a.l=none)(h1:H1 a.o=some (.ins CV a.d (voF a.n a.tm a.l)))(h2:H1 a.l=some (.lst [])):BkI CB CV CD H1 x L D U (all++[a]) M Ps Fs es us:=by
 have b1:=b.kept (F:=fun _=>True) ⟨trivial,trivial,trivial,fun _ _=>trivial,fun _ _=>⟨trivial,trivial⟩⟩ (.same s)
 obtain⟨dx0,hD0,pD0⟩:=b.hD
 obtain⟨ux0,hU0,pU0⟩:=b.hU
 have nL:a.l≠L:=Ne.symm (aC b.hL n2)
 have nD:a.l≠D:=Ne.symm (aC hD0 n2)
 have nU:a.l≠U:=Ne.symm (aC hU0 n2)
 have nA:∀ c∈all,a.l≠c.l:=fun c hc=>Ne.symm (aC (b.ha c hc).2 n2)
 have nO:∀ c∈all,a.o≠c.o:=fun c hc=>Ne.symm (aC (b.ha c hc).1 n1)
 have mem:∀ {c:Vx},c∈all++[a]->c∈all∨c=a:=fun h=>by simpa using h
 have wf2:∀ S,WF H1 L all S->WF H1 L (all++[a]) S:=fun S w =>
  {
   vs:=let ⟨vx,p⟩:=w.vs;⟨vx,bV (fun _ _ q=>⟨q.1,List.mem_append_left _ q.2⟩) p⟩
   ln:=fun c hc=>by
    rcases mem hc with hc | rfl
    ·exact w.ln c hc
    ·have e:S c.l=[]:=w.out c.l nL fun d hd=>nA d hd
     rw[e]
     exact⟨Nat.zero_le _,fun _ z=>nomatch z⟩
   len:=w.len
   out:=fun c h h'=>w.out c h fun d hd=>h' d (List.mem_append_left _ hd) }
 have dds:∀ {v e},xP CD H v e->e.B≠a.l/\e.A≠a.l:=fun h=>⟨aC h.2.2.1 n2,aC h.2.2.2 n2⟩
 have ddn:∀ e,e∈es∨e∈us->e.B≠a.l/\e.A≠a.l:=fun e he=>by
  rcases he with he | he
  ·obtain⟨i,hi⟩:=List.getElem?_of_mem he
   obtain⟨v,_,q⟩:=Hj pD0 hi
   exact dds q
  ·obtain⟨i,hi⟩:=List.getElem?_of_mem he
   obtain⟨v,_,q⟩:=Hj pU0 hi
   exact dds q
 exact { b1 with
  ha:=fun c hc=>by
   rcases mem hc with hc | rfl
   ·exact b1.ha c hc
   ·refine⟨h1,?_⟩
    rw[(b.wf M (.inr (.inl rfl))).out c.l nL fun d hd=>nA d hd]
    exact h2
  nl:=fun c hc=>by
   rcases mem hc with hc | rfl
   ·exact b1.nl c hc
   ·exact⟨nL,nD,nU⟩
  ni:=fun c hc d hd e=>by
   rcases mem hc with z1 | z1 <;> rcases mem hd with z2 | z2
   ·exact b1.ni c z1 d z2 e
   ·rw[z2] at e;exact absurd e.symm (nA c z1)
   ·rw[z1] at e;exact absurd e (nA d z2)
   ·rw[z1,z2]
  no:=fun c hc d hd e=>by
   rcases mem hc with z1 | z1 <;> rcases mem hd with z2 | z2
   ·exact b1.no c z1 d z2 e
   ·rw[z2] at e;exact absurd e.symm (nO c z1)
   ·rw[z1] at e;exact absurd e (nO d z2)
   ·rw[z1,z2]
  dd:=fun e he=>by
   obtain⟨q1,q2,q3,q4⟩:=b1.dd e he
   refine⟨q1.imp id fun ⟨c,hc,z⟩=>⟨c,List.mem_append_left _ hc,z⟩,⟨q2.1,q2.2.1,q2.2.2.1,fun c hc=>?_⟩,⟨q3.1,q3.2.1,q3.2.2.1,fun c hc=>?_⟩,q4⟩
   ·rcases mem hc with hc | rfl
    ·exact q2.2.2.2 c hc
    ·exact (ddn e he).1
   ·rcases mem hc with hc | rfl
    ·exact q3.2.2.2 c hc
    ·exact (ddn e he).2
  wf:=fun S hS=>wf2 S (b1.wf S hS) }
theorem Is.grow {a:Vx}(h:Is H L all S vw):Is H L (all++[a]) S vw:=bV (fun _ _ ⟨c,hc,q⟩=>⟨c,List.mem_append_left _ hc,q⟩) h
end
set_option maxHeartbeats 1000000
section
variable {CB CV CD:Addr} {H H1 H2 H':Hp} {x L D U:Addr} {all:List Vx} {M S:MM} {Ps Fs:List MM} {es us:List Dd} {F:Addr->Prop} {vw vw':Vw} {ps fs:List Vw}
theorem Bk.deed (b:BkI CB CV CD H1 x L D U all M Ps Fs es us)(i:Is H1 L all M vw)(pp:Paired (Is H1 L all) Ps ps)(f:ajR F L D U all es us)(wv:∀ v,v∈ps∨v=vw->LC v){e:Dd}(hd:xP CD H1 (.ref e.o) e)(ok:aqt L D U all e)(ft:Fits e M)(w:WF H1 L all (Lz e M))
  (i':Is H1 L all (Lz e M) vw') (wv':LC vw') {dx:List V} (pD:Paired (xP CD H1) dx es) (fr:∀ y o,H1 y=some o->y≠e.T->y≠D->y≠U->H2 y=some o) (hT:H2 e.T=some (.lst (Lz e M e.T))) (hD2:H2 D=some (.lst (dx++[.ref e.o]))) (hU2:H2 U=some (.lst [])) :
  Bk CB CV CD H2 x (fun y=>F y∨y=e.B∨y=e.A) vw' (ps++[vw]) []:=by
 obtain⟨b2,k⟩:=b.chg ok.1 fr (M':=Lz e M) (fun c hc=>yJ hc) hT hD2 (oF pD hd) hU2 .nil (fun e' he=>by
  rcases he with he | he
  ·rcases List.mem_append.mp he with he | he
   ·exact b.dd e' (.inl he)
   ·rw[List.mem_singleton.mp he];exact ok
  ·cases he) (b.past.snoc ft) .nil (fun S hS=>by
  rcases hS with hS | hS | hS
  ·rcases List.mem_append.mp hS with hS | hS
   ·exact b.wf S (.inl hS)
   ·exact b.wf S (.inr (.inl (List.mem_singleton.mp hS)))
  ·rw[hS];exact w
  ·cases hS)
 refine⟨⟨L,D,U,all,_,_,_,_,_,b2,Is.kept k i',oF (bV (fun _ _ q=>Is.kept k q) pp) (Is.kept k i),.nil,⟨.inl f.L,.inl f.D,.inl f.U,fun a ha=>.inl (f.l a ha),fun e' he=>?_⟩⟩,fun v hv=>?_⟩
 ·rcases he with he | he
  ·rcases List.mem_append.mp he with he | he
   ·exact⟨.inl (f.d e' (.inl he)).1,.inl (f.d e' (.inl he)).2⟩
   ·rw[List.mem_singleton.mp he];exact⟨.inr (.inl rfl),.inr (.inr rfl)⟩
  ·cases he
 ·rcases hv with hv | hv | hv
  ·rcases List.mem_append.mp hv with hv | hv
   ·exact wv v (.inl hv)
   ·exact wv v (.inr (List.mem_singleton.mp hv))
  ·rw[hv];exact wv'
  ·cases hv
theorem ZZ {α β:Type}{F:α->β->Prop}:∀ {xs:List α} {x:α} {zs:List β},Paired F (xs++[x]) zs->∃ ys y,zs=ys++[y]/\Paired F xs ys/\F x y
 | [],_,_,.cons r .nil=>⟨[],_,rfl,.nil,r⟩
 | _ :: _,_,_,.cons r t=>by
  obtain⟨ys,y,rfl,p,q⟩:=ZZ t
  exact⟨_ :: ys,y,rfl,.cons r p,q⟩
theorem Bk.au5 (b:BkI CB CV CD H x L D U all M Ps Fs es us)(i:Is H L all M vw)(pp:Paired (Is H L all) Ps ps)(pf:Paired (Is H L all) Fs fs)(f:ajR F L D U all es us)(wv:∀ v,v∈ps∨v=vw∨v∈fs->LC v){e:Dd}{es0:List Dd}(he:es=es0++[e]){dx ux:List V}(pD:Paired (xP CD H) dx es0)(hd:xP CD H (.ref e.o) e)(pU:Paired (xP CD H) ux us)
  (fr:∀ y o,H y=some o->y≠e.T->y≠D->y≠U->H2 y=some o) (hT:H2 e.T=some (.lst (unD e M e.T))) (hD2:H2 D=some (.lst dx)) (hU2:H2 U=some (.lst (ux++[.ref e.o]))) :
  ∃ XJ v,ps=XJ++[v]/\Bk CB CV CD H2 x F v XJ (fs++[vw]):=by
 subst he
 obtain⟨Ps0,S,rfl,p0,ft,rfl⟩:=b.past.last
 have ok:=b.dd e (.inl (List.mem_append_right _ (List.mem_singleton_self _)))
 rw[aw4 ft] at hT
 obtain⟨b2,k⟩:=b.chg ok.1 fr (M':=S) (fun c hc=>(yJ hc).symm) hT hD2 pD hU2 (oF pU hd) (fun e' he=>by
  rcases he with he | he
  ·exact b.dd e' (.inl (List.mem_append_left _ he))
  ·rcases List.mem_append.mp he with he | he
   ·exact b.dd e' (.inr he)
   ·rw[List.mem_singleton.mp he];exact ok) p0 (Fut.snoc ft b.fut) (fun T hT=>by
  rcases hT with hT | hT | hT
  ·exact b.wf T (.inl (List.mem_append_left _ hT))
  ·exact b.wf T (.inl (List.mem_append_right _ (List.mem_singleton.mpr hT)))
  ·rcases List.mem_append.mp hT with hT | hT
   ·exact b.wf T (.inr (.inr hT))
   ·exact b.wf T (.inr (.inl (List.mem_singleton.mp hT))))
 obtain⟨XJ,v,rfl,pp0,iv⟩:=ZZ pp
 refine⟨XJ,v,rfl,⟨⟨L,D,U,all,_,_,_,_,_,b2,Is.kept k iv,bV (fun _ _ q=>Is.kept k q) pp0,oF (bV (fun _ _ q=>Is.kept k q) pf) (Is.kept k i),⟨f.L,f.D,f.U,f.l,fun e' he=>?_⟩⟩,fun u hu=>?_⟩⟩
 ·rcases he with he | he
  ·exact f.d e' (.inl (List.mem_append_left _ he))
  ·rcases List.mem_append.mp he with he | he
   ·exact f.d e' (.inr he)
   ·rw[List.mem_singleton.mp he];exact f.d e (.inl (List.mem_append_right _ (List.mem_singleton_self _)))
 ·rcases hu with hu | hu | hu
  ·exact wv u (.inl (List.mem_append_left _ hu))
  ·exact wv u (.inl (List.mem_append_right _ (List.mem_singleton.mpr hu)))
  ·rcases List.mem_append.mp hu with hu | hu
   ·exact wv u (.inr (.inr hu))
   ·exact wv u (.inr (.inl (List.mem_singleton.mp hu)))
theorem Bk.au6 (b:BkI CB CV CD H x L D U all M Ps Fs es us)(i:Is H L all M vw)(pp:Paired (Is H L all) Ps ps)(pf:Paired (Is H L all) Fs fs)(f:ajR F L D U all es us)(wv:∀ v,v∈ps∨v=vw∨v∈fs->LC v){e:Dd}{us0:List Dd}(he:us=us0++[e]){dx ux:List V}(pD:Paired (xP CD H) dx es)(hd:xP CD H (.ref e.o) e)(pU:Paired (xP CD H) ux us0)
  (fr:∀ y o,H y=some o->y≠e.T->y≠D->y≠U->H2 y=some o) (hT:H2 e.T=some (.lst (Lz e M e.T))) (hD2:H2 D=some (.lst (dx++[.ref e.o]))) (hU2:H2 U=some (.lst ux)) :
  ∃ fs0 v,fs=fs0++[v]/\Bk CB CV CD H2 x F v (ps++[vw]) fs0:=by
 subst he
 obtain⟨Fs0,rfl,ft,p0⟩:=b.fut.last
 have ok:=b.dd e (.inr (List.mem_append_right _ (List.mem_singleton_self _)))
 obtain⟨b2,k⟩:=b.chg ok.1 fr (M':=Lz e M) (fun c hc=>yJ hc) hT hD2 (oF pD hd) hU2 pU (fun e' he=>by
  rcases he with he | he
  ·rcases List.mem_append.mp he with he | he
   ·exact b.dd e' (.inl he)
   ·rw[List.mem_singleton.mp he];exact ok
  ·exact b.dd e' (.inr (List.mem_append_left _ he))) (b.past.snoc ft) p0 (fun T hT=>by
  rcases hT with hT | hT | hT
  ·rcases List.mem_append.mp hT with hT | hT
   ·exact b.wf T (.inl hT)
   ·exact b.wf T (.inr (.inl (List.mem_singleton.mp hT)))
  ·exact b.wf T (.inr (.inr (List.mem_append_right _ (List.mem_singleton.mpr hT))))
  ·exact b.wf T (.inr (.inr (List.mem_append_left _ hT))))
 obtain⟨fs0,v,rfl,pf0,iv⟩:=ZZ pf
 refine⟨fs0,v,rfl,⟨⟨L,D,U,all,_,_,_,_,_,b2,Is.kept k iv,oF (bV (fun _ _ q=>Is.kept k q) pp) (Is.kept k i),bV (fun _ _ q=>Is.kept k q) pf0,⟨f.L,f.D,f.U,f.l,fun e' he=>?_⟩⟩,fun u hu=>?_⟩⟩
 ·rcases he with he | he
  ·rcases List.mem_append.mp he with he | he
   ·exact f.d e' (.inl he)
   ·rw[List.mem_singleton.mp he];exact f.d e (.inr (List.mem_append_right _ (List.mem_singleton_self _)))
  ·exact f.d e' (.inr (List.mem_append_left _ he))
 ·rcases hu with hu | hu | hu
  ·rcases List.mem_append.mp hu with hu | hu
   ·exact wv u (.inl hu)
   ·exact wv u (.inr (.inl (List.mem_singleton.mp hu)))
  ·exact wv u (.inr (.inr (List.mem_append_right _ (List.mem_singleton.mpr hu))))
  ·exact wv u (.inr (.inr (List.mem_append_left _ hu)))
def bR (vw:Vw)(n:Str):Option Th:=(vw.find? fun q=>decide (q.1=n)).map (·.2)
def Dq (vw:Vw)(n:Str)(th:Th):Vw:=vw.map fun q=>if q.1=n then (n,th) else q
theorem dm {n:Str}{th:Th}(h:bR vw n=some th):(n,th)∈vw:=by
 unfold bR at h
 cases e:vw.find? (fun q=>decide (q.1=n)) with
 | none=>rw[e] at h;cases h
 | some q =>
  rw[e] at h
  have h1:=List.mem_of_find?_eq_some e
  have h2:=List.find?_some e
  have h3:q.1=n:=of_decide_eq_true h2
  have h4:q.2=th:=Option.some.inj h
  rw[← h3,← h4]
  exact h1
theorem Et {n:Str}(h:bR vw n=none):∀ q∈vw,q.1≠n:=by
 unfold bR at h
 rw[Option.map_eq_none_iff] at h
 intro q hq e
 exact List.find?_eq_none.mp h q hq (decide_eq_true e)
theorem QX:∀ {l:List Str} {i j:Nat} {n:Str},l.Nodup->l[i]? = some n->l[j]? = some n->i=j
 | [],_,_,_,_,h,_=>by simp at h
 | a :: l,i,j,n,nd,h1,h2=>by
  obtain⟨na,nd'⟩:=List.nodup_cons.mp nd
  match i,j,h1,h2 with
  | 0,0,_,_=>rfl
  | 0,j+1,h1,h2 =>
   rw[List.getElem?_cons_zero] at h1
   rw[List.getElem?_cons_succ] at h2
   cases h1
   exact absurd (List.mem_of_getElem? h2) na
  | i+1,0,h1,h2 =>
   rw[List.getElem?_cons_zero] at h2
   rw[List.getElem?_cons_succ] at h1
   cases h2
   exact absurd (List.mem_of_getElem? h1) na
  | i+1,j+1,h1,h2 =>
   rw[List.getElem?_cons_succ] at h1 h2
   rw[QX nd' h1 h2]
theorem LC.uniq (w:LC vw){q q':Str×Th}(h:q∈vw)(h':q'∈vw)(e:q.1=q'.1):q=q':=by
 obtain⟨i,hi⟩:=List.getElem?_of_mem h
 obtain⟨j,hj⟩:=List.getElem?_of_mem h'
 have h1:(vw.map (·.1))[i]? = some q.1:=by rw[List.getElem?_map,hi];rfl
 have h2:(vw.map (·.1))[j]? = some q.1:=by rw[List.getElem?_map,hj,e];rfl
 have:=QX w.nd h1 h2
 subst this
 rw[hi] at hj
 exact Option.some.inj hj
theorem LC.find (w:LC vw){n:Str}{th:Th}(h:(n,th)∈vw):bR vw n=some th:=by
 cases e:bR vw n with
 | none=>exact absurd rfl (Et e _ h)
 | some t =>
  have:=w.uniq (dm e) h rfl
  rw[Prod.mk.injEq] at this
  rw[this.2]
theorem Nh (n:Str)(th:Th):(Dq vw n th).map (·.1)=vw.map (·.1):=by
 unfold Dq
 rw[List.map_map]
 refine List.map_congr_left fun q _=>?_
 show (if q.1=n then (n,th) else q).1=q.1
 split
 ·next h=>exact h.symm
 ·rfl
theorem ah7 {n:Str}{th:Th}{q:Str×Th}(h:q∈Dq vw n th):(q=(n,th)/\∃ q'∈vw,q'.1=n)∨(q∈vw/\q.1≠n):=by
 obtain⟨q',h1,h2⟩:=List.mem_map.mp h
 split at h2
 ·next e=>exact .inl ⟨h2.symm,q',h1,e⟩
 ·next e=>rw[← h2];exact .inr ⟨h1,e⟩
theorem ajS {n:Str}{th:Th}{q:Str×Th}(h:q∈vw)(hn:q.1≠n):q∈Dq vw n th:=List.mem_map.mpr ⟨q,h,if_neg hn⟩
theorem aqu {n:Str}{th t:Th}(h:(n,t)∈vw):(n,th)∈Dq vw n th:=List.mem_map.mpr ⟨(n,t),h,if_pos rfl⟩
theorem LC.set (w:LC vw){n:Str}{ss ss':List Sg}(h:(n,Th.pl ss)∈vw)(h1:ss'.length <= 200)(h2:∀ s∈ss',qF s):LC (Dq vw n (.pl ss')) where
 nd:=by rw[Nh];exact w.nd
 ld:=fun m ld lt sl tn hm=>by
  rcases ah7 hm with ⟨e,_⟩ | ⟨hm',_⟩
  ·cases e
  ·obtain⟨⟨s0,h0⟩,r⟩:=w.ld m ld lt sl tn hm'
   refine⟨?_,r⟩
   by_cases e:ld=n
   ·rw[e];exact⟨ss',aqu h⟩
   ·exact⟨s0,ajS h0 e⟩
 gd:=fun m s0 hm=>by
  rcases ah7 hm with ⟨e,_⟩ | ⟨hm',_⟩
  ·cases e;exact⟨h1,h2⟩
  ·exact w.gd m s0 hm'
 len:=by
  have:=congrArg List.length (Nh (vw:=vw) n (.pl ss'))
  rw[List.length_map,List.length_map] at this
  rw[this]
  exact w.len
theorem LC.aw7 (w:LC vw){n:Str}(hn:∀ q∈vw,q.1≠n)(hl:vw.length < 12):LC (vw++[(n,.pl [])]) where
 nd:=by
  rw[List.map_append,List.nodup_append]
  refine⟨w.nd,by simp,?_⟩
  intro a ha c hc e
  obtain⟨q,hq,e1⟩:=List.mem_map.mp ha
  have:c=n:=by simpa using hc
  exact hn q hq (by rw[e1,e,this])
 ld:=fun m ld lt sl tn hm=>by
  rcases List.mem_append.mp hm with hm | hm
  ·obtain⟨⟨s0,h0⟩,r⟩:=w.ld m ld lt sl tn hm
   exact⟨⟨s0,List.mem_append_left _ h0⟩,r⟩
  ·have:=List.mem_singleton.mp hm
   cases this
 gd:=fun m s0 hm=>by
  rcases List.mem_append.mp hm with hm | hm
  ·exact w.gd m s0 hm
  ·have:=List.mem_singleton.mp hm
   cases this
   exact⟨Nat.zero_le _,fun _ z=>nomatch z⟩
 len:=by rw[List.length_append];exact hl
theorem LC.aw8 (w:LC vw){n ld:Str}{lt sl:Int}{tn:Bool}{ss:List Sg}(hn:∀ q∈vw,q.1≠n)(hl:vw.length < 12)(h:(ld,Th.pl ss)∈vw)(h1:0 <= lt)(h2:lt <= 999)(h3:1 <= sl)(h4:sl <= 9):LC (vw++[(n,.cn ld lt sl tn)]) where
 nd:=by
  rw[List.map_append,List.nodup_append]
  refine⟨w.nd,by simp,?_⟩
  intro a ha c hc e
  obtain⟨q,hq,e1⟩:=List.mem_map.mp ha
  have:c=n:=by simpa using hc
  exact hn q hq (by rw[e1,e,this])
 ld:=fun m l2 t2 s2 n2 hm=>by
  rcases List.mem_append.mp hm with hm | hm
  ·obtain⟨⟨s0,h0⟩,r⟩:=w.ld m l2 t2 s2 n2 hm
   exact⟨⟨s0,List.mem_append_left _ h0⟩,r⟩
  ·have:=List.mem_singleton.mp hm
   cases this
   exact⟨⟨ss,List.mem_append_left _ h⟩,h1,h2,h3,h4⟩
 gd:=fun m s0 hm=>by
  rcases List.mem_append.mp hm with hm | hm
  ·exact w.gd m s0 hm
  ·have:=List.mem_singleton.mp hm
   cases this
 len:=by rw[List.length_append];exact hl
theorem at6 {α β γ:Type}{F:α->β->Prop}{G:α->γ->Prop}{f:β->γ}:∀ {xs:List α} {ys:List β},Paired F xs ys->(∀ (k:Nat) x y,xs[k]? = some x->ys[k]? = some y->F x y->G x (f y))->Paired G xs (ys.map f)
 | _,_,.nil,_=>.nil
 | _,_,.cons a b,h=>.cons (h 0 _ _ rfl rfl a) (at6 b fun k x y e1 e2=>h (k+1) x y (by simpa using e1) (by simpa using e2))
theorem Is.line (b:BkI CB CV CD H x L D U all M Ps Fs es us)(i:Is H L all M vw)(w:LC vw){a:Vx}(ha:a∈all){j:Nat}{th:Th}{ss':List Sg}(hj:(M L)[j]? = some (.ref a.o))(hm:vw[j]? = some (a.n,th))(htm:a.tm=.non){M':MM}(m1:∀ c,c≠a.l->M' c=M c)(g:nP H (M' a.l) ss'):Is H L all M' (Dq vw a.n (.pl ss')):=by
 show Paired _ (M' L) _
 rw[m1 L (Ne.symm (b.nl a ha).1)]
 refine at6 i fun k v q hk hq hvq=>?_
 obtain⟨c,hc,rfl,e1,t⟩:=hvq
 split
 ·next e =>
  have h1:(vw.map (·.1))[k]? = some a.n:=by rw[List.getElem?_map,hq,← e];rfl
  have h2:(vw.map (·.1))[j]? = some a.n:=by rw[List.getElem?_map,hm];rfl
  have hkj:=QX w.nd h1 h2
  subst hkj
  rw[hj] at hk
  have:a.o=c.o:=V.ref.inj (Option.some.inj hk)
  have:=b.no a ha c hc this
  subst this
  exact⟨a,hc,rfl,rfl,htm,g⟩
 ·next e =>
  refine⟨c,hc,rfl,e1,?_⟩
  have ne:c.l≠a.l:=fun z=>e (by rw[← e1,b.ni c hc a ha z])
  cases hq2:q.2 with
  | pl s0=>rw[hq2] at t;exact⟨t.1,by rw[m1 _ ne];exact t.2⟩
  | cn ld lt sl tn=>rw[hq2] at t;exact t
end
set_option maxHeartbeats 1000000
abbrev Sn:=Str×Int
def Ur:List V:=[.str "G",.str "D",.str "s",.str "d"]
def Eu:List V:=[.str "R",.str "r",.str ".",.str "3",.str "2"]
def Ae (s:Sn):Bool:=if inV (.str s.1) Ur=true then (if decide (0 <= s.2)=true then decide (s.2 <= 99) else false) else (if inV (.str s.1) Eu=true then decide (s.2=0) else false)
set_option maxHeartbeats 1000000
inductive Rf where
 | Ze | ams | adS | Full | vy | Dr | QZ | amt | au7 | ajT
structure Cs where
 B:Addr
 V:Addr
 D:Addr
 on:Bool
 x:Rf->Addr
def RX (E:XK)(c:Cs)(r:Rf)(H:Hp):Prop:=c.on=true/\E (.ref (c.x r)) none H
abbrev Ni (c:Cs):=Bk c.B c.V c.D
def Fr (F:Addr->Prop)(H H':Hp):Prop:=∀ y o,H y=some o->¬ F y->H' y=some o
def Gr (F F':Addr->Prop)(H:Hp):Prop:=∀ y,F' y->F y∨H y=none
theorem Gr.refl (F:Addr->Prop)(H:Hp):Gr F F H:=fun _ h=>.inl h
theorem Gr.old {F F':Addr->Prop}{H H':Hp}(s:aB H H')(g:Gr F F' H'):Gr F F' H:=fun y z=>(g y z).imp id fun q=>s.free q
def nameB (x:Str):Bool:=decide (1 <= x.length) && (decide (x.length <= 8) && x.cps.toList.all fun c=>inS ⟨#[c]⟩ "abcdefghijklmnopqrstuvwxyz")
theorem kinds_of {k:Str}(h:inV (.str k) Ur=true∨inV (.str k) Eu=true):∃ d:Kd,d.str=k:=by
 have go:∀ l:List V,(∀ v∈l,∃ d:Kd,v=.str d.str)->inV (.str k) l=true->∃ d:Kd,d.str=k:=fun l hl h=>by
  unfold inV at h
  obtain⟨y,hy,e⟩:=List.any_eq_true.mp h
  obtain⟨d,rfl⟩:=hl y hy
  have:d.str=k:=by simpa [eqV] using e
  exact⟨d,this⟩
 have c:∀ (l:List Kd),∀ v∈l.map (fun d=>V.str d.str),∃ d:Kd,v=.str d.str:=fun l v hv=>by
  obtain⟨d,_,e⟩:=List.mem_map.mp hv
  exact⟨d,e.symm⟩
 rcases h with h | h
 ·exact go Ur (c [.G,.D,.s,.d]) h
 ·exact go Eu (c [.R,.r,.dot,.three,.two]) h
theorem at7 (d:Kd):inV (.str d.str) Ur=d.BP:=by cases d <;> decide +kernel
theorem at8 (d:Kd):inV (.str d.str) Eu = !d.BP:=by cases d <;> decide +kernel
theorem amu {sn:Sn}(h:Ae sn=true):∃ s:Sg,s.1.str=sn.1/\s.2=sn.2/\qF s:=by
 unfold Ae at h
 split at h
 ·next h1 =>
  obtain⟨d,hd⟩:=kinds_of (.inl h1)
  rw[← hd,at7] at h1
  split at h
  ·next h2=>exact⟨(d,sn.2),hd,rfl,⟨(fun _=>⟨of_decide_eq_true h2,by have:=of_decide_eq_true h;show sn.2 < 100;omega⟩),fun z=>by rw[show d.BP=false from z] at h1;cases h1⟩⟩
  ·cases h
 ·next h1 =>
  split at h
  ·next h2 =>
   obtain⟨d,hd⟩:=kinds_of (.inr h2)
   rw[← hd,at8] at h2
   exact⟨(d,sn.2),hd,rfl,⟨(fun z=>by rw[show d.BP=true from z] at h2;cases h2),fun _=>of_decide_eq_true h⟩⟩
  ·cases h
theorem amv {s:Sg}(h:qF s):Ae (s.1.str,s.2)=true:=by
 unfold Ae
 rw[at7,at8]
 cases hs:s.1.BP with
 | true =>
  obtain⟨a,b⟩:=h.1 hs
  simp only [if_true]
  rw[if_pos (decide_eq_true a)]
  exact decide_eq_true (by omega)
 | false =>
  have:=h.2 hs
  simp[this]
def adT:Kd->Kd
 | .three=>.two
 | .two=>.three
 | k=>k
def Af (s:Sg):Sg:=(adT s.1,s.2)
def Ie (vw:Vw)(n:Str):List Sg:=match bR vw n with
 | some (.pl ss)=>ss
 | some (.cn ld _ _ tn)=>match bR vw ld with
  | some (.pl ss)=>if tn then ss.map Af else ss
  | _=>[]
 | none=>[]
def lY (vw:Vw)(n:Str):List Int:=match bR vw n with
 | some (.pl ss)=>(oJ 3 (cu ss)).1
 | some (.cn ld _ sl tn)=>match bR vw ld with
  | some (.pl ss)=>(oJ (if tn then 2 else 3) (cu (if tn then ss.map Af else ss))).1.map fun w=>sl * w
  | _=>[]
 | none=>[]
theorem Ds {vw:Vw}{n:Str}{ss:List Sg}(h:bR vw n=some (.pl ss)):Ie vw n=ss:=by
 unfold Ie
 rw[h]
theorem Dt {vw:Vw}{n ld:Str}{lt sl:Int}{tn:Bool}{ss:List Sg}(h:bR vw n=some (.cn ld lt sl tn))(h':bR vw ld=some (.pl ss)):Ie vw n=if tn=true then ss.map Af else ss:=by
 unfold Ie
 rw[h]
 show (match bR vw ld with | some (.pl ss)=>if tn=true then ss.map Af else ss | _=>[])=_
 rw[h']
theorem Q0 {vw:Vw}{n:Str}{ss:List Sg}(h:bR vw n=some (.pl ss)):lY vw n=(oJ 3 (cu ss)).1:=by
 unfold lY
 rw[h]
theorem Q3 {vw:Vw}{n ld:Str}{lt sl:Int}{tn:Bool}{ss:List Sg}(h:bR vw n=some (.cn ld lt sl tn))(h':bR vw ld=some (.pl ss)):lY vw n=(oJ (if tn then 2 else 3) (cu (if tn then ss.map Af else ss))).1.map fun w=>sl * w:=by
 unfold lY
 rw[h]
 show (match bR vw ld with | some (.pl ss)=>(oJ (if tn then 2 else 3) (cu (if tn then ss.map Af else ss))).1.map fun w=>sl * w | _=>[])=_
 rw[h']
theorem au8 {H H':Hp}{x dx C:Addr}(hx:H x=none)(hdx:H dx=none)(kp:∀ y o,(upd (upd H dx (.own x)) x (.ins C dx [])) y=some o->y≠x->H' y=some o):aB H H':=fun y o hy =>
 kp y o (by rw[aA (aC hy hx),aA (aC hy hdx)];exact hy) (aC hy hx)
theorem Z0 {H:Hp}{x dx D:Addr}{o1 o2:HO}(h:upd (upd H dx o1) x o2 D=none):H D=none:=by
 unfold upd at h
 split at h
 ·cases h
 ·split at h
  ·cases h
  ·exact h
theorem Zf {H:Hp}{B A:Addr}{o:HO}(h:upd H B o A=none):H A=none:=by
 unfold upd at h
 split at h
 ·cases h
 ·exact h
theorem acJ (z:Int){k:Int}(hk:0 < k):∃ m:Nat,z % k=(m:Int)/\(m:Int) < k:=by
 have z1:=Int.emod_nonneg z (show k≠0 by omega)
 have z2:=Int.emod_lt_of_pos z hk
 exact⟨(z % k).toNat,by omega,by omega⟩
theorem Bk.new {c:Cs}{H:Hp}{x dx L D U:Addr}(hx:H x=some (.ins c.B dx (QV L D U)))(hL:H L=some (.lst []))(hD:H D=some (.lst []))(hU:H U=some (.lst []))(LD:L≠D)(LU:L≠U)(DU:D≠U):Ni c H x (fun y=>y=L∨y=D∨y=U) [] [] [] where
 ex:=⟨L,D,U,[],fun _=>[],[],[],[],[],
  {
   hx:=⟨dx,hx⟩,hL:=hL,hD:=⟨[],hD,.nil⟩,hU:=⟨[],hU,.nil⟩,ha:=fun _ h=>(nomatch h),LD:=LD,LU:=LU,DU:=DU,nl:=fun _ h=>(nomatch h),ni:=fun _ h=>(nomatch h),no:=fun _ h=>(nomatch h)
   dd:=fun _ h=>h.elim (fun z=>(nomatch z)) fun z=>(nomatch z)
   past:=.nil
   fut:=.nil
   wf:=fun S hS=>by
    rcases hS with hS | hS | hS
    ·cases hS
    ·subst hS
     exact⟨⟨[],.nil⟩,fun _ h=>(nomatch h),Nat.zero_le _,fun _ _ _=>rfl⟩
    ·cases hS },
  .nil,.nil,.nil,⟨.inl rfl,.inr (.inl rfl),.inr (.inr rfl),fun _ h=>(nomatch h),fun _ h=>h.elim (fun z=>(nomatch z)) fun z=>(nomatch z)⟩⟩
 wv:=fun v hv=>by
  rcases hv with hv | hv | hv
  ·cases hv
  ·subst hv
   exact⟨.nil,fun _ _ _ _ _ h=>(nomatch h),fun _ _ h=>(nomatch h),Nat.zero_le _⟩
  ·cases hv
theorem au9 {R:Vx->Str×Th->Prop}{vx:List Vx}{vw:Vw}(h:Paired R vx vw)(hn:∀ a q,R a q->a.n=q.1):vx.map (fun a=>V.str a.n)=vw.map (fun a=>V.str a.1):=by
 induction h with
 | nil=>rfl
 | cons r _ ih=>rw[List.map_cons,List.map_cons,ih,hn _ _ r]
theorem Z1 {vx:List Vx}{vw:Vw}{R:Vx->Str×Th->Prop}(h:Paired R vx vw)(hn:∀ a q,R a q->a.n=q.1)(n:Str) :
  (vx.find? (fun a=>decide (a.n=n))=none/\bR vw n=none) ∨ ∃ a th,∃ j:Nat,vx.find? (fun a=>decide (a.n=n))=some a/\bR vw n=some th/\R a (n,th)/\a.n=n/\vx[j]? = some a/\vw[j]? = some (n,th):=by
 induction h with
 | nil=>exact .inl ⟨rfl,rfl⟩
 | @cons a q as qs r t ih =>
  have e:=hn a q r
  by_cases hq:q.1=n
  ·refine .inr ⟨a,q.2,0,?_,?_,?_,e.trans hq,rfl,by rw[← hq];rfl⟩
   ·rw[List.find?_cons_of_pos]
    exact decide_eq_true (e.trans hq)
   ·unfold bR
    rw[List.find?_cons_of_pos (p:=fun q:Str×Th=>decide (q.1=n)) (decide_eq_true hq)]
    rfl
   ·rw[← hq];exact r
  ·have h1:¬ decide (a.n=n)=true:=fun z=>hq (e ▸ of_decide_eq_true z)
   have h2:¬ decide (q.1=n)=true:=fun z=>hq (of_decide_eq_true z)
   have f1:(a :: as).find? (fun a=>decide (a.n=n))=as.find? (fun a=>decide (a.n=n)):=List.find?_cons_of_neg h1
   have f2:bR (q :: qs) n=bR qs n:=by
    unfold bR
    rw[List.find?_cons_of_neg (p:=fun q:Str×Th=>decide (q.1=n)) h2]
   rw[f1,f2]
   exact ih.imp id fun ⟨a,th,j,h1,h2,h3,h4,h5,h6⟩=>⟨a,th,j+1,h1,h2,h3,h4,by simpa using h5,by simpa using h6⟩
theorem Bk.added {c:Cs}{H H1 H2 H':Hp}{x L D U:Addr}{all:List Vx}{M:MM}{Ps Fs:List MM}{es us:List Dd}{F:Addr->Prop}{vw:Vw}{ps fs:List Vw}(b:BkI c.B c.V c.D H x L D U all M Ps Fs es us)(i:Is H L all M vw)(pp:Paired (Is H L all) Ps ps)(f:ajR F L D U all es us)(wv:∀ v,v∈ps∨v=vw∨v∈fs->LC v)
  {a:Vx} {th:Th} (s1:aB H H1) (n1:H a.o=none) (n2:H a.l=none) (h1:H1 a.o=some (.ins c.V a.d (voF a.n a.tm a.l))) (h2:H1 a.l=some (.lst [])) (ht:∀ M',M' a.l=[]->aqs H1 M' a th) (w':LC (vw++[(a.n,th)]))
  {e:Dd} (eT:e.T=L) (ei:e.i=(M L).length) (eb:e.bs=[]) (ea:e.as=[.ref a.o]) (s2:aB H1 H2) (nB:H1 e.B=none) (nA:H1 e.A=none) (hd:xP c.D H2 (.ref e.o) e) {ds:List V} (hD:H D=some (.lst ds)) (pD:Paired (xP c.D H) ds es)
  (fr:∀ y o,H2 y=some o->y≠L->y≠D->y≠U->H' y=some o) (hL':H' L=some (.lst (M L++[.ref a.o]))) (hD':H' D=some (.lst (ds++[.ref e.o]))) (hU':H' U=some (.lst [])) :
  ∃ F',Gr F F' H/\Fr F H H'/\Ni c H' x F' (vw++[(a.n,th)]) (ps++[vw]) []:=by
 have s12:=s1.trans s2
 have kT:Kept (fun _=>True) H H2:=.same s12
 have b2:=(b.grow s1 n1 n2 h1 h2).kept (F:=fun _=>True) ⟨trivial,trivial,trivial,fun _ _=>trivial,fun _ _=>⟨trivial,trivial⟩⟩ (.same s2)
 have w2:=w'.len
 rw[List.length_append] at w2
 have ll:=bZ i
 have w2':vw.length+1 <= 12:=w2
 have hM:Lz e M L=M L++[.ref a.o]:=by
  unfold Lz
  rw[eT,jL,ei,eb,ea]
  simp
 have mo:∀ y,y≠L->Lz e M y=M y:=fun y hy=>by
  unfold Lz
  exact yJ (by rw[eT];exact hy)
 have wM:=b2.wf M (.inr (.inl rfl))
 have naL:∀ z∈all++[a],z.l≠L:=fun z hz=>(b2.nl z hz).1
 obtain⟨ux,hU,_⟩:=b2.hU
 have old:∀ {y:Addr},H1 y=none->∀ {z o},H z=some o->y≠z:=fun {y} hy {z o} hz q=>by rw[q,s1 _ _ hz] at hy;cases hy
 have oA:∀ {y:Addr},H1 y=none->y≠L/\y≠D/\y≠U/\∀ z∈all++[a],y≠z.l:=fun {y} hy=>by
  obtain⟨u0,hU0,_⟩:=b.hU
  refine⟨old hy b.hL,old hy hD,old hy hU0,fun z hz=>?_⟩
  rcases List.mem_append.mp hz with hz | hz
  ·exact old hy (b.ha z hz).2
  ·rw[List.mem_singleton.mp hz]
   exact fun q=>by rw[q,h2] at hy;cases hy
 have ok:aqt L D U (all++[a]) e:=⟨.inl eT,oA nB,oA nA,by rw[eb];simp,by rw[ea];simp⟩
 have ft:Fits e M:=⟨by rw[ei,eb,eT];simp,by rw[eb];simp⟩
 have wf2:WF H2 L (all++[a]) (Lz e M) :=
  {
   vs:=(let ⟨vx,p⟩:=wM.vs;⟨vx++[a],by rw[hM];exact oF p ⟨rfl,List.mem_append_right _ (List.mem_singleton_self _)⟩⟩)
   ln:=fun z hz=>by rw[mo _ (naL z hz)];exact wM.ln z hz
   len:=by rw[hM,List.length_append,ll];exact w2'
   out:=fun y h1 h2=>by rw[mo y h1];exact wM.out y h1 h2 }
 have i2:Is H2 L (all++[a]) M vw:=Is.kept kT (Is.grow i)
 have i':Is H2 L (all++[a]) (Lz e M) (vw++[(a.n,th)]):=by
  show Paired _ (Lz e M L) _
  rw[hM]
  refine oF ?_ ?_
  ·refine bV (fun v q hq=>?_) i2
   obtain⟨z,hz,e1,e2,e3⟩:=hq
   refine⟨z,hz,e1,e2,?_⟩
   cases hq2:q.2 with
   | pl ss=>rw[hq2] at e3;exact⟨e3.1,by rw[mo _ (naL z hz)];exact e3.2⟩
   | cn ld lt sl tn=>rw[hq2] at e3;exact e3
  ·refine⟨a,List.mem_append_right _ (List.mem_singleton_self _),rfl,rfl,?_⟩
   have nal:a.l≠L:=naL a (List.mem_append_right _ (List.mem_singleton_self _))
   have:=ht (Lz e M) (by rw[mo _ nal];exact (b.wf M (.inr (.inl rfl))).out _ nal fun z hz q=>by rw[q,(b.ha z hz).2] at n2;cases n2)
   show aqs H2 (Lz e M) a th
   cases th with
   | pl ss=>exact⟨this.1,this.2.same s2⟩
   | cn ld lt sl tn=>obtain⟨p,e1,e2⟩:=this;exact⟨p,e1,s2 _ _ e2⟩
 have B:=Bk.deed b2 i2 (bV (fun _ _ q=>Is.kept kT (Is.grow q)) pp) (F:=fun y=>F y∨y=a.l) ⟨.inl f.L,.inl f.D,.inl f.U,fun z hz=>by
   rcases List.mem_append.mp hz with hz | hz
   ·exact .inl (f.l z hz)
   ·rw[List.mem_singleton.mp hz];exact .inr rfl,fun e' he=>⟨.inl (f.d e' he).1,.inl (f.d e' he).2⟩⟩ (fun v hv=>wv v (hv.imp id .inl)) hd ok ft wf2 i' w' (Es (fun _ e' he q=>pN (F:=fun _=>True) kT ⟨trivial,trivial⟩ q) pD) (H2:=H')
  (fun y o hy y1 y2 y3=>fr y o hy (by rw[← eT];exact y1) y2 y3) (by rw[eT,hM];exact hL') hD' hU'
 refine⟨_,fun y hy=>?_,fun y o hy hn=>fr y o (s12 y o hy) (fun q=>hn (q ▸ f.L)) (fun q=>hn (q ▸ f.D)) (fun q=>hn (q ▸ f.U)),B⟩
 rcases hy with (hy | hy) | hy | hy
 ·exact .inl hy
 ·rw[hy];exact .inr n2
 ·rw[hy];exact .inr (s1.free nB)
 ·rw[hy];exact .inr (s1.free nA)
theorem Bk.aqv {c:Cs}{H H1 H':Hp}{x L D U:Addr}{all:List Vx}{M:MM}{Ps Fs:List MM}{es us:List Dd}{F:Addr->Prop}{vw:Vw}{ps fs:List Vw}(b:BkI c.B c.V c.D H x L D U all M Ps Fs es us)(i:Is H L all M vw)(pp:Paired (Is H L all) Ps ps)(f:ajR F L D U all es us)(wv:∀ v,v∈ps∨v=vw∨v∈fs->LC v)
  {a:Vx} (ha:a∈all) {j:Nat} {ss ss':List Sg} (hj:(M L)[j]? = some (.ref a.o)) (hm:vw[j]? = some (a.n,.pl ss)) (htm:a.tm=.non) {e:Dd} (eT:e.T=a.l) (ft:Fits e M) (lb:e.bs.length <= 1) (la:e.as.length <= 1) (s1:aB H H1) (nB:H e.B=none) (nA:H e.A=none) (hd:xP c.D H1 (.ref e.o) e)
  (g':nP H1 (Lz e M a.l) ss') (gl:ss'.length <= 200) (gg:∀ s∈ss',qF s) {ds:List V} (hD:H D=some (.lst ds)) (pD:Paired (xP c.D H) ds es)
  (fr:∀ y o,H1 y=some o->y≠a.l->y≠D->y≠U->H' y=some o) (hl':H' a.l=some (.lst (Lz e M a.l))) (hD':H' D=some (.lst (ds++[.ref e.o]))) (hU':H' U=some (.lst [])) :
  ∃ F',Gr F F' H/\Fr F H H'/\Ni c H' x F' (Dq vw a.n (.pl ss')) (ps++[vw]) []:=by
 have kT:Kept (fun _=>True) H H1:=.same s1
 have b2:=b.kept (F:=fun _=>True) ⟨trivial,trivial,trivial,fun _ _=>trivial,fun _ _=>⟨trivial,trivial⟩⟩ kT
 have mo:∀ y,y≠a.l->Lz e M y=M y:=fun y hy=>yJ (by rw[eT];exact hy)
 have wM:=b2.wf M (.inr (.inl rfl))
 have wvw:=wv vw (.inr (.inl rfl))
 have oA:∀ {y:Addr},H y=none->y≠L/\y≠D/\y≠U/\∀ z∈all,y≠z.l:=fun {y} hy=>by
  obtain⟨u0,hU0,_⟩:=b.hU
  exact⟨Ne.symm (aC b.hL hy),Ne.symm (aC hD hy),Ne.symm (aC hU0 hy),fun z hz=>Ne.symm (aC (b.ha z hz).2 hy)⟩
 have ok:aqt L D U all e:=⟨.inr ⟨a,ha,eT⟩,oA nB,oA nA,lb,la⟩
 have nal:L≠a.l:=Ne.symm (b.nl a ha).1
 have wf2:WF H1 L all (Lz e M) :=
  {
   vs:=by rw[mo L nal];exact wM.vs
   ln:=fun z hz=>by
    by_cases hza:z.l=a.l
    ·rw[hza]
     refine⟨by rw[bZ g'];exact gl,fun v hv=>?_⟩
     obtain⟨k,hk⟩:=List.getElem?_of_mem hv
     obtain⟨sg,e1,e2⟩:=wu g' hk
     exact⟨sg,e2,gg sg (List.mem_of_getElem? e1)⟩
    ·rw[mo _ hza];exact wM.ln z hz
   len:=by rw[mo L nal];exact wM.len
   out:=fun y h1 h2=>by rw[mo y (h2 a ha)];exact wM.out y h1 h2 }
 have i2:Is H1 L all M vw:=Is.kept kT i
 have B:=Bk.deed b2 i2 (bV (fun _ _ q=>Is.kept kT q) pp) f (fun v hv=>wv v (hv.imp id .inl)) hd ok ft wf2 (Is.line b2 i2 wvw ha hj hm htm mo g') (wvw.set (List.mem_of_getElem? hm) gl gg) (Es (fun _ e' he q=>pN (F:=fun _=>True) kT ⟨trivial,trivial⟩ q) pD) (H2:=H')
  (fun y o hy y1 y2 y3=>fr y o hy (by rw[← eT];exact y1) y2 y3) (by rw[eT];exact hl') hD' hU'
 refine⟨_,fun y hy=>?_,fun y o hy hn=>fr y o (s1 y o hy) (fun q=>hn (q ▸ f.l a ha)) (fun q=>hn (q ▸ f.D)) (fun q=>hn (q ▸ f.U)),B⟩
 rcases hy with hy | hy | hy
 ·exact .inl hy
 ·rw[hy];exact .inr nB
 ·rw[hy];exact .inr nA
def ThV (H:Hp)(v:V):Th->Prop
 | .pl ss=>∃ l ys,v=.ref l/\H l=some (.lst ys)/\nP H ys ss
 | .cn ld lt sl tn=>∃ p,v=.ref p/\H p=some (.tup [.str ld,.int lt,.int sl,.bl tn])
def ah8 (H:Hp)(kv:Key×V)(q:Str×Th):Prop:=kv.1=Sum.inr q.1/\ThV H kv.2 q.2
def Q4 (H:Hp)(d:Addr)(vw:Vw):Prop:=∃ kvs,H d=some (.dK kvs)/\Paired (ah8 H) kvs vw
theorem ThV.same {H H':Hp}(s:aB H H'){v:V}{th:Th}(h:ThV H v th):ThV H' v th:=by
 cases th with
 | pl ss=>obtain⟨l,ys,e1,e2,e3⟩:=h;exact⟨l,ys,e1,s _ _ e2,e3.same s⟩
 | cn ld lt sl tn=>obtain⟨p,e1,e2⟩:=h;exact⟨p,e1,s _ _ e2⟩
theorem ah8.same {H H':Hp}(s:aB H H'){kv:Key×V}{q:Str×Th}(h:ah8 H kv q):ah8 H' kv q:=⟨h.1,h.2.same s⟩
theorem Q4.same {H H':Hp}(s:aB H H'){d:Addr}{vw:Vw}(h:Q4 H d vw):Q4 H' d vw:=by
 obtain⟨kvs,e,p⟩:=h
 exact⟨kvs,s _ _ e,bV (fun _ _ q=>q.same s) p⟩
theorem aqx {H:Hp}{kvs:List (Key×V)}{vw:Vw}(h:Paired (ah8 H) kvs vw){n:Str}{th:Th}(hf:bR vw n=some th):∃ v,Hw kvs (Sum.inr n)=some v/\ThV H v th:=by
 induction h with
 | nil=>cases hf
 | @cons kv q as qs r t ih =>
  by_cases hq:q.1=n
  ·have e:bR (q :: qs) n=some q.2:=by
    unfold bR
    rw[List.find?_cons_of_pos (p:=fun q:Str×Th=>decide (q.1=n)) (decide_eq_true hq)]
    rfl
   rw[e] at hf
   cases hf
   refine⟨kv.2,?_,r.2⟩
   unfold Hw
   rw[List.find?_cons_of_pos (p:=fun kv:Key×V=>decide (kv.1=Sum.inr n)) (decide_eq_true (by rw[r.1,hq]))]
   rfl
  ·have e:bR (q :: qs) n=bR qs n:=by
    unfold bR
    rw[List.find?_cons_of_neg (p:=fun q:Str×Th=>decide (q.1=n)) (fun z=>hq (of_decide_eq_true z))]
   rw[e] at hf
   obtain⟨v,h1,h2⟩:=ih hf
   refine⟨v,?_,h2⟩
   unfold Hw at h1 ⊢
   rw[List.find?_cons_of_neg (p:=fun kv:Key×V=>decide (kv.1=Sum.inr n)) (fun z=>hq (Sum.inr.inj (r.1.symm.trans (of_decide_eq_true z))))]
   exact h1
theorem Q4.get {H:Hp}{d:Addr}{vw:Vw}(h:Q4 H d vw){n:Str}{th:Th}(hf:bR vw n=some th):∃ v,ZK H d (.str n) (some v)/\ThV H v th:=by
 obtain⟨kvs,e,p⟩:=h
 obtain⟨v,h1,h2⟩:=aqx p hf
 refine⟨v,?_,h2⟩
 have:=ZK.k (k:=Sum.inr n) e
 rw[h1] at this
 exact this
theorem Q4.keys {H:Hp}{d:Addr}{vw:Vw}(h:Q4 H d vw):∃ kvs,H d=some (.dK kvs)/\(kvs.map fun kv=>kV kv.1)=vw.map fun q=>V.str q.1:=by
 obtain⟨kvs,e,p⟩:=h
 refine⟨kvs,e,?_⟩
 clear e
 induction p with
 | nil=>rfl
 | cons r _ ih=>rw[List.map_cons,List.map_cons,ih,r.1];rfl
set_option maxHeartbeats 1000000
theorem Bk.axa {CB CV CD:Addr}{H:Hp}{x:Addr}{F:Addr->Prop}{vw:Vw}{ps fs:List Vw}(h:Bk CB CV CD H x F vw ps fs):∃ F0:Addr->Prop,(∀ y,F0 y->F y)/\(∀ y,F0 y->∃ xs,H y=some (.lst xs))/\Bk CB CV CD H x F0 vw ps fs:=by
 obtain⟨L,D,U,all,M,Ps,Fs,es,us,b,i,pp,pf,f⟩:=h.ex
 obtain⟨ds,hD,pD⟩:=b.hD
 obtain⟨ux,hU,pU⟩:=b.hU
 have dd:∀ e,e∈es∨e∈us->H e.B=some (.lst e.bs)/\H e.A=some (.lst e.as):=fun e he=>by
  rcases he with he | he
  ·obtain⟨k,hk⟩:=List.getElem?_of_mem he
   obtain⟨v,_,q⟩:=Hj pD hk
   exact⟨q.2.2.1,q.2.2.2⟩
  ·obtain⟨k,hk⟩:=List.getElem?_of_mem he
   obtain⟨v,_,q⟩:=Hj pU hk
   exact⟨q.2.2.1,q.2.2.2⟩
 refine⟨fun y=>y=L∨y=D∨y=U∨(∃ a∈all,y=a.l) ∨ ∃ e,(e∈es∨e∈us)/\(y=e.B∨y=e.A),fun y hy=>?_,fun y hy=>?_,⟨⟨L,D,U,all,M,Ps,Fs,es,us,b,i,pp,pf,⟨.inl rfl,.inr (.inl rfl),.inr (.inr (.inl rfl)),fun a ha=>.inr (.inr (.inr (.inl ⟨a,ha,rfl⟩))),fun e he=>⟨.inr (.inr (.inr (.inr ⟨e,he,.inl rfl⟩))),.inr (.inr (.inr (.inr ⟨e,he,.inr rfl⟩)))⟩⟩⟩,h.wv⟩⟩
 ·rcases hy with rfl | rfl | rfl | ⟨a,ha,rfl⟩ | ⟨e,he,rfl | rfl⟩
  ·exact f.L
  ·exact f.D
  ·exact f.U
  ·exact f.l a ha
  ·exact (f.d e he).1
  ·exact (f.d e he).2
 ·rcases hy with rfl | rfl | rfl | ⟨a,ha,rfl⟩ | ⟨e,he,rfl | rfl⟩
  ·exact⟨_,b.hL⟩
  ·exact⟨_,hD⟩
  ·exact⟨_,hU⟩
  ·exact⟨_,(b.ha a ha).2⟩
  ·exact⟨_,(dd e he).1⟩
  ·exact⟨_,(dd e he).2⟩
structure Bq (c:Cs)(H:Hp)(x:Addr)(own:List Addr)(vw:Vw)(ps fs:List Vw):Prop where
 ex:∃ F,Ni c H x F vw ps fs/\(∀ y,F y->∃ xs,H y=some (.lst xs))/\∀ a∈own,¬ F a/\∃ o,H a=some o
def anu (own:List Addr)(H H':Hp):Prop:=∀ y o,H y=some o->((∀ xs,o≠.lst xs)∨y∈own)->H' y=some o
section
variable {c:Cs} {H H' H1:Hp} {x:Addr} {own:List Addr} {vw vw':Vw} {ps ps' fs fs':List Vw} {F F':Addr->Prop}
theorem anu.sgs (k:anu own H H'){xs:List V}{ss:List Sg}(h:nP H xs ss):nP H' xs ss:=bV (fun _ _ ⟨p,e1,e2⟩=>⟨p,e1,k _ _ e2 (.inl fun _ z=>nomatch z)⟩) h
theorem anu.tup (k:anu own H H'){p:Addr}{xs:List V}(h:H p=some (.tup xs)):H' p=some (.tup xs):=k _ _ h (.inl fun _ z=>nomatch z)
end
set_option maxHeartbeats 1000000
def Ym (H:Hp)(y:V)(q:Str×Th):Prop:=∃ p v,y=.ref p/\H p=some (.tup [.str q.1,v])/\ThV H v q.2
def tU (H:Hp)(l:Addr)(vw:Vw):Prop:=∃ ys,H l=some (.lst ys)/\Paired (Ym H) ys vw
theorem Ym.same {H H':Hp}(s:aB H H'){y:V}{q:Str×Th}(h:Ym H y q):Ym H' y q:=by
 obtain⟨p,v,e1,e2,e3⟩:=h
 exact⟨p,v,e1,s _ _ e2,e3.same s⟩
theorem tU.same {H H':Hp}(s:aB H H'){l:Addr}{vw:Vw}(h:tU H l vw):tU H' l vw:=by
 obtain⟨ys,e,p⟩:=h
 exact⟨ys,s _ _ e,bV (fun _ _ q=>q.same s) p⟩
theorem Ew:∀ (more acc:List (Key×V)),((acc++more).map (·.1)).Nodup->lX acc more=acc++more
 | [],acc,_=>by unfold lX;simp
 | kv :: more,acc,h=>by
  have e:Hw acc kv.1=none:=by
   cases hv:Hw acc kv.1 with
   | none=>rfl
   | some v =>
    have:=asw hv
    rw[List.map_append,List.map_cons] at h
    obtain⟨_,_,h3⟩:=List.nodup_append.mp h
    exact absurd rfl (h3 _ this _ (List.mem_cons_self ..))
  show lX (putK acc kv.1 kv.2) more=_
  rw[aqe kv.2 e,Ew more _ (by rw[List.append_assoc];exact h),List.append_assoc]
  rfl
theorem Nj {H:Hp}:∀ {ys:List V} {vw:Vw},Paired (Ym H) ys vw->∃ kvs:List (Key×V),Paired (fun y kv=>∃ q,y=.ref q/\H q=some (.tup [kV kv.1,kv.2])) ys kvs/\Paired (ah8 H) kvs vw
 | _,_,.nil=>⟨[],.nil,.nil⟩
 | _,_,.cons ⟨p,v,e1,e2,e3⟩ t=>by
  obtain⟨kvs,h1,h2⟩:=Nj t
  exact⟨(Sum.inr _,v) :: kvs,.cons ⟨p,e1,e2⟩ h1,.cons ⟨rfl,e3⟩ h2⟩
theorem Z2 {H:Hp}{kvs:List (Key×V)}{vw:Vw}(h:Paired (ah8 H) kvs vw)(n:(vw.map (·.1)).Nodup):(kvs.map (·.1)).Nodup:=by
 have e:kvs.map (·.1)=(vw.map (·.1)).map fun x=>(Sum.inr x:Key):=by
  clear n
  induction h with
  | nil=>rfl
  | cons r _ ih=>rw[List.map_cons,List.map_cons,List.map_cons,ih,r.1]
 rw[e]
 exact Uk n
theorem tU.dict {H:Hp}{l:Addr}{vw:Vw}(h:tU H l vw)(n:(vw.map (·.1)).Nodup):∃ (ys:List V) (kvs:List (Key×V)),H l=some (.lst ys)/\Paired (fun y kv=>∃ q,y=.ref q/\H q=some (.tup [kV kv.1,kv.2])) ys kvs/\kvs.length=vw.length/\∀ d,H d=none->aB H (upd H d (.dK (lX [] kvs)))/\Q4 (upd H d (.dK (lX [] kvs))) d vw:=by
 obtain⟨ys,e,p⟩:=h
 obtain⟨kvs,h1,h2⟩:=Nj p
 refine⟨ys,kvs,e,h1,bZ h2,fun d hd=>?_⟩
 rw[Ew kvs [] (by simpa using Z2 h2 n)]
 exact⟨aB.upd hd,kvs,ak,bV (fun _ _ q=>q.same (aB.upd hd)) h2⟩
structure adU (vw:Vw):Prop where
 w:LC vw
 nm:∀ q∈vw,nameB q.1=true/\q.1 ≠ "zed"/\q.1.length <= 1000
 ld:∀ (i:Nat) n ld lt sl tn,vw[i]? = some (n,Th.cn ld lt sl tn)->∃ ss,(ld,Th.pl ss)∈vw.take i
 sh:∀ n ss,(n,Th.pl ss)∈vw->ss.length <= 24
theorem LC.take {vw:Vw}(w:adU vw)(i:Nat):LC (vw.take i) where
 nd:=by rw[List.map_take];exact List.Sublist.nodup (List.take_sublist _ _) w.w.nd
 ld:=fun n ld lt sl tn h=>by
  obtain⟨j,hj⟩:=List.getElem?_of_mem h
  have hji:j < i:=by
   have:=(List.getElem?_eq_some_iff.mp hj).1
   rw[List.length_take] at this
   omega
  rw[List.getElem?_take_of_lt hji] at hj
  obtain⟨ss,hss⟩:=w.ld j n ld lt sl tn hj
  have h2:=w.w.ld n ld lt sl tn (List.mem_of_getElem? hj)
  refine⟨⟨ss,?_⟩,h2.2⟩
  have:vw.take j=(vw.take i).take j:=by rw[List.take_take,Nat.min_eq_left (by omega)]
  rw[this] at hss
  exact List.mem_of_mem_take hss
 gd:=fun n ss h=>w.w.gd n ss (List.mem_of_mem_take h)
 len:=by rw[List.length_take];have:=w.w.len;omega
def j5 (H:Hp)(y:V)(r:Str×Int):Prop:=∃ p,y=.ref p/\H p=some (.tup [.str r.1,.int r.2])
theorem j5.same {H H':Hp}(s:aB H H'){y:V}{t:Str×Int}(h:j5 H y t):j5 H' y t:=by
 obtain⟨p,e1,e2⟩:=h
 exact⟨p,e1,s _ _ e2⟩
theorem j5.write {H:Hp}{l:Addr}{xs:List V}{o:HO}(hl:H l=some (.lst xs)){y:V}{t:Str×Int}(h:j5 H y t):j5 (upd H l o) y t:=by
 obtain⟨p,e1,e2⟩:=h
 exact⟨p,e1,by rw[aA (fun e=>by rw[e,hl] at e2;exact nomatch e2)];exact e2⟩
def jM (vw:Vw):Vw:=match vw.getLast? with
 | none=>[]
 | some (n,.pl ss)=>if ss=[] then vw.dropLast else vw.dropLast++[(n,.pl ss.dropLast)]
 | some (_,.cn _ _ _ _)=>vw.dropLast
end aeF
namespace aeF
end aeF
set_option maxHeartbeats 1000000
local macro_rules | `(tactic| tm_up) => `(tactic| repeat w_up)
local macro_rules | `(tactic| w_up) => `(tactic| first
 | refine⟨_,rfl,?_⟩
 | refine⟨_,_,rfl,rfl,⟨by decide,by decide⟩,?_⟩
 | refine⟨_,_,rfl,rfl,(by first | decide | (show (0:Int) < _;decide)),?_⟩
 | refine .inl ⟨_,_,rfl,rfl,.inr ⟨by decide,by decide⟩,?_⟩
 | refine⟨_,_,rfl,rfl,?_⟩
 | refine .inl ⟨_,_,rfl,rfl,?_⟩
 | refine .inl ⟨rfl,?_⟩
 | refine .inr ⟨_,_,rfl,rfl,?_⟩
 | refine aeF.ix0 (by assumption) ?_
 | refine aeF.ix1 (by assumption) ?_)
namespace aeF
open PySem L2
def top (i:Nat):Stmt:=PySem.Challenge.pw_noteworth_k44_waits_told.main.body.getD i (.Pass ⟨0,0,0,0⟩)
abbrev pO:Stmt:=top 66
abbrev yh:Stmt:=top 67
abbrev pP:Stmt:=top 69
abbrev pQ:Stmt:=top 68
abbrev Du:Stmt:=top 70
abbrev jx:Stmt:=top 71
abbrev pR:Stmt:=inClass (top 57) 2
abbrev pW:Stmt:=inClass (top 64) 7
abbrev yj:Stmt:=inClass (top 57) 1
abbrev pX:Stmt:=inClass (top 64) 8
abbrev cW:Stmt:=top 59
abbrev Us:Stmt:=top 9
abbrev fH:Stmt:=top 60
abbrev jo:Stmt:=inClass (top 64) 14
abbrev Lh:Stmt:=top 10
abbrev ym:Stmt:=top 61
abbrev tV:Stmt:=top 62
abbrev jq:Stmt:=top 11
abbrev Dv:Stmt:=top 63
abbrev dN:Stmt:=inClass (top 64) 17
abbrev eO:Stmt:=inClass (top 64) 18
abbrev gW:Stmt:=inClass (top 57) 0
abbrev pY:Stmt:=inClass (top 64) 6
abbrev tW:Stmt:=inClass (top 64) 4
abbrev tX:Stmt:=inClass (top 64) 5
abbrev mV:Stmt:=top 86
abbrev mW:Stmt:=inClass (top 64) 12
abbrev pZ:Stmt:=top 13
abbrev tY:Stmt:=top 29
abbrev yo:Stmt:=top 40
abbrev j8:Stmt:=top 39
abbrev cX:Stmt:=top 41
abbrev Ut:Stmt:=top 30
abbrev gY:Stmt:=top 42
abbrev gA:Stmt:=top 43
abbrev fJ:Stmt:=top 44
abbrev fK:Stmt:=top 45
abbrev mX:Stmt:=top 46
abbrev yp:Stmt:=top 47
abbrev Dw:Stmt:=top 48
abbrev Dy:Stmt:=top 31
abbrev qb:Stmt:=inClass (top 64) 10
abbrev qd:Stmt:=inClass (top 64) 11
abbrev Dz:Stmt:=top 14
abbrev mY:Stmt:=inClass (top 64) 9
abbrev Li:Stmt:=top 15
abbrev qe:Stmt:=top 73
abbrev DG:Stmt:=top 75
abbrev yq:Stmt:=top 76
abbrev Lj:Stmt:=top 77
abbrev DK:Stmt:=top 78
abbrev qg:Stmt:=top 74
abbrev j9:Stmt:=top 80
abbrev yr:Stmt:=top 81
abbrev DN:Stmt:=top 82
abbrev yt:Stmt:=top 89
abbrev yu:Stmt:=top 84
abbrev DP:Stmt:=top 83
abbrev tZ:Stmt:=top 85
abbrev fL:Stmt:=top 87
abbrev kh:Stmt:=top 88
abbrev yw:Stmt:=top 58
abbrev fM:Stmt:=inClass (top 64) 16
abbrev kj:Stmt:=inClass (top 64) 15
abbrev gB:Stmt:=inClass (top 56) 0
abbrev gC:Stmt:=inClass (top 64) 1
abbrev gD:Stmt:=inClass (top 64) 2
abbrev qi:Stmt:=top 72
abbrev gZ:Stmt:=inClass (top 64) 0
abbrev adV:Stmt:=top 90
theorem aeN:aP ["_law_script","_law_k"] ["_law_script","_law_k"] (aq pO):=⟨rfl,rfl,rfl,by decide +kernel,rfl,by decide +kernel,by decide +kernel⟩
theorem Nk:aP ["_law_seed","_law_k","_law_one","_law_two"] ["_law_seed","_law_k"] (aq yh):=⟨rfl,rfl,rfl,by decide +kernel,rfl,by decide +kernel,by decide +kernel⟩
theorem Q5:aP ["_law_number","_law_kind"] ["_law_number"] (aq pP):=⟨rfl,rfl,rfl,by decide +kernel,rfl,by decide +kernel,by decide +kernel⟩
theorem qG:aP ["_law_script","_law_at","_law_many","_law_seed","_law_left","_law_row"] ["_law_script","_law_at","_law_many"] (aq pQ):=⟨rfl,rfl,rfl,by decide +kernel,rfl,by decide +kernel,by decide +kernel⟩
theorem anv:aP ["_law_script","_law_at","_law_many"] ["_law_script","_law_at","_law_many"] (aq Du):=⟨rfl,rfl,rfl,by decide +kernel,rfl,by decide +kernel,by decide +kernel⟩
theorem cL:aP ["_law_script","_law_names","_law_plain","_law_told","_law_k","_law_size","_law_cell","_law_later","_law_slow","_law_led","_law_row"] ["_law_script"] (aq jx):=⟨rfl,rfl,rfl,by decide +kernel,rfl,by decide +kernel,by decide +kernel⟩
theorem aeO:aP ["self"] ["self"] (aq pR):=⟨rfl,rfl,rfl,by decide +kernel,rfl,by decide +kernel,by decide +kernel⟩
theorem Q6:aP ["self","deed"] ["self"] (aq pW):=⟨rfl,rfl,rfl,by decide +kernel,rfl,by decide +kernel,by decide +kernel⟩
theorem ajU:aP ["self"] ["self"] (aq yj):=⟨rfl,rfl,rfl,by decide +kernel,rfl,by decide +kernel,by decide +kernel⟩
theorem Q7:aP ["self","deed"] ["self"] (aq pX):=⟨rfl,rfl,rfl,by decide +kernel,rfl,by decide +kernel,by decide +kernel⟩
theorem Ex:aP ["at","last"] ["at","last"] (aq cW):=⟨rfl,rfl,rfl,by decide +kernel,rfl,by decide +kernel,by decide +kernel⟩
theorem aeP:aP ["sign","kind","tone"] ["sign"] (aq Us):=⟨rfl,rfl,rfl,by decide +kernel,rfl,by decide +kernel,by decide +kernel⟩
theorem Nm:aP ["sign"] ["sign"] (aq fH):=⟨rfl,rfl,rfl,by decide +kernel,rfl,by decide +kernel,by decide +kernel⟩
theorem Yn:aP ["self","deed"] ["self","deed"] (aq jo):=⟨rfl,rfl,rfl,by decide +kernel,rfl,by decide +kernel,by decide +kernel⟩
theorem aqy:aP ["sign"] ["sign"] (aq Lh):=⟨rfl,rfl,rfl,by decide +kernel,rfl,by decide +kernel,by decide +kernel⟩
theorem Ey:aP ["line","at","met","place"] ["line","at"] (aq ym):=⟨rfl,rfl,rfl,by decide +kernel,rfl,by decide +kernel,by decide +kernel⟩
theorem XM:aP ["line","first","kinds","place"] ["line","first","kinds"] (aq tV):=⟨rfl,rfl,rfl,by decide +kernel,rfl,by decide +kernel,by decide +kernel⟩
theorem Yo:aP ["sign"] ["sign"] (aq jq):=⟨rfl,rfl,rfl,by decide +kernel,rfl,by decide +kernel,by decide +kernel⟩
theorem adW:aP ["line","at","behind","changed","kinds"] ["line","at","behind","changed"] (aq Dv):=⟨rfl,rfl,rfl,by decide +kernel,rfl,by decide +kernel,by decide +kernel⟩
theorem vL:aP ["self","name","voice"] ["self","name"] (aq dN):=⟨rfl,rfl,rfl,by decide +kernel,rfl,by decide +kernel,by decide +kernel⟩
theorem xu:aP ["self","name","voice"] ["self","name"] (aq eO):=⟨rfl,rfl,rfl,by decide +kernel,rfl,by decide +kernel,by decide +kernel⟩
theorem Uu:aP ["self","things","at","before","after"] ["self","things","at","before","after"] (aq gW):=⟨rfl,rfl,rfl,by decide +kernel,rfl,by decide +kernel,by decide +kernel⟩
theorem Ez:aP ["self","name","at","sign","signs","before"] ["self","name","at","sign"] (aq pY):=⟨rfl,rfl,rfl,by decide +kernel,rfl,by decide +kernel,by decide +kernel⟩
theorem XN:aP ["self","name","at","sign","signs"] ["self","name","at","sign"] (aq tW):=⟨rfl,rfl,rfl,by decide +kernel,rfl,by decide +kernel,by decide +kernel⟩
theorem Ig:aP ["self","name","at","signs","sign"] ["self","name","at"] (aq tX):=⟨rfl,rfl,rfl,by decide +kernel,rfl,by decide +kernel,by decide +kernel⟩
theorem oK:aP ["_law_script","_law_book","_law_name","_law_line_here","_law_at","_law_sign","_law_way"] ["_law_script","_law_book","_law_name","_law_line_here"] (aq mV):=⟨rfl,rfl,rfl,by decide +kernel,rfl,by decide +kernel,by decide +kernel⟩
theorem acK:aP ["self","name"] ["self","name"] (aq mW):=⟨rfl,rfl,rfl,by decide +kernel,rfl,by decide +kernel,by decide +kernel⟩
theorem Q8:aP ["book","name","terms"] ["book","name"] (aq pZ):=⟨rfl,rfl,rfl,by decide +kernel,rfl,by decide +kernel,by decide +kernel⟩
theorem vM:aP ["line","begin","found","measure","sign"] ["line","begin"] (aq tY):=⟨rfl,rfl,rfl,by decide +kernel,rfl,by decide +kernel,by decide +kernel⟩
theorem ajV:aP ["line","at"] ["line","at"] (aq yo):=⟨rfl,rfl,rfl,by decide +kernel,rfl,by decide +kernel,by decide +kernel⟩
theorem Z3:aP ["kind","measure"] ["kind","measure"] (aq j8):=⟨rfl,rfl,rfl,by decide +kernel,rfl,by decide +kernel,by decide +kernel⟩
theorem fZ:aP ["line","begin","found","at","measure"] ["line","begin"] (aq cX):=⟨rfl,rfl,rfl,by decide +kernel,rfl,by decide +kernel,by decide +kernel⟩
theorem EY:aP ["line","begin","found","first","at","sign","measure"] ["line","begin"] (aq Ut):=⟨rfl,rfl,rfl,by decide +kernel,rfl,by decide +kernel,by decide +kernel⟩
theorem Uv:aP ["line","found","first"] ["line","found","first"] (aq gY):=⟨rfl,rfl,rfl,by decide +kernel,rfl,by decide +kernel,by decide +kernel⟩
theorem Q9:aP ["line","behind"] ["line","behind"] (aq gA):=⟨rfl,rfl,rfl,by decide +kernel,rfl,by decide +kernel,by decide +kernel⟩
theorem Np:aP ["line","found","first","behind"] ["line","found","first","behind"] (aq fJ):=⟨rfl,rfl,rfl,by decide +kernel,rfl,by decide +kernel,by decide +kernel⟩
theorem Nq:aP ["line","found","first","behind"] ["line","found","first","behind"] (aq fK):=⟨rfl,rfl,rfl,by decide +kernel,rfl,by decide +kernel,by decide +kernel⟩
theorem Mm:aP ["line","found","first","behind","rest"] ["line","found","first","behind"] (aq mX):=⟨rfl,rfl,rfl,by decide +kernel,rfl,by decide +kernel,by decide +kernel⟩
theorem yK:aP ["line","begin","found","loose_runs","first","behind"] ["line","begin"] (aq yp):=⟨rfl,rfl,rfl,by decide +kernel,rfl,by decide +kernel,by decide +kernel⟩
theorem anw:aP ["line","begin"] ["line","begin"] (aq Dw):=⟨rfl,rfl,rfl,by decide +kernel,rfl,by decide +kernel,by decide +kernel⟩
theorem anx:aP ["line"] ["line"] (aq Dy):=⟨rfl,rfl,rfl,by decide +kernel,rfl,by decide +kernel,by decide +kernel⟩
theorem cM:aP ["self","name","terms","leader","later","slow","is_turned","heard"] ["self","name"] (aq qb):=⟨rfl,rfl,rfl,by decide +kernel,rfl,by decide +kernel,by decide +kernel⟩
theorem jN:aP ["self","name","terms","leader","later","slow","is_turned","begin"] ["self","name"] (aq qd):=⟨rfl,rfl,rfl,by decide +kernel,rfl,by decide +kernel,by decide +kernel⟩
theorem anz:aP ["book","name"] ["book","name"] (aq Dz):=⟨rfl,rfl,rfl,by decide +kernel,rfl,by decide +kernel,by decide +kernel⟩
theorem acL:aP ["self"] ["self"] (aq mY):=⟨rfl,rfl,rfl,by decide +kernel,rfl,by decide +kernel,by decide +kernel⟩
theorem Z4:aP ["book","endings","last"] ["book"] (aq Li):=⟨rfl,rfl,rfl,by decide +kernel,rfl,by decide +kernel,by decide +kernel⟩
theorem qH:aP ["_law_voices","_law_name","_law_thing","_law_told","_law_sign","_law_kind"] ["_law_voices","_law_name"] (aq qe):=⟨rfl,rfl,rfl,by decide +kernel,rfl,by decide +kernel,by decide +kernel⟩
theorem yx:aP ["_law_line_here","_law_begin","_law_told","_law_now","_law_at","_law_kind"] ["_law_line_here","_law_begin"] (aq DG):=⟨rfl,rfl,rfl,by decide +kernel,rfl,by decide +kernel,by decide +kernel⟩
theorem yL:aP ["_law_line_here","_law_begin","_law_told","_law_now","_law_sign"] ["_law_line_here","_law_begin"] (aq yq):=⟨rfl,rfl,rfl,by decide +kernel,rfl,by decide +kernel,by decide +kernel⟩
theorem DQ:aP ["_law_line_here","_law_told","_law_low","_law_high","_law_rest","_law_behind","_law_after","_law_left","_law_right_here"] ["_law_line_here","_law_told","_law_low","_law_high"] (aq Lj):=⟨rfl,rfl,rfl,by decide +kernel,rfl,by decide +kernel,by decide +kernel⟩
theorem qj:aP ["_law_line_here","_law_begin","_law_told","_law_three_here","_law_left","_law_low","_law_high"] ["_law_line_here","_law_begin"] (aq DK):=⟨rfl,rfl,rfl,by decide +kernel,rfl,by decide +kernel,by decide +kernel⟩
theorem Fb:aP ["_law_voices","_law_name","_law_thing","_law_line_here"] ["_law_voices","_law_name"] (aq qg):=⟨rfl,rfl,rfl,by decide +kernel,rfl,by decide +kernel,by decide +kernel⟩
theorem Ih:aP ["_law_voices","_law_name","_law_beat"] ["_law_voices","_law_name"] (aq j9):=⟨rfl,rfl,rfl,by decide +kernel,rfl,by decide +kernel,by decide +kernel⟩
theorem ajW:aP ["_law_found"] ["_law_found"] (aq yr):=⟨rfl,rfl,rfl,by decide +kernel,rfl,by decide +kernel,by decide +kernel⟩
theorem DR:aP ["_law_found","_law_due","_law_one","_law_other","_law_a","_law_b"] ["_law_found","_law_due"] (aq DN):=⟨rfl,rfl,rfl,by decide +kernel,rfl,by decide +kernel,by decide +kernel⟩
theorem uc:aP ["_law_script","_law_book","_law_voices","_law_lasts","_law_due","_law_told","_law_found","_law_met"] ["_law_script","_law_book","_law_voices"] (aq yt):=⟨rfl,rfl,rfl,by decide +kernel,rfl,by decide +kernel,by decide +kernel⟩
theorem Nr:aP ["_law_found","_law_due","_law_one","_law_other"] ["_law_found","_law_due"] (aq yu):=⟨rfl,rfl,rfl,by decide +kernel,rfl,by decide +kernel,by decide +kernel⟩
theorem adX:aP ["_law_found","_law_due","_law_k"] ["_law_found","_law_due"] (aq DP):=⟨rfl,rfl,rfl,by decide +kernel,rfl,by decide +kernel,by decide +kernel⟩
theorem Ag:aP ["_law_book","_law_voices","_law_told","_law_name","_law_terms"] ["_law_book","_law_voices"] (aq tZ):=⟨rfl,rfl,rfl,by decide +kernel,rfl,by decide +kernel,by decide +kernel⟩
theorem jO:aP ["_law_script","_law_book","_law_told","_law_plain","_law_name","_law_line_here","_law_voices"] ["_law_script","_law_book","_law_told"] (aq fL):=⟨rfl,rfl,rfl,by decide +kernel,rfl,by decide +kernel,by decide +kernel⟩
theorem yM:aP ["_law_script","_law_book","_law_told","_law_before"] ["_law_script","_law_book","_law_told"] (aq kh):=⟨rfl,rfl,rfl,by decide +kernel,rfl,by decide +kernel,by decide +kernel⟩
theorem ajX:aP ["name"] ["name"] (aq yw):=⟨rfl,rfl,rfl,by decide +kernel,rfl,by decide +kernel,by decide +kernel⟩
theorem Nt:aP ["self","name"] ["self","name"] (aq fM):=⟨rfl,rfl,rfl,by decide +kernel,rfl,by decide +kernel,by decide +kernel⟩
theorem Z5:aP ["self","voice"] ["self","voice"] (aq kj):=⟨rfl,rfl,rfl,by decide +kernel,rfl,by decide +kernel,by decide +kernel⟩
theorem Ra:aP ["self","name","terms"] ["self","name","terms"] (aq gB):=⟨rfl,rfl,rfl,by decide +kernel,rfl,by decide +kernel,by decide +kernel⟩
theorem Rb:aP ["self","name"] ["self","name"] (aq gC):=⟨rfl,rfl,rfl,by decide +kernel,rfl,by decide +kernel,by decide +kernel⟩
theorem Rc:aP ["self","name","leader","later","slow","is_turned"] ["self","name","leader","later","slow","is_turned"] (aq gD):=⟨rfl,rfl,rfl,by decide +kernel,rfl,by decide +kernel,by decide +kernel⟩
theorem qI:aP ["_law_book","_law_told","_law_name","_law_thing","_law_at","_law_sign"] ["_law_book","_law_told"] (aq qi):=⟨rfl,rfl,rfl,by decide +kernel,rfl,by decide +kernel,by decide +kernel⟩
theorem Uw:aP ["self"] ["self"] (aq gZ):=⟨rfl,rfl,rfl,by decide +kernel,rfl,by decide +kernel,by decide +kernel⟩
theorem aqz:aP ["_law_script","_law_told"] ["_law_script"] (aq adV):=⟨rfl,rfl,rfl,by decide +kernel,rfl,by decide +kernel,by decide +kernel⟩
theorem Z6:(["_law_k","_law_script","_law_at","_law_many","_law_seed","_law_left","_law_row"]:List Str).Nodup:=by decide +kernel
theorem ah9:(["_law_number","_law_script","_law_at","_law_many"]:List Str).Nodup:=by decide +kernel
theorem Z7:(["_law_j","_law_script","_law_names","_law_plain","_law_told","_law_k","_law_size","_law_cell","_law_later","_law_slow","_law_led","_law_row"]:List Str).Nodup:=by decide +kernel
theorem Z8:(["_law_number","_law_script","_law_names","_law_plain","_law_told","_law_k","_law_size","_law_cell","_law_later","_law_slow","_law_led","_law_row"]:List Str).Nodup:=by decide +kernel
theorem aia:(["sign","line","at","behind","changed","kinds"]:List Str).Nodup:=by decide +kernel
theorem XQ:(["kind","tone","line"]:List Str).Nodup:=by decide +kernel
theorem Z9:(["worth","self","name","terms","leader","later","slow","is_turned","begin"]:List Str).Nodup:=by decide +kernel
theorem Yp:(["voice","self"]:List Str).Nodup:=by decide +kernel
theorem ajY:(["name","book","endings","last"]:List Str).Nodup:=by decide +kernel
theorem Fd:(["name","end","book","endings","last"]:List Str).Nodup:=by decide +kernel
theorem Yq:(["_law_worth","_law_voices","_law_name","_law_thing","_law_line_here"]:List Str).Nodup:=by decide +kernel
theorem Mp:(["_law_name","_law_script","_law_book","_law_voices","_law_lasts","_law_due","_law_told","_law_found","_law_met"]:List Str).Nodup:=by decide +kernel
theorem BW:(["_law_last","_law_name","_law_wait","_law_script","_law_book","_law_voices","_law_lasts","_law_due","_law_told","_law_found","_law_met"]:List Str).Nodup:=by decide +kernel
theorem Mq:(["_law_name","_law_wait","_law_script","_law_book","_law_voices","_law_lasts","_law_due","_law_told","_law_found","_law_met"]:List Str).Nodup:=by decide +kernel
theorem Hy:(["_law_script","_law_book","_law_told","_law_plain","","_law_line_here","_law_voices"]:List Str).Nodup:=by decide +kernel
theorem tH:(["_law_name","_law_thing","_law_script","_law_book","_law_told","_law_plain","","_law_line_here","_law_voices"]:List Str).Nodup:=by decide +kernel
theorem tK:(["_law_one","_law_thing","_law_script","_law_book","_law_told","_law_plain","_law_name","_law_line_here","_law_voices"]:List Str).Nodup:=by decide +kernel
theorem acM:(["letter","name"]:List Str).Nodup:=by decide +kernel
def Ii:List (Str×Pos):=[("ann",⟨325,18,325,23⟩),("bo",⟨325,25,325,29⟩),("cy",⟨325,31,325,35⟩),("dora",⟨325,37,325,43⟩),("eve",⟨325,45,325,50⟩),("ann",⟨325,52,325,57⟩),("bo",⟨325,59,325,63⟩),("cy",⟨325,65,325,69⟩),("dora",⟨325,71,325,77⟩)]
structure Adr where
 lZ:Addr
 Ij:FuncData
 ud:Addr
 Ux:FuncData
 mj:Addr
 Ik:FuncData
 mq:Addr
 Il:FuncData
 yN:Addr
 aaa:FuncData
 my:Addr
 Im:FuncData
 jy:Addr
 Io:FuncData
 jz:Addr
 Ip:FuncData
 qm:Addr
 Uy:FuncData
 jA:Addr
 Ir:FuncData
 cH:Addr
 kW:FuncData
 Nu:Addr
 ajZ:FuncData
 dF:Addr
 qJ:FuncData
 fB:Addr
 yO:FuncData
 Fe:Addr
 aeQ:FuncData
 ue:Addr
 Uz:FuncData
 pA:Addr
 Nv:FuncData
 gH:Addr
 yP:FuncData
 yQ:Addr
 aab:FuncData
 cD:Addr
 nQ:FuncData
 cN:Addr
 pB:FuncData
 dR:Addr
 wz:FuncData
 jB:Addr
 Iu:FuncData
 mz:Addr
 Nx:FuncData
 mC:Addr
 Ny:FuncData
 jP:Addr
 Ff:FuncData
 iw:Addr
 Fg:FuncData
 mD:Addr
 Iv:FuncData
 pC:Addr
 Fi:FuncData
 Ah:Addr
 qK:Tok
 uf:Addr
 UG:FuncData
 iU:Addr
 BX:FuncData
 cI:Addr
 kY:FuncData
 Nz:Addr
 aeR:FuncData
 Zg:Addr
 Iw:Tok
 fW:Addr
 wA:FuncData
 eQ:Addr
 ug:FuncData
 dG:Addr
 qL:FuncData
 dH:Addr
 qM:FuncData
 jQ:Addr
 Fj:FuncData
 uh:Addr
 UJ:FuncData
 yR:Addr
 Rg:FuncData
 Lk:Addr
 yS:Tok
 yU:Addr
 aac:FuncData
 iy:Addr
 Ai:FuncData
 jC:Addr
 Iz:FuncData
 yV:Addr
 aad:FuncData
 iB:Addr
 Fl:FuncData
 Fo:Addr
 aeS:FuncData
 mF:Addr
 IK:FuncData
 yW:Addr
 aae:FuncData
 um:Addr
 UL:FuncData
 Fp:Addr
 aeT:FuncData
 yX:Addr
 aaf:FuncData
 mG:Addr
 IV:FuncData
 iV:Addr
 BZ:FuncData
 uo:Addr
 UT:FuncData
 yZ:Addr
 aag:FuncData
 uq:Addr
 UW:FuncData
 ur:Addr
 U0:FuncData
 za:Addr
 aah:FuncData
 pF:Addr
 NB:FuncData
 dJ:Addr
 qN:FuncData
 iW:Addr
 Ca:FuncData
 uv:Addr
 U3:FuncData
 cV:Addr
 qO:FuncData
 gm:Addr
 Cd:FuncData
 dq:Addr
 uw:FuncData
 du:Addr
 uy:FuncData
 dw:Addr
 mZ:FuncData
 lJ:Addr
 gJ:Tok
 gK:Tok
 mH:Addr
 IW:FuncData
 dU:Addr
 wB:FuncData
 aai:Addr
 aqA:FuncData
 gn:Addr
 iY:Addr
 fX:Addr
 dW:Addr
 eU:Addr
 gM:Addr
 qP:Tok
 fD:Addr
 fG:Addr
 cO:Addr
 xQ:Tok
 lK:Tok
 oW:Tok
 qQ:Tok
 Ln:Tok
 qR:Tok
 vz:Tok
 xR:Tok
 Rh:Tok
 Lp:Tok
 fc:Addr
 bT:Addr
 bI:Addr
structure Txt (K:Frag)(w:World)(mg:Str->Option Value)(t:Adr):Prop where
 bL:lW K "_law_cell_at" "_law_cell_at" pO t.lZ t.Ij
 bY:Binds K t.Ij ["_law_script","_law_k"] []
 cg:mg "_law_cell_at" = some (.ref t.lZ)
 m7:lW K "_law_mixed" "_law_mixed" yh t.ud t.Ux
 uz:Binds K t.Ux ["_law_seed","_law_k"] []
 zb:mg "_law_mixed" = some (.ref t.ud)
 mJ:lW K "_law_sign_by" "_law_sign_by" pP t.mj t.Ik
 vN:Binds K t.Ik ["_law_number"] []
 Fq:mg "_law_sign_by" = some (.ref t.mj)
 vO:lW K "_law_numbers" "_law_numbers" pQ t.mq t.Il
 Ja:Binds K t.Il ["_law_script","_law_at","_law_many"] []
 aeU:mg "_law_numbers" = some (.ref t.mq)
 Jb:lW K "_law_line" "_law_line" Du t.yN t.aaa
 aaj:Binds K t.aaa ["_law_script","_law_at","_law_many"] []
 anA:mg "_law_line" = some (.ref t.yN)
 vP:lW K "_law_entries" "_law_entries" jx t.my t.Im
 Jc:Binds K t.Im ["_law_script"] []
 aeV:mg "_law_entries" = some (.ref t.my)
 Aj:lW K "undo" "Deed.undo" pR t.jy t.Io
 Jd:Binds K t.Io ["self"] []
 aeW:Meth K t.bT "undo" t.jy
 Ak:lW K "undo" "Book.undo" pW t.jz t.Ip
 mK:Binds K t.Ip ["self"] []
 qT:Meth K t.bI "undo" t.jz
 Lq:lW K "do" "Deed.do" yj t.qm t.Uy
 Lr:Binds K t.Uy ["self"] []
 aak:Meth K t.bT "do" t.qm
 Al:lW K "redo" "Book.redo" pX t.jA t.Ir
 Am:Binds K t.Ir ["self"] []
 Ri:Meth K t.bI "redo" t.jA
 cJ:lW K "refuse_other_places" "refuse_other_places" cW t.cH t.kW
 dZ:Binds K t.kW ["at","last"] []
 jR:mg "refuse_other_places" = some (.ref t.cH)
 aal:lW K "good" "good" Us t.Nu t.ajZ
 aj0:Binds K t.ajZ ["sign"] []
 asM:mg "good" = some (.ref t.Nu)
 fO:lW K "refuse_bad_sign" "refuse_bad_sign" fH t.dF t.qJ
 lL:Binds K t.qJ ["sign"] []
 zc:mg "refuse_bad_sign" = some (.ref t.dF)
 qU:lW K "perform" "Book.perform" jo t.fB t.yO
 jr:Binds K t.yO ["self","deed"] []
 oX:Meth K t.bI "perform" t.fB
 Ls:lW K "small" "small" Lh t.Fe t.aeQ
 Zh:Binds K t.aeQ ["sign"] []
 aib:mg "small" = some (.ref t.Fe)
 DW:lW K "low_end" "low_end" ym t.ue t.Uz
 U5:Binds K t.Uz ["line","at"] []
 aj1:mg "low_end" = some (.ref t.ue)
 zf:lW K "high_end" "high_end" tV t.pA t.Nv
 NK:Binds K t.Nv ["line","first","kinds"] []
 aic:mg "high_end" = some (.ref t.pA)
 jt:lW K "sets_measure" "sets_measure" jq t.gH t.yP
 qW:Binds K t.yP ["sign"] []
 Hl:mg "sets_measure" = some (.ref t.gH)
 zg:lW K "window" "window" Dv t.yQ t.aab
 Je:Binds K t.aab ["line","at","behind","changed"] []
 U6:mg "window" = some (.ref t.yQ)
 jf:lW K "voice_called" "Book.voice_called" dN t.cD t.nQ
 dO:Binds K t.nQ ["self","name"] []
 iC:Meth K t.bI "voice_called" t.cD
 jT:lW K "plain_voice" "Book.plain_voice" eO t.cN t.pB
 eV:Binds K t.pB ["self","name"] []
 jg:Meth K t.bI "plain_voice" t.cN
 oY:lW K "__init__" "Deed.__init__" gW t.dR t.wz
 ie:Binds K t.wz ["self","things","at","before","after"] []
 An:lW K "swap" "Book.swap" pY t.jB t.Iu
 Jf:Binds K t.Iu ["self","name","at","sign"] []
 aeX:Meth K t.bI "swap" t.jB
 Ft:lW K "put" "Book.put" tW t.mz t.Nx
 Fv:Binds K t.Nx ["self","name","at","sign"] []
 XR:Meth K t.bI "put" t.mz
 Fw:lW K "cut" "Book.cut" tX t.mC t.Ny
 NP:Binds K t.Ny ["self","name","at"] []
 aid:Meth K t.bI "cut" t.mC
 qX:lW K "_law_one_deed" "_law_one_deed" mV t.jP t.Ff
 Fx:Binds K t.Ff ["_law_script","_law_book","_law_name","_law_line_here"] []
 acN:mg "_law_one_deed" = some (.ref t.jP)
 xV:lW K "canon" "Book.canon" mW t.iw t.Fg
 jU:Binds K t.Fg ["self","name"] []
 oM:Meth K t.bI "canon" t.iw
 vQ:lW K "beginning" "beginning" pZ t.mD t.Iv
 Jg:Binds K t.Iv ["book","name"] []
 aeY:mg "beginning" = some (.ref t.mD)
 pG:aeB K "measures" "measures" tY t.pC t.Fi (.ref t.Ah)
 XX:Binds K t.Fi ["line","begin"] [.int 3 t.qK]
 Fy:Binds K t.Fi ["line","begin"] []
 X3:mg "measures" = some (.ref t.pC)
 ig:lW K "kind_at" "kind_at" yo t.uf t.UG
 km:Binds K t.UG ["line","at"] []
 mL:mg "kind_at" = some (.ref t.uf)
 oN:lW K "plain_worth" "plain_worth" j8 t.iU t.BX
 Ce:Binds K t.BX ["kind","measure"] []
 aam:mg "plain_worth" = some (.ref t.iU)
 d7:lW K "worths_without_runs" "worths_without_runs" cX t.cI t.kY
 kZ:Binds K t.kY ["line","begin"] []
 Fz:mg "worths_without_runs" = some (.ref t.cI)
 U8:aeB K "runs" "runs" Ut t.Nz t.aeR (.ref t.Zg)
 amw:Binds K t.aeR ["line","begin"] [.int 3 t.Iw]
 aj2:Binds K t.aeR ["line","begin"] []
 asN:mg "runs" = some (.ref t.Nz)
 ik:lW K "has_left_note" "has_left_note" gY t.fW t.wA
 oZ:Binds K t.wA ["line","found","first"] []
 DX:mg "has_left_note" = some (.ref t.fW)
 gF:lW K "has_right_note" "has_right_note" gA t.eQ t.ug
 m8:Binds K t.ug ["line","behind"] []
 Ao:mg "has_right_note" = some (.ref t.eQ)
 iD:lW K "settle_one_over" "settle_one_over" fJ t.dG t.qL
 qY:Binds K t.qL ["line","found","first","behind"] []
 NQ:mg "settle_one_over" = some (.ref t.dG)
 iG:lW K "settle_two_over" "settle_two_over" fK t.dH t.qM
 qZ:Binds K t.qM ["line","found","first","behind"] []
 NT:mg "settle_two_over" = some (.ref t.dH)
 q8:lW K "settle_run" "settle_run" mX t.jQ t.Fj
 FJ:Binds K t.Fj ["line","found","first","behind"] []
 acO:mg "settle_run" = some (.ref t.jQ)
 DY:lW K "reading" "reading" yp t.uh t.UJ
 U9:Binds K t.UJ ["line","begin"] []
 aj3:mg "reading" = some (.ref t.uh)
 zj:aeB K "worths" "worths" Dw t.yR t.Rg (.ref t.Lk)
 adY:Binds K t.Rg ["line","begin"] [.int 3 t.yS]
 Rj:Binds K t.Rg ["line","begin"] []
 adZ:mg "worths" = some (.ref t.yR)
 Ea:lW K "turned" "turned" Dy t.yU t.aac
 Rk:Binds K t.aac ["line"] []
 ad0:mg "turned" = some (.ref t.yU)
 vR:lW K "line" "Book.line" qb t.iy t.Ai
 mO:Binds K t.Ai ["self","name"] []
 q9:Meth K t.bI "line" t.iy
 Aq:lW K "kept" "Book.kept" qd t.jC t.Iz
 vU:Binds K t.Iz ["self","name"] []
 FN:Meth K t.bI "kept" t.jC
 Jh:lW K "ending" "ending" Dz t.yV t.aad
 aan:Binds K t.aad ["book","name"] []
 anB:mg "ending" = some (.ref t.yV)
 xW:lW K "names" "Book.names" mY t.iB t.Fl
 jV:Binds K t.Fl ["self"] []
 oO:Meth K t.bI "names" t.iB
 Lw:lW K "waits" "waits" Li t.Fo t.aeS
 Zi:Binds K t.aeS ["book"] []
 aie:mg "waits" = some (.ref t.Fo)
 qp:lW K "_law_line_of" "_law_line_of" qe t.mF t.IK
 Ar:Binds K t.IK ["_law_voices","_law_name"] []
 Rm:mg "_law_line_of" = some (.ref t.mF)
 Ji:lW K "_law_base" "_law_base" DG t.yW t.aae
 aao:Binds K t.aae ["_law_line_here","_law_begin"] []
 anC:mg "_law_base" = some (.ref t.yW)
 Eb:lW K "_law_three" "_law_three" yq t.um t.UL
 Va:Binds K t.UL ["_law_line_here","_law_begin"] []
 aj4:mg "_law_three" = some (.ref t.um)
 Rn:lW K "_law_run" "_law_run" Lj t.Fp t.aeT
 aeZ:Binds K t.aeT ["_law_line_here","_law_told","_law_low","_law_high"] []
 aqB:mg "_law_run" = some (.ref t.Fp)
 Ec:lW K "_law_read" "_law_read" DK t.yX t.aaf
 Ro:Binds K t.aaf ["_law_line_here","_law_begin"] []
 ad1:mg "_law_read" = some (.ref t.yX)
 qt:lW K "_law_kept_of" "_law_kept_of" qg t.mG t.IV
 Av:Binds K t.IV ["_law_voices","_law_name"] []
 Rp:mg "_law_kept_of" = some (.ref t.mG)
 kE:lW K "_law_ending_of" "_law_ending_of" j9 t.iV t.BZ
 vA:Binds K t.BZ ["_law_voices","_law_name"] []
 Jj:mg "_law_ending_of" = some (.ref t.iV)
 m9:lW K "_law_whole" "_law_whole" yr t.uo t.UT
 uA:Binds K t.UT ["_law_found"] []
 zm:mg "_law_whole" = some (.ref t.uo)
 Jk:lW K "_law_rows" "_law_rows" DN t.yZ t.aag
 aap:Binds K t.aag ["_law_found","_law_due"] []
 anD:mg "_law_rows" = some (.ref t.yZ)
 kI:lW K "_law_right" "_law_right" yt t.uq t.UW
 qu:Binds K t.UW ["_law_script","_law_book","_law_voices"] []
 uB:mg "_law_right" = some (.ref t.uq)
 Ed:lW K "_law_signs" "_law_signs" yu t.ur t.U0
 Vb:Binds K t.U0 ["_law_found","_law_due"] []
 aj5:mg "_law_signs" = some (.ref t.ur)
 Jl:lW K "_law_nums" "_law_nums" DP t.za t.aah
 aaq:Binds K t.aah ["_law_found","_law_due"] []
 anE:mg "_law_nums" = some (.ref t.za)
 mQ:lW K "_law_stands" "_law_stands" tZ t.pF t.NB
 uC:Binds K t.NB ["_law_book","_law_voices"] []
 Aw:mg "_law_stands" = some (.ref t.pF)
 iH:lW K "_law_changed_right" "_law_changed_right" fL t.dJ t.qN
 rm:Binds K t.qN ["_law_script","_law_book","_law_told"] []
 NZ:mg "_law_changed_right" = some (.ref t.dJ)
 oR:lW K "_law_all_round" "_law_all_round" kh t.iW t.Ca
 Cg:Binds K t.Ca ["_law_script","_law_book","_law_told"] []
 aar:mg "_law_all_round" = some (.ref t.iW)
 Ef:lW K "is_name" "is_name" yw t.uv t.U3
 Vc:Binds K t.U3 ["name"] []
 aj6:mg "is_name" = some (.ref t.uv)
 lM:lW K "refuse_new" "Book.refuse_new" fM t.cV t.qO
 lN:Binds K t.qO ["self","name"] []
 zp:Meth K t.bI "refuse_new" t.cV
 vB:lW K "put_in" "Book.put_in" kj t.gm t.Cd
 vC:Binds K t.Cd ["self","voice"] []
 Jm:Meth K t.bI "put_in" t.gm
 nj:lW K "__init__" "Voice.__init__" gB t.dq t.uw
 nq:Binds K t.uw ["self","name","terms"] []
 nu:lW K "add_voice" "Book.add_voice" gC t.du t.uy
 nC:Binds K t.uy ["self","name"] []
 Ax:Meth K t.bI "add_voice" t.du
 ju:aeB K "add_canon" "Book.add_canon" gD t.dw t.mZ (.ref t.lJ)
 Ay:Binds K t.mZ ["self","name","leader","later","slow","is_turned"] [.int 0 t.gJ,.int 1 t.gK,.bool false]
 uD:Binds K t.mZ ["self","name","leader","later","slow","is_turned"] []
 Rq:Meth K t.bI "add_canon" t.dw
 vV:lW K "_law_book_of" "_law_book_of" qi t.mH t.IW
 Jo:Binds K t.IW ["_law_book","_law_told"] []
 ae0:mg "_law_book_of" = some (.ref t.mH)
 o8:lW K "__init__" "Book.__init__" gZ t.dU t.wB
 wC:Binds K t.wB ["self"] []
 amx:lW K "law" "law" adV t.aai t.aqA
 at9:Binds K t.aqA ["_law_script"] []
 azl:mg "law" = some (.ref t.aai)
 ava:mg "all" = none
 avb:mg "any" = none
 amy:mg "bool" = none
 xX:mg "dict" = none
 FP:mg "enumerate" = none
 N5:mg "int" = none
 bG:mg "isinstance" = none
 cC:mg "len" = none
 iI:mg "list" = none
 ae1:mg "max" = none
 aj7:mg "min" = none
 rA:mg "range" = none
 ae2:mg "str" = none
 aqC:mg "sum" = none
 Rr:mg "tuple" = none
 aas:mg "zip" = none
 Mr:mg "GREAT_KINDS" = some (.ref t.gn)
 Mt:∀ H,nJ K H t.gn [.str "G",.str "D",.str "R"]
 acP:mg "SMALL_KINDS" = some (.ref t.iY)
 acQ:∀ H,nJ K H t.iY [.str "s",.str "d",.str "r"]
 Yr:mg "PARTING_KINDS" = some (.ref t.fX)
 Ys:∀ H,nJ K H t.fX [.str ".",.str "3",.str "2"]
 Hm:mg "MEASURE_KINDS" = some (.ref t.dW)
 Hn:∀ H,nJ K H t.dW [.str "3",.str "2"]
 Vd:mg "SOUNDING_KINDS" = some (.ref t.eU)
 Ve:∀ H,nJ K H t.eU [.str "G",.str "D",.str "s",.str "d"]
 aat:mg "SILENT_KINDS" = some (.ref t.gM)
 aau:∀ H,nJ K H t.gM [.str "R",.str "r",.str ".",.str "3",.str "2"]
 aav:mg "HIGHEST_TONE" = some (.int 99 t.qP)
 aaw:mg "TURNED_KINDS" = some (.ref t.fD)
 Yt:KD K w t.fD [("3",.str "2"),("2",.str "3")]
 aax:mg "PLAIN_WORTHS" = some (.ref t.fG)
 Yu:KD K w t.fG [("G",.int 3),("D",.int 2),("R",.int 3),("s",.int 1),("d",.int 1),("r",.int 1),(".",.int 0),("3",.int 0),("2",.int 0)]
 Eg:mg "TWOFOLD_WORTHS" = some (.ref t.cO)
 Az:KD K w t.cO [("G",.int 2),("R",.int 2)]
 ae3:mg "FULL_WORTH" = some (.int 3 t.xQ)
 lO:mg "SHORTENED_WORTH" = some (.int 2 t.lK)
 Yv:mg "DOUBLED_WORTH" = some (.int 2 t.oW)
 aay:mg "DOTTED_WORTH" = some (.int 3 t.qQ)
 anF:mg "LETTERS" = some (.str "abcdefghijklmnopqrstuvwxyz" t.Ln)
 aaz:mg "LONGEST_NAME" = some (.int 8 t.qR)
 acR:mg "MOST_VOICES" = some (.int 12 t.vz)
 ae4:mg "MOST_SIGNS" = some (.int 200 t.xR)
 aqD:mg "LATEST" = some (.int 999 t.Rh)
 anG:mg "SLOWEST" = some (.int 9 t.Lp)
 aif:mg "Voice" = some (.ref t.fc)
 aih:Mk K t.fc t.dq
 j6:Cls K t.fc
 iZ:nM K t.fc "name"
 gO:nM K t.fc "terms"
 c7:nM K t.fc "signs"
 Zj:mg "Deed" = some (.ref t.bT)
 Zk:Mk K t.bT t.dR
 iJ:Cls K t.bT
 gP:nM K t.bT "things"
 jW:nM K t.bT "at"
 gQ:nM K t.bT "before"
 jb:nM K t.bT "after"
 asO:mg "Book" = some (.ref t.bI)
 asQ:Mk K t.bI t.dU
 aZ:Cls K t.bI
 dg:nM K t.bI "voices"
 gb:nM K t.bI "done"
 dM:nM K t.bI "undone"
def cs (t:Adr):Cs:=⟨t.bI,t.fc,t.bT,false,fun r=>match r with
 | .Ze=>0
 | .ams=>0
 | .adS=>0
 | .Full=>0
 | .vy=>0
 | .Dr=>0
 | .QZ=>0
 | .amt=>0
 | .au7=>0
 | .ajT=>0⟩
def jD (ns:List Int)(k:Nat):Int:=ns.getD k 0
inductive Rt (K:Frag)(vs:List V)(H:Hp)(Q:VK)(E:XK):Prop
 | mk (a:Addr) (ns:List Int) (k:Nat) (gj:vs=[.ref a,.int (k:Int)]) (gk:bh K H a (ns.map V.int)) (jc:ns.length <= 63) (n8:Q (.int (jD ns k)) H):Rt K vs H Q E
variable {P:Program} {w:World} {K:Frag} {mg:Str->Option Value} {base:Heap} {t:Adr}
theorem xY (T:Txt K w mg t):bW P w K mg base jF (0+1) t.lZ t.Ij ["_law_script","_law_k"] (Rt K):=by
 refine T.bL.ok aeN (fun vs H Q E h=>?_) (fun cdv A outer s H vs Q E hr h=>?_)
 ·obtain⟨a,ns,k,rfl,_⟩:=h
  rfl
 ·obtain⟨a,ns,k,rfl,hS,hl,q⟩:=h
  refine bA (ao (bC (aJ Dg (pv 1) (aH (amZ rfl) rfl T.aj7 ajF (aa az (aa (aH (aM.or aN) rfl T.cC cB (aa (pv 0) aj)) aj))) (aQ _)) (au (aG (bH bx (pv 0) (pv 1) (fun _ _=>rfl)))) aO) (au (aG az))) ?_
  refine⟨_,rfl,_,rfl,.inl ⟨_,_,rfl,.inl hS,_,_,rfl,_,_,rfl,rfl,_,rfl,?_⟩⟩
  rw[List.length_map]
  refine bJ (fun h=>?_) (fun h=>?_)
  ·have hk:k < ns.length:=by
    have:=of_decide_eq_true h
    split at this <;> omega
   have e:(ns.map V.int)[k]? = some (V.int (jD ns k)):=by
    rw[List.getElem?_map,List.getElem?_eq_getElem hk]
    unfold jD
    rw[List.getD_eq_getElem?_getD,List.getElem?_eq_getElem hk]
    rfl
   exact⟨_,rfl,_,rfl,.inl ⟨_,_,_,_,rfl,rfl,hS,QG e,q⟩⟩
  ·have hk:ns.length <= k:=by
    have h':¬ ((k:Int) < if (ns.length:Int) < 63 then (ns.length:Int) else 63):=fun z=>h (decide_eq_true z)
    split at h' <;> omega
   have e:jD ns k=0:=by
    unfold jD
    rw[List.getD_eq_getElem?_getD,List.getElem?_eq_none hk]
    rfl
   rw[e] at q
   exact q
inductive aaA (vs:List V)(H:Hp)(Q:VK)(E:XK):Prop
 | mk (seed k:Int) (gj:vs=[.int seed,.int k]) (gk:∀ r:Int,0 <= r->r < 65521->Q (.int r) H):aaA vs H Q E
theorem N6 (T:Txt K w mg t):bW P w K mg base jF (0+1) t.ud t.Ux ["_law_seed","_law_k"] aaA:=by
 refine T.m7.ok Nk (fun vs H Q E h=>?_) (fun cdv A outer s H vs Q E hr h=>?_)
 ·obtain⟨_,_,rfl,_⟩:=h
  rfl
 ·obtain⟨seed,k,rfl,q⟩:=h
  refine bA (ao (aX (i:=2) Nk.nd rfl (Or.inl rfl) (aV eF (aV (bN.or (aR.or bO)) (aV (bN.or (aR.or bO)) (aV (v8.or v9) (aV eF (pv 0) az) az) (aV (v8.or v9) (pv 1) az)) az) az)) (ao (aX (i:=3) Nk.nd rfl (Or.inl rfl) (aV eF (aV (bN.or (aR.or bO)) (aV (bN.or (aR.or bO)) (aV (v8.or v9) (pv 2) (pv 2)) (aV (v8.or v9) (pv 1) az)) (aV eF (aV xH (pv 0) az) az)) az)) (au (aG (aV eF (aV (bN.or (aR.or bO)) (aV xH (aV (v8.or v9) (pv 3) (pv 3)) az) (pv 3)) az))))) ?_
  have p2:(2:Int) ^ 64=18446744073709551616:=by decide
  refine⟨_,rfl,_,_,rfl,rfl,(by decide:(0:Int) < 1000003),.inl ⟨_,_,rfl,rfl,.inr ⟨by decide,by decide⟩,_,rfl,.inl ⟨_,_,rfl,rfl,.inr ⟨by decide,by decide⟩,.inl ⟨_,_,rfl,rfl,.inl ⟨_,_,rfl,rfl,_,_,rfl,rfl,(by decide:(0:Int) < 1000033),?_⟩⟩⟩⟩⟩
  generalize hone:(seed % 1000003 * 48271+k * 30011+17) % 1000033=one
  have b1:0 <= one/\one < 1000033:=by omega
  refine⟨_,rfl,_,rfl,.inl ⟨_,_,rfl,rfl,.inl ⟨by rw[p2];omega,by rw[p2];omega⟩,_,rfl,.inl ⟨_,_,rfl,rfl,.inr ⟨by decide,by decide⟩,.inl ⟨_,_,rfl,rfl,_,rfl,_,_,rfl,rfl,⟨by decide,by decide⟩,_,_,rfl,rfl,(by decide:(0:Int) < 997),.inl ⟨_,_,rfl,rfl,_,_,rfl,rfl,(by decide:(0:Int) < 999983),?_⟩⟩⟩⟩⟩
  generalize aB8:(one * one+k * 613+seed / 1000003 % 997) % 999983=two
  have b2:0 <= two/\two < 999983:=by omega
  refine⟨_,rfl,_,rfl,.inl ⟨_,_,rfl,rfl,.inl ⟨by rw[p2];omega,by rw[p2];omega⟩,_,_,rfl,rfl,⟨by decide,by decide⟩,_,rfl,.inl ⟨_,_,rfl,rfl,_,_,rfl,rfl,(by decide:(0:Int) < 65521),?_⟩⟩⟩
  exact q _ (by omega) (by omega)
def l24:List Kd:=[.G,.G,.G,.G,.G,.s,.s,.s,.s,.s,.s,.s,.s,.s,.d,.d,.r,.r,.D,.R,.dot,.dot,.three,.two]
theorem axb:(Str.ofString "GGGGGsssssssssddrrDR..32").cps.toList=l24.map Kd.cp:=by decide +kernel
theorem aii (k:Kd):inS k.str "GDsd" = k.BP:=by cases k <;> decide +kernel
inductive Ru (vs:List V)(H:Hp)(Q:VK)(E:XK):Prop
 | mk (m:Int) (gj:vs=[.int m]) (gk:∀ (p:Addr) (s:Sg),qF s->H p=none->Q (.ref p) (upd H p (.tup [.str s.1.str,.int s.2]))):Ru vs H Q E
theorem FQ (T:Txt K w mg t):bW P w K mg base jF (0+1) t.mj t.Ik ["_law_number"] Ru:=by
 refine T.mJ.ok Q5 (fun vs H Q E h=>?_) (fun cdv A outer s H vs Q E hr h=>?_)
 ·obtain⟨_,rfl,_⟩:=h
  rfl
 ·obtain⟨m,rfl,q⟩:=h
  refine bA (ao (aX (i:=1) Q5.nd rfl (Or.inl rfl) (bH bx cA (aV eF (pv 0) az) (fun _ _=>rfl))) (ao (bC (aJ (gw.or gq) (pv 1) cA rfl) (au (aG (fQ (aa (pv 1) (aa (aV eF (aV xH (pv 0) az) az) aj))))) aO) (au (aG (fQ (aa (pv 1) (aa az aj))))))) ?_
  obtain⟨k,hk⟩:∃ k,l24[(m % 24).toNat]? = some k:=by
   have h1:(m % 24).toNat < l24.length:=by
    show _ < 24
    omega
   exact⟨_,List.getElem?_eq_getElem h1⟩
  have hat:atI (Str.ofString "GGGGGsssssssssddrrDR..32").cps.toList (m % 24)=some k.cp:=by
   have e0:m % 24=(((m % 24).toNat:Nat):Int):=by omega
   rw[e0,axb]
   exact QG (by rw[List.getElem?_map,hk];rfl)
  refine⟨_,rfl,_,_,rfl,rfl,(by decide:(0:Int) < 24),.inr (.inr ⟨_,_,_,rfl,rfl,(by decide +kernel),hat,?_⟩)⟩
  rw[← awZ k]
  tm_up
  refine bJ (fun h=>?_) (fun h=>?_)
  ·have h4:k.BP=true:=by rw[← aii];exact h
   tm_up
   refine⟨(by show 2 <= sizeLine;decide),fun p hp=>?_⟩
   exact q p (k,m / 24 % 100) ⟨fun _=>by show 0 <= m / 24 % 100/\m / 24 % 100 < 100;omega,fun z=>by rw[h4] at z;cases z⟩ hp
  ·have h4:k.BP=false:=by
    rw[← aii]
    exact Bool.eq_false_iff.mpr h
   tm_up
   refine⟨(by show 2 <= sizeLine;decide),fun p hp=>?_⟩
   exact q p (k,0) ⟨(fun z=>by rw[h4] at z;cases z),fun _=>rfl⟩ hp
inductive Rv (K:Frag)(vs:List V)(H:Hp)(Q:VK)(E:XK):Prop
 | mk (a:Addr) (ns:List Int) (k m:Nat) (gj:vs=[.ref a,.int (k:Int),.int (m:Int)]) (gk:bh K H a (ns.map V.int)) (jc:ns.length <= 63) (n8:m <= 48) (xJ:∀ (l:Addr) (ms:List Int) (H':Hp),aB H H'->H' l=some (.lst (ms.map V.int))->ms.length <= 60->(∀ x∈ms,0 <= x)->Q (.ref l) H'):Rv K vs H Q E
theorem ae5 (T:Txt K w mg t):bW P w K mg base jF (0+2) t.mq t.Il ["_law_script","_law_at","_law_many"] (Rv K):=by
 have bU:=xY (P:=P) (w:=w) (base:=base) T
 have uE:=N6 (P:=P) (w:=w) (base:=base) T
 refine T.vO.ok qG (fun vs H Q E h=>?_) (fun cdv A outer s H vs Q E hr h=>?_)
 ·obtain⟨_,_,_,_,rfl,_⟩:=h
  rfl
 ·obtain⟨a,ns,k,m,rfl,hS,hl,hm,q⟩:=h
  refine bA (ao (aX (i:=3) qG.nd rfl (Or.inr rfl) (aD bU (hr.mono (by decide)) rfl T.cg T.bL.kp T.bY .nil aF (aa (pv 0) (aa (pv 1) aj)))) (ao (bC (aJ Dg (pv 3) (aV apu az az) (aQ _)) (au (aG (lF (cn:=["_law_k"]) rfl (cU.of rfl) (tQ rfl T.rA (aa (pv 2) aj)) (fun _=>(aU (i:=0) Z6 rfl (Or.inl rfl))) (fun _=>kO) (fun _=>(aD uE (hr.mono (by decide)) rfl T.zb T.m7.kp T.uz .nil aF (aa (aV (bN.or (aR.or bO)) (pv 4) (aV (v8.or v9) az (aD bU (hr.mono (by decide)) rfl T.cg T.bL.kp T.bY .nil aF (aa (pv 1) (aa (aV (bN.or (aR.or bO)) (aV (bN.or (aR.or bO)) (pv 2) az) (pv 0)) aj))))) (aa (pv 0) aj))))))) aO) (ao (aX (i:=4) qG.nd rfl (Or.inl rfl) (aV jE (pv 3) (aV apu az az))) (ao (aX (i:=5) qG.nd rfl (Or.inl rfl) (cj aj)) (ao (Zq PassesOwn.never (cG (PW.pt (fP (aJ ahG (pv 4) az (aQ _)) (ir (aJ Dg (aH (aM.or aN) rfl T.cC cB (aa (pv 5) aj)) az (aQ _)))))) (ao (bj (j4 PySem.F.plainAttrs_list PySem.F.slot_list_append PySem.F.type_list_append bK (pv 5) (aa (aV eF (pv 4) az) aj))) (au (aX (i:=4) qG.nd rfl (Or.inl rfl) (aV xH (pv 4) az))))) (au (aG (pv 5)))))))) ?_
  refine⟨_,rfl,_,rfl,a,ns,k,rfl,hS,hl,?_⟩
  refine⟨_,rfl,_,_,rfl,rfl,⟨by decide,by decide,by decide⟩,_,_,rfl,rfl,_,rfl,?_⟩
  refine bJ (fun _=>?_) (fun _=>?_)
  ·refine⟨_,rfl,(m:Int),rfl,(by omega),(by omega),fun D b hD=>?_⟩
   refine Zz (lo:=0) (n:=((m:Int)).toNat) (fun i ys σ H'=>∃ (v:Option V) (ms:List Int),σ=[v,some (.ref a),some (.int (k:Int)),some (.int (m:Int)),some (.int (jD ns k)),none,none]/\H'=upd H D (.lst ys)/\ys=ms.map V.int/\ms.length=i/\∀ x∈ms,0 <= x) ⟨none,[],rfl,rfl,rfl,rfl,fun _ h=>nomatch h⟩ ?_ ?_
   ·rintro i ys σ H' hi ⟨v,ms,rfl,rfl,rfl,hlen,hpos⟩ N hN
    refine fU ?_
    refine⟨_,rfl,_,rfl,_,rfl,.inl ⟨_,_,rfl,rfl,_,rfl,.inl ⟨_,_,rfl,rfl,a,ns,k+1+i,?_,jd hS hD,hl,.inl ⟨_,_,rfl,rfl,.inl ⟨by decide,by decide⟩,?_⟩⟩⟩⟩
    ·show [V.ref a,V.int ((k:Int)+1+(0+(i:Int)))]=[V.ref a,V.int ((k+1+i:Nat):Int)]
     have e:(k:Int)+1+(0+(i:Int))=((k+1+i:Nat):Int):=by omega
     rw[e]
    ·refine .inl ⟨_,_,rfl,rfl,_,rfl,_,_,rfl,fun r h0 h1=>⟨ak,?_,?_⟩⟩
     ·rw[List.length_map]
      exact bc (by omega)
     ·refine hN _ _ _ ⟨some _,ms++[r],rfl,dB,by simp,by simp[hlen],fun x hx=>?_⟩
      rcases List.mem_append.mp hx with z | z
      ·exact hpos x z
      ·have:x=r:=by simpa using z
       omega
   ·rintro ys σ H' ⟨v,ms,rfl,rfl,rfl,hlen,hpos⟩
    exact q D ms _ (aB.upd hD) ak (by omega) hpos
  ·refine⟨_,rfl,_,_,rfl,rfl,⟨by decide,by decide,by decide⟩,_,_,rfl,rfl,(by decide),fun l hl0=>?_⟩
   refine⟨fun mm σ H'=>∃ (left:Int) (ms:List Int),σ=[some (.ref a),some (.int (k:Int)),some (.int (m:Int)),some (.int (jD ns k)),some (.int left),some (.ref l)]/\H'=upd H l (.lst (ms.map V.int))/\mm=60 - ms.length/\ms.length <= 60/\∀ x∈ms,0 <= x,
    ⟨60,_,[],rfl,rfl,rfl,Nat.zero_le _,fun _ h=>nomatch h⟩,?_⟩
   rintro mm σ H' ⟨left,ms,rfl,rfl,rfl,hlen,hpos⟩
   refine oE (decide (0 < left) && decide ((ms.length:Int) < 60)) ?_ ?_
   ·refine⟨_,rfl,_,_,rfl,rfl,_,rfl,?_⟩
    refine bJ (fun h=>?_) (fun h=>?_)
    ·refine⟨_,rfl,.inl ⟨l,_,rfl,.inl (bh.of ak),_,_,rfl,rfl,_,rfl,?_⟩⟩
     rw[List.length_map]
     exact⟨by rw[h,Bool.true_and],rfl⟩
    ·exact⟨by rw[Bool.eq_false_iff.mpr h];rfl,rfl⟩
   refine bJ (fun h60=>?_) (fun _=>?_)
   ·have aCa:ms.length < 60:=by
     have:=of_decide_eq_true (Bool.and_eq_true_iff.mp h60).2
     omega
    refine⟨fun σ' H'=>∃ m',m' < 60 - ms.length/\∃ (left:Int) (ms:List Int),σ'=[some (.ref a),some (.int (k:Int)),some (.int (m:Int)),some (.int (jD ns k)),some (.int left),some (.ref l)]/\H'=upd H l (.lst (ms.map V.int))/\m'=60 - ms.length/\ms.length <= 60/\∀ x∈ms,0 <= x,fun _ _ h=>h,?_⟩
    refine⟨_,rfl,.inl ⟨rfl,_,bh.of ak⟩,_,rfl,_,_,rfl,rfl,(by decide:(0:Int) < 2400),l,_,_,rfl,rfl,ak,(by rw[List.length_map];exact bc (by omega)),_,rfl,_,_,rfl,rfl,⟨by decide,by decide⟩,60 - (ms.length+1),by omega,_,ms++[left % 2400],rfl,?_,by simp,by simp;omega,fun x hx=>?_⟩
    ·rw[dB,List.map_append]
     rfl
    ·rcases List.mem_append.mp hx with z | z
     ·exact hpos x z
     ·have:x=left % 2400:=by simpa using z
      omega
   ·exact⟨_,rfl,q l ms _ (aB.upd hl0) ak (by omega) hpos⟩
inductive ad2 (K:Frag)(vs:List V)(H:Hp)(Q:VK)(E:XK):Prop
 | mk (a:Addr) (ns:List Int) (k m:Nat) (gj:vs=[.ref a,.int (k:Int),.int (m:Int)]) (gk:bh K H a (ns.map V.int)) (jc:ns.length <= 63) (n8:m <= 48) (xJ:∀ (l:Addr) (xs:List V) (ss:List Sg) (H':Hp),aB H H'->H l=none->H' l=some (.lst xs)->nP H' xs ss->(∀ s∈ss,qF s)->ss.length <= 60->Q (.ref l) H'):ad2 K vs H Q E
theorem anH (T:Txt K w mg t):bW P w K mg base jF (0+3) t.yN t.aaa ["_law_script","_law_at","_law_many"] (ad2 K):=by
 have vW:=FQ (P:=P) (w:=w) (base:=base) T
 have aij:=ae5 (P:=P) (w:=w) (base:=base) T
 refine T.Jb.ok anv (fun vs H Q E h=>?_) (fun cdv A outer s H vs Q E hr h=>?_)
 ·obtain⟨_,_,_,_,rfl,_⟩:=h
  rfl
 ·obtain⟨a,ns,k,m,rfl,hS,hl,hm,q⟩:=h
  refine bA (au (aG (lF (cn:=["_law_number"]) rfl (cU.of rfl) (dX (aD aij (hr.mono (by decide)) rfl T.aeU T.vO.kp T.Ja .nil aF (aa (pv 0) (aa (pv 1) (aa (pv 2) aj))))) (fun _=>(aU (i:=0) ah9 rfl (Or.inl rfl))) (fun _=>kO) (fun _=>(aD vW (hr.mono (by decide)) rfl T.Fq T.mJ.kp T.vN .nil aF (aa (pv 0) aj)))))) ?_
  refine⟨_,rfl,_,rfl,_,rfl,a,ns,k,m,rfl,hS,hl,hm,fun l ms H1 s1 hl1 hlen hpos=>⟨l,rfl,⟨_,bh.of hl1⟩,fun D b hD=>?_⟩⟩
  refine eN (K:=K) (xs:=ms.map V.int) (fun i ys σ H'=>∃ (v:Option V) (ss:List Sg),σ=[v,some (.ref a),some (.int (k:Int)),some (.int (m:Int))]/\aB H1 H'/\H' D=some (.lst ys)/\nP H' ys ss/\ss.length=i/\i <= ms.length/\∀ s∈ss,qF s)
   ⟨none,[],rfl,aB.upd hD,ak,.nil,rfl,Nat.zero_le _,fun _ h=>nomatch h⟩ ?_ ?_ ?_
  ·rintro i ys σ H' ⟨v,ss,rfl,s2,_⟩
   exact s2.seq (bh.of hl1)
  ·rintro i ys x σ H' hx ⟨v,ss,rfl,s2,Rw,hsg,hsl,hi,hg⟩ N hN
   have hil:i < ms.length:=by
    have:=(List.getElem?_eq_some_iff.mp hx).1
    rw[List.length_map] at this
    exact this
   obtain⟨z,hz,rfl⟩:=M8 hx
   refine fU ?_
   refine⟨_,rfl,z,rfl,fun p s gs hp=>⟨aB.upd hp _ _ Rw,?_,?_⟩⟩
   ·rw[bZ hsg,hsl]
    exact bc (by omega)
   ·have hD4:=aB.upd (o:=.tup [.str s.1.str,.int s.2]) hp _ _ Rw
    refine hN _ _ _ ⟨_,ss++[s],rfl,dD (s2.trans (aB.upd hp)) hD,ak,oF (aeH hD4 (hsg.same (aB.upd hp))) (ah0 hD4 ⟨p,rfl,ak⟩),by simp[hsl],hil,fun y hy=>?_⟩
    rcases List.mem_append.mp hy with z | z
    ·exact hg y z
    ·have:y=s:=by simpa using z
     rw[this]
     exact gs
  ·rintro ys σ H' ⟨v,ss,rfl,s2,Rw,hsg,hsl,hi,hg⟩
   refine q D ys ss H' (s1.trans s2) (s1.free hD) Rw hsg hg ?_
   rw[hsl,List.length_map]
   omega
def nine:List Str:=["ann","bo","cy","dora","eve","ann","bo","cy","dora"]
def Vf (r k:Nat):Str:=nine.getD (r+k) ""
def xnK (k:Nat):Str:=["xg","xf","xa","xb","xc","xd","xe"].getD k ""
theorem axc:(List.range 5).all (fun r=>(List.range 6).all fun m=>decide (((List.range m).map (Vf r)++(List.range 7).map xnK).Nodup) && ((List.range m).map (Vf r)++(List.range 7).map xnK).all fun n=>nameB n && !decide (n = "zed") && decide (n.length <= 1000))=true:=by decide +kernel
theorem asR {r k:Nat}(hr:r < 5)(hk:k < 5):(nine.drop r)[k]? = some (Vf r k):=by
 rw[List.getElem?_drop]
 unfold Vf
 have:r+k < nine.length:=by show r+k < 9;omega
 rw[List.getD_eq_getElem?_getD,List.getElem?_eq_getElem this]
 rfl
def strip (t:Addr)(H:Hp):Hp:=fun b=>if b=t then none else H b
theorem Jp {t b:Addr}{H:Hp}{o:HO}(n:b≠t)(h:H b=some o):strip t H b=some o:=by
 unfold strip
 rw[if_neg n,h]
theorem aqG (t:Addr)(H:Hp):aB (strip t H) H:=fun b o h=>by
 unfold strip at h
 by_cases e:b=t
 ·rw[if_pos e] at h;exact nomatch h
 ·rwa [if_neg e] at h
theorem zq {t:Addr}{H H':Hp}(s:aB H H'):aB (strip t H) (strip t H'):=fun b o h=>by
 unfold strip at *
 by_cases e:b=t
 ·rw[if_pos e] at h;exact nomatch h
 ·rw[if_neg e] at *;exact s _ _ h
theorem anI (t:Addr)(H:Hp)(o:HO):strip t (upd H t o)=strip t H:=by
 funext b
 unfold strip
 by_cases e:b=t
 ·rw[if_pos e,if_pos e]
 ·rw[if_neg e,if_neg e,aA e]
theorem nP.strip {t:Addr}{H:Hp}{xs:List V}(h:H t=some (.lst xs)):∀ {ys:List V} {ss:List Sg},nP H ys ss->nP (strip t H) ys ss:=fun g=>bV (fun y s=>by
 rintro ⟨p,e1,e2⟩
 exact⟨p,e1,Jp (fun e=>by rw[e,h] at e2;exact nomatch e2) e2⟩) g
structure EI (r pn:Nat)(nsx:List Str)(vw:Vw):Prop where
 n:vw.map (·.1)=nsx
 p:∀ (j:Nat) q,vw[j]? = some q->j < pn->∃ ss,q.2=.pl ss
 g:∀ q∈vw,(∃ ss,q.2=.pl ss/\ss.length <= 24/\∀ s∈ss,qF s)∨(∃ c lt sl tn,c < pn/\q.2=.cn (Vf r c) lt sl tn/\(0 <= lt/\lt <= 999/\1 <= sl/\sl <= 9))
theorem EI.plus {r pn:Nat}{nsx:List Str}{vw:Vw}(h:EI r pn nsx vw){n:Str}{ss:List Sg}(hs:ss.length <= 24)(hg:∀ s∈ss,qF s):EI r pn (nsx++[n]) (vw++[(n,.pl ss)]) where
 n:=by rw[List.map_append,h.n];rfl
 p:=fun j q e hj=>by
  by_cases hlt:j < vw.length
  ·rw[List.getElem?_append_left hlt] at e
   exact h.p j q e hj
  ·have:q∈[(n,Th.pl ss)]:=by
    rw[List.getElem?_append_right (by omega)] at e
    exact List.mem_of_getElem? e
   rw[List.mem_singleton.mp this]
   exact⟨ss,rfl⟩
 g:=fun q hq=>by
  rcases List.mem_append.mp hq with hq | hq
  ·exact h.g q hq
  ·rw[List.mem_singleton.mp hq]
   exact .inl ⟨ss,rfl,hs,hg⟩
theorem EI.more {r pn:Nat}{nsx:List Str}{vw:Vw}(h:EI r pn nsx vw){n:Str}{c:Nat}{lt sl:Int}{tn:Bool}(hl:pn <= vw.length)(hc:c < pn)(hk:(0 <= lt/\lt <= 999/\1 <= sl/\sl <= 9)):EI r pn (nsx++[n]) (vw++[(n,.cn (Vf r c) lt sl tn)]) where
 n:=by rw[List.map_append,h.n];rfl
 p:=fun j q e hj=>by
  rw[List.getElem?_append_left (by omega)] at e
  exact h.p j q e hj
 g:=fun q hq=>by
  rcases List.mem_append.mp hq with hq | hq
  ·exact h.g q hq
  ·rw[List.mem_singleton.mp hq]
   exact .inr ⟨c,lt,sl,tn,hc,rfl,hk⟩
theorem EI.ok {r pn m x:Nat}{vw:Vw}(h:EI r pn ((List.range m).map (Vf r)++(List.range x).map xnK) vw)(hr:r < 5)(hm:m < 6)(hx:x=0∨x=7)(hp:pn <= m):adU vw:=by
 have h1:=List.all_eq_true.mp (List.all_eq_true.mp axc r (List.mem_range.mpr hr)) m (List.mem_range.mpr hm)
 rw[Bool.and_eq_true,decide_eq_true_eq,List.all_eq_true] at h1
 have sub:List.Sublist ((List.range m).map (Vf r)++(List.range x).map xnK) ((List.range m).map (Vf r)++(List.range 7).map xnK):=by
  rcases hx with rfl | rfl
  ·exact List.Sublist.append_left (List.nil_sublist _) _
  ·exact List.Sublist.refl _
 have nd:(vw.map (·.1)).Nodup:=by rw[h.n];exact sub.nodup h1.1
 have vl:vw.length=m+x:=by
  have:=congrArg List.length h.n
  rw[List.length_map,List.length_append,List.length_map,List.length_map,List.length_range,List.length_range] at this
  exact this
 have ld:∀ (i:Nat) n ld lt sl tn,vw[i]? = some (n,Th.cn ld lt sl tn)->(∃ ss,(ld,Th.pl ss)∈vw.take i)/\(0 <= lt/\lt <= 999/\1 <= sl/\sl <= 9):=by
  intro i n ld lt sl tn e
  have hi:¬ i < pn:=fun hi=>by
   obtain⟨ss,hss⟩:=h.p i _ e hi
   exact nomatch hss
  rcases h.g _ (List.mem_of_getElem? e) with ⟨ss,hss,_⟩ | ⟨c,lt',sl',tn',hc,hcn,hk⟩
  ·exact nomatch hss
  ·have hcn:Th.cn ld lt sl tn=Th.cn (Vf r c) lt' sl' tn':=hcn
   injection hcn with e1 e2 e3 e4
   subst e1 e2 e3 e4
   refine⟨?_,hk⟩
   have hcl:c < vw.length:=by omega
   obtain⟨ss,hss⟩:=h.p c _ (List.getElem?_eq_getElem hcl) hc
   have hn:(vw[c]).1=Vf r c:=by
    have e5:(vw.map (·.1))[c]? = some (vw[c]).1:=by rw[List.getElem?_map,List.getElem?_eq_getElem hcl];rfl
    rw[h.n,List.getElem?_append_left (by rw[List.length_map,List.length_range];omega),List.getElem?_map,List.getElem?_range (by omega)] at e5
    exact (Option.some.inj e5).symm
   refine⟨ss,?_⟩
   have e6:(vw.take i)[c]? = some (Vf r c,Th.pl ss):=by
    rw[List.getElem?_take_of_lt (by omega),List.getElem?_eq_getElem hcl]
    exact congrArg some (Prod.ext hn hss)
   exact List.mem_of_getElem? e6
 refine⟨⟨nd,fun n l lt sl tn hq=>?_,fun n ss hq=>?_,by omega⟩,fun q hq=>?_,fun i n l lt sl tn e=>(ld i n l lt sl tn e).1,fun n ss hq=>?_⟩
 ·obtain⟨i,e⟩:=List.getElem?_of_mem hq
  obtain⟨⟨ss,hss⟩,hk⟩:=ld i n l lt sl tn e
  exact⟨⟨ss,List.mem_of_mem_take hss⟩,hk⟩
 ·rcases h.g _ hq with ⟨ss',e,h2,h3⟩ | ⟨_,_,_,_,_,e,_⟩
  ·have e:Th.pl ss=Th.pl ss':=e
   injection e with e
   subst e
   exact⟨by omega,h3⟩
  ·exact nomatch e
 ·have hn:q.1∈vw.map (·.1):=List.mem_map_of_mem hq
  rw[h.n] at hn
  have:=h1.2 _ (sub.mem hn)
  rw[Bool.and_eq_true,Bool.and_eq_true,Bool.not_eq_true',decide_eq_false_iff_not,decide_eq_true_eq] at this
  exact⟨this.1.1,this.1.2,this.2⟩
 ·rcases h.g _ hq with ⟨ss',e,h2,h3⟩ | ⟨_,_,_,_,_,e,_⟩
  ·have e:Th.pl ss=Th.pl ss':=e
   injection e with e
   subst e
   exact h2
  ·exact nomatch e
theorem avd {H:Hp}{t:Addr}{ys zs:List V}{vw:Vw}{p:Addr}{n:Str}{v:V}{th:Th}(ht:H t=some (.lst zs))(pv:Paired (Ym (strip t H)) ys vw)(hp:H p=none)(hv:ThV (strip t H) v th):Paired (Ym (strip t (upd H p (.tup [.str n,v])))) (ys++[.ref p]) (vw++[(n,th)]):=by
 have s:=aB.upd (o:=.tup [.str n,v]) hp
 refine M7 (bV (fun _ _ q=>q.same (zq s)) pv) (.cons ⟨p,v,rfl,Jp (fun e=>by rw[e,ht] at hp;exact nomatch hp) ak,hv.same (zq s)⟩ .nil)
theorem aqH {H H':Hp}{t:Addr}{o:HO}(s:aB H H')(n:H t=none):aB H (upd H' t o):=fun b u h=>by
 rw[aA (fun e=>by rw[e,n] at h;exact nomatch h)]
 exact s _ _ h
theorem N7 {H H5:Hp}{t p m1:Addr}{ys ns:List V}{vw:Vw}{n:Str}{v:V}{th:Th}(s:aB H H5)(nt:H t=none)(ht:H5 t=some (.lst ys))(hm:H5 m1=some (.lst ns))(nm:m1≠t)(pv:Paired (Ym (strip t H5)) ys vw)(hp:H5 p=none)(hv:ThV (strip t H5) v th):∀ H6,H6=upd (upd H5 p (.tup [.str n,v])) t (.lst (ys++[.ref p]))->aB H H6/\H6 m1=some (.lst ns)/\H6 t=some (.lst (ys++[.ref p]))/\Paired (Ym (strip t H6)) (ys++[.ref p]) (vw++[(n,th)]):=by
 rintro H6 rfl
 have s1:=s.trans (aB.upd (o:=.tup [.str n,v]) hp)
 refine⟨aqH s1 nt,?_,ak,?_⟩
 ·rw[aA nm]
  exact aB.upd hp _ _ hm
 ·rw[anI]
  exact avd ht pv hp hv
theorem ave:(List.range 7).all (fun i=>match (Str.ofString "gfabcde").cps.toList[i]? with | some c=>decide ((Str.ofString "x")++(⟨#[c]⟩:Str)=xnK i) && decide ((Str.ofString "x").length+(⟨#[c]⟩:Str).length <= 1000) | none=>false)=true:=by decide +kernel
theorem axd {i:Nat}(h:i < 7):∃ c,(Str.ofString "gfabcde").cps.toList[i]? = some c/\(Str.ofString "x")++(⟨#[c]⟩:Str)=xnK i/\(Str.ofString "x").length+(⟨#[c]⟩:Str).length <= 1000:=by
 have h1:=List.all_eq_true.mp ave i (List.mem_range.mpr h)
 cases e:(Str.ofString "gfabcde").cps.toList[i]? with
 | none=>rw[e] at h1;exact nomatch h1
 | some c =>
  rw[e] at h1
  have h2:=Bool.and_eq_true_iff.mp h1
  exact⟨c,rfl,of_decide_eq_true h2.1,of_decide_eq_true h2.2⟩
inductive Rx (K:Frag)(vs:List V)(H:Hp)(Q:VK)(E:XK):Prop
 | mk (a:Addr) (ns:List Int) (gj:vs=[.ref a]) (gk:bh K H a (ns.map V.int)) (jc:ns.length <= 63) (n8:∀ (l:Addr) (vw:Vw) (H':Hp),aB H H'->H l=none->tU H' l vw->adU vw->Q (.ref l) H'):Rx K vs H Q E
theorem ae6 (T:Txt K w mg t):bW P w K mg base jF (0+4) t.my t.Im ["_law_script"] (Rx K):=by
 have bU:=xY (P:=P) (w:=w) (base:=base) T
 have uE:=N6 (P:=P) (w:=w) (base:=base) T
 have aqI:=anH (P:=P) (w:=w) (base:=base) T
 have vW:=FQ (P:=P) (w:=w) (base:=base) T
 refine T.vP.ok cL (fun vs H Q E h=>?_) (fun cdv A outer s H vs Q E hr h=>?_)
 ·obtain⟨_,_,rfl,_⟩:=h
  rfl
 ·obtain⟨a,ns,rfl,hS,hl,q⟩:=h
  obtain⟨Ho,Hq⟩:∃ v:List (Str×Pos),v=Ii:=⟨_,rfl⟩
  have hbody:aK jx=Stmt.Assign [Expr.Name "_law_names" ⟨325,4,325,14⟩] (Expr.List (Ho.map fun c=>Expr.Constant (.str c.1) 0 c.2) ⟨325,17,325,78⟩) ⟨325,4,325,78⟩ :: (aK jx).drop 1:=by subst Hq;rfl
  rw[hbody]
  refine bA (ao (apZ (i:=1) Ho cL.nd rfl (Or.inl rfl)) (ao (aX (i:=1) cL.nd rfl (Or.inl rfl) (ou (vq.or (BJ.or BK)) (pv 1) (lE (aV eF (aV xH (aD bU (hr.mono (by decide)) rfl T.cg T.bL.kp T.bY .nil aF (aa (pv 0) (aa az aj))) az) az)) vo)) (ao (aX (i:=2) cL.nd rfl (Or.inl rfl) (aV eF (aD bU (hr.mono (by decide)) rfl T.cg T.bL.kp T.bY .nil aF (aa (pv 0) (aa az aj))) az)) (ao (aX (i:=3) cL.nd rfl (Or.inl rfl) (cj aj)) (ao (jk PassesOwn.never rfl (tQ rfl T.rA (aa (pv 2) aj)) (aU (i:=4) cL.nd rfl (Or.inr rfl)) (ao (aX (i:=5) cL.nd rfl (Or.inl rfl) (aV eF (aD uE (hr.mono (by decide)) rfl T.zb T.m7.kp T.uz .nil aF (aa (aD bU (hr.mono (by decide)) rfl T.cg T.bL.kp T.bY .nil aF (aa (pv 0) (aa az aj))) (aa (pv 4) aj))) az)) (au (bj (j4 PySem.F.plainAttrs_list PySem.F.slot_list_append PySem.F.type_list_append bK (pv 3) (aa (fQ (aa (bH bx (pv 1) (pv 4) (fun _ _=>rfl)) (aa (ou (vq.or (BJ.or BK)) (aD aqI (hr.mono (by decide)) rfl T.anA T.Jb.kp T.aaj .nil aF (aa (pv 0) (aa (aV (bN.or (aR.or bO)) az (aV (v8.or v9) az (pv 4))) (aa (pv 5) aj)))) vo (lE az)) aj))) aj)))))) (ao (jk PassesOwn.never rfl (tQ rfl T.rA (aa (aV (v8.or v9) (aV eF (aV xH (aD bU (hr.mono (by decide)) rfl T.cg T.bL.kp T.bY .nil aF (aa (pv 0) (aa az aj))) az) az) (cz (yf.or j7) rfl T.N5 M3 (aa (dh ahG (pv 2) az (aQ _)) aj))) aj)) (aU (i:=4) cL.nd rfl (Or.inr rfl)) (ao (aX (i:=6) cL.nd rfl (Or.inl rfl) (aD bU (hr.mono (by decide)) rfl T.cg T.bL.kp T.bY .nil aF (aa (pv 0) (aa (aV (bN.or (aR.or bO)) az (pv 4)) aj)))) (ao (aX (i:=7) cL.nd rfl (Or.inl rfl) (fV (j0 (aJ (cP.or (bQ (aY hr))) (aV eF (pv 6) az) az (aQ _)) (aV eF (pv 6) az) (aV eF (aV xH (pv 6) az) az)))) (ao (aX (i:=8) cL.nd rfl (Or.inl rfl) (aV (bN.or (aR.or bO)) az (aV eF (aD bU (hr.mono (by decide)) rfl T.cg T.bL.kp T.bY .nil aF (aa (pv 0) (aa (aV (bN.or (aR.or bO)) az (pv 4)) aj))) (bH bx (cj (aa az (aa az aj))) (cz (yf.or j7) rfl T.N5 M3 (aa (dh ahG (aV eF (pv 6) az) az (aQ _)) aj)) (fun _ _=>rfl))))) (ao (aX (i:=9) cL.nd rfl (Or.inl rfl) (bH bx (pv 1) (aV eF (aD bU (hr.mono (by decide)) rfl T.cg T.bL.kp T.bY .nil aF (aa (pv 0) (aa (aV (bN.or (aR.or bO)) az (pv 4)) aj))) (pv 2)) (fun _ _=>rfl))) (au (bj (j4 PySem.F.plainAttrs_list PySem.F.slot_list_append PySem.F.type_list_append bK (pv 3) (aa (fQ (aa (bH bx (pv 1) (aV (bN.or (aR.or bO)) (pv 2) (pv 4)) (fun _ _=>rfl)) (aa (fQ (aa (pv 9) (aa (pv 7) (aa (pv 8) (aa (dh (cP.or (bQ (aY hr))) (aV eF (aV xH (pv 6) az) az) az (aQ _)) aj))))) aj))) aj))))))))) (ao (jk PassesOwn.never rfl (tQ rfl T.rA (aa (aV (v8.or v9) az (cz (yf.or j7) rfl T.N5 M3 (aa (dh (cP.or (bQ (aY hr))) (aV eF (aV xH (aD bU (hr.mono (by decide)) rfl T.cg T.bL.kp T.bY .nil aF (aa (pv 0) (aa az aj))) az) az) az (aQ _)) aj))) aj)) (aU (i:=4) cL.nd rfl (Or.inr rfl)) (ao (yD (i:=10) cL.nd rfl rfl (cn:=["_law_j"]) rfl (cU.of rfl) (tQ rfl T.rA (aa (aV (bN.or (aR.or bO)) (aV eF (aD bU (hr.mono (by decide)) rfl T.cg T.bL.kp T.bY .nil aF (aa (pv 0) (aa az aj))) az) az) aj)) (fun _=>(aU (i:=0) Z7 rfl (Or.inl rfl))) (fun _=>kO) (fun _=>(aD uE (hr.mono (by decide)) rfl T.zb T.m7.kp T.uz .nil aF (aa (aD bU (hr.mono (by decide)) rfl T.cg T.bL.kp T.bY .nil aF (aa (pv 1) (aa az aj))) (aa (aV (bN.or (aR.or bO)) (aV (bN.or (aR.or bO)) (aV (v8.or v9) az (pv 5)) (pv 0)) az) aj))))) (au (bj (j4 PySem.F.plainAttrs_list PySem.F.slot_list_append PySem.F.type_list_append bK (pv 3) (aa (fQ (aa (aV (bN.or (aR.or bO)) cA (bH bx cA (pv 4) (fun _ _=>rfl))) (aa (lF (cn:=["_law_number"]) rfl (cU.of rfl) (dX (pv 10)) (fun _=>(aU (i:=0) Z8 rfl (Or.inl rfl))) (fun _=>kO) (fun _=>(aD vW (hr.mono (by decide)) rfl T.Fq T.mJ.kp T.vN .nil aF (aa (pv 0) aj)))) aj))) aj)))))) (au (aG (pv 3)))))))))) ?_
  subst Hq
  refine Ng fun N hN=>?_
  refine⟨by show 9 <= sizeLine;decide,fun m0 hm0=>?_⟩
  have e9:(Ii.map fun c=>V.str c.1)=nine.map V.str:=rfl
  rw[e9]
  have s0:=aB.upd (o:=.lst (nine.map V.str)) hm0
  have h0:=ak (H:=H) (a:=m0) (o:=.lst (nine.map V.str))
  generalize upd H m0 (.lst (nine.map V.str))=H0 at s0 h0
  obtain⟨r,hr,hr5⟩:=acJ (jD ns 0 / 12) (k:=5) (by decide)
  obtain⟨pn,hpn,hp4⟩:=acJ (jD ns 0) (k:=4) (by decide)
  have hr5:r < 5:=by omega
  have hp4:pn < 4:=by omega
  refine hN _ _ ?_
  refine Ng fun N hN=>?_
  tm_up
  refine⟨a,ns,0,rfl,s0.seq hS,hl,?_⟩
  tm_up
  rw[hr]
  refine .inl ⟨m0,_,rfl,bh.of h0,fun m1 hm1=>?_⟩
  rw[Zc _ r (by rw[List.length_map];show r <= 9;omega)]
  have s1:=s0.trans (aB.upd (o:=.lst ((nine.map V.str).drop r)) hm1)
  have h1:=ak (H:=H0) (a:=m1) (o:=.lst ((nine.map V.str).drop r))
  generalize upd H0 m1 (.lst ((nine.map V.str).drop r))=H1 at s1 h1
  have nms:∀ k,k < 5->((nine.map V.str).drop r)[k]? = some (.str (Vf r k)):=fun k hk=>by
   rw[← List.map_drop,List.getElem?_map,asR hr5 hk]
   rfl
  refine hN _ _ ?_
  refine Ng fun N hN=>?_
  tm_up
  refine⟨a,ns,0,rfl,s1.seq hS,hl,?_⟩
  tm_up
  rw[show V.int ((jD ns 0) % 4)=V.int (pn:Int) from congrArg V.int hpn]
  refine hN _ _ ?_
  refine Ng fun N hN=>?_
  refine⟨big (by show 0 <= 1000;omega),fun tl htl=>?_⟩
  have s2:=s1.trans (aB.upd (o:=.lst []) htl)
  have h2:=aB.upd (o:=.lst []) htl _ _ h1
  have ht2:=ak (H:=H1) (a:=tl) (o:=.lst [])
  have ntm:m1≠tl:=aC h1 htl
  have ntl:H tl=none:=s1.free htl
  generalize upd H1 tl (.lst [])=H2 at s2 h2 ht2
  have p62:(2:Int) ^ 62=4611686018427387904:=by decide
  refine hN _ _ ?_
  refine Ng fun N hN=>?_
  refine⟨_,rfl,(pn:Int),rfl,by rw[p62];omega,by rw[p62];omega,?_⟩
  refine ye (n:=((pn:Int)).toNat) (fun i σ H'=>∃ (u v:Option V) (ys:List V) (vw:Vw),σ=[some (.ref a),some (.ref m1),some (.int (pn:Int)),some (.ref tl),u,v,none,none,none,none,none]/\aB H H'/\H' m1=some (.lst ((nine.map V.str).drop r))/\H' tl=some (.lst ys)/\Paired (Ym (strip tl H')) ys vw/\vw.length=i/\EI r pn ((List.range i).map (Vf r)) vw)
   ⟨none,none,[],[],rfl,s2,h2,ht2,.nil,rfl,⟨rfl,fun j q e=>by simp at e,fun q h=>nomatch h⟩⟩ ?_ ?_
  ·rintro i σ H3 hi ⟨u,v,ys,vw,rfl,s3,h3,ht3,pv3,vl,ei⟩
   have hi4:i < 4:=by omega
   have yl:=bZ pv3
   refine⟨_,rfl,a,ns,1,rfl,s3.seq hS,hl,?_⟩
   refine⟨_,rfl,_,_,rfl,fun sz hsz0 hsz1=>?_⟩
   obtain⟨m,hm,aCd⟩:=acJ sz (k:=13) (by decide)
   refine⟨_,_,rfl,rfl,(by decide:(0:Int) < 13),?_⟩
   rw[show V.int (sz % 13)=V.int (m:Int) from congrArg V.int hm]
   refine⟨_,rfl,.inl ⟨rfl,_,bh.of ht3⟩,?_⟩
   refine⟨_,rfl,_,rfl,ixL (bh.of h3) (n:=i) (by omega) (nms i (by omega)) ?_⟩
   tm_up
   refine⟨.inl ⟨by decide,by decide⟩,?_⟩
   refine .inl ⟨_,_,rfl,rfl,?_⟩
   refine⟨_,rfl,?_⟩
   refine⟨a,ns,8+18 * i,m,by show [V.ref a,V.int (8+18 * (0+(i:Int))),V.int (m:Int)]=_;rw[show (8:Int)+18 * (0+(i:Int))=((8+18 * i:Nat):Int) by omega],s3.seq hS,hl,by omega,fun l0 xs0 ss0 H4 s4 n4 h4 g4 gt4 asS=>?_⟩
   tm_up
   refine .inl ⟨l0,xs0,rfl,bh.of h4,fun l hl0=>?_⟩
   rw[show MT xs0 none (some 24)=xs0.take 24 from amn xs0 24]
   have ht4:=s4 _ _ ht3
   have s5:=s4.trans (aB.upd (o:=.lst (xs0.take 24)) hl0)
   have nl:l≠tl:=fun e=>by rw[e,ht4] at hl0;exact nomatch hl0
   have h5:upd H4 l (.lst (xs0.take 24)) l=some (.lst (xs0.take 24)):=ak
   have g5:nP (upd H4 l (.lst (xs0.take 24))) (xs0.take 24) (ss0.take 24):=nP.same (aB.upd (o:=.lst (xs0.take 24)) hl0) (XF 24 g4)
   have gt5:∀ s∈ss0.take 24,qF s:=fun s hs=>gt4 s (List.mem_of_mem_take hs)
   have aqK:(ss0.take 24).length <= 24:=by rw[List.length_take];omega
   generalize upd H4 l (.lst (xs0.take 24))=H5 at s5 h5 g5
   generalize xs0.take 24=xs at h5 g5
   generalize ss0.take 24=ss at g5 gt5 aqK
   have ht5:=s5 _ _ ht3
   tm_up
   refine⟨big (by show 2 <= 1000;omega),fun p hp=>?_⟩
   tm_up
   have ht6:upd H5 p (.tup [.str (Vf r i),.ref l]) tl=some (.lst ys):=aB.upd hp _ _ ht5
   refine⟨tl,ys,_,rfl,rfl,ht6,bc (by omega),?_⟩
   obtain⟨s6,h6,t6,p6⟩:=N7 (n:=Vf r i) (s3.trans s5) ntl ht5 (s5 _ _ h3) ntm (bV (fun _ _ q=>q.same (zq s5)) pv3) hp (th:=.pl ss) ⟨l,xs,rfl,Jp nl h5,nP.strip ht5 g5⟩ _ rfl
   exact⟨_,_,_,_,rfl,s6,h6,t6,p6,by rw[List.length_append,vl];rfl,by rw[List.range_succ,List.map_append];exact ei.plus aqK gt5⟩
  rintro σ H3 ⟨u,v,ys,vw,rfl,s3,h3,ht3,pv3,vl,ei⟩
  rw[show ((pn:Int)).toNat=pn by omega] at vl ei
  refine hN _ _ ?_
  refine Ng fun N hN=>?_
  tm_up
  refine⟨a,ns,0,rfl,s3.seq hS,hl,?_⟩
  tm_up
  refine .inl (.inr ⟨_,rfl,?_⟩)
  obtain⟨cn,hcn,aCf,hcp⟩:∃ cn:Nat,(jD ns 0 / 4 % 3) * (if decide ((pn:Int) > 0)=true then 1 else 0)=(cn:Int)/\cn <= 2/\(0 < cn->0 < pn):=by
   obtain⟨m,hm,hm3⟩:=acJ (jD ns 0 / 4) (k:=3) (by decide)
   by_cases h:(pn:Int) > 0
   ·exact⟨m,by rw[hm,if_pos (decide_eq_true h)];omega,by omega,by omega⟩
   ·exact⟨0,by rw[if_neg (by simpa using h)];omega,by omega,by omega⟩
  have b3:=Int.emod_lt_of_pos (jD ns 0 / 4) (show (0:Int) < 3 by decide)
  have c3:=Int.emod_nonneg (jD ns 0 / 4) (show (3:Int)≠0 by decide)
  have p64:(2:Int) ^ 64=18446744073709551616:=by decide
  refine .inl ⟨_,_,rfl,rfl,.inl ⟨by rw[p64];omega,by rw[p64];omega⟩,?_⟩
  rw[show V.int ((jD ns 0 / 4 % 3) * (if decide ((pn:Int) > 0)=true then 1 else 0))=V.int (cn:Int) from congrArg V.int hcn]
  refine⟨(cn:Int),rfl,by rw[p62];omega,by rw[p62];omega,?_⟩
  refine ye (n:=((cn:Int)).toNat) (fun i σ H'=>∃ (u v w1 w2 w3 w4:Option V) (ys:List V) (vw:Vw),σ=[some (.ref a),some (.ref m1),some (.int (pn:Int)),some (.ref tl),u,v,w1,w2,w3,w4,none]/\aB H H'/\H' m1=some (.lst ((nine.map V.str).drop r))/\H' tl=some (.lst ys)/\Paired (Ym (strip tl H')) ys vw/\vw.length=pn+i/\EI r pn ((List.range (pn+i)).map (Vf r)) vw)
   ⟨_,_,_,_,_,_,_,_,rfl,s3,h3,ht3,pv3,vl,ei⟩ ?_ ?_
  ·rintro i σ H4 hi ⟨u,v,w1,w2,w3,w4,ys,vw,rfl,s4,h4,ht4,pv4,vl,ei⟩
   have aCg:0 < pn:=hcp (by omega)
   have yl:=bZ pv4
   tm_up
   refine⟨a,ns,2+i,by show [V.ref a,V.int (2+(0+(i:Int)))]=_;rw[show (2:Int)+(0+(i:Int))=((2+i:Nat):Int) by omega],s4.seq hS,hl,?_⟩
   generalize jD ns (2+i)=cl
   refine⟨fun x H'=>H'=H4/\∃ lt:Int,x=.int lt/\0 <= lt/\lt <= 999,?_,?_⟩
   ·tm_up
    show if decide (V.int (cl % 7)=V.int 5)=true then _ else _
    cases decide (V.int (cl % 7)=V.int 5) with
    | true =>
     refine wj ?_
     tm_up
     exact⟨rfl,_,rfl,by have:=Int.emod_nonneg cl (show (1000:Int)≠0 by decide);omega,by have:=Int.emod_lt_of_pos cl (show (0:Int) < 1000 by decide);omega⟩
    | false =>
     refine di ?_
     tm_up
     exact⟨rfl,_,rfl,by have:=Int.emod_nonneg (cl / 7) (show (12:Int)≠0 by decide);omega,by have:=Int.emod_lt_of_pos (cl / 7) (show (0:Int) < 12 by decide);omega⟩
   rintro _ H' ⟨e,lt,rfl,lt0,lt9⟩
   rw[e]
   clear e H'
   tm_up
   refine⟨a,ns,4+i,by show [V.ref a,V.int (4+(0+(i:Int)))]=_;rw[show (4:Int)+(0+(i:Int))=((4+i:Nat):Int) by omega],s4.seq hS,hl,?_⟩
   generalize jD ns (4+i)=c4
   tm_up
   refine⟨big (by show 2 <= 1000;omega),fun q0 hq0=>?_⟩
   have s5:=aB.upd (o:=.lst [V.int 9,V.int 2]) hq0
   have hq5:=ak (H:=H4) (a:=q0) (o:=.lst [V.int 9,V.int 2])
   generalize upd H4 q0 (.lst [V.int 9,V.int 2])=H5 at s5 hq5
   tm_up
   refine .inl (.inr ⟨_,rfl,?_⟩)
   obtain⟨n5,d5,e5,x5,d50,d59⟩:∃ (n:Nat) (d:Int),(if decide (0 < cl % 3)=true then (1:Int) else 0)=(n:Int)/\[V.int 9,V.int 2][n]? = some (.int d)/\0 < d/\d <= 9:=by
    by_cases h:0 < cl % 3
    ·exact⟨1,2,by rw[if_pos (decide_eq_true h)];rfl,rfl,by decide,by decide⟩
    ·exact⟨0,9,by rw[if_neg (by simpa using h)];rfl,rfl,by decide,by decide⟩
   refine ixL (bh.of hq5) (n:=n5) e5 x5 ?_
   tm_up
   refine⟨d50,?_⟩
   tm_up
   obtain⟨sl,hsl⟩:∃ z,z=1+c4 % d5:=⟨_,rfl⟩
   have sl1:1 <= sl:=by have:=Int.emod_nonneg c4 (show d5≠0 by omega);omega
   have sl9:sl <= 9:=by have:=Int.emod_lt_of_pos c4 d50;omega
   refine⟨a,ns,6+i,by show [V.ref a,V.int (6+(0+(i:Int)))]=_;rw[show (6:Int)+(0+(i:Int))=((6+i:Nat):Int) by omega],(s4.trans s5).seq hS,hl,?_⟩
   generalize jD ns (6+i)=c6
   obtain⟨c,hc,hcl⟩:=acJ c6 (k:=(pn:Int)) (by omega)
   tm_up
   refine⟨(by omega:(0:Int) < (pn:Int)),?_⟩
   refine ixL (bh.of (s5 _ _ h4)) (n:=c) hc (nms c (by omega)) ?_
   tm_up
   refine⟨.inl ⟨rfl,_,bh.of (s5 _ _ ht4)⟩,?_⟩
   tm_up
   refine ixL (bh.of (s5 _ _ h4)) (n:=pn+i) (by omega) (nms (pn+i) (by omega)) ?_
   tm_up
   refine⟨big (by show 4 <= 1000;omega),fun p0 hp0=>?_⟩
   obtain⟨tn,htn⟩:∃ z,z=decide (V.int (cl / 84 % 2)=V.int 1):=⟨_,rfl⟩
   have e6:upd H5 p0 (.tup [V.str (Vf r c),V.int lt,V.int (1+c4 % d5),V.bl (decide (V.int (cl / 84 % 2)=V.int 1))])=upd H5 p0 (.tup [V.str (Vf r c),V.int lt,V.int sl,V.bl tn]):=by rw[hsl,htn]
   have s6:=s5.trans (aB.upd (o:=.tup [V.str (Vf r c),V.int lt,V.int sl,V.bl tn]) hp0)
   have h6:=ak (H:=H5) (a:=p0) (o:=.tup [V.str (Vf r c),V.int lt,V.int sl,V.bl tn])
   have np0:p0≠tl:=fun e=>by rw[e,s5 _ _ ht4] at hp0;exact nomatch hp0
   have go:∀ H6,H6=upd H5 p0 (.tup [V.str (Vf r c),V.int lt,V.int (1+c4 % d5),V.bl (decide (V.int (cl / 84 % 2)=V.int 1))])->aB H4 H6/\H6 p0=some (.tup [V.str (Vf r c),V.int lt,V.int sl,V.bl tn]):=by
    rintro H6 rfl
    rw[e6]
    exact⟨s6,h6⟩
   clear s6 h6
   generalize hH6:upd H5 p0 _=H6
   obtain⟨s6,h6⟩:=go H6 hH6.symm
   clear go e6
   have ht6:=s6 _ _ ht4
   tm_up
   refine⟨big (by show 2 <= 1000;omega),fun p hp=>?_⟩
   tm_up
   have ht7:upd H6 p (.tup [.str (Vf r (pn+i)),.ref p0]) tl=some (.lst ys):=aB.upd hp _ _ ht6
   refine⟨tl,ys,_,rfl,rfl,ht7,bc (by omega),?_⟩
   obtain⟨s8,h8,t8,p8⟩:=N7 (n:=Vf r (pn+i)) (s4.trans s6) ntl ht6 (s6 _ _ h4) ntm (bV (fun _ _ q=>q.same (zq s6)) pv4) hp (th:=.cn (Vf r c) lt sl tn) ⟨p0,rfl,Jp np0 h6⟩ _ rfl
   exact⟨_,_,_,_,_,_,_,_,rfl,s8,h8,t8,p8,by rw[List.length_append,vl];rfl,by rw[← Nat.add_assoc,List.range_succ,List.map_append];exact ei.more (by omega) (by omega) ⟨lt0,lt9,sl1,sl9⟩⟩
  rintro σ H4 ⟨u,v,w1,w2,w3,w4,ys,vw,rfl,s4,h4,ht4,pv4,vl,ei⟩
  rw[show ((cn:Int)).toNat=cn by omega] at vl ei
  refine hN _ _ ?_
  refine Ng fun N hN=>?_
  tm_up
  refine⟨a,ns,0,rfl,s4.seq hS,hl,?_⟩
  tm_up
  refine .inl (.inr ⟨_,rfl,?_⟩)
  obtain⟨xn,hxn,hx7⟩:∃ xn:Nat,7 * (if decide (V.int (jD ns 0 / 180 % 8)=V.int 1)=true then (1:Int) else 0)=(xn:Int)/\(xn=0∨xn=7):=by
   cases decide (V.int (jD ns 0 / 180 % 8)=V.int 1)
   ·exact⟨0,by rw[if_neg (by decide)];rfl,.inl rfl⟩
   ·exact⟨7,by rw[if_pos rfl];rfl,.inr rfl⟩
  refine .inl ⟨_,_,rfl,rfl,.inl ⟨by decide,by decide⟩,?_⟩
  rw[show V.int (7 * (if decide ((fun i j:Int=>V.int (i % j)) (jD ns 0 / 180) 8=V.int 1)=true then 1 else 0))=V.int (xn:Int) from congrArg V.int hxn]
  refine⟨(xn:Int),rfl,by rw[p62];omega,by rw[p62];omega,?_⟩
  refine ye (n:=((xn:Int)).toNat) (fun i σ H'=>∃ (u v w1 w2 w3 w4 w5:Option V) (ys:List V) (vw:Vw),σ=[some (.ref a),some (.ref m1),some (.int (pn:Int)),some (.ref tl),u,v,w1,w2,w3,w4,w5]/\aB H H'/\H' m1=some (.lst ((nine.map V.str).drop r))/\H' tl=some (.lst ys)/\Paired (Ym (strip tl H')) ys vw/\vw.length=pn+cn+i/\EI r pn ((List.range (pn+cn)).map (Vf r)++(List.range i).map xnK) vw)
   ⟨_,_,_,_,_,_,_,_,_,rfl,s4,h4,ht4,pv4,vl,by rw[show (List.range 0).map xnK=[] from rfl,List.append_nil];exact ei⟩ ?_ ?_
  ·rintro i σ H5 hi ⟨u,v,w1,w2,w3,w4,w5,ys,vw,rfl,s5,h5,ht5,pv5,vl,ei⟩
   have hi7:i < 7:=by omega
   have yl:=bZ pv5
   tm_up
   refine⟨a,ns,6,rfl,s5.seq hS,hl,?_⟩
   generalize jD ns 6=c6
   obtain⟨jn,hjn,hj3⟩:=acJ c6 (k:=3) (by decide)
   tm_up
   refine⟨by rw[p62];omega,by rw[p62];omega,fun D b hD=>?_⟩
   refine Zz (lo:=0) (n:=(c6 % 3+1).toNat) (fun j zs σ H'=>∃ (x:Option V) (ms:List Int),σ=[x,some (.ref a),some (.ref m1),some (.int (pn:Int)),some (.ref tl),some (.int (0+(i:Int))),v,w1,w2,w3,w4,w5]/\H'=upd H5 D (.lst zs)/\zs=ms.map V.int/\ms.length=j) ⟨none,[],rfl,rfl,rfl,rfl⟩ ?_ ?_
   ·rintro j zs σ H' hj ⟨x,ms,rfl,rfl,rfl,hlen⟩ N hN
    refine fU ?_
    tm_up
    refine⟨a,ns,1,rfl,jd (s5.seq hS) hD,hl,?_⟩
    tm_up
    refine⟨.inl ⟨by decide,by decide⟩,?_⟩
    tm_up
    refine⟨_,_,rfl,fun r h0 h1=>⟨ak,?_,?_⟩⟩
    ·rw[List.length_map]
     exact bc (by omega)
    ·exact hN _ _ _ ⟨some _,ms++[r],rfl,dB,by simp,by simp[hlen]⟩
   ·rintro zs σ H' ⟨x,ms,rfl,rfl,rfl,hlen⟩
    have s6:=aB.upd (o:=.lst (ms.map V.int)) hD
    have h6:=ak (H:=H5) (a:=D) (o:=.lst (ms.map V.int))
    generalize upd H5 D (.lst (ms.map V.int))=H6 at s6 h6
    have ht6:=s6 _ _ ht5
    obtain⟨cx,hcx,ecx⟩:=axd hi7
    tm_up
    refine⟨.inl ⟨rfl,_,bh.of ht6⟩,?_⟩
    tm_up
    refine .inr (.inr ⟨_,_,cx,rfl,rfl,big (by decide +kernel),?_,?_⟩)
    ·rw[show (0:Int)+(i:Int)=(i:Int) by omega]
     exact QG hcx
    tm_up
    refine .inr (.inl ⟨_,_,rfl,rfl,big ecx.2,?_⟩)
    rw[ecx.1]
    tm_up
    refine⟨⟨_,bh.of h6⟩,fun D2 b2 hD2=>?_⟩
    refine eN (K:=K) (xs:=ms.map V.int) (fun j zs σ H'=>∃ (x:Option V) (ss:List Sg),σ=[x,some (.ref a),some (.ref m1),some (.int (pn:Int)),some (.ref tl),some (.int (0+(i:Int))),v,w1,w2,w3,w4,some (.ref D)]/\aB H6 H'/\H' D2=some (.lst zs)/\nP H' zs ss/\ss.length=j/\j <= ms.length/\∀ s∈ss,qF s)
     ⟨none,[],rfl,aB.upd hD2,ak,.nil,rfl,Nat.zero_le _,fun _ h=>nomatch h⟩ ?_ ?_ ?_
    ·rintro j zs σ H' ⟨x,ss,rfl,s7,_⟩
     exact s7.seq (bh.of h6)
    ·rintro j zs x σ H' hx ⟨x2,ss,rfl,s7,Rw,hsg,hsl,hj,hg⟩ N hN
     have hjl:j < ms.length:=by
      have:=(List.getElem?_eq_some_iff.mp hx).1
      rw[List.length_map] at this
      exact this
     obtain⟨z,hz,rfl⟩:=M8 hx
     refine fU ?_
     refine⟨_,rfl,z,rfl,fun p s gs hp=>⟨aB.upd hp _ _ Rw,?_,?_⟩⟩
     ·rw[bZ hsg,hsl]
      exact bc (by omega)
     ·have hD4:=aB.upd (o:=.tup [.str s.1.str,.int s.2]) hp _ _ Rw
      refine hN _ _ _ ⟨_,ss++[s],rfl,dD (s7.trans (aB.upd hp)) hD2,ak,oF (aeH hD4 (hsg.same (aB.upd hp))) (ah0 hD4 ⟨p,rfl,ak⟩),by simp[hsl],hjl,fun y hy=>?_⟩
      rcases List.mem_append.mp hy with z | z
      ·exact hg y z
      ·have:y=s:=by simpa using z
       rw[this]
       exact gs
    ·rintro zs σ H7 ⟨x2,ss,rfl,s7,Rw,hsg,hsl,hj,hg⟩
     have ht7:=s7 _ _ ht6
     have nD2:D2≠tl:=fun e=>by rw[e,ht6] at hD2;exact nomatch hD2
     have s57:=s6.trans s7
     have azr:ss.length <= 24:=by rw[hsl,List.length_map];omega
     tm_up
     refine⟨big (by show 2 <= 1000;omega),fun p hp=>?_⟩
     tm_up
     have ht8:upd H7 p (.tup [.str (xnK i),.ref D2]) tl=some (.lst ys):=aB.upd hp _ _ ht7
     refine⟨tl,ys,_,rfl,rfl,ht8,bc (by omega),?_⟩
     obtain⟨s8,h8,t8,p8⟩:=N7 (n:=xnK i) (s5.trans s57) ntl ht7 (s57 _ _ h5) ntm (bV (fun _ _ q=>q.same (zq s57)) pv5) hp (th:=.pl ss) ⟨D2,zs,rfl,Jp nD2 Rw,nP.strip ht7 hsg⟩ _ rfl
     exact⟨_,_,_,_,_,_,_,_,_,rfl,s8,h8,t8,p8,by rw[List.length_append,vl];rfl,by rw[List.range_succ,List.map_append,← List.append_assoc];exact ei.plus azr hg⟩
  rintro σ H5 ⟨u,v,w1,w2,w3,w4,w5,ys,vw,rfl,s5,h5,ht5,pv5,vl,ei⟩
  rw[show ((xn:Int)).toNat=xn by omega] at vl ei
  refine hN _ _ ?_
  tm_up
  exact q tl vw H5 s5 ntl ⟨ys,ht5,bV (fun _ _ q=>q.same (aqG tl H5)) pv5⟩ (ei.ok hr5 (by omega) hx7 (by omega))
inductive Ry (C:Addr)(vs:List V)(H:Hp)(Q:VK)(E:XK):Prop
 | mk (x dx T_ B A:Addr) (i:Nat) (xs bs as:List V) (gj:vs=[.ref x]) (gk:H x=some (.ins C dx (ZS T_ (i:Int) B A))) (jc:H T_=some (.lst xs)) (n8:H B=some (.lst bs)) (xJ:H A=some (.lst as)) (h5_:T_≠B) (h6_:i+as.length <= xs.length) (h7_:xs.length+bs.length <= 1000) (h8_:Q .non (upd H T_ (.lst (xs.take i++bs++xs.drop (i+as.length))))):Ry C vs H Q E
theorem xZ (T:Txt K w mg t):bW P w K mg base jF (0+1) t.jy t.Io ["self"] (Ry t.bT):=by
 refine T.Aj.ok aeO (fun vs H Q E h=>?_) (fun cdv A outer s H vs Q E hr h=>?_)
 ·obtain⟨_,_,_,_,_,_,_,_,_,rfl,_⟩:=h
  rfl
 ·obtain⟨x,dx,T_,B,A_,i,xs,bs,as,rfl,hx,hT,hB,hA,hne,hi,hz,q⟩:=h
  refine bA (au (qx (cY (pv 0) rfl) (ahU (cY (pv 0) rfl) (lE (cY (pv 0) rfl)) (lE (aV (bN.or (aR.or bO)) (cY (pv 0) rfl) (aH (aM.or aN) rfl T.cC cB (aa (cY (pv 0) rfl) aj))))))) ?_
  refine⟨_,rfl,x,_,dx,_,_,rfl,hx,T.iJ,T.gQ,ZW _ _ _ _,?_⟩
  refine⟨_,rfl,x,_,dx,_,_,rfl,hx,T.iJ,T.gP,ZV _ _ _ _,?_⟩
  refine⟨_,rfl,x,_,dx,_,_,rfl,hx,T.iJ,T.jW,aeK _ _ _ _,_,rfl,?_⟩
  refine⟨_,rfl,x,_,dx,_,_,rfl,hx,T.iJ,T.jW,aeK _ _ _ _,?_⟩
  refine⟨_,rfl,x,_,dx,_,_,rfl,hx,T.iJ,T.jb,adP _ _ _ _,?_⟩
  refine .inl ⟨A_,as,rfl,.inl (bh.of hA),.inl ⟨_,_,rfl,rfl,_,rfl,?_⟩⟩
  refine⟨T_,B,xs,bs,(i:Int),((i+as.length:Nat):Int),rfl,rfl,rfl,by simp,hT,hB,hne,by omega,by omega,by omega,Nat.le_trans hz (by decide),?_⟩
  rw[Int.toNat_natCast,Int.toNat_natCast]
  exact q
inductive Rz (c:Cs)(vs:List V)(H:Hp)(Q:VK)(E:XK):Prop
 | mk (x:Addr) (F:Addr->Prop) (vw:Vw) (ps fs:List Vw) (gj:vs=[.ref x]) (gk:Ni c H x F vw ps fs) (jc:ps.length+fs.length <= 900) (n8:(ps=[]->∀ H',aB H H'->RX E c .ajT H')) (xJ:(∀ XJ v,ps=XJ++[v]->∀ H',Fr F H H'->Ni c H' x F v XJ (fs++[vw])->Q .non H')):Rz c vs H Q E
theorem FT (T:Txt K w mg t):bW P w K mg base jF (0+2) t.jz t.Ip ["self"] (Rz (cs t)):=by
 have Ba:=xZ (P:=P) (w:=w) (base:=base) T
 refine T.Ak.ok Q6 (fun vs H Q E h=>?_) (fun cdv A outer s H vs Q E hr h=>?_)
 ·obtain⟨_,_,_,_,_,rfl,_⟩:=h
  rfl
 ·obtain⟨x,F,vw,ps,fs,rfl,B,hps,q1,q2⟩:=h
  refine bA (ao (bC (aJ (M6 (aY hr)) (cY (pv 0) rfl) (cj aj) (aQ _)) (au lV) aO) (ao (aX (i:=1) Q6.nd rfl (Or.inl rfl) (aex PySem.F.plainAttrs_list PySem.F.slot_list_pop PySem.F.type_list_pop apL (cY (pv 0) rfl))) (ao (bj (gG (pv 1) T.iJ T.aeW Ba (hr.mono (by decide)) T.Jd .nil aF)) (au (bj (j4 PySem.F.plainAttrs_list PySem.F.slot_list_append PySem.F.type_list_append bK (cY (pv 0) rfl) (aa (pv 1) aj))))))) ?_
  obtain⟨L,D,U,all,M,Ps,Fs,es,us,b,iM,pp,pf,f⟩:=B.ex
  obtain⟨dx,hx⟩:=b.hx
  obtain⟨ds,hD,pD⟩:=b.hD
  have dl:=bZ pD
  have pl:=bZ pp
  have pe:=b.past.len
  refine⟨_,rfl,x,_,dx,_,_,rfl,hx,T.aZ,T.gb,QW _ _ _,big (by show 0 <= 1000;omega),fun e0 he0=>?_⟩
  have s0:=aB.upd (o:=.lst []) he0
  refine⟨D,e0,ds,rfl,rfl,bh.of (s0 _ _ hD),bh.of ak,_,rfl,?_⟩
  generalize upd H e0 (.lst [])=H0 at s0
  refine bJ (fun h=>?_) (fun h=>?_)
  ·have hds:ds=[]:=List.isEmpty_iff.mp h
   rw[hds] at dl
   have hp0:ps=[]:=List.length_eq_zero_iff.mp (by rw[← pl,pe,← dl];rfl)
   have q:=q1 hp0 H0 s0
   exact (Bool.noConfusion (show false=true from q.1))
  have hne:ds≠[]:=fun z=>h (by rw[z];rfl)
  obtain⟨ds0,v,rfl⟩:∃ ds0 v,ds=ds0++[v]:=⟨ds.dropLast,ds.getLast hne,(List.dropLast_concat_getLast hne).symm⟩
  obtain⟨es0,e,he,pD0,hd⟩:=ZZ pD
  have hvo:=hd.1
  subst hvo
  have B0:=B.same s0
  have b0:=b.kept f (.same s0)
  have hd0:xP t.bT H0 (.ref e.o) e:=pN (F:=fun _=>True) (.same s0) ⟨trivial,trivial⟩ hd
  have ok:=b.dd e (.inl (by rw[he];exact List.mem_append_right _ (List.mem_singleton_self _)))
  obtain⟨hT,TD,TU⟩:=b0.lists ok.1
  have nTB:e.T≠e.B:=by
   rcases ok.1 with z | ⟨a,ha,z⟩
   ·rw[z];exact Ne.symm ok.2.1.1
   ·rw[z];exact Ne.symm (ok.2.1.2.2.2 a ha)
  obtain⟨Ps0,S,_,_,ft,hMS⟩:=(he ▸ b.past).last
  have fit:e.i+e.as.length <= (M e.T).length:=by rw[hMS];exact asL ft
  have hx0:=s0 _ _ hx
  have hD0:=s0 _ _ hD
  obtain⟨ux,hU0,pU⟩:=b0.hU
  have azt:(M e.T).length <= 200:=by
   rcases ok.1 with z | ⟨a,ha,z⟩
   ·rw[z];exact Nat.le_trans (b.wf M (.inr (.inl rfl))).len (by decide)
   ·rw[z];exact ((b.wf M (.inr (.inl rfl))).ln a ha).1
  refine⟨_,rfl,x,_,dx,_,_,rfl,hx0,T.aZ,T.gb,QW _ _ _,?_⟩
  refine⟨.inl ⟨rfl,_,bh.of hD0⟩,D,ds0++[V.ref e.o],V.ref e.o,rfl,rfl,hD0,by simp,?_⟩
  rw[List.dropLast_concat]
  have nD:∀ {y C d fs},H0 y=some (.ins C d fs)->y≠D:=fun hy=>vH hy hD0 (by intro z;cases z)
  have nT:∀ {y C d fs},H0 y=some (.ins C d fs)->y≠e.T:=fun hy=>vH hy hT (by intro z;cases z)
  have r1:∀ {y o},H0 y=some o->y≠D->upd H0 D (.lst ds0) y=some o:=fun hy hn=>by rw[aA hn];exact hy
  refine⟨_,rfl,e.o,e.d,_,rfl,r1 hd0.2.1 (nD hd0.2.1),ah5 _ _ _ _,?_⟩
  refine⟨e.o,e.d,e.T,e.B,e.A,e.i,M e.T,e.bs,e.as,rfl,r1 hd0.2.1 (nD hd0.2.1),r1 hT TD,r1 hd0.2.2.1 ok.2.1.2.1,r1 hd0.2.2.2 ok.2.2.1.2.1,nTB,fit,by have:=ok.2.2.2.1;omega,?_⟩
  have r2:∀ {y o},H0 y=some o->y≠D->y≠e.T->upd (upd H0 D (.lst ds0)) e.T (.lst ((M e.T).take e.i++e.bs++(M e.T).drop (e.i+e.as.length))) y=some o:=fun hy hn hn'=>by rw[aA hn',aA hn];exact hy
  refine⟨_,rfl,x,_,dx,_,_,rfl,r2 hx0 (nD hx0) (nT hx0),T.aZ,T.dM,Er _ _ _,?_⟩
  have hU1:=r2 hU0 (Ne.symm b.DU) (Ne.symm TU)
  have ul:=bZ pU
  have fl:=bZ pf
  have fe:=b.fut.len
  refine⟨.inl ⟨rfl,_,bh.of hU1⟩,_,rfl,U,_,_,rfl,rfl,hU1,bc (by omega),?_⟩
  obtain⟨XJ,v,e1,B2⟩:=Bk.au5 b0 (Is.kept (F:=F) (.same s0) iM) (bV (fun _ _ q=>Is.kept (F:=F) (.same s0) q) pp) (bV (fun _ _ q=>Is.kept (F:=F) (.same s0) q) pf) f B.wv he (Es (fun _ e' _ q=>pN (F:=fun _=>True) (.same s0) ⟨trivial,trivial⟩ q) pD0) hd0 pU
   (H2:=upd (upd (upd H0 D (.lst ds0)) e.T (.lst ((M e.T).take e.i++e.bs++(M e.T).drop (e.i+e.as.length)))) U (.lst (ux++[.ref e.o]))) (fun y o hy y1 y2 y3=>by rw[aA y3];exact r2 hy y2 y1) (by rw[aA TU,ak];exact congrArg (fun z=>some (HO.lst z)) jL.symm) (by rw[aA b.DU,aA (Ne.symm TD),ak]) ak
  refine q2 XJ v e1 _ (fun y o hy hn=>?_) B2
  have fT:F e.T:=by
   rcases ok.1 with z | ⟨a,ha,z⟩
   ·rw[z];exact f.L
   ·rw[z];exact f.l a ha
  rw[aA (show y≠U from fun z=>hn (z ▸ f.U))]
  exact r2 (s0 _ _ hy) (fun z=>hn (z ▸ f.D)) (fun z=>hn (z ▸ fT))
inductive aaB (C:Addr)(vs:List V)(H:Hp)(Q:VK)(E:XK):Prop
 | mk (x dx T_ B A:Addr) (i:Nat) (xs bs as:List V) (gj:vs=[.ref x]) (gk:H x=some (.ins C dx (ZS T_ (i:Int) B A))) (jc:H T_=some (.lst xs)) (n8:H B=some (.lst bs)) (xJ:H A=some (.lst as)) (h5_:T_≠A) (h6_:i+bs.length <= xs.length) (h7_:xs.length+as.length <= 1000) (h8_:Q .non (upd H T_ (.lst (xs.take i++as++xs.drop (i+bs.length))))):aaB C vs H Q E
theorem aaC (T:Txt K w mg t):bW P w K mg base jF (0+1) t.qm t.Uy ["self"] (aaB t.bT):=by
 refine T.Lq.ok ajU (fun vs H Q E h=>?_) (fun cdv A outer s H vs Q E hr h=>?_)
 ·obtain⟨_,_,_,_,_,_,_,_,_,rfl,_⟩:=h
  rfl
 ·obtain⟨x,dx,T_,B,A_,i,xs,bs,as,rfl,hx,hT,hB,hA,hne,hi,hz,q⟩:=h
  refine bA (au (qx (cY (pv 0) rfl) (ahU (cY (pv 0) rfl) (lE (cY (pv 0) rfl)) (lE (aV (bN.or (aR.or bO)) (cY (pv 0) rfl) (aH (aM.or aN) rfl T.cC cB (aa (cY (pv 0) rfl) aj))))))) ?_
  refine⟨_,rfl,x,_,dx,_,_,rfl,hx,T.iJ,T.jb,adP _ _ _ _,?_⟩
  refine⟨_,rfl,x,_,dx,_,_,rfl,hx,T.iJ,T.gP,ZV _ _ _ _,?_⟩
  refine⟨_,rfl,x,_,dx,_,_,rfl,hx,T.iJ,T.jW,aeK _ _ _ _,_,rfl,?_⟩
  refine⟨_,rfl,x,_,dx,_,_,rfl,hx,T.iJ,T.jW,aeK _ _ _ _,?_⟩
  refine⟨_,rfl,x,_,dx,_,_,rfl,hx,T.iJ,T.gQ,ZW _ _ _ _,?_⟩
  refine .inl ⟨B,bs,rfl,.inl (bh.of hB),.inl ⟨_,_,rfl,rfl,_,rfl,?_⟩⟩
  refine⟨T_,A_,xs,as,(i:Int),((i+bs.length:Nat):Int),rfl,rfl,rfl,by simp,hT,hA,hne,by omega,by omega,by omega,Nat.le_trans hz (by decide),?_⟩
  rw[Int.toNat_natCast,Int.toNat_natCast]
  exact q
inductive RB (c:Cs)(vs:List V)(H:Hp)(Q:VK)(E:XK):Prop
 | mk (x:Addr) (F:Addr->Prop) (vw:Vw) (ps fs:List Vw) (gj:vs=[.ref x]) (gk:Ni c H x F vw ps fs) (jc:ps.length+fs.length <= 900) (n8:(fs=[]->∀ H',aB H H'->RX E c .ajT H')) (xJ:(∀ fs0 v,fs=fs0++[v]->∀ H',Fr F H H'->Ni c H' x F v (ps++[vw]) fs0->Q .non H')):RB c vs H Q E
theorem RC (T:Txt K w mg t):bW P w K mg base jF (0+2) t.jA t.Ir ["self"] (RB (cs t)):=by
 have Vg:=aaC (P:=P) (w:=w) (base:=base) T
 refine T.Al.ok Q7 (fun vs H Q E h=>?_) (fun cdv A outer s H vs Q E hr h=>?_)
 ·obtain⟨_,_,_,_,_,rfl,_⟩:=h
  rfl
 ·obtain⟨x,F,vw,ps,fs,rfl,B,hps,q1,q2⟩:=h
  refine bA (ao (bC (aJ (M6 (aY hr)) (cY (pv 0) rfl) (cj aj) (aQ _)) (au lV) aO) (ao (aX (i:=1) Q7.nd rfl (Or.inl rfl) (aex PySem.F.plainAttrs_list PySem.F.slot_list_pop PySem.F.type_list_pop apL (cY (pv 0) rfl))) (ao (bj (gG (pv 1) T.iJ T.aak Vg (hr.mono (by decide)) T.Lr .nil aF)) (au (bj (j4 PySem.F.plainAttrs_list PySem.F.slot_list_append PySem.F.type_list_append bK (cY (pv 0) rfl) (aa (pv 1) aj))))))) ?_
  obtain⟨L,D,U,all,M,Ps,Fs,es,us,b,iM,pp,pf,f⟩:=B.ex
  obtain⟨dx,hx⟩:=b.hx
  obtain⟨ux,hU,pU⟩:=b.hU
  have ul:=bZ pU
  have fl:=bZ pf
  have fe:=b.fut.len
  refine⟨_,rfl,x,_,dx,_,_,rfl,hx,T.aZ,T.dM,Er _ _ _,big (by show 0 <= 1000;omega),fun e0 he0=>?_⟩
  have s0:=aB.upd (o:=.lst []) he0
  refine⟨U,e0,ux,rfl,rfl,bh.of (s0 _ _ hU),bh.of ak,_,rfl,?_⟩
  generalize upd H e0 (.lst [])=H0 at s0
  refine bJ (fun h=>?_) (fun h=>?_)
  ·have hds:ux=[]:=List.isEmpty_iff.mp h
   rw[hds] at ul
   have hp0:fs=[]:=List.length_eq_zero_iff.mp (by rw[← fl,fe,← ul];rfl)
   have q:=q1 hp0 H0 s0
   exact (Bool.noConfusion (show false=true from q.1))
  have hne:ux≠[]:=fun z=>h (by rw[z];rfl)
  obtain⟨ux0,v,rfl⟩:∃ ux0 v,ux=ux0++[v]:=⟨ux.dropLast,ux.getLast hne,(List.dropLast_concat_getLast hne).symm⟩
  obtain⟨us0,e,he,pU0,hd⟩:=ZZ pU
  have hvo:=hd.1
  subst hvo
  have b0:=b.kept f (.same s0)
  have hd0:xP t.bT H0 (.ref e.o) e:=pN (F:=fun _=>True) (.same s0) ⟨trivial,trivial⟩ hd
  have ok:=b.dd e (.inr (by rw[he];exact List.mem_append_right _ (List.mem_singleton_self _)))
  obtain⟨hT,TD,TU⟩:=b0.lists ok.1
  have nTA:e.T≠e.A:=by
   rcases ok.1 with z | ⟨a,ha,z⟩
   ·rw[z];exact Ne.symm ok.2.2.1.1
   ·rw[z];exact Ne.symm (ok.2.2.1.2.2.2 a ha)
  obtain⟨Fs0,_,ft,_⟩:=(he ▸ b.fut).last
  have fit:=ft.1
  have hx0:=s0 _ _ hx
  have hU0:=s0 _ _ hU
  obtain⟨ds,hD0,pD⟩:=b0.hD
  have azt:(M e.T).length <= 200:=by
   rcases ok.1 with z | ⟨a,ha,z⟩
   ·rw[z];exact Nat.le_trans (b.wf M (.inr (.inl rfl))).len (by decide)
   ·rw[z];exact ((b.wf M (.inr (.inl rfl))).ln a ha).1
  refine⟨_,rfl,x,_,dx,_,_,rfl,hx0,T.aZ,T.dM,Er _ _ _,?_⟩
  refine⟨.inl ⟨rfl,_,bh.of hU0⟩,U,ux0++[V.ref e.o],V.ref e.o,rfl,rfl,hU0,by simp,?_⟩
  rw[List.dropLast_concat]
  have nU:∀ {y C d fs},H0 y=some (.ins C d fs)->y≠U:=fun hy=>vH hy hU0 (by intro z;cases z)
  have nT:∀ {y C d fs},H0 y=some (.ins C d fs)->y≠e.T:=fun hy=>vH hy hT (by intro z;cases z)
  have r1:∀ {y o},H0 y=some o->y≠U->upd H0 U (.lst ux0) y=some o:=fun hy hn=>by rw[aA hn];exact hy
  refine⟨_,rfl,e.o,e.d,_,rfl,r1 hd0.2.1 (nU hd0.2.1),adQ _ _ _ _,?_⟩
  refine⟨e.o,e.d,e.T,e.B,e.A,e.i,M e.T,e.bs,e.as,rfl,r1 hd0.2.1 (nU hd0.2.1),r1 hT TU,r1 hd0.2.2.1 ok.2.1.2.2.1,r1 hd0.2.2.2 ok.2.2.1.2.2.1,nTA,fit,by have:=ok.2.2.2.2;omega,?_⟩
  have r2:∀ {y o},H0 y=some o->y≠U->y≠e.T->upd (upd H0 U (.lst ux0)) e.T (.lst ((M e.T).take e.i++e.as++(M e.T).drop (e.i+e.bs.length))) y=some o:=fun hy hn hn'=>by rw[aA hn',aA hn];exact hy
  refine⟨_,rfl,x,_,dx,_,_,rfl,r2 hx0 (nU hx0) (nT hx0),T.aZ,T.gb,QW _ _ _,?_⟩
  have hD1:=r2 hD0 b.DU (Ne.symm TD)
  have dl:=bZ pD
  have pl:=bZ pp
  have pe:=b.past.len
  refine⟨.inl ⟨rfl,_,bh.of hD1⟩,_,rfl,D,_,_,rfl,rfl,hD1,bc (by omega),?_⟩
  obtain⟨fs0,v,e1,B2⟩:=Bk.au6 b0 (Is.kept (F:=F) (.same s0) iM) (bV (fun _ _ q=>Is.kept (F:=F) (.same s0) q) pp) (bV (fun _ _ q=>Is.kept (F:=F) (.same s0) q) pf) f B.wv he pD hd0 (Es (fun _ e' _ q=>pN (F:=fun _=>True) (.same s0) ⟨trivial,trivial⟩ q) pU0)
   (H2:=upd (upd (upd H0 U (.lst ux0)) e.T (.lst ((M e.T).take e.i++e.as++(M e.T).drop (e.i+e.bs.length)))) D (.lst (ds++[.ref e.o]))) (fun y o hy y1 y2 y3=>by rw[aA y2];exact r2 hy y3 y1) (by rw[aA TD,ak];exact congrArg (fun z=>some (HO.lst z)) jL.symm) ak (by rw[aA (Ne.symm b.DU),aA (Ne.symm TU),ak])
  refine q2 fs0 v e1 _ (fun y o hy hn=>?_) B2
  have fT:F e.T:=by
   rcases ok.1 with z | ⟨a,ha,z⟩
   ·rw[z];exact f.L
   ·rw[z];exact f.l a ha
  rw[aA (show y≠D from fun z=>hn (z ▸ f.D))]
  exact r2 (s0 _ _ hy) (fun z=>hn (z ▸ f.U)) (fun z=>hn (z ▸ fT))
inductive rB (c:Cs)(vs:List V)(H:Hp)(Q:VK)(E:XK):Prop
 | mk (i n:Int) (gj:vs=[.int i,.int n]) (gk:((0 <= i/\i <= n->Q .non H)/\(¬ (0 <= i/\i <= n)->RX E c .QZ H))):rB c vs H Q E
theorem jX (T:Txt K w mg t):bW P w K mg base jF (0+1) t.cH t.kW ["at","last"] (rB (cs t)):=by
 refine T.cJ.ok Ex (fun vs H Q E h=>?_) (fun cdv A outer s H vs Q E hr h=>?_)
 ·obtain⟨_,_,rfl,_⟩:=h
  rfl
 ·obtain⟨i,n,rfl,q1,q2⟩:=h
  refine bA (au (bC (cF (QD HJ HJ az (pv 0) (pv 1))) (au lV) aO)) ?_
  refine⟨_,rfl,_,_,rfl,rfl,_,rfl,?_⟩
  refine bJ (fun h0=>?_) (fun h0=>?_)
  ·refine⟨_,rfl,_,_,rfl,rfl,_,rfl,?_⟩
   refine bJ (fun h=>?_) (fun h=>?_)
   ·have h':(!decide (i <= n))=true:=h
    have q:=q2 fun z=>by rw[decide_eq_true z.2] at h';cases h'
    exact (Bool.noConfusion (show false=true from q.1))
   ·have h':¬ (!decide (i <= n))=true:=h
    refine q1 ⟨of_decide_eq_true h0,?_⟩
    by_cases z:i <= n
    ·exact z
    ·exact absurd (by rw[decide_eq_false z];rfl) h'
  ·have q:=q2 fun z=>h0 (decide_eq_true z.1)
   exact⟨_,rfl,wj (Bool.noConfusion (show false=true from q.1))⟩
inductive amA (vs:List V)(H:Hp)(Q:VK)(E:XK):Prop
 | mk (p:Addr) (s:Sn) (gj:vs=[.ref p]) (gk:H p=some (.tup [.str s.1,.int s.2])) (jc:Q (.bl (Ae s)) H):amA vs H Q E
theorem asT (T:Txt K w mg t):bW P w K mg base jF (0+1) t.Nu t.ajZ ["sign"] amA:=by
 refine T.aal.ok aeP (fun vs H Q E h=>?_) (fun cdv A outer s H vs Q E hr h=>?_)
 ·obtain⟨_,_,rfl,_⟩:=h
  rfl
 ·obtain⟨p,s,rfl,hp,q⟩:=h
  unfold Ae at q
  refine bA (ao (qx (pv 0) (iR rfl (bu (aU (i:=1) aeP.nd rfl (Or.inl rfl)) (bu (aU (i:=2) aeP.nd rfl (Or.inl rfl)) eZ)))) (ao (bC (aJ (gw.or gq) (pv 1) (cT (v:=.ref t.eU) rfl T.Vd rfl) rfl) (au (aG (ahH HJ HJ az (pv 2) (cT (v:=.int 99) rfl T.aav ⟨_,rfl⟩)))) aO) (au (aG (fV (tM (dh (gw.or gq) (pv 1) (cT (v:=.ref t.gM) rfl T.aat rfl) rfl) (tL (dh (cP.or (bQ (aY hr))) (pv 2) az (aQ _))))))))) ?_
  refine⟨_,rfl,_,_,rfl,nJ.of hp,rfl,_,_,rfl,_,_,rfl,rfl,_,rfl,.inl ⟨_,_,rfl,.inr (T.Ve _),rfl,rfl,_,rfl,?_⟩⟩
  refine bJ (fun h=>?_) (fun h=>?_)
  ·rw[if_pos (show inV (.str s.1) Ur=true from h)] at q
   refine⟨_,rfl,_,_,rfl,rfl,_,rfl,?_⟩
   refine bJ (fun h2=>?_) (fun h2=>?_)
   ·rw[if_pos h2] at q
    exact⟨_,_,rfl,rfl,q⟩
   ·rw[if_neg h2] at q
    exact q
  ·rw[if_neg (show ¬ inV (.str s.1) Ur=true from h)] at q
   refine⟨fun v H'=>v=.bl (if inV (V.str s.fst) Eu=true then decide (s.snd=0) else false)/\H'=H,?_,fun _ _ ⟨e1,e2⟩=>by rw[e1,e2];exact q⟩
   refine⟨_,rfl,.inl ⟨_,_,rfl,.inr (T.aau _),rfl,rfl,_,rfl,?_⟩⟩
   refine bJ (fun h2=>?_) (fun h2=>?_)
   ·rw[if_pos (show inV (.str s.1) Eu=true from h2)]
    refine⟨_,rfl,.inl ⟨rfl,?_⟩⟩
    rw[jm]
    exact⟨rfl,rfl⟩
   ·rw[if_neg (show ¬ inV (.str s.1) Eu=true from h2)]
    exact⟨rfl,rfl⟩
inductive zr (c:Cs)(vs:List V)(H:Hp)(Q:VK)(E:XK):Prop
 | mk (p:Addr) (s:Sn) (gj:vs=[.ref p]) (gk:H p=some (.tup [.str s.1,.int s.2])) (jc:((Ae s=true->Q .non H)/\(Ae s=false->RX E c .Ze H))):zr c vs H Q E
theorem zu (T:Txt K w mg t):bW P w K mg base jF (0+2) t.dF t.qJ ["sign"] (zr (cs t)):=by
 have avk:=asT (P:=P) (w:=w) (base:=base) T
 refine T.fO.ok Nm (fun vs H Q E h=>?_) (fun cdv A outer s H vs Q E hr h=>?_)
 ·obtain⟨_,_,rfl,_⟩:=h
  rfl
 ·obtain⟨p,g,rfl,hp,q1,q2⟩:=h
  refine bA (au (bC (cF (bD (aD avk (hr.mono (by decide)) rfl T.asM T.aal.kp T.aj0 .nil aF (aa (pv 0) aj)))) (au lV) aO)) ?_
  refine⟨_,rfl,p,g,rfl,hp,_,rfl,?_⟩
  cases hg:Ae g with
  | true=>exact di (q1 hg)
  | false =>
   have q:=q2 hg
   exact wj (Bool.noConfusion (show false=true from q.1))
inductive Hr (CB CD:Addr)(vs:List V)(H:Hp)(Q:VK)(E:XK):Prop
 | mk (x dx L D U d dd T_ B A:Addr) (i:Nat) (ds us xs bs as:List V) (gj:vs=[.ref x,.ref d]) (gk:H x=some (.ins CB dx (QV L D U))) (jc:H D=some (.lst ds)) (n8:H U=some (.lst us)) (xJ:H d=some (.ins CD dd (ZS T_ (i:Int) B A))) (h5_:H T_=some (.lst xs)) (h6_:H B=some (.lst bs)) (h7_:H A=some (.lst as)) (h8_:T_≠A) (h9_:T_≠D) (azv:T_≠U) (aCq:D≠U) (aCr:i+bs.length <= xs.length) (aCs:xs.length+as.length <= 1000) (aCt:ds.length <= 900) (aCu:Q .non (upd (upd (upd H T_ (.lst (xs.take i++as++xs.drop (i+bs.length)))) D (.lst (ds++[.ref d]))) U (.lst []))):Hr CB CD vs H Q E
theorem o9 (T:Txt K w mg t):bW P w K mg base jF (0+2) t.fB t.yO ["self","deed"] (Hr t.bI t.bT):=by
 have Vg:=aaC (P:=P) (w:=w) (base:=base) T
 refine T.qU.ok Yn (fun vs H Q E h=>?_) (fun cdv A outer s H vs Q E hr h=>?_)
 ·obtain⟨_,_,_,_,_,_,_,_,_,_,_,_,_,_,_,_,rfl,_⟩:=h
  rfl
 ·obtain⟨x,dx,L,D,U,d,dd,T_,B,A_,i,ds,us,xs,bs,as,rfl,hx,hD,hU,hd,hT,hB,hA,n1,n2,n3,n4,hi,hz,hds,q⟩:=h
  refine bA (ao (bj (gG (pv 1) T.iJ T.aak Vg (hr.mono (by decide)) T.Lr .nil aF)) (ao (bj (j4 PySem.F.plainAttrs_list PySem.F.slot_list_append PySem.F.type_list_append bK (cY (pv 0) rfl) (aa (pv 1) aj))) (au (bj (aex PySem.F.plainAttrs_list PySem.F.slot_list_clear PySem.F.type_list_clear apO (cY (pv 0) rfl)))))) ?_
  have xT:x≠T_:=vH hx hT (by intro z;cases z)
  have xD:x≠D:=vH hx hD (by intro z;cases z)
  refine⟨_,rfl,d,dd,_,rfl,hd,adQ _ _ _ _,?_⟩
  refine⟨d,dd,T_,B,A_,i,xs,bs,as,rfl,hd,hT,hB,hA,n1,hi,hz,?_⟩
  refine⟨_,rfl,x,_,dx,_,_,rfl,by rw[aA xT];exact hx,T.aZ,T.gb,QW _ _ _,?_⟩
  refine⟨.inl ⟨rfl,_,bh.of (show upd H T_ _ D=some (.lst ds) by rw[aA (Ne.symm n2)];exact hD)⟩,_,rfl,D,_,_,rfl,rfl,by rw[aA (Ne.symm n2)];exact hD,bc (by omega),?_⟩
  refine⟨_,rfl,x,_,dx,_,_,rfl,by rw[aA xD,aA xT];exact hx,T.aZ,T.dM,Er _ _ _,?_⟩
  have hU2:upd (upd H T_ (.lst (xs.take i++as++xs.drop (i+bs.length)))) D (.lst (ds++[.ref d])) U=some (.lst us):=by rw[aA (Ne.symm n4),aA (Ne.symm n3)];exact hU
  exact⟨.inl ⟨rfl,_,bh.of hU2⟩,U,_,rfl,rfl,hU2,q⟩
inductive aik (vs:List V)(H:Hp)(Q:VK)(E:XK):Prop
 | mk (p:Addr) (s:Sg) (gj:vs=[.ref p]) (gk:H p=some (.tup [.str s.1.str,.int s.2])) (jc:Q (.bl s.1.small) H):aik vs H Q E
theorem RD (k:Kd):inV (.str k.str) [.str "s",.str "d",.str "r"]=k.small:=by cases k <;> decide +kernel
theorem ail (T:Txt K w mg t):bW P w K mg base jF (0+1) t.Fe t.aeQ ["sign"] aik:=by
 refine T.Ls.ok aqy (fun vs H Q E h=>?_) (fun cdv A outer s H vs Q E hr h=>?_)
 ·obtain⟨_,_,rfl,_⟩:=h
  rfl
 ·obtain⟨p,s,rfl,hp,q⟩:=h
  rw[← RD] at q
  refine bA (au (aG (dh (gw.or gq) (bH bx (pv 0) az (fun _ _=>rfl)) (cT (v:=.ref t.iY) rfl T.acP rfl) rfl))) ?_
  tm_up
  exact .inl ⟨_,_,rfl,.inr (T.acQ _),rfl,rfl,q⟩
inductive aaD (K:Frag)(vs:List V)(H:Hp)(Q:VK)(E:XK):Prop
 | mk (l:Addr) (xs:List V) (ss:List Sg) (i:Nat) (gj:vs=[.ref l,.int (i:Int)]) (gk:bh K H l xs) (jc:nP H xs ss) (n8:ss.length <= 200) (xJ:i <= ss.length) (h5_:∀ r:Int,Q (.int r) H):aaD K vs H Q E
theorem aj8 (T:Txt K w mg t):bW P w K mg base jF (0+2) t.ue t.Uz ["line","at"] (aaD K):=by
 have ae7:=ail (P:=P) (w:=w) (base:=base) T
 refine T.DW.ok Ey (fun vs H Q E h=>?_) (fun cdv A outer s H vs Q E hr h=>?_)
 ·obtain⟨_,_,_,_,rfl,_⟩:=h
  rfl
 ·obtain⟨l,xs,ss,i,rfl,hS,g,hl,hi,q⟩:=h
  refine bA (ao (aX (i:=2) Ey.nd rfl (Or.inl rfl) az) (ao (jk PassesOwn.never rfl (ank rfl T.rA (aa (aV jE (pv 1) az) (aa (Xx HH az) (aa (Xx HH az) aj)))) (aU (i:=3) Ey.nd rfl (Or.inl rfl)) (ao (wk (bC (cF (bD (aD ae7 (hr.mono (by decide)) rfl T.aib T.Ls.kp T.Zh .nil aF (aa (bH bx (pv 0) (pv 3) (fun _ _=>rfl)) aj)))) (au (auv (i:=2) Ey.nd rfl (Or.inl rfl) az auw)) aO)) (au (bC (aJ (cP.or (bQ (aY hr))) (pv 2) az (aQ _)) (au (aG (pv 3))) aO)))) (au (aG az)))) ?_
  tm_up
  have xl:=bZ g
  refine⟨(i:Int) - 1,-1,rfl,⟨by omega,by omega,by omega,by omega⟩,aqc (fun j σ H'=>∃ (met:Int) (v:Option V),σ=[some (.ref l),some (.int (i:Int)),some (.int met),v]/\H'=H) ⟨0,none,rfl,rfl⟩ ?_ ?_⟩
  ·rintro j σ H1 hj ⟨met,v,rfl,eH⟩
   have eH:=eH.symm
   subst eH
   obtain⟨sg,hsg⟩:∃ sg,ss[i - 1 - j]? = some sg:=⟨_,List.getElem?_eq_getElem (by omega)⟩
   refine⟨fun σ H'=>∃ (met:Int),σ=[some (.ref l),some (.int (i:Int)),some (.int met),some (.int ((i:Int) - 1 - (j:Int)))]/\H'=H,?_,?_⟩
   ·tm_up
    refine acI hS g (n:=i - 1 - j) (by omega) hsg fun b hb=>?_
    refine⟨b,sg,rfl,hb,?_⟩
    refine⟨_,rfl,?_⟩
    refine bJ (fun _=>?_) (fun _=>?_)
    ·tm_up
     rfl
    ·exact⟨_,rfl,rfl⟩
   ·rintro _ H1 ⟨met,rfl,eH⟩
    have eH:=eH.symm
    subst eH
    tm_up
    refine bJ (fun _=>?_) (fun _=>?_)
    ·exact⟨_,rfl,q _⟩
    ·exact⟨_,_,rfl,rfl⟩
  ·rintro σ H1 ⟨met,v,rfl,eH⟩
   have eH:=eH.symm
   subst eH
   exact q _
inductive X4 (K:Frag)(vs:List V)(H:Hp)(Q:VK)(E:XK):Prop
 | mk (l kp:Addr) (xs kv:List V) (ss:List Sg) (i:Nat) (gj:vs=[.ref l,.int (i:Int),.ref kp]) (gk:bh K H l xs) (jc:nP H xs ss) (n8:ss.length <= 200) (xJ:nJ K H kp kv) (h5_:kv.all Hh=true) (h6_:i <= 1000) (h7_:∀ r:Int,Q (.int r) H):X4 K vs H Q E
theorem aim (T:Txt K w mg t):bW P w K mg base jF (0+1) t.pA t.Nv ["line","first","kinds"] (X4 K):=by
 refine T.zf.ok XM (fun vs H Q E h=>?_) (fun cdv A outer s H vs Q E hr h=>?_)
 ·obtain⟨_,_,_,_,_,_,rfl,_⟩:=h
  rfl
 ·obtain⟨l,kp,xs,kv,ss,i,rfl,hS,g,hl,hT,hf,hi,q⟩:=h
  refine bA (ao (jk PassesOwn.never rfl (amW rfl T.rA (aa (pv 1) (aa (aH (aM.or aN) rfl T.cC cB (aa (pv 0) aj)) aj))) (aU (i:=3) XM.nd rfl (Or.inl rfl)) (au (bC (aJ (gw.or gq) (bH bx (bH bx (pv 0) (pv 3) (fun _ _=>rfl)) az (fun _ _=>rfl)) (pv 2) rfl) (au (aG (pv 3))) aO))) (au (aG (aH (aM.or aN) rfl T.cC cB (aa (pv 0) aj))))) ?_
  have xl:=bZ g
  tm_up
  refine .inl ⟨l,xs,rfl,.inl hS,?_⟩
  refine⟨(i:Int),(xs.length:Int),rfl,⟨by omega,by omega,by omega,by omega⟩,ye (fun j σ H'=>∃ (v:Option V),σ=[some (.ref l),some (.int (i:Int)),some (.ref kp),v]/\H'=H) ⟨none,rfl,rfl⟩ ?_ ?_⟩
  ·rintro j σ H1 hj ⟨v,rfl,eH⟩
   have eH:=eH.symm
   subst eH
   obtain⟨sg,hsg⟩:∃ sg,ss[i+j]? = some sg:=⟨_,List.getElem?_eq_getElem (by omega)⟩
   tm_up
   refine acI hS g (n:=i+j) (by omega) hsg fun b hb=>?_
   tm_up
   refine .inl ⟨kp,kv,rfl,.inr hT,rfl,hf,_,rfl,?_⟩
   refine bJ (fun _=>?_) (fun _=>?_)
   ·exact⟨_,rfl,q _⟩
   ·exact⟨_,rfl,rfl⟩
  ·rintro σ H1 ⟨v,rfl,eH⟩
   have eH:=eH.symm
   subst eH
   exact⟨_,rfl,.inl ⟨l,_,rfl,.inl hS,q _⟩⟩
inductive Hs (vs:List V)(H:Hp)(Q:VK)(E:XK):Prop
 | mk (p:Addr) (s:Sg) (gj:vs=[.ref p]) (gk:H p=some (.tup [.str s.1.str,.int s.2])) (jc:Q (.bl s.1.meas) H):Hs vs H Q E
theorem avl (k:Kd):inV (.str k.str) [.str "3",.str "2"]=k.meas:=by cases k <;> decide +kernel
theorem Ht (T:Txt K w mg t):bW P w K mg base jF (0+1) t.gH t.yP ["sign"] Hs:=by
 refine T.jt.ok Yo (fun vs H Q E h=>?_) (fun cdv A outer s H vs Q E hr h=>?_)
 ·obtain⟨_,_,rfl,_⟩:=h
  rfl
 ·obtain⟨p,s,rfl,hp,q⟩:=h
  rw[← avl] at q
  refine bA (au (aG (dh (gw.or gq) (bH bx (pv 0) az (fun _ _=>rfl)) (cT (v:=.ref t.dW) rfl T.Hm rfl) rfl))) ?_
  tm_up
  exact .inl ⟨_,_,rfl,.inr (T.Hn _),rfl,rfl,q⟩
inductive ad3 (K:Frag)(vs:List V)(H:Hp)(Q:VK)(E:XK):Prop
 | mk (l ch:Addr) (xs cx:List V) (ss cs:List Sg) (i b:Nat) (gj:vs=[.ref l,.int (i:Int),.int (b:Int),.ref ch]) (gk:bh K H l xs) (jc:nP H xs ss) (n8:ss.length <= 200) (xJ:i <= ss.length) (h5_:b <= 1000) (h6_:bh K H ch cx) (h7_:nP H cx cs) (h8_:cs.length <= 100) (h9_:∀ (p:Addr) (H':Hp),aB H H'->Q (.ref p) H'):ad3 K vs H Q E
theorem Vh (T:Txt K w mg t):bW P w K mg base jF (0+3) t.yQ t.aab ["line","at","behind","changed"] (ad3 K):=by
 have anJ:=aj8 (P:=P) (w:=w) (base:=base) T
 have aj9:=aim (P:=P) (w:=w) (base:=base) T
 have zx:=Ht (P:=P) (w:=w) (base:=base) T
 refine T.zg.ok adW (fun vs H Q E h=>?_) (fun cdv A outer s H vs Q E hr h=>?_)
 ·obtain⟨_,_,_,_,_,_,_,_,rfl,_⟩:=h
  rfl
 ·obtain⟨l,ch,xs,cx,ss,cs,i,b,rfl,hS,g,hl,hi,hb,hC,gc,hcl,q⟩:=h
  refine bA (ao (aX (i:=4) adW.nd rfl (Or.inl rfl) (fV (j0 (bD (aH apU rfl T.avb auO (aa (lF (cn:=["sign"]) rfl (cU.of rfl) (dX (pv 3)) (fun _=>(aU (i:=0) aia rfl (Or.inl rfl))) (fun _=>kO) (fun _=>(aD zx (hr.mono (by decide)) rfl T.Hl T.jt.kp T.qW .nil aF (aa (pv 0) aj)))) aj))) (cT (v:=.ref t.dW) rfl T.Hm rfl) (cT (v:=.ref t.fX) rfl T.Yr rfl)))) (au (aG (fQ (aa (aD anJ (hr.mono (by decide)) rfl T.aj1 T.DW.kp T.U5 .nil aF (aa (pv 0) (aa (pv 1) aj))) (aa (aD aj9 (hr.mono (by decide)) rfl T.aic T.zf.kp T.NK .nil aF (aa (pv 0) (aa (pv 2) (aa (pv 4) aj)))) aj)))))) ?_
  have cl:=bZ gc
  refine⟨fun v H'=>∃ kp kv,v=.ref kp/\(∀ H'' ,nJ K H'' kp kv)/\kv.all Hh=true/\aB H H',?_,?_⟩
  ·refine⟨_,rfl,ch,rfl,⟨_,hC⟩,fun D b2 hD=>?_⟩
   refine eN (K:=K) (xs:=cx) (fun ii ys σ H'=>∃ v,σ=[v,some (.ref l),some (.int (i:Int)),some (.int (b:Int)),some (.ref ch),none]/\H'=upd H D (.lst ys)/\∃ bs:List Bool,ys=bs.map V.bl/\bs.length=ii) ⟨none,rfl,rfl,[],rfl,rfl⟩ ?_ ?_ ?_
   ·rintro ii ys σ H' ⟨v,rfl,rfl,_⟩
    exact jd hC hD
   ·rintro ii ys x σ H' hx ⟨v,rfl,rfl,bs,rfl,hbs⟩ N hN
    obtain⟨sg,e1,p,rfl,hp⟩:=wu gc hx
    have hii:ii < cs.length:=(List.getElem?_eq_some_iff.mp e1).1
    refine fU ?_
    refine⟨_,rfl,p,sg,rfl,(by rw[aA (aC hp hD)];exact hp),ak,?_,?_⟩
    ·rw[List.length_map]
     exact bc (by omega)
    ·exact hN _ _ _ ⟨_,rfl,dB,bs++[sg.1.meas],by simp,by simp[hbs]⟩
   ·rintro ys σ H' ⟨v,rfl,rfl,bs,rfl,hbs⟩
    refine⟨rfl,D,bs,rfl,bh.of ak,_,rfl,?_⟩
    refine bJ (fun _=>?_) (fun _=>?_)
    ·exact⟨_,_,rfl,fun H''=>T.Hn H'',rfl,aB.upd hD⟩
    ·exact⟨_,_,rfl,fun H''=>T.Ys H'',rfl,aB.upd hD⟩
  ·rintro _ H1 ⟨kp,kv,rfl,hk,hf,s1⟩
   refine⟨_,rfl,_,rfl,l,xs,ss,i,rfl,s1.seq hS,g.same s1,hl,hi,fun r=>?_⟩
   refine⟨_,rfl,_,rfl,_,rfl,l,kp,xs,kv,ss,b,rfl,s1.seq hS,g.same s1,hl,hk _,hf,hb,fun r2=>?_⟩
   refine⟨by show 2 <= sizeLine;decide,fun p hp=>q p _ (s1.trans (aB.upd hp))⟩
inductive vX (c:Cs)(vs:List V)(H:Hp)(Q:VK)(E:XK):Prop
 | mk (x dx L D U:Addr) (xs:List V) (vx:List Vx) (n:Str) (gj:vs=[.ref x,.str n]) (gk:H x=some (.ins c.B dx (QV L D U))) (jc:H L=some (.lst xs)) (n8:Paired (asK c.V H) xs vx) (xJ:match vx.find? (fun a=>decide (a.n=n)) with
 | none=>RX E c .vy H
 | some a=>Q (.ref a.o) H):vX c vs H Q E
theorem anK {vx:List Vx}{n:Str}:∀ {i:Nat},(∀ j a,j < i->vx[j]? = some a->a.n≠n)->∀ {b},vx[i]? = some b->b.n=n->vx.find? (fun a=>decide (a.n=n))=some b:=by
 induction vx with
 | nil=>intro i _ b h;simp at h
 | cons v vs ih =>
  intro i hi b hb he
  cases i with
  | zero =>
   simp at hb
   subst hb
   exact List.find?_cons_of_pos (decide_eq_true he)
  | succ i =>
   have h0:=hi 0 v (by omega) rfl
   have h1:(v :: vs).find? (fun a=>decide (a.n=n))=vs.find? (fun a=>decide (a.n=n)):=List.find?_cons_of_neg (fun z=>h0 (of_decide_eq_true z))
   rw[h1]
   exact ih (i:=i) (fun j a hj ha=>hi (j+1) a (Nat.succ_lt_succ hj) (by simpa using ha)) (by simpa using hb) he
theorem iK (T:Txt K w mg t):bW P w K mg base jF (0+1) t.cD t.nQ ["self","name"] (vX (cs t)):=by
 refine T.jf.ok vL (fun vs H Q E h=>?_) (fun cdv A outer s H vs Q E hr h=>?_)
 ·obtain⟨_,_,_,_,_,_,_,_,rfl,_⟩:=h
  rfl
 ·obtain⟨x,dx,L,D,U,xs,vx,n,rfl,hx,hL,g,q⟩:=h
  refine bA (ao (jk PassesOwn.never rfl (dX (cY (pv 0) rfl)) (aU (i:=2) vL.nd rfl (Or.inl rfl)) (au (bC (aJ (cP.or (bQ (aY hr))) (cY (pv 2) rfl) (pv 1) (aQ _)) (au (aG (pv 2))) aO))) (au lV)) ?_
  have xl:=bZ g
  refine⟨_,rfl,x,_,dx,_,_,rfl,hx,T.aZ,T.dg,yI _ _ _,L,rfl,⟨_,bh.of hL⟩,yz (K:=K) (xs:=xs) (fun i σ H'=>∃ v,σ=[some (.ref x),some (.str n),v]/\H'=H/\∀ j a,j < i->vx[j]? = some a->a.n≠n) ⟨none,rfl,rfl,fun j a hj=>by omega⟩ ?_ ?_ ?_⟩
  ·rintro i σ H1 _ ⟨v,rfl,eH,_⟩
   rw[eH]
   exact bh.of hL
  ·rintro i y σ H1 hy ⟨v,rfl,eH,hi⟩
   have eH:=eH.symm
   subst eH
   obtain⟨b,e1,rfl,hb⟩:=wu g hy
   refine⟨_,rfl,b.o,_,b.d,_,_,rfl,hb,T.j6,T.iZ,ah4 _ _ _,?_⟩
   refine⟨_,rfl,.inl ⟨rfl,_,rfl,?_⟩⟩
   refine bJ (fun h=>?_) (fun h=>?_)
   ·have e:b.n=n:=V.str.inj (of_decide_eq_true h)
    rw[anK hi e1 e] at q
    exact⟨_,rfl,q⟩
   ·refine⟨_,rfl,rfl,fun j a hj ha=>?_⟩
    rcases Nat.lt_or_ge j i with z | z
    ·exact hi j a z ha
    ·have hij:j=i:=by omega
     rw[hij,e1] at ha
     cases ha
     exact fun z=>h (decide_eq_true (congrArg V.str z))
  ·rintro σ H1 ⟨v,rfl,eH,hi⟩
   have eH:=eH.symm
   subst eH
   have hn:vx.find? (fun a=>decide (a.n=n))=none:=List.find?_eq_none.mpr fun a ha z=>by
    obtain⟨j,hj⟩:=List.getElem?_of_mem ha
    have hjl:j < vx.length:=(List.getElem?_eq_some_iff.mp hj).1
    exact hi j a (by omega) hj (of_decide_eq_true z)
   rw[hn] at q
   exact (Bool.noConfusion (show false=true from q.1))
inductive xF (c:Cs)(vs:List V)(H:Hp)(Q:VK)(E:XK):Prop
 | mk (x dx L D U:Addr) (xs:List V) (vx:List Vx) (n:Str) (gj:vs=[.ref x,.str n]) (gk:H x=some (.ins c.B dx (QV L D U))) (jc:H L=some (.lst xs)) (n8:Paired (asK c.V H) xs vx) (xJ:match vx.find? (fun a=>decide (a.n=n)) with
 | none=>RX E c .vy H
 | some a=>(a.tm=.non->Q (.ref a.o) H)/\(∀ p,a.tm=.ref p->RX E c .Dr H)/\(a.tm=.non ∨ ∃ p,a.tm=.ref p)):xF c vs H Q E
theorem jh (T:Txt K w mg t):bW P w K mg base jF (0+2) t.cN t.pB ["self","name"] (xF (cs t)):=by
 have cR:=iK (P:=P) (w:=w) (base:=base) T
 refine T.jT.ok xu (fun vs H Q E h=>?_) (fun cdv A outer s H vs Q E hr h=>?_)
 ·obtain⟨_,_,_,_,_,_,_,_,rfl,_⟩:=h
  rfl
 ·obtain⟨x,dx,L,D,U,xs,vx,n,rfl,hx,hL,g,q⟩:=h
  refine bA (ao (aX (i:=2) xu.nd rfl (Or.inl rfl) (bM (pv 0) T.aZ T.iC cR (hr.mono (by decide)) T.dO .nil aF (aa (pv 1) aj))) (ao (bC (aJ al2 (cY (pv 2) rfl) MP (aQ _)) (au lV) aO) (au (aG (pv 2))))) ?_
  refine⟨_,rfl,x,dx,_,rfl,hx,je _ _ _,_,rfl,x,dx,L,D,U,xs,vx,n,rfl,hx,hL,g,?_⟩
  cases hf:vx.find? (fun a=>decide (a.n=n)) with
  | none =>
   rw[hf] at q
   exact (Bool.noConfusion (show false=true from q.1))
  | some a =>
   rw[hf] at q
   obtain⟨q1,q2,q3⟩:=q
   obtain⟨j,hj⟩:=List.getElem?_of_mem (List.mem_of_find?_eq_some hf)
   obtain⟨v,hv,rfl,ha⟩:=Hj g hj
   refine⟨_,rfl,a.o,_,a.d,_,_,rfl,ha,T.j6,T.gO,adO _ _ _,?_⟩
   rcases q3 with e | ⟨p,e⟩
   ·rw[e]
    refine⟨rfl,_,rfl,?_⟩
    exact bJ (fun h=>absurd h (by decide)) (fun _=>⟨_,rfl,q1 e⟩)
   ·have q:=q2 p e
    rw[e]
    refine⟨rfl,_,rfl,?_⟩
    exact bJ (fun _=>(Bool.noConfusion (show false=true from q.1))) (fun h=>absurd (show (!decide (V.ref p=V.non))=true by rw[decide_eq_false (fun z=>nomatch z)];rfl) h)
inductive RG (C:Addr)(vs:List V)(H:Hp)(Q:VK)(E:XK):Prop
 | mk (x dx:Addr) (T_:Addr) (i:Int) (B A:Addr) (gj:vs=[.ref x,.ref T_,.int i,.ref B,.ref A]) (gk:H x=some (.ins C dx [])) (jc:Q .non (upd H x (.ins C dx (ZS T_ i B A)))):RG C vs H Q E
theorem nF (T:Txt K w mg t):bW P w K mg base jF (0+1) t.dR t.wz ["self","things","at","before","after"] (RG t.bT):=by
 refine T.oY.ok Uu (fun vs H Q E h=>?_) (fun cdv A outer s H vs Q E hr h=>?_)
 ·obtain⟨_,_,_,_,_,_,rfl,_⟩:=h
  rfl
 ·obtain⟨x,dx,T_,i,B,A_,rfl,hx,q⟩:=h
  refine bA (ao (By (pv 0) (pv 1) rfl) (ao (By (pv 0) (pv 2) rfl) (ao (By (pv 0) (pv 3) rfl) (au (By (pv 0) (pv 4) rfl))))) ?_
  refine⟨_,rfl,_,rfl,x,_,dx,_,rfl,hx,T.iJ,T.gP,by show 0 < 1000;decide,?_⟩
  refine⟨_,rfl,_,rfl,x,_,dx,_,rfl,ak,T.iJ,T.jW,by rw[Zd];show 1 < 1000;decide,?_⟩
  refine⟨_,rfl,_,rfl,x,_,dx,_,rfl,ak,T.iJ,T.gQ,by rw[Zd,aeL];show 2 < 1000;decide,?_⟩
  refine⟨_,rfl,_,rfl,x,_,dx,_,rfl,ak,T.iJ,T.jb,by rw[Zd,aeL,amq];show 3 < 1000;decide,?_⟩
  rw[Zd,aeL,amq,asI]
  simp only [dB]
  exact q
inductive RJ (c:Cs)(vs:List V)(H:Hp)(Q:VK)(E:XK):Prop
 | mk (x:Addr) (F:Addr->Prop) (vw:Vw) (ps fs:List Vw) (n:Str) (i:Int) (p:Addr) (sn:Sn) (gj:vs=[.ref x,.str n,.int i,.ref p]) (gk:Ni c H x F vw ps fs) (jc:H p=some (.tup [.str sn.1,.int sn.2])) (n8:ps.length <= 900) (xJ:match bR vw n with
 | none=>RX E c .vy H
 | some (.cn _ _ _ _)=>RX E c .Dr H
 | some (.pl ss)=>(¬ (0 <= i/\i <= (ss.length:Int) - 1)->RX E c .QZ H)/\((0 <= i/\i <= (ss.length:Int) - 1)->Ae sn=false->RX E c .Ze H) /\
  ((0 <= i/\i <= (ss.length:Int) - 1)->Ae sn=true->∀ (s:Sg) (w:Addr) F' H',s.1.str=sn.1->s.2=sn.2->Gr F F' H->Fr F H H'->Ni c H' x F' (Dq vw n (.pl (ss.take i.toNat++[s]++ss.drop (i.toNat+1)))) (ps++[vw]) []->Q (.ref w) H')):RJ c vs H Q E
theorem axg {α:Type}{xs:List α}{i:Nat}{y:α}(h:xs[i]? = some y):xs.drop i=y :: xs.drop (i+1):=by
 obtain⟨h1,h2⟩:=List.getElem?_eq_some_iff.mp h
 rw[List.drop_eq_getElem_cons h1,h2]
theorem ae9 (T:Txt K w mg t):bW P w K mg base jF (0+4) t.jB t.Iu ["self","name","at","sign"] (RJ (cs t)):=by
 have eE:=jX (P:=P) (w:=w) (base:=base) T
 have rC:=zu (P:=P) (w:=w) (base:=base) T
 have gR:=o9 (P:=P) (w:=w) (base:=base) T
 have Jq:=Vh (P:=P) (w:=w) (base:=base) T
 have dj:=jh (P:=P) (w:=w) (base:=base) T
 have fY:=nF (P:=P) (w:=w) (base:=base) T
 refine T.An.ok Ez (fun vs H Q E h=>?_) (fun cdv A outer s H vs Q E hr h=>?_)
 ·obtain⟨_,_,_,_,_,_,_,_,_,rfl,_⟩:=h
  rfl
 ·obtain⟨x,F,vw,ps,fs,n,iz,p,sn,rfl,B,hp,hps,q⟩:=h
  refine bA (ao (aX (i:=4) Ez.nd rfl (Or.inl rfl) (cY (bM (pv 0) T.aZ T.jg dj (hr.mono (by decide)) T.eV .nil aF (aa (pv 1) aj)) rfl)) (ao (bj (aD eE (hr.mono (by decide)) rfl T.jR T.cJ.kp T.dZ .nil aF (aa (pv 2) (aa (aV jE (aH (aM.or aN) rfl T.cC cB (aa (pv 4) aj)) az) aj)))) (ao (bj (aD rC (hr.mono (by decide)) rfl T.zc T.fO.kp T.lL .nil aF (aa (pv 3) aj))) (ao (aX (i:=5) Ez.nd rfl (Or.inl rfl) (bH bx (pv 4) (pv 2) (fun _ _=>rfl))) (ao (bj (bM (pv 0) T.aZ T.oX gR (hr.mono (by decide)) T.jr .nil aF (aa (Lb T.Zk fY (hr.mono (by decide)) rfl T.Zj T.ie .nil aF (aa (pv 4) (aa (pv 2) (aa (cj (aa (pv 5) aj)) (aa (cj (aa (pv 3) aj)) aj))))) aj))) (au (aG (aD Jq (hr.mono (by decide)) rfl T.U6 T.zg.kp T.Je .nil aF (aa (pv 4) (aa (pv 2) (aa (aV (bN.or (aR.or bO)) (pv 2) az) (aa (cj (aa (pv 5) (aa (pv 3) aj))) aj)))))))))))) ?_
  obtain⟨L,D,U,all,M,Ps,Fs,es,us,b,iM,pp,pf,f⟩:=B.ex
  obtain⟨dx,hx⟩:=b.hx
  obtain⟨vx,g,gv⟩:=b.Ib iM
  obtain⟨ds,hD,pD⟩:=b.hD
  obtain⟨ux,hU,pU⟩:=b.hU
  have dl:=bZ pD
  have pl:=bZ pp
  have pe:=b.past.len
  refine⟨_,rfl,x,dx,_,rfl,hx,jK _ _ _,_,rfl,x,dx,L,D,U,M L,vx,n,rfl,hx,b.hL,g,?_⟩
  rcases Z1 gv (fun _ _ r=>r.2.1) n with ⟨f1,f2⟩ | ⟨a,th,j,f1,f2,r,an,fj,fw⟩
  ·rw[f1]
   rw[f2] at q
   exact (Bool.noConfusion (show false=true from q.1))
  rw[f1]
  rw[f2] at q
  subst an
  cases th with
  | cn ld lt sl tn =>
   obtain⟨pt,hpt,_⟩:=r.2.2
   refine⟨fun z=>?_,fun _ _=>(Bool.noConfusion (show false=true from q.1)),.inr ⟨pt,hpt⟩⟩
   rw[hpt] at z
   cases z
  | pl ss =>
   obtain⟨htm,hg⟩:=r.2.2
   obtain⟨q1,q2,q4⟩:=q
   have haa:=r.1
   obtain⟨ha,hl⟩:=b.ha a haa
   have yl:=bZ hg
   have hj:(M L)[j]? = some (.ref a.o):=by
    obtain⟨v,hv,e1,_⟩:=Hj g fj
    rw[← e1];exact hv
   refine⟨fun _=>?_,(fun pz z=>by rw[htm] at z;cases z),.inl htm⟩
   refine⟨a.o,_,a.d,_,_,rfl,ha,T.j6,T.c7,Dl _ _ _,?_⟩
   refine⟨_,rfl,_,rfl,.inl ⟨a.l,M a.l,rfl,.inl (bh.of hl),?_⟩⟩
   refine⟨_,_,rfl,rfl,?_⟩
   refine⟨iz,((M a.l).length:Int) - 1,rfl,fun hi=>?_,fun hi=>?_⟩
   rotate_left
   ·have q:=q1 (by rw[← yl];exact hi)
    exact (Bool.noConfusion (show false=true from q.1))
   rw[yl] at hi
   refine⟨_,rfl,p,sn,rfl,hp,fun hgd=>?_,fun hgd=>?_⟩
   rotate_left
   ·have q:=q2 hi hgd
    exact (Bool.noConfusion (show false=true from q.1))
   obtain⟨sg,e1,e2,gt⟩:=amu hgd
   rw[← e1,← e2] at hp
   obtain⟨i,rfl⟩:∃ i:Nat,iz=(i:Int):=⟨iz.toNat,by omega⟩
   have hi:i < ss.length:=by omega
   have hlt:ss.length <= 200:=((B.wv vw (.inr (.inl rfl))).gd _ _ (List.mem_of_getElem? fw)).1
   have q4:=q4 (by omega) hgd sg
   rw[Int.toNat_natCast] at q4
   obtain⟨sg0,hsg⟩:∃ sg,ss[i]? = some sg:=⟨_,List.getElem?_eq_getElem hi⟩
   obtain⟨vp,hvp,p0,rfl,hp0⟩:=Hj hg hsg
   refine⟨_,rfl,_,rfl,ixL (bh.of hl) (n:=i) rfl hvp ?_⟩
   refine⟨_,rfl,x,dx,_,rfl,hx,qC _ _ _,?_⟩
   refine⟨_,rfl,_,rfl,_,rfl,big (by show 1 <= 1000;omega),fun B' hB=>?_⟩
   refine⟨_,rfl,big (by show 1 <= 1000;omega),fun A_ hA=>?_⟩
   have hA0:=Zf hA
   have sB:=(aB.upd (o:=.lst [V.ref p0]) hB).trans (aB.upd (o:=.lst [V.ref p]) hA)
   have hB2:=aB.upd (o:=.lst [V.ref p]) hA _ _ (ak (H:=H) (a:=B') (o:=.lst [V.ref p0]))
   have hA2:=ak (H:=upd H B' (.lst [V.ref p0])) (a:=A_) (o:=.lst [V.ref p])
   have lA:a.l≠A_:=aC hl hA0
   generalize upd (upd H B' (.lst [V.ref p0])) A_ (.lst [V.ref p])=H2 at sB hB2 hA2
   intro d dd nd ndd ne
   refine⟨d,dd,a.l,(i:Int),B',A_,rfl,ak,rfl,?_⟩
   rw[dB]
   have s3:aB H2 (upd (upd H2 dd (.own d)) d (.ins t.bT dd (ZS a.l (i:Int) B' A_))):=fun y o hy=>by
    rw[aA (aC hy nd),aA (aC hy ndd)]
    exact hy
   have hd3:=ak (H:=upd H2 dd (.own d)) (a:=d) (o:=.ins t.bT dd (ZS a.l (i:Int) B' A_))
   generalize upd (upd H2 dd (.own d)) d (.ins t.bT dd (ZS a.l (i:Int) B' A_))=H3 at s3 hd3
   have s4:=sB.trans s3
   obtain⟨_,d1,d2⟩:=b.lists (.inr ⟨a,haa,rfl⟩)
   refine⟨x,dx,L,D,U,d,dd,a.l,B',A_,i,ds,ux,M a.l,[.ref p0],[.ref p],rfl,s4 _ _ hx,s4 _ _ hD,s4 _ _ hU,hd3,s4 _ _ hl,s3 _ _ hB2,s3 _ _ hA2,lA,d1,d2,b.DU,by simp;omega,by simp;omega,by omega,?_⟩
   have hM:Lz ⟨d,dd,a.l,i,B',A_,[.ref p0],[.ref p]⟩ M a.l=(M a.l).take i++[.ref p]++(M a.l).drop (i+1):=jL
   have keep:∀ y o,H3 y=some o->y≠a.l->y≠D->y≠U->(upd (upd (upd H3 a.l (.lst ((M a.l).take i++[.ref p]++(M a.l).drop (i+1)))) D (.lst (ds++[.ref d]))) U (.lst [])) y=some o:=fun y o hy y1 y2 y3=>by
    rw[aA y3,aA y2,aA y1]
    exact hy
   have k1:(upd (upd (upd H3 a.l (.lst ((M a.l).take i++[.ref p]++(M a.l).drop (i+1)))) D (.lst (ds++[.ref d]))) U (.lst [])) a.l=some (.lst ((M a.l).take i++[.ref p]++(M a.l).drop (i+1))):=by
    rw[aA d2,aA d1,ak]
   have k2:(upd (upd (upd H3 a.l (.lst ((M a.l).take i++[.ref p]++(M a.l).drop (i+1)))) D (.lst (ds++[.ref d]))) U (.lst [])) D=some (.lst (ds++[.ref d])):=by
    rw[aA b.DU,ak]
   have k3:(upd (upd (upd H3 a.l (.lst ((M a.l).take i++[.ref p]++(M a.l).drop (i+1)))) D (.lst (ds++[.ref d]))) U (.lst [])) U=some (.lst []):=ak
   generalize (upd (upd (upd H3 a.l (.lst ((M a.l).take i++[.ref p]++(M a.l).drop (i+1)))) D (.lst (ds++[.ref d]))) U (.lst []))=H4 at keep k1 k2 k3
   have g3:=hg.same s4
   have sgN:nP H3 ((M a.l).take i++[.ref p]++(M a.l).drop (i+1)) (ss.take i++[sg]++ss.drop (i+1)):=M7 (M7 (XF i g3) (.cons ⟨p,rfl,s4 _ _ hp⟩ .nil)) (ZM (i+1) g3)
   obtain⟨F',gr,fr,B4⟩:=Bk.aqv b iM pp f B.wv haa hj fw htm (e:=⟨d,dd,a.l,i,B',A_,[.ref p0],[.ref p]⟩) rfl ⟨by show i+1 <= (M a.l).length;omega,by rw[show ([V.ref p0]:List V).length=1 from rfl,axg hvp];rfl⟩ (by simp) (by simp) s4 hB hA0 ⟨rfl,hd3,s3 _ _ hB2,s3 _ _ hA2⟩ (by rw[hM];exact sgN) (by simp;omega) (fun s hs=>by
    have wg:=((B.wv vw (.inr (.inl rfl))).gd _ _ (List.mem_of_getElem? fw)).2
    rcases List.mem_append.mp hs with hs | hs
    ·rcases List.mem_append.mp hs with hs | hs
     ·exact wg s (List.mem_of_mem_take hs)
     ·rw[List.mem_singleton.mp hs];exact gt
    ·exact wg s (List.mem_of_mem_drop hs)) hD pD keep (by rw[hM];exact k1) k2 k3
   have nT:∀ {y us},H3 y=some (.tup us)->H4 y=some (.tup us):=fun {y us} hy=>keep y _ hy (vH hy (s4 _ _ hl) (by intro z;cases z)) (vH hy (s4 _ _ hD) (by intro z;cases z)) (vH hy (s4 _ _ hU) (by intro z;cases z))
   have sg4:nP H4 ((M a.l).take i++[.ref p]++(M a.l).drop (i+1)) (ss.take i++[sg]++ss.drop (i+1)):=bV (fun _ _ ⟨z,e1,e2⟩=>⟨z,e1,nT e2⟩) sgN
   refine⟨_,rfl,_,rfl,_,rfl,.inl ⟨_,_,rfl,rfl,_,rfl,_,rfl,big (by show 2 <= 1000;omega),fun lc hlc=>?_⟩⟩
   have sc:=aB.upd (o:=.lst [V.ref p0,V.ref p]) hlc
   refine⟨a.l,lc,_,[.ref p0,.ref p],ss.take i++[sg]++ss.drop (i+1),[sg0,sg],i,i+1,rfl,bh.of (sc _ _ k1),sg4.same sc,by simp;omega,by simp;omega,by omega,bh.of ak,.cons ⟨p0,rfl,sc _ _ (nT (s4 _ _ hp0))⟩ (.cons ⟨p,rfl,sc _ _ (nT (s4 _ _ hp))⟩ .nil),by simp,fun w H5 s5=>?_⟩
   have s6:=sc.trans s5
   exact q4 w F' H5 e1 e2 gr (fun y o hy hn=>s6 _ _ (fr y o hy hn)) (B4.same s6)
inductive X5 (c:Cs)(vs:List V)(H:Hp)(Q:VK)(E:XK):Prop
 | mk (x:Addr) (F:Addr->Prop) (vw:Vw) (ps fs:List Vw) (n:Str) (i:Int) (p:Addr) (sn:Sn) (gj:vs=[.ref x,.str n,.int i,.ref p]) (gk:Ni c H x F vw ps fs) (jc:H p=some (.tup [.str sn.1,.int sn.2])) (n8:ps.length <= 900) (xJ:match bR vw n with
 | none=>RX E c .vy H
 | some (.cn _ _ _ _)=>RX E c .Dr H
 | some (.pl ss)=>(¬ (0 <= i/\i <= (ss.length:Int))->RX E c .QZ H)/\((0 <= i/\i <= (ss.length:Int))->Ae sn=false->RX E c .Ze H)/\((0 <= i/\i <= (ss.length:Int))->Ae sn=true->200 <= ss.length->RX E c .Full H) /\
  ((0 <= i/\i <= (ss.length:Int))->Ae sn=true->ss.length < 200->∀ (s:Sg) (w:Addr) F' H',s.1.str=sn.1->s.2=sn.2->Gr F F' H->Fr F H H'->Ni c H' x F' (Dq vw n (.pl (ss.take i.toNat++[s]++ss.drop i.toNat))) (ps++[vw]) []->Q (.ref w) H')):X5 c vs H Q E
theorem X6 (T:Txt K w mg t):bW P w K mg base jF (0+4) t.mz t.Nx ["self","name","at","sign"] (X5 (cs t)):=by
 have eE:=jX (P:=P) (w:=w) (base:=base) T
 have rC:=zu (P:=P) (w:=w) (base:=base) T
 have gR:=o9 (P:=P) (w:=w) (base:=base) T
 have Jq:=Vh (P:=P) (w:=w) (base:=base) T
 have dj:=jh (P:=P) (w:=w) (base:=base) T
 have fY:=nF (P:=P) (w:=w) (base:=base) T
 refine T.Ft.ok XN (fun vs H Q E h=>?_) (fun cdv A outer s H vs Q E hr h=>?_)
 ·obtain⟨_,_,_,_,_,_,_,_,_,rfl,_⟩:=h
  rfl
 ·obtain⟨x,F,vw,ps,fs,n,iz,p,sn,rfl,B,hp,hps,q⟩:=h
  refine bA (ao (aX (i:=4) XN.nd rfl (Or.inl rfl) (cY (bM (pv 0) T.aZ T.jg dj (hr.mono (by decide)) T.eV .nil aF (aa (pv 1) aj)) rfl)) (ao (bj (aD eE (hr.mono (by decide)) rfl T.jR T.cJ.kp T.dZ .nil aF (aa (pv 2) (aa (aH (aM.or aN) rfl T.cC cB (aa (pv 4) aj)) aj)))) (ao (bj (aD rC (hr.mono (by decide)) rfl T.zc T.fO.kp T.lL .nil aF (aa (pv 3) aj))) (ao (bC (aJ atv (aH (aM.or aN) rfl T.cC cB (aa (pv 4) aj)) (cT (v:=.int 200) rfl T.ae4 ⟨_,rfl⟩) (aQ _)) (au lV) aO) (ao (bj (bM (pv 0) T.aZ T.oX gR (hr.mono (by decide)) T.jr .nil aF (aa (Lb T.Zk fY (hr.mono (by decide)) rfl T.Zj T.ie .nil aF (aa (pv 4) (aa (pv 2) (aa (cj aj) (aa (cj (aa (pv 3) aj)) aj))))) aj))) (au (aG (aD Jq (hr.mono (by decide)) rfl T.U6 T.zg.kp T.Je .nil aF (aa (pv 4) (aa (pv 2) (aa (aV (bN.or (aR.or bO)) (pv 2) az) (aa (cj (aa (pv 3) aj)) aj)))))))))))) ?_
  obtain⟨L,D,U,all,M,Ps,Fs,es,us,b,iM,pp,pf,f⟩:=B.ex
  obtain⟨dx,hx⟩:=b.hx
  obtain⟨vx,g,gv⟩:=b.Ib iM
  obtain⟨ds,hD,pD⟩:=b.hD
  obtain⟨ux,hU,pU⟩:=b.hU
  have dl:=bZ pD
  have pl:=bZ pp
  have pe:=b.past.len
  refine⟨_,rfl,x,dx,_,rfl,hx,jK _ _ _,_,rfl,x,dx,L,D,U,M L,vx,n,rfl,hx,b.hL,g,?_⟩
  rcases Z1 gv (fun _ _ r=>r.2.1) n with ⟨f1,f2⟩ | ⟨a,th,j,f1,f2,r,an,fj,fw⟩
  ·rw[f1]
   rw[f2] at q
   exact (Bool.noConfusion (show false=true from q.1))
  rw[f1]
  rw[f2] at q
  subst an
  cases th with
  | cn ld lt sl tn =>
   obtain⟨pt,hpt,_⟩:=r.2.2
   refine⟨fun z=>?_,fun _ _=>(Bool.noConfusion (show false=true from q.1)),.inr ⟨pt,hpt⟩⟩
   rw[hpt] at z
   cases z
  | pl ss =>
   obtain⟨htm,hg⟩:=r.2.2
   obtain⟨q1,q2,q3,q4⟩:=q
   have haa:=r.1
   obtain⟨ha,hl⟩:=b.ha a haa
   have yl:=bZ hg
   have hj:(M L)[j]? = some (.ref a.o):=by
    obtain⟨v,hv,e1,_⟩:=Hj g fj
    rw[← e1];exact hv
   refine⟨fun _=>?_,(fun pz z=>by rw[htm] at z;cases z),.inl htm⟩
   refine⟨a.o,_,a.d,_,_,rfl,ha,T.j6,T.c7,Dl _ _ _,?_⟩
   refine⟨_,rfl,_,rfl,.inl ⟨a.l,M a.l,rfl,.inl (bh.of hl),?_⟩⟩
   refine⟨iz,((M a.l).length:Int),rfl,fun hi=>?_,fun hi=>?_⟩
   rotate_left
   ·have q:=q1 (by rw[← yl];exact hi)
    exact (Bool.noConfusion (show false=true from q.1))
   rw[yl] at hi
   refine⟨_,rfl,p,sn,rfl,hp,fun hgd=>?_,fun hgd=>?_⟩
   rotate_left
   ·have q:=q2 hi hgd
    exact (Bool.noConfusion (show false=true from q.1))
   refine⟨_,rfl,.inl ⟨a.l,M a.l,rfl,.inl (bh.of hl),?_⟩⟩
   refine⟨_,_,rfl,rfl,_,rfl,?_⟩
   refine bJ (fun h=>?_) (fun h=>?_)
   ·have h':=of_decide_eq_true h
    have q:=q3 hi hgd (by omega)
    exact (Bool.noConfusion (show false=true from q.1))
   have hlt:ss.length < 200:=by
    rcases Nat.lt_or_ge ss.length 200 with z | z
    ·exact z
    ·exact absurd (decide_eq_true (by omega)) h
   obtain⟨sg,e1,e2,gt⟩:=amu hgd
   rw[← e1,← e2] at hp
   obtain⟨i,rfl⟩:∃ i:Nat,iz=(i:Int):=⟨iz.toNat,by omega⟩
   have hi:i <= ss.length:=by omega
   have q4:=q4 (by omega) hgd hlt sg
   rw[Int.toNat_natCast] at q4
   refine⟨_,rfl,x,dx,_,rfl,hx,qC _ _ _,?_⟩
   refine⟨_,rfl,_,rfl,big (by show 0 <= 1000;omega),fun B' hB=>?_⟩
   refine⟨_,rfl,big (by show 1 <= 1000;omega),fun A_ hA=>?_⟩
   have hA0:=Zf hA
   have sB:=(aB.upd (o:=.lst []) hB).trans (aB.upd (o:=.lst [V.ref p]) hA)
   have hB2:=aB.upd (o:=.lst [V.ref p]) hA _ _ (ak (H:=H) (a:=B') (o:=.lst []))
   have hA2:=ak (H:=upd H B' (.lst [])) (a:=A_) (o:=.lst [V.ref p])
   have lA:a.l≠A_:=aC hl hA0
   generalize upd (upd H B' (.lst [])) A_ (.lst [V.ref p])=H2 at sB hB2 hA2
   intro d dd nd ndd ne
   refine⟨d,dd,a.l,(i:Int),B',A_,rfl,ak,rfl,?_⟩
   rw[dB]
   have s3:aB H2 (upd (upd H2 dd (.own d)) d (.ins t.bT dd (ZS a.l (i:Int) B' A_))):=fun y o hy=>by
    rw[aA (aC hy nd),aA (aC hy ndd)]
    exact hy
   have hd3:=ak (H:=upd H2 dd (.own d)) (a:=d) (o:=.ins t.bT dd (ZS a.l (i:Int) B' A_))
   generalize upd (upd H2 dd (.own d)) d (.ins t.bT dd (ZS a.l (i:Int) B' A_))=H3 at s3 hd3
   have s4:=sB.trans s3
   obtain⟨_,d1,d2⟩:=b.lists (.inr ⟨a,haa,rfl⟩)
   refine⟨x,dx,L,D,U,d,dd,a.l,B',A_,i,ds,ux,M a.l,[],[.ref p],rfl,s4 _ _ hx,s4 _ _ hD,s4 _ _ hU,hd3,s4 _ _ hl,s3 _ _ hB2,s3 _ _ hA2,lA,d1,d2,b.DU,by simp;omega,by simp;omega,by omega,?_⟩
   have hM:Lz ⟨d,dd,a.l,i,B',A_,[],[.ref p]⟩ M a.l=(M a.l).take i++[.ref p]++(M a.l).drop (i+0):=jL
   have keep:∀ y o,H3 y=some o->y≠a.l->y≠D->y≠U->(upd (upd (upd H3 a.l (.lst ((M a.l).take i++[.ref p]++(M a.l).drop (i+0)))) D (.lst (ds++[.ref d]))) U (.lst [])) y=some o:=fun y o hy y1 y2 y3=>by
    rw[aA y3,aA y2,aA y1]
    exact hy
   have k1:(upd (upd (upd H3 a.l (.lst ((M a.l).take i++[.ref p]++(M a.l).drop (i+0)))) D (.lst (ds++[.ref d]))) U (.lst [])) a.l=some (.lst ((M a.l).take i++[.ref p]++(M a.l).drop (i+0))):=by
    rw[aA d2,aA d1,ak]
   have k2:(upd (upd (upd H3 a.l (.lst ((M a.l).take i++[.ref p]++(M a.l).drop (i+0)))) D (.lst (ds++[.ref d]))) U (.lst [])) D=some (.lst (ds++[.ref d])):=by
    rw[aA b.DU,ak]
   have k3:(upd (upd (upd H3 a.l (.lst ((M a.l).take i++[.ref p]++(M a.l).drop (i+0)))) D (.lst (ds++[.ref d]))) U (.lst [])) U=some (.lst []):=ak
   generalize (upd (upd (upd H3 a.l (.lst ((M a.l).take i++[.ref p]++(M a.l).drop (i+0)))) D (.lst (ds++[.ref d]))) U (.lst []))=H4 at keep k1 k2 k3
   have g3:=hg.same s4
   have sgN:nP H3 ((M a.l).take i++[.ref p]++(M a.l).drop (i+0)) (ss.take i++[sg]++ss.drop i):=M7 (M7 (XF i g3) (.cons ⟨p,rfl,s4 _ _ hp⟩ .nil)) (ZM i g3)
   obtain⟨F',gr,fr,B4⟩:=Bk.aqv b iM pp f B.wv haa hj fw htm (e:=⟨d,dd,a.l,i,B',A_,[],[.ref p]⟩) rfl ⟨by simp;omega,by simp⟩ (by simp) (by simp) s4 hB hA0 ⟨rfl,hd3,s3 _ _ hB2,s3 _ _ hA2⟩ (by rw[hM];exact sgN) (by simp;omega) (fun s hs=>by
    have wg:=((B.wv vw (.inr (.inl rfl))).gd _ _ (List.mem_of_getElem? fw)).2
    rcases List.mem_append.mp hs with hs | hs
    ·rcases List.mem_append.mp hs with hs | hs
     ·exact wg s (List.mem_of_mem_take hs)
     ·rw[List.mem_singleton.mp hs];exact gt
    ·exact wg s (List.mem_of_mem_drop hs)) hD pD keep (by rw[hM];exact k1) k2 k3
   have nT:∀ {y us},H3 y=some (.tup us)->H4 y=some (.tup us):=fun {y us} hy=>keep y _ hy (vH hy (s4 _ _ hl) (by intro z;cases z)) (vH hy (s4 _ _ hD) (by intro z;cases z)) (vH hy (s4 _ _ hU) (by intro z;cases z))
   have sg4:nP H4 ((M a.l).take i++[.ref p]++(M a.l).drop (i+0)) (ss.take i++[sg]++ss.drop i):=bV (fun _ _ ⟨z,e1,e2⟩=>⟨z,e1,nT e2⟩) sgN
   refine⟨_,rfl,_,rfl,_,rfl,.inl ⟨_,_,rfl,rfl,_,rfl,big (by show 1 <= 1000;omega),fun lc hlc=>?_⟩⟩
   have sc:=aB.upd (o:=.lst [V.ref p]) hlc
   refine⟨a.l,lc,_,[.ref p],ss.take i++[sg]++ss.drop i,[sg],i,i+1,rfl,bh.of (sc _ _ k1),sg4.same sc,by simp;omega,by simp;omega,by omega,bh.of ak,.cons ⟨p,rfl,sc _ _ (nT (s4 _ _ hp))⟩ .nil,by simp,fun w H5 s5=>?_⟩
   have s6:=sc.trans s5
   exact q4 w F' H5 e1 e2 gr (fun y o hy hn=>s6 _ _ (fr y o hy hn)) (B4.same s6)
inductive X7 (c:Cs)(vs:List V)(H:Hp)(Q:VK)(E:XK):Prop
 | mk (x:Addr) (F:Addr->Prop) (vw:Vw) (ps fs:List Vw) (n:Str) (i:Int) (gj:vs=[.ref x,.str n,.int i]) (gk:Ni c H x F vw ps fs) (jc:ps.length <= 900) (n8:match bR vw n with
 | none=>RX E c .vy H
 | some (.cn _ _ _ _)=>RX E c .Dr H
 | some (.pl ss)=>(¬ (0 <= i/\i <= (ss.length:Int) - 1)->RX E c .QZ H) /\
  ((0 <= i/\i <= (ss.length:Int) - 1)->∀ (w:Addr) F' H',Gr F F' H->Fr F H H'->Ni c H' x F' (Dq vw n (.pl (ss.take i.toNat++[]++ss.drop (i.toNat+1)))) (ps++[vw]) []->Q (.ref w) H')):X7 c vs H Q E
theorem avn {α:Type}{xs:List α}{i:Nat}{y:α}(h:xs[i]? = some y):xs.drop i=y :: xs.drop (i+1):=by
 obtain⟨h1,h2⟩:=List.getElem?_eq_some_iff.mp h
 rw[List.drop_eq_getElem_cons h1,h2]
theorem ain (T:Txt K w mg t):bW P w K mg base jF (0+4) t.mC t.Ny ["self","name","at"] (X7 (cs t)):=by
 have eE:=jX (P:=P) (w:=w) (base:=base) T
 have gR:=o9 (P:=P) (w:=w) (base:=base) T
 have Jq:=Vh (P:=P) (w:=w) (base:=base) T
 have dj:=jh (P:=P) (w:=w) (base:=base) T
 have fY:=nF (P:=P) (w:=w) (base:=base) T
 refine T.Fw.ok Ig (fun vs H Q E h=>?_) (fun cdv A outer s H vs Q E hr h=>?_)
 ·obtain⟨_,_,_,_,_,_,_,rfl,_⟩:=h
  rfl
 ·obtain⟨x,F,vw,ps,fs,n,iz,rfl,B,hps,q⟩:=h
  refine bA (ao (aX (i:=3) Ig.nd rfl (Or.inl rfl) (cY (bM (pv 0) T.aZ T.jg dj (hr.mono (by decide)) T.eV .nil aF (aa (pv 1) aj)) rfl)) (ao (bj (aD eE (hr.mono (by decide)) rfl T.jR T.cJ.kp T.dZ .nil aF (aa (pv 2) (aa (aV jE (aH (aM.or aN) rfl T.cC cB (aa (pv 3) aj)) az) aj)))) (ao (aX (i:=4) Ig.nd rfl (Or.inl rfl) (bH bx (pv 3) (pv 2) (fun _ _=>rfl))) (ao (bj (bM (pv 0) T.aZ T.oX gR (hr.mono (by decide)) T.jr .nil aF (aa (Lb T.Zk fY (hr.mono (by decide)) rfl T.Zj T.ie .nil aF (aa (pv 3) (aa (pv 2) (aa (cj (aa (pv 4) aj)) (aa (cj aj) aj))))) aj))) (au (aG (aD Jq (hr.mono (by decide)) rfl T.U6 T.zg.kp T.Je .nil aF (aa (pv 3) (aa (pv 2) (aa (pv 2) (aa (cj (aa (pv 4) aj)) aj))))))))))) ?_
  obtain⟨L,D,U,all,M,Ps,Fs,es,us,b,iM,pp,pf,f⟩:=B.ex
  obtain⟨dx,hx⟩:=b.hx
  obtain⟨vx,g,gv⟩:=b.Ib iM
  obtain⟨ds,hD,pD⟩:=b.hD
  obtain⟨ux,hU,pU⟩:=b.hU
  have dl:=bZ pD
  have pl:=bZ pp
  have pe:=b.past.len
  refine⟨_,rfl,x,dx,_,rfl,hx,jK _ _ _,_,rfl,x,dx,L,D,U,M L,vx,n,rfl,hx,b.hL,g,?_⟩
  rcases Z1 gv (fun _ _ r=>r.2.1) n with ⟨f1,f2⟩ | ⟨a,th,j,f1,f2,r,an,fj,fw⟩
  ·rw[f1]
   rw[f2] at q
   exact (Bool.noConfusion (show false=true from q.1))
  rw[f1]
  rw[f2] at q
  subst an
  cases th with
  | cn ld lt sl tn =>
   obtain⟨pt,hpt,_⟩:=r.2.2
   refine⟨fun z=>?_,fun _ _=>(Bool.noConfusion (show false=true from q.1)),.inr ⟨pt,hpt⟩⟩
   rw[hpt] at z
   cases z
  | pl ss =>
   obtain⟨htm,hg⟩:=r.2.2
   obtain⟨q1,q4⟩:=q
   have haa:=r.1
   obtain⟨ha,hl⟩:=b.ha a haa
   have yl:=bZ hg
   have hj:(M L)[j]? = some (.ref a.o):=by
    obtain⟨v,hv,e1,_⟩:=Hj g fj
    rw[← e1];exact hv
   refine⟨fun _=>?_,(fun pz z=>by rw[htm] at z;cases z),.inl htm⟩
   refine⟨a.o,_,a.d,_,_,rfl,ha,T.j6,T.c7,Dl _ _ _,?_⟩
   refine⟨_,rfl,_,rfl,.inl ⟨a.l,M a.l,rfl,.inl (bh.of hl),?_⟩⟩
   refine⟨_,_,rfl,rfl,?_⟩
   refine⟨iz,((M a.l).length:Int) - 1,rfl,fun hi=>?_,fun hi=>?_⟩
   rotate_left
   ·have q:=q1 (by rw[← yl];exact hi)
    exact (Bool.noConfusion (show false=true from q.1))
   rw[yl] at hi
   obtain⟨i,rfl⟩:∃ i:Nat,iz=(i:Int):=⟨iz.toNat,by omega⟩
   have hi:i < ss.length:=by omega
   have hlt:ss.length <= 200:=((B.wv vw (.inr (.inl rfl))).gd _ _ (List.mem_of_getElem? fw)).1
   have q4:=q4 (by omega)
   rw[Int.toNat_natCast] at q4
   obtain⟨sg0,hsg⟩:∃ sg,ss[i]? = some sg:=⟨_,List.getElem?_eq_getElem hi⟩
   obtain⟨vp,hvp,p0,rfl,hp0⟩:=Hj hg hsg
   refine⟨_,rfl,_,rfl,ixL (bh.of hl) (n:=i) rfl hvp ?_⟩
   refine⟨_,rfl,x,dx,_,rfl,hx,qC _ _ _,?_⟩
   refine⟨_,rfl,_,rfl,_,rfl,big (by show 1 <= 1000;omega),fun B' hB=>?_⟩
   refine⟨big (by show 0 <= 1000;omega),fun A_ hA=>?_⟩
   have hA0:=Zf hA
   have sB:=(aB.upd (o:=.lst [V.ref p0]) hB).trans (aB.upd (o:=.lst []) hA)
   have hB2:=aB.upd (o:=.lst []) hA _ _ (ak (H:=H) (a:=B') (o:=.lst [V.ref p0]))
   have hA2:=ak (H:=upd H B' (.lst [V.ref p0])) (a:=A_) (o:=.lst [])
   have lA:a.l≠A_:=aC hl hA0
   generalize upd (upd H B' (.lst [V.ref p0])) A_ (.lst [])=H2 at sB hB2 hA2
   intro d dd nd ndd ne
   refine⟨d,dd,a.l,(i:Int),B',A_,rfl,ak,rfl,?_⟩
   rw[dB]
   have s3:aB H2 (upd (upd H2 dd (.own d)) d (.ins t.bT dd (ZS a.l (i:Int) B' A_))):=fun y o hy=>by
    rw[aA (aC hy nd),aA (aC hy ndd)]
    exact hy
   have hd3:=ak (H:=upd H2 dd (.own d)) (a:=d) (o:=.ins t.bT dd (ZS a.l (i:Int) B' A_))
   generalize upd (upd H2 dd (.own d)) d (.ins t.bT dd (ZS a.l (i:Int) B' A_))=H3 at s3 hd3
   have s4:=sB.trans s3
   obtain⟨_,d1,d2⟩:=b.lists (.inr ⟨a,haa,rfl⟩)
   refine⟨x,dx,L,D,U,d,dd,a.l,B',A_,i,ds,ux,M a.l,[.ref p0],[],rfl,s4 _ _ hx,s4 _ _ hD,s4 _ _ hU,hd3,s4 _ _ hl,s3 _ _ hB2,s3 _ _ hA2,lA,d1,d2,b.DU,by simp;omega,by simp;omega,by omega,?_⟩
   have hM:Lz ⟨d,dd,a.l,i,B',A_,[.ref p0],[]⟩ M a.l=(M a.l).take i++[]++(M a.l).drop (i+1):=jL
   have keep:∀ y o,H3 y=some o->y≠a.l->y≠D->y≠U->(upd (upd (upd H3 a.l (.lst ((M a.l).take i++[]++(M a.l).drop (i+1)))) D (.lst (ds++[.ref d]))) U (.lst [])) y=some o:=fun y o hy y1 y2 y3=>by
    rw[aA y3,aA y2,aA y1]
    exact hy
   have k1:(upd (upd (upd H3 a.l (.lst ((M a.l).take i++[]++(M a.l).drop (i+1)))) D (.lst (ds++[.ref d]))) U (.lst [])) a.l=some (.lst ((M a.l).take i++[]++(M a.l).drop (i+1))):=by
    rw[aA d2,aA d1,ak]
   have k2:(upd (upd (upd H3 a.l (.lst ((M a.l).take i++[]++(M a.l).drop (i+1)))) D (.lst (ds++[.ref d]))) U (.lst [])) D=some (.lst (ds++[.ref d])):=by
    rw[aA b.DU,ak]
   have k3:(upd (upd (upd H3 a.l (.lst ((M a.l).take i++[]++(M a.l).drop (i+1)))) D (.lst (ds++[.ref d]))) U (.lst [])) U=some (.lst []):=ak
   generalize (upd (upd (upd H3 a.l (.lst ((M a.l).take i++[]++(M a.l).drop (i+1)))) D (.lst (ds++[.ref d]))) U (.lst []))=H4 at keep k1 k2 k3
   have g3:=hg.same s4
   have sgN:nP H3 ((M a.l).take i++[]++(M a.l).drop (i+1)) (ss.take i++[]++ss.drop (i+1)):=M7 (M7 (XF i g3) .nil) (ZM (i+1) g3)
   obtain⟨F',gr,fr,B4⟩:=Bk.aqv b iM pp f B.wv haa hj fw htm (e:=⟨d,dd,a.l,i,B',A_,[.ref p0],[]⟩) rfl ⟨by show i+1 <= (M a.l).length;omega,by rw[show ([V.ref p0]:List V).length=1 from rfl,avn hvp];rfl⟩ (by simp) (by simp) s4 hB hA0 ⟨rfl,hd3,s3 _ _ hB2,s3 _ _ hA2⟩ (by rw[hM];exact sgN) (by simp;omega) (fun s hs=>by
    have wg:=((B.wv vw (.inr (.inl rfl))).gd _ _ (List.mem_of_getElem? fw)).2
    rcases List.mem_append.mp hs with hs | hs
    ·rcases List.mem_append.mp hs with hs | hs
     ·exact wg s (List.mem_of_mem_take hs)
     ·cases hs
    ·exact wg s (List.mem_of_mem_drop hs)) hD pD keep (by rw[hM];exact k1) k2 k3
   have nT:∀ {y us},H3 y=some (.tup us)->H4 y=some (.tup us):=fun {y us} hy=>keep y _ hy (vH hy (s4 _ _ hl) (by intro z;cases z)) (vH hy (s4 _ _ hD) (by intro z;cases z)) (vH hy (s4 _ _ hU) (by intro z;cases z))
   have sg4:nP H4 ((M a.l).take i++[]++(M a.l).drop (i+1)) (ss.take i++[]++ss.drop (i+1)):=bV (fun _ _ ⟨z,e1,e2⟩=>⟨z,e1,nT e2⟩) sgN
   refine⟨_,rfl,_,rfl,_,rfl,_,rfl,big (by show 1 <= 1000;omega),fun lc hlc=>?_⟩
   have sc:=aB.upd (o:=.lst [V.ref p0]) hlc
   refine⟨a.l,lc,_,[.ref p0],ss.take i++[]++ss.drop (i+1),[sg0],i,i,rfl,bh.of (sc _ _ k1),sg4.same sc,by simp;omega,by simp;omega,by omega,bh.of ak,.cons ⟨p0,rfl,sc _ _ (nT (s4 _ _ hp0))⟩ .nil,by simp,fun w H5 s5=>?_⟩
   have s6:=sc.trans s5
   exact q4 w F' H5 gr (fun y o hy hn=>s6 _ _ (fr y o hy hn)) (B4.same s6)
structure Bw (c:Cs)(H0 H:Hp)(x:Addr)(own:List Addr)(vw:Vw)(ps fs:List Vw):Prop where
 ex:∃ F,Ni c H x F vw ps fs/\(∀ y,F y->∃ xs,H y=some (.lst xs))/\(∀ y,F y->H0 y=none)/\∀ a∈own,¬ F a/\∃ o,H a=some o
 sm:aB H0 H
section
variable {c:Cs} {H0 H H' H1:Hp} {x:Addr} {own:List Addr} {vw vw':Vw} {ps ps' fs fs':List Vw} {F F':Addr->Prop}
theorem Bw.mk' (b:Ni c H' x F' vw' ps' fs')(sm:aB H0 H)(hF:∀ y,F y->∃ xs,H y=some (.lst xs))(h0:∀ y,F y->H0 y=none)(ho:∀ a∈own,¬ F a/\∃ o,H a=some o)(g:Gr F F' H)(fr:Fr F H H'):Bw c H0 H' x own vw' ps' fs'/\anu own H H':=by
 obtain⟨F0,h1,h2,b0⟩:=b.axa
 refine⟨⟨⟨F0,b0,h2,fun y z=>?_,fun a ha=>?_⟩,fun y o e=>fr y o (sm y o e) fun z=>?_⟩,fun y o e k=>fr y o e fun z=>?_⟩
 ·rcases g y (h1 y z) with q | q
  ·exact h0 y q
  ·exact sm.free q
 ·obtain⟨n,o,e⟩:=ho a ha
  refine⟨fun z=>?_,o,fr a o e n⟩
  rcases g a (h1 a z) with q | q
  ·exact n q
  ·rw[e] at q;cases q
 ·rw[h0 y z] at e;cases e
 ·rcases k with k | k
  ·obtain⟨xs,q⟩:=hF y z
   rw[e] at q
   cases q
   exact k _ rfl
  ·exact (ho y k).1 z
theorem Bw.same (h:Bw c H0 H x own vw ps fs)(s:aB H H'):Bw c H0 H' x own vw ps fs:=by
 obtain⟨F,b,hF,h0,ho⟩:=h.ex
 exact⟨⟨F,b.same s,fun y z=>let ⟨xs,e⟩:=hF y z;⟨xs,s _ _ e⟩,h0,fun a ha=>⟨(ho a ha).1,let ⟨o,e⟩:=(ho a ha).2;⟨o,s _ _ e⟩⟩⟩,h.sm.trans s⟩
theorem Bw.add (h:Bw c H0 H x own vw ps fs)(s:aB H H'){l:Addr}(n:H l=none){o:HO}(e:H' l=some o):Bw c H0 H' x (l :: own) vw ps fs:=by
 obtain⟨F,b,hF,h0,ho⟩:=h.ex
 refine⟨⟨F,b.same s,fun y z=>let ⟨xs,e⟩:=hF y z;⟨xs,s _ _ e⟩,h0,fun a ha=>?_⟩,h.sm.trans s⟩
 rcases List.mem_cons.mp ha with rfl | ha
 ·refine⟨fun z=>?_,o,e⟩
  obtain⟨xs,q⟩:=hF _ z
  rw[n] at q
  cases q
 ·exact⟨(ho a ha).1,let ⟨o,e⟩:=(ho a ha).2;⟨o,s _ _ e⟩⟩
theorem Bw.wv (h:Bw c H0 H x own vw ps fs):LC vw:=by
 obtain⟨F,b,_⟩:=h.ex
 exact b.wv vw (.inr (.inl rfl))
theorem Bw.hx (h:Bw c H0 H x own vw ps fs):∃ dx L D U,H x=some (.ins c.B dx (QV L D U)):=by
 obtain⟨F,b,_⟩:=h.ex
 obtain⟨L,D,U,all,M,Ps,Fs,es,us,b,_⟩:=b.ex
 obtain⟨dx,e⟩:=b.hx
 exact⟨dx,L,D,U,e⟩
theorem Bw.new {dx L D U:Addr}(hx:H' x=some (.ins c.B dx (QV L D U)))(hL:H' L=some (.lst []))(hD:H' D=some (.lst []))(hU:H' U=some (.lst []))(LD:L≠D)(LU:L≠U)(DU:D≠U)(s:aB H H')(nL:H L=none)(nD:H D=none)(nU:H U=none):Bw c H H' x [] [] [] []:=by
 refine⟨⟨_,Bk.new hx hL hD hU LD LU DU,fun y hy=>?_,fun y hy=>?_,fun a ha=>nomatch ha⟩,s⟩
 ·rcases hy with rfl | rfl | rfl
  ·exact⟨_,hL⟩
  ·exact⟨_,hD⟩
  ·exact⟨_,hU⟩
 ·rcases hy with rfl | rfl | rfl
  ·exact nL
  ·exact nD
  ·exact nU
end
def afa (vw:Vw):Vw:=vw++[(("zed":Str),Th.pl [])]
theorem Bw.rebase {c:Cs}{H0 H:Hp}{x:Addr}{own:List Addr}{vw:Vw}{ps fs:List Vw}(h:Bw c H0 H x own vw ps fs):∃ H1,Bw c H1 H x [] vw ps fs/\aB H0 H1/\anu own H H1:=by
 obtain⟨F,b,hF,h0,ho⟩:=h.ex
 classical
 refine⟨fun y=>if F y then none else H y,⟨⟨F,b,hF,fun y hy=>if_pos hy,fun a ha=>nomatch ha⟩,fun y o e=>?_⟩,fun y o e=>?_,fun y o e k=>?_⟩
 ·have e:(if F y then none else H y)=some o:=e
  by_cases hy:F y
  ·rw[if_pos hy] at e;exact nomatch e
  ·rwa [if_neg hy] at e
 ·show (if F y then none else H y)=some o
  rw[if_neg (fun hy=>by rw[h0 y hy] at e;exact nomatch e)]
  exact h.sm _ _ e
 ·show (if F y then none else H y)=some o
  rw[if_neg ?_,e]
  intro hy
  rcases k with k | k
  ·obtain⟨xs,q⟩:=hF y hy
   rw[e] at q
   cases q
   exact k _ rfl
  ·exact (ho y k).1 hy
theorem good3 {ss:List Sg}{sg:Sg}{i j:Nat}(h:∀ s∈ss,qF s)(g:qF sg):∀ s∈ss.take i++[sg]++ss.drop j,qF s:=fun s hs=>by
 rcases List.mem_append.mp hs with hs | hs
 ·rcases List.mem_append.mp hs with hs | hs
  ·exact h s (List.mem_of_mem_take hs)
  ·rw[List.mem_singleton.mp hs];exact g
 ·exact h s (List.mem_of_mem_drop hs)
theorem good2 {ss:List Sg}{i j:Nat}(h:∀ s∈ss,qF s):∀ s∈ss.take i++[]++ss.drop j,qF s:=fun s hs=>by
 rcases List.mem_append.mp hs with hs | hs
 ·rcases List.mem_append.mp hs with hs | hs
  ·exact h s (List.mem_of_mem_take hs)
  ·exact nomatch hs
 ·exact h s (List.mem_of_mem_drop hs)
inductive Mu (K:Frag)(c:Cs)(vs:List V)(H:Hp)(Q:VK)(E:XK):Prop
 | mk (a x l:Addr) (n:Str) (ns:List Int) (ys:List V) (ss:List Sg) (H0:Hp) (vw:Vw) (ps fs:List Vw) (gj:vs=[.ref a,.ref x,.str n,.ref l]) (gk:bh K H0 a (ns.map V.int)) (jc:ns.length <= 63) (n8:Bw c H0 H x [] vw ps fs) (xJ:H0 l=some (.lst ys)) (h5_:nP H0 ys ss) (h6_:bR vw n=some (.pl ss)) (h7_:ss.length <= 24) (h8_:ps.length <= 890) (h9_:∀ (l':Addr) (ys':List V) (ss':List Sg) (H':Hp),Bw c H0 H' x [l'] (Dq vw n (.pl ss')) (ps++[vw]) []->H' l'=some (.lst ys')->nP H' ys' ss'->ss'.length <= 25->(∀ s∈ss',qF s)->Q (.ref l') H'):Mu K c vs H Q E
theorem acS (T:Txt K w mg t):bW P w K mg base jF (0+5) t.jP t.Ff ["_law_script","_law_book","_law_name","_law_line_here"] (Mu K (cs t)):=by
 have vW:=FQ (P:=P) (w:=w) (base:=base) T
 have aio:=ae9 (P:=P) (w:=w) (base:=base) T
 have bU:=xY (P:=P) (w:=w) (base:=base) T
 have uE:=N6 (P:=P) (w:=w) (base:=base) T
 have N8:=X6 (P:=P) (w:=w) (base:=base) T
 have akb:=ain (P:=P) (w:=w) (base:=base) T
 refine T.qX.ok oK (fun vs H Q E h=>?_) (fun cdv A outer s H vs Q E hr h=>?_)
 ·obtain⟨_,_,_,_,_,_,_,_,_,_,_,rfl,_⟩:=h
  rfl
 ·obtain⟨a,x,l,n,ns,ys,ss,H0,vw,ps,fs,rfl,hS,hl,B,h0,g0,hf,sl,pl,q⟩:=h
  refine bA (ao (aX (i:=4) oK.nd rfl (Or.inl rfl) (aV eF (aD bU (hr.mono (by decide)) rfl T.cg T.bL.kp T.bY .nil aF (aa (pv 0) (aa az aj))) (aV (bN.or (aR.or bO)) (aH (aM.or aN) rfl T.cC cB (aa (pv 3) aj)) az))) (ao (aX (i:=5) oK.nd rfl (Or.inl rfl) (aD vW (hr.mono (by decide)) rfl T.Fq T.mJ.kp T.vN .nil aF (aa (aD uE (hr.mono (by decide)) rfl T.zb T.m7.kp T.uz .nil aF (aa (aD bU (hr.mono (by decide)) rfl T.cg T.bL.kp T.bY .nil aF (aa (pv 0) (aa az aj))) (aa az aj))) aj))) (ao (aX (i:=6) oK.nd rfl (Or.inl rfl) (aV eF (aD uE (hr.mono (by decide)) rfl T.zb T.m7.kp T.uz .nil aF (aa (aD bU (hr.mono (by decide)) rfl T.cg T.bL.kp T.bY .nil aF (aa (pv 0) (aa az aj))) (aa az aj))) az)) (ao (bC (cG (PW.pt (lU (aJ (cP.or (bQ (aY hr))) (pv 6) az (aQ _)) (jj (aJ (M6 (aY hr)) (pv 3) (cj aj) (aQ _)))))) (ao (bj (bM (pv 1) T.aZ T.XR N8 (hr.mono (by decide)) T.Fv .nil aF (aa (pv 2) (aa (pv 4) (aa (pv 5) aj))))) (au (aG (aV (bN.or (aR.or bO)) (aV (bN.or (aR.or bO)) (ou (vq.or (BJ.or BK)) (pv 3) vo (lE (pv 4))) (cj (aa (pv 5) aj))) (ou (vq.or (BJ.or BK)) (pv 3) (lE (pv 4)) vo))))) aO) (ao (aX (i:=4) oK.nd rfl (Or.inl rfl) (aV eF (pv 4) (aH (aM.or aN) rfl T.cC cB (aa (pv 3) aj)))) (ao (bC (aJ (cP.or (bQ (aY hr))) (pv 6) az (aQ _)) (ao (bj (bM (pv 1) T.aZ T.aid akb (hr.mono (by decide)) T.NP .nil aF (aa (pv 2) (aa (pv 4) aj)))) (au (aG (aV (bN.or (aR.or bO)) (ou (vq.or (BJ.or BK)) (pv 3) vo (lE (pv 4))) (ou (vq.or (BJ.or BK)) (pv 3) (lE (aV (bN.or (aR.or bO)) (pv 4) az)) vo))))) aO) (ao (bj (bM (pv 1) T.aZ T.aeX aio (hr.mono (by decide)) T.Jf .nil aF (aa (pv 2) (aa (pv 4) (aa (pv 5) aj))))) (au (aG (aV (bN.or (aR.or bO)) (aV (bN.or (aR.or bO)) (ou (vq.or (BJ.or BK)) (pv 3) vo (lE (pv 4))) (cj (aa (pv 5) aj))) (ou (vq.or (BJ.or BK)) (pv 3) (lE (aV (bN.or (aR.or bO)) (pv 4) az)) vo))))))))))) ?_
  have yl:=bZ g0
  have gd:=(B.wv.gd _ _ (dm hf)).2
  tm_up
  refine⟨a,ns,6,rfl,B.sm.seq hS,hl,?_⟩
  refine⟨_,rfl,.inl ⟨l,ys,rfl,.inl (bh.of (B.sm _ _ h0)),.inl ⟨_,_,rfl,rfl,_,_,rfl,rfl,(by omega),?_⟩⟩⟩
  obtain⟨k,hkI,hk⟩:=acJ (jD ns 6) (k:=(ys.length:Int)+1) (by omega)
  rw[show V.int ((jD ns 6) % ((ys.length:Int)+1))=V.int (k:Int) from congrArg V.int hkI]
  tm_up
  refine⟨a,ns,5,rfl,B.sm.seq hS,hl,?_⟩
  tm_up
  refine⟨_,_,rfl,fun m1 _ _=>?_⟩
  tm_up
  refine fun pq sg gts hpq=>?_
  have s1:=aB.upd (o:=.tup [.str sg.1.str,.int sg.2]) hpq
  have hp1:=ak (H:=H) (a:=pq) (o:=.tup [.str sg.1.str,.int sg.2])
  generalize upd H pq (.tup [.str sg.1.str,.int sg.2])=H1 at s1 hp1
  have B1:=B.same s1
  tm_up
  refine⟨a,ns,5,rfl,B1.sm.seq hS,hl,?_⟩
  tm_up
  refine⟨_,_,rfl,fun m2 _ _=>?_⟩
  obtain⟨wy,hwy,aCw⟩:=acJ m2 (k:=3) (by decide)
  refine⟨_,_,rfl,rfl,(by decide:(0:Int) < 3),?_⟩
  rw[show V.int (m2 % 3)=V.int (wy:Int) from congrArg V.int hwy]
  refine⟨fun b H'=>aB H1 H'/\(b=false->0 < ys.length),?_,?_⟩
  ·tm_up
   refine bJ (fun _=>⟨aB.refl _,fun z=>nomatch z⟩) (fun _=>?_)
   tm_up
   refine⟨big (by show 0 <= 1000;omega),fun e0 he0=>?_⟩
   refine⟨l,e0,ys,rfl,rfl,bh.of (aB.upd he0 _ _ (B1.sm _ _ h0)),bh.of ak,_,rfl,aB.upd he0,fun z=>?_⟩
   cases ys with
   | nil=>exact nomatch z
   | cons _ _=>exact Nat.succ_pos _
  rintro b H2 ⟨s2,hb⟩
  have B2:=B1.same s2
  have hp2:=s2 _ _ hp1
  clear B1 s1 s2 hp1 B
  obtain⟨dx,L,D,U,hx⟩:=B2.hx
  obtain⟨F2,b2,f2,z2,o2⟩:=B2.ex
  have gsg:=amv gts
  cases b with
  | true =>
   refine wj ?_
   tm_up
   refine⟨x,dx,_,rfl,hx,ZX _ _ _,_,rfl,_,rfl,_,rfl,?_⟩
   refine⟨x,F2,vw,ps,fs,n,(k:Int),pq,(sg.1.str,sg.2),rfl,b2,hp2,by omega,?_⟩
   rw[hf]
   refine⟨(fun z=>absurd ⟨by omega,by omega⟩ z),(fun _ z=>by rw[gsg] at z;cases z),(fun _ _ z=>by omega),fun _ _ _ s11 w F11 H11 e1 e2 aqN afb b11=>?_⟩
   have es:s11=sg:=Prod.ext (str_inj.mp e1) e2
   subst es
   rw[Int.toNat_natCast] at b11
   obtain⟨B11,k11⟩:=Bw.mk' b11 B2.sm f2 z2 o2 aqN afb
   have avo:=k11.tup hp2
   have l11:=B11.sm _ _ h0
   have g11:=g0.same B11.sm
   refine⟨_,rfl,_,rfl,k,rfl,.inl ⟨l,ys,rfl,bh.of l11,fun c1 hc1=>?_⟩⟩
   rw[amn]
   have S1:=aB.upd (o:=.lst (ys.take k)) hc1
   have k1:=ak (H:=H11) (a:=c1) (o:=.lst (ys.take k))
   generalize upd H11 c1 (.lst (ys.take k))=H13 at S1 k1
   refine⟨_,rfl,big (by show 1 <= 1000;omega),fun c2 hc2=>?_⟩
   have S2:=aB.upd (o:=.lst [V.ref pq]) hc2
   have k2:=ak (H:=H13) (a:=c2) (o:=.lst [V.ref pq])
   generalize upd H13 c2 (.lst [V.ref pq])=H14 at S2 k2
   refine .inr (.inr ⟨c1,c2,_,_,rfl,rfl,S2 _ _ k1,k2,?_,fun c3 hc3=>?_⟩)
   ·exact big (by rw[List.length_take];show _+1 <= 1000;omega)
   have S3':=aB.upd (o:=.lst (ys.take k++[V.ref pq])) hc3
   have k3:=ak (H:=H14) (a:=c3) (o:=.lst (ys.take k++[V.ref pq]))
   generalize upd H14 c3 (.lst (ys.take k++[V.ref pq]))=H15 at S3' k3
   have SS:=(S1.trans S2).trans S3'
   refine⟨_,rfl,_,rfl,k,rfl,.inl ⟨l,ys,rfl,bh.of (SS _ _ l11),fun c4 hc4=>?_⟩⟩
   rw[Zc ys k (by omega)]
   have S4:=aB.upd (o:=.lst (ys.drop k)) hc4
   have k4:=ak (H:=H15) (a:=c4) (o:=.lst (ys.drop k))
   generalize upd H15 c4 (.lst (ys.drop k))=H16 at S4 k4
   refine .inr (.inr ⟨c3,c4,_,_,rfl,rfl,S4 _ _ k3,k4,?_,fun c5 hc5=>?_⟩)
   ·exact big (by simp only [List.length_append,List.length_take,List.length_drop,List.length_singleton];omega)
   have S5:=aB.upd (o:=.lst (ys.take k++[V.ref pq]++ys.drop k)) hc5
   have k5:=ak (H:=H16) (a:=c5) (o:=.lst (ys.take k++[V.ref pq]++ys.drop k))
   have B16:=B11.same (SS.trans S4)
   have gg:=nP.same ((SS.trans S4).trans S5) (M7 (M7 (XF k g11) (.cons ⟨pq,rfl,avo⟩ .nil)) (ZM k g11))
   generalize upd H16 c5 (.lst (ys.take k++[V.ref pq]++ys.drop k))=H17 at S5 k5 gg
   exact q c5 _ _ H17 (B16.add S5 hc5 k5) k5 gg (by simp only [List.length_append,List.length_take,List.length_drop,List.length_singleton];omega) (good3 gd gts)
  | false =>
   refine di ?_
   have y0:=hb rfl
   tm_up
   refine .inl ⟨l,ys,rfl,.inl (bh.of (B2.sm _ _ h0)),?_⟩
   obtain⟨j,hj,hjl⟩:=acJ (k:Int) (k:=(ys.length:Int)) (by omega)
   refine⟨_,_,rfl,rfl,(by omega:(0:Int) < (ys.length:Int)),?_⟩
   rw[show V.int ((k:Int) % (ys.length:Int))=V.int (j:Int) from congrArg V.int hj]
   tm_up
   refine bJ (fun _=>?_) (fun _=>?_)
   ·tm_up
    refine⟨x,dx,_,rfl,hx,ajQ _ _ _,_,rfl,_,rfl,?_⟩
    refine⟨x,F2,vw,ps,fs,n,(j:Int),rfl,b2,by omega,?_⟩
    rw[hf]
    refine⟨(fun z=>absurd ⟨by omega,by omega⟩ z),fun _ w F11 H11 aqN afb b11=>?_⟩
    rw[Int.toNat_natCast] at b11
    obtain⟨B11,k11⟩:=Bw.mk' b11 B2.sm f2 z2 o2 aqN afb
    have l11:=B11.sm _ _ h0
    have g11:=g0.same B11.sm
    refine⟨_,rfl,_,rfl,j,rfl,.inl ⟨l,ys,rfl,bh.of l11,fun c1 hc1=>?_⟩⟩
    rw[amn]
    have S1:=aB.upd (o:=.lst (ys.take j)) hc1
    have k1:=ak (H:=H11) (a:=c1) (o:=.lst (ys.take j))
    generalize upd H11 c1 (.lst (ys.take j))=H15 at S1 k1
    refine⟨_,rfl,_,rfl,.inl ⟨_,_,rfl,rfl,_,rfl,.inl ⟨l,ys,rfl,bh.of (S1 _ _ l11),fun c4 hc4=>?_⟩⟩⟩
    rw[show MT ys (some ((j:Int)+1)) none=ys.drop (j+1) from Zc ys (j+1) (by omega)]
    have S4:=aB.upd (o:=.lst (ys.drop (j+1))) hc4
    have k4:=ak (H:=H15) (a:=c4) (o:=.lst (ys.drop (j+1)))
    generalize upd H15 c4 (.lst (ys.drop (j+1)))=H16 at S4 k4
    refine .inr (.inr ⟨c1,c4,_,_,rfl,rfl,S4 _ _ k1,k4,?_,fun c5 hc5=>?_⟩)
    ·exact big (by simp only [List.length_take,List.length_drop];omega)
    have S5:=aB.upd (o:=.lst (ys.take j++ys.drop (j+1))) hc5
    have k5:=ak (H:=H16) (a:=c5) (o:=.lst (ys.take j++ys.drop (j+1)))
    have B16:=B11.same (S1.trans S4)
    have gg:=nP.same ((S1.trans S4).trans S5) (M7 (XF j g11) (ZM (j+1) g11))
    generalize upd H16 c5 (.lst (ys.take j++ys.drop (j+1)))=H17 at S5 k5 gg
    exact q c5 _ _ H17 (B16.add S5 hc5 k5) k5 (by rw[List.append_nil];exact gg) (by simp only [List.length_append,List.length_take,List.length_drop,List.length_nil];omega) (good2 gd)
   ·tm_up
    refine⟨x,dx,_,rfl,hx,ah6 _ _ _,_,rfl,_,rfl,_,rfl,?_⟩
    refine⟨x,F2,vw,ps,fs,n,(j:Int),pq,(sg.1.str,sg.2),rfl,b2,hp2,by omega,?_⟩
    rw[hf]
    refine⟨(fun z=>absurd ⟨by omega,by omega⟩ z),(fun _ z=>by rw[gsg] at z;cases z),fun _ _ s11 w F11 H11 e1 e2 aqN afb b11=>?_⟩
    have es:s11=sg:=Prod.ext (str_inj.mp e1) e2
    subst es
    rw[Int.toNat_natCast] at b11
    obtain⟨B11,k11⟩:=Bw.mk' b11 B2.sm f2 z2 o2 aqN afb
    have avo:=k11.tup hp2
    have l11:=B11.sm _ _ h0
    have g11:=g0.same B11.sm
    refine⟨_,rfl,_,rfl,j,rfl,.inl ⟨l,ys,rfl,bh.of l11,fun c1 hc1=>?_⟩⟩
    rw[amn]
    have S1:=aB.upd (o:=.lst (ys.take j)) hc1
    have k1:=ak (H:=H11) (a:=c1) (o:=.lst (ys.take j))
    generalize upd H11 c1 (.lst (ys.take j))=H13 at S1 k1
    refine⟨_,rfl,big (by show 1 <= 1000;omega),fun c2 hc2=>?_⟩
    have S2:=aB.upd (o:=.lst [V.ref pq]) hc2
    have k2:=ak (H:=H13) (a:=c2) (o:=.lst [V.ref pq])
    generalize upd H13 c2 (.lst [V.ref pq])=H14 at S2 k2
    refine .inr (.inr ⟨c1,c2,_,_,rfl,rfl,S2 _ _ k1,k2,?_,fun c3 hc3=>?_⟩)
    ·exact big (by rw[List.length_take];show _+1 <= 1000;omega)
    have S3':=aB.upd (o:=.lst (ys.take j++[V.ref pq])) hc3
    have k3:=ak (H:=H14) (a:=c3) (o:=.lst (ys.take j++[V.ref pq]))
    generalize upd H14 c3 (.lst (ys.take j++[V.ref pq]))=H15 at S3' k3
    have SS:=(S1.trans S2).trans S3'
    refine⟨_,rfl,_,rfl,.inl ⟨_,_,rfl,rfl,_,rfl,.inl ⟨l,ys,rfl,bh.of (SS _ _ l11),fun c4 hc4=>?_⟩⟩⟩
    rw[show MT ys (some ((j:Int)+1)) none=ys.drop (j+1) from Zc ys (j+1) (by omega)]
    have S4:=aB.upd (o:=.lst (ys.drop (j+1))) hc4
    have k4:=ak (H:=H15) (a:=c4) (o:=.lst (ys.drop (j+1)))
    generalize upd H15 c4 (.lst (ys.drop (j+1)))=H16 at S4 k4
    refine .inr (.inr ⟨c3,c4,_,_,rfl,rfl,S4 _ _ k3,k4,?_,fun c5 hc5=>?_⟩)
    ·exact big (by simp only [List.length_append,List.length_take,List.length_drop,List.length_singleton];omega)
    have S5:=aB.upd (o:=.lst (ys.take j++[V.ref pq]++ys.drop (j+1))) hc5
    have k5:=ak (H:=H16) (a:=c5) (o:=.lst (ys.take j++[V.ref pq]++ys.drop (j+1)))
    have B16:=B11.same (SS.trans S4)
    have gg:=nP.same ((SS.trans S4).trans S5) (M7 (M7 (XF j g11) (.cons ⟨pq,rfl,avo⟩ .nil)) (ZM (j+1) g11))
    generalize upd H16 c5 (.lst (ys.take j++[V.ref pq]++ys.drop (j+1)))=H17 at S5 k5 gg
    exact q c5 _ _ H17 (B16.add S5 hc5 k5) k5 gg (by simp only [List.length_append,List.length_take,List.length_drop,List.length_singleton];omega) (good3 gd gts)
inductive Mv (c:Cs)(vs:List V)(H:Hp)(Q:VK)(E:XK):Prop
 | mk (x:Addr) (F:Addr->Prop) (vw:Vw) (ps fs:List Vw) (n:Str) (gj:vs=[.ref x,.str n]) (gk:Ni c H x F vw ps fs) (jc:match bR vw n with
 | none=>RX E c .vy H
 | some (.pl _)=>Q .non H
 | some (.cn ld lt sl tn)=>∀ p,H p=some (.tup [.str ld,.int lt,.int sl,.bl tn])->Q (.ref p) H):Mv c vs H Q E
theorem oU (T:Txt K w mg t):bW P w K mg base jF (0+2) t.iw t.Fg ["self","name"] (Mv (cs t)):=by
 have cR:=iK (P:=P) (w:=w) (base:=base) T
 refine T.xV.ok acK (fun vs H Q E h=>?_) (fun cdv A outer s H vs Q E hr h=>?_)
 ·obtain⟨_,_,_,_,_,_,rfl,_⟩:=h
  rfl
 ·obtain⟨x,F,vw,ps,fs,n,rfl,B,q⟩:=h
  refine bA (au (aG (cY (bM (pv 0) T.aZ T.iC cR (hr.mono (by decide)) T.dO .nil aF (aa (pv 1) aj)) rfl))) ?_
  obtain⟨L,D,U,all,M,Ps,Fs,es,us,b,iM,pp,pf,f⟩:=B.ex
  obtain⟨dx,hx⟩:=b.hx
  obtain⟨vx,g,gv⟩:=b.Ib iM
  refine⟨_,rfl,x,dx,_,rfl,hx,je _ _ _,_,rfl,x,dx,L,D,U,M L,vx,n,rfl,hx,b.hL,g,?_⟩
  rcases Z1 gv (fun _ _ r=>r.2.1) n with ⟨f1,f2⟩ | ⟨a,th,j,f1,f2,r,an,fj,fw⟩
  ·rw[f1]
   rw[f2] at q
   exact (Bool.noConfusion (show false=true from q.1))
  rw[f1]
  rw[f2] at q
  refine⟨a.o,_,a.d,_,_,rfl,(b.ha a r.1).1,T.j6,T.gO,adO _ _ _,?_⟩
  cases th with
  | pl ss=>rw[r.2.2.1];exact q
  | cn ld lt sl tn =>
   obtain⟨p,e1,e2⟩:=r.2.2
   rw[e1]
   exact q p e2
def aaE:Th->Int
 | .pl _=>0
 | .cn _ lt _ _=>lt
theorem bw3 (m:Int)(k:Kd)(n:Option Kd):0 <= bw m k n/\bw m k n <= 3:=by
 unfold bw
 split
 ·omega
 ·cases k <;> unfold pw <;> first | omega | (split <;> omega)
theorem axl (m:Int)(ks:List Kd):∀ x∈lH m ks,0 <= x/\x <= (3:Int):=by
 induction ks generalizing m with
 | nil=>intro x hx;cases hx
 | cons k t ih =>
  intro x hx
  rcases List.mem_cons.mp hx with rfl | hx
  ·exact bw3 (nm m k) k t.head?
  ·exact ih _ x hx
theorem avq {f:List Int}{j:Nat}(h:∀ x∈f,0 <= x/\x <= (3:Int)):∀ x∈f.set j 2,0 <= x/\x <= (3:Int):=fun x hx=>by
 rcases List.mem_or_eq_of_mem_set hx with z | z
 ·exact h x z
 ·omega
theorem asW {ks:List Kd}{f:List Int}{a z:Nat}(h:∀ x∈f,0 <= x/\x <= (3:Int)):∀ x∈(settle ks f a z).2,0 <= x/\x <= (3:Int):=by
 unfold settle Lf Lg
 repeat' split
 all_goals first | exact h | exact avq h | exact avq (avq h)
theorem axm (ks:List Kd)(rs:List (Nat×Nat))(c:RdS)(h:∀ x∈c.1,0 <= x/\x <= (3:Int)):∀ x∈(rs.foldl (yG ks) c).1,0 <= x/\x <= (3:Int):=by
 induction rs generalizing c with
 | nil=>exact h
 | cons p t ih=>exact ih _ (asW h)
theorem aue (m:Int)(ks:List Kd):∀ x∈(oJ m ks).1,0 <= x/\x <= (3:Int):=axm _ _ _ (axl m ks)
theorem amC {vw:Vw}(w:LC vw){n:Str}{th:Th}(hf:bR vw n=some th):(∀ x∈lY vw n,0 <= x/\x <= (27:Int))/\(lY vw n).length=(Ie vw n).length/\(Ie vw n).length <= 200/\0 <= aaE th/\aaE th <= 999:=by
 cases th with
 | pl ss =>
  rw[Q0 hf,Ds hf]
  refine⟨fun x hx=>?_,by rw[yg,List.length_map],(w.gd _ _ (dm hf)).1,by show (0:Int) <= 0;omega,by show (0:Int) <= 999;omega⟩
  have:=aue _ _ x hx
  omega
 | cn ld lt sl tn =>
  obtain⟨⟨ss,hld⟩,lt0,lt1,sl0,sl1⟩:=w.ld n ld lt sl tn (dm hf)
  have hfl:=w.find hld
  have gl:=(w.gd _ _ hld).1
  rw[Q3 hf hfl,Dt hf hfl]
  refine⟨fun x hx=>?_,by rw[List.length_map,yg,List.length_map],?_,lt0,lt1⟩
  ·obtain⟨y,hy,rfl⟩:=List.mem_map.mp hx
   have:=aue _ _ y hy
   have h1:0 <= sl * y:=Int.mul_nonneg (by omega) this.1
   have h2:sl * y <= 9 * 3:=Int.mul_le_mul sl1 this.2 this.1 (by omega)
   exact⟨h1,by omega⟩
  ·split
   ·rw[List.length_map];omega
   ·omega
inductive RK (c:Cs)(vs:List V)(H:Hp)(Q:VK)(E:XK):Prop
 | mk (x:Addr) (F:Addr->Prop) (vw:Vw) (ps fs:List Vw) (n:Str) (th:Th) (gj:vs=[.ref x,.str n]) (gk:Ni c H x F vw ps fs) (jc:bR vw n=some th) (n8:Q (.int (aaE th)) H):RK c vs H Q E
theorem afc (T:Txt K w mg t):bW P w K mg base jF (0+3) t.mD t.Iv ["book","name"] (RK (cs t)):=by
 have gf:=oU (P:=P) (w:=w) (base:=base) T
 refine T.vQ.ok Q8 (fun vs H Q E h=>?_) (fun cdv A outer s H vs Q E hr h=>?_)
 ·obtain⟨_,_,_,_,_,_,_,rfl,_⟩:=h
  rfl
 ·obtain⟨x,F,vw,ps,fs,n,th,rfl,B,hf,q⟩:=h
  refine bA (ao (aX (i:=2) Q8.nd rfl (Or.inl rfl) (bM (pv 0) T.aZ T.oM gf (hr.mono (by decide)) T.jU .nil aF (aa (pv 1) aj))) (ao (bC (aJ aeu (pv 2) MP (aQ _)) (au (aG az)) aO) (au (aG (bH bx (pv 2) az (fun _ _=>rfl)))))) ?_
  obtain⟨L,D,U,all,M,Ps,Fs,es,us,b,_⟩:=B.ex
  obtain⟨dx,hx⟩:=b.hx
  tm_up
  refine⟨x,dx,_,rfl,hx,qz _ _ _,_,rfl,x,F,vw,ps,fs,n,rfl,B,?_⟩
  rw[hf]
  cases th with
  | pl ss =>
   tm_up
   exact⟨rfl,true,by rw[decide_eq_true rfl],wj q⟩
  | cn ld lt sl tn =>
   intro p hp
   tm_up
   refine⟨rfl,false,by rw[decide_eq_false (fun e=>nomatch e)],di ?_⟩
   tm_up
   exact .inr (.inl ⟨p,_,1,_,rfl,rfl,nJ.of hp,rfl,q⟩)
inductive X8 (K:Frag)(vs:List V)(H:Hp)(Q:VK)(E:XK):Prop
 | mk (l:Addr) (b:Int) (xs:List V) (ss:List Sg) (gj:vs=[.ref l,.int b]) (gk:bh K H l xs) (jc:nP H xs ss) (n8:ss.length <= 400) (xJ:∀ (f:Addr) (H':Hp),aB H H'->H f=none->H' f=some (.lst ((lG b (cu ss)).map V.int))->Q (.ref f) H'):X8 K vs H Q E
theorem axo {k:Kd}(h:k.meas=true)(m:Int):intText? k.str=some (nm m k)/\k.str.length <= 640:=by
 cases k <;> first | (cases h;done) | exact⟨by first | exact (show intText? Kd.three.str=some 3 by decide +kernel) | exact (show intText? Kd.two.str=some 2 by decide +kernel),by decide +kernel⟩
theorem avr {k:Kd}(h:¬ k.meas=true)(m:Int):nm m k=m:=by
 cases k <;> first | rfl | exact absurd rfl h
theorem Yb (T:Txt K w mg t):bW P w K mg base jF (0+2) t.pC t.Fi ["line","begin"] (X8 K):=by
 have zx:=Ht (P:=P) (w:=w) (base:=base) T
 refine T.pG.ok vM (fun vs H Q E h=>?_) (fun cdv A outer s H vs Q E hr h=>?_)
 ·obtain⟨_,_,_,_,rfl,_⟩:=h
  rfl
 ·obtain⟨l,b,xs,ss,rfl,hS,hg,hn,q⟩:=h
  refine bA (ao (aX (i:=2) vM.nd rfl (Or.inl rfl) (cj aj)) (ao (aX (i:=3) vM.nd rfl (Or.inl rfl) (pv 1)) (ao (jk PassesOwn.never rfl (dX (pv 0)) (aU (i:=4) vM.nd rfl (Or.inl rfl)) (ao (wk (bC (bD (aD zx (hr.mono (by decide)) rfl T.Hl T.jt.kp T.qW .nil aF (aa (pv 4) aj))) (au (aX (i:=3) vM.nd rfl (Or.inl rfl) (cz (yf.or j7) rfl T.N5 M3 (aa (bH bx (pv 4) az (fun _ _=>rfl)) aj)))) aO)) (au (bj (j4 PySem.F.plainAttrs_list PySem.F.slot_list_append PySem.F.type_list_append bK (pv 2) (aa (pv 3) aj)))))) (au (aG (pv 2)))))) ?_
  refine⟨big (by show 0 <= 1000;omega),fun f hf=>?_⟩
  tm_up
  refine⟨⟨xs,jd hS hf⟩,yz (K:=K) (xs:=xs) (fun i σ H'=>∃ (m:Int) (v:Option V) (fs:List Int),σ=[some (.ref l),some (.int b),some (.ref f),some (.int m),v]/\H'=upd H f (.lst (fs.map V.int))/\fs++lG m ((cu ss).drop i)=lG b (cu ss))
   ⟨b,none,[],rfl,rfl,rfl⟩ ?_ ?_ ?_⟩
  ·rintro i σ H' _ ⟨m,v,fs,rfl,rfl,_⟩
   exact jd hS hf
  ·rintro i x σ H' hx ⟨m,v,fs,rfl,rfl,hm⟩
   obtain⟨s,hs,p,rfl,hp⟩:=wu hg hx
   have hd:=xO (HY (f:=Prod.fst) hs)
   rw[hd] at hm
   have hp':upd H f (.lst (fs.map V.int)) p=some (.tup [.str s.1.str,.int s.2]):=by rw[aA (aC hp hf)];exact hp
   have hl:=congrArg List.length hm
   simp only [List.length_append,lG,List.length_cons,Uo,List.length_map] at hl
   refine ap9 [some (.ref l),some (.int b),some (.ref f),some (.int (nm m s.1)),some (.ref p)] (upd H f (.lst (fs.map V.int))) ?_ ?_
   ·refine⟨_,rfl,p,s,rfl,hp',_,rfl,?_⟩
    refine bJ (fun h=>?_) (fun h=>?_)
    ·obtain⟨e1,e2⟩:=axo h m
     tm_up
     exact .inr ⟨_,_,rfl,e1,e2,rfl,rfl⟩
    ·rw[avr h]
     exact⟨rfl,rfl⟩
   ·tm_up
    refine⟨.inl ⟨rfl,_,bh.of ak⟩,?_⟩
    tm_up
    refine⟨_,_,_,rfl,rfl,ak,by rw[List.length_map];exact bc (by omega),?_⟩
    exact⟨_,_,fs++[nm m s.1],rfl,by rw[dB,List.map_append];rfl,by rw[List.append_assoc];exact hm⟩
  ·rintro σ H' ⟨m,v,fs,rfl,rfl,hm⟩
   rw[List.drop_eq_nil_of_le (by rw[List.length_map,bZ hg];exact Nat.le_refl _)] at hm
   tm_up
   have e:fs=lG b (cu ss):=by rw[← hm];simp[lG]
   subst e
   exact q f _ (aB.upd hf) hf ak
inductive aaF (K:Frag)(vs:List V)(H:Hp)(Q:VK)(E:XK):Prop
 | mk (l:Addr) (i:Int) (xs:List V) (ss:List Sg) (gj:vs=[.ref l,.int i]) (gk:bh K H l xs) (jc:nP H xs ss) (n8:Q (.str (z9 (kAt (cu ss) i))) H):aaF K vs H Q E
theorem FW (T:Txt K w mg t):bW P w K mg base jF (0+1) t.uf t.UG ["line","at"] (aaF K):=by
 refine T.ig.ok ajV (fun vs H Q E h=>?_) (fun cdv A outer s H vs Q E hr h=>?_)
 ·obtain⟨_,_,_,_,rfl,_⟩:=h
  rfl
 ·obtain⟨l,i,xs,ss,rfl,hS,hg,q⟩:=h
  have out:¬ (0 <= i/\i < ss.length)->kAt (cu ss) i=none:=fun z=>by
   unfold kAt
   split
   ·exact List.getElem?_eq_none (by rw[List.length_map];omega)
   ·rfl
  refine bA (ao (bC (QD HJ Dg az (pv 1) (aH (aM.or aN) rfl T.cC cB (aa (pv 0) aj))) (au (aG (bH bx (bH bx (pv 0) (pv 1) (fun _ _=>rfl)) az (fun _ _=>rfl)))) aO) (au (aG cA))) ?_
  tm_up
  refine bJ (fun h0=>?_) (fun h0=>?_)
  ·have h0':=of_decide_eq_true h0
   tm_up
   refine .inl ⟨_,_,rfl,.inl hS,?_⟩
   rw[bZ hg]
   tm_up
   refine bJ (fun h1=>?_) (fun h1=>?_)
   ·have h1':=of_decide_eq_true h1
    have hi:i.toNat < ss.length:=by omega
    have e:kAt (cu ss) i=some (ss[i.toNat]).1:=by
     unfold kAt
     rw[if_pos h0',List.getElem?_map,List.getElem?_eq_getElem hi]
     rfl
    rw[e] at q
    tm_up
    refine acI hS hg (n:=i.toNat) (by omega) (List.getElem?_eq_getElem hi) fun b hb=>?_
    tm_up
    exact q
   ·rw[out fun z=>h1 (decide_eq_true z.2)] at q
    exact q
  ·rw[out fun z=>h0 (decide_eq_true z.1)] at q
   exact⟨_,rfl,di q⟩
inductive Jr (vs:List V)(H:Hp)(Q:VK)(E:XK):Prop
 | mk (k:Kd) (m:Int) (gj:vs=[.str k.str,.int m]) (gk:Q (.int (pw k m)) H):Jr vs H Q E
theorem aaG (T:Txt K w mg t):bW P w K mg base jF (0+1) t.iU t.BX ["kind","measure"] Jr:=by
 refine T.oN.ok Z3 (fun vs H Q E h=>?_) (fun cdv A outer s H vs Q E hr h=>?_)
 ·obtain⟨_,_,rfl,_⟩:=h
  rfl
 ·obtain⟨k,m,rfl,q⟩:=h
  refine bA (ao (bC (cG (PW.pt (fP (aJ (cP.or (bQ (aY hr))) (pv 1) az (aQ _)) (ir (aJ ap7 (pv 0) (cT (v:=.ref t.cO) rfl T.Eg rfl) rfl))))) (au (aG (bH atR (cT (v:=.ref t.cO) rfl T.Eg rfl) (pv 0) (fun _ _=>rfl)))) aO) (au (aG (bH atR (cT (v:=.ref t.fG) rfl T.aax rfl) (pv 0) (fun _ _=>rfl))))) ?_
  refine oE (decide (m=2) && (decide (k=.G) || decide (k=.R))) ?_ ?_
  ·tm_up
   rw[jm]
   refine bJ (fun h=>?_) (fun h=>?_)
   ·tm_up
    refine⟨_,_,_,rfl,rfl,T.Az,_,rfl,fu ?_⟩
    rw[h]
    cases k <;> decide +kernel
   ·exact fu (by rw[Bool.eq_false_iff.mpr h];rfl)
  ·refine bJ (fun h=>?_) (fun h=>?_)
   ·tm_up
    obtain⟨h1,h2⟩:=Bool.and_eq_true_iff.mp h
    have hm:=of_decide_eq_true h1
    have e:[(Str.ofString "G",V.int 2),(Str.ofString "R",V.int 2)].lookup k.str=some (.int (pw k m)):=by
     rw[hm]
     cases k <;> first | decide +kernel | (exfalso;revert h2;decide)
    exact⟨_,_,_,_,rfl,rfl,T.Az,e,q⟩
   ·tm_up
    have e:[(Str.ofString "G",V.int 3),(Str.ofString "D",V.int 2),(Str.ofString "R",V.int 3),(Str.ofString "s",V.int 1),(Str.ofString "d",V.int 1),(Str.ofString "r",V.int 1),(Str.ofString ".",V.int 0),(Str.ofString "3",V.int 0),(Str.ofString "2",V.int 0)].lookup k.str=some (.int (pw k m)):=by
     by_cases hm:m=2
     ·rw[hm] at h ⊢
      cases k <;> first | decide +kernel | (exfalso;revert h;decide)
     ·cases k <;> first | decide +kernel | (simp only [pw,if_neg hm];decide +kernel)
    exact⟨_,_,_,_,rfl,rfl,T.Yu,e,q⟩
inductive rD (K:Frag)(vs:List V)(H:Hp)(Q:VK)(E:XK):Prop
 | mk (l:Addr) (b:Int) (xs:List V) (ss:List Sg) (gj:vs=[.ref l,.int b]) (gk:bh K H l xs) (jc:nP H xs ss) (n8:ss.length <= 400) (xJ:∀ (f:Addr) (H':Hp),aB H H'->H f=none->H' f=some (.lst ((lH b (cu ss)).map V.int))->Q (.ref f) H'):rD K vs H Q E
theorem FZ (T:Txt K w mg t):bW P w K mg base jF (0+3) t.cI t.kY ["line","begin"] (rD K):=by
 have Oa:=Yb (P:=P) (w:=w) (base:=base) T
 have jw:=FW (P:=P) (w:=w) (base:=base) T
 have acT:=aaG (P:=P) (w:=w) (base:=base) T
 refine T.d7.ok fZ (fun vs H Q E h=>?_) (fun cdv A outer s H vs Q E hr h=>?_)
 ·obtain⟨_,_,_,_,rfl,_⟩:=h
  rfl
 ·obtain⟨l,b,xs,ss,rfl,hS,hg,hn,q⟩:=h
  refine bA (ao (aX (i:=2) fZ.nd rfl (Or.inl rfl) (cj aj)) (ao (jk PassesOwn.never rfl (ame rfl T.FP (aD Oa (hr.mono (by decide)) rfl T.X3 T.pG.kp T.Fy .nil aF (aa (pv 0) (aa (pv 1) aj)))) (iR rfl (bu (aU (i:=3) fZ.nd rfl (Or.inl rfl)) (bu (aU (i:=4) fZ.nd rfl (Or.inl rfl)) eZ))) (au (bC (cG (PW.pt (fP (aJ (cP.or (bQ (aY hr))) (pv 4) az (aQ _)) (fP (aJ (cP.or (bQ (aY hr))) (aD jw (hr.mono (by decide)) rfl T.mL T.ig.kp T.km .nil aF (aa (pv 0) (aa (pv 3) aj))) cA (aQ _)) (ir (aJ (cP.or (bQ (aY hr))) (aD jw (hr.mono (by decide)) rfl T.mL T.ig.kp T.km .nil aF (aa (pv 0) (aa (aV (bN.or (aR.or bO)) (pv 3) az) aj))) cA (aQ _))))))) (au (bj (j4 PySem.F.plainAttrs_list PySem.F.slot_list_append PySem.F.type_list_append bK (pv 2) (aa (cT (v:=.int 3) rfl T.aay ⟨_,rfl⟩) aj)))) (au (bj (j4 PySem.F.plainAttrs_list PySem.F.slot_list_append PySem.F.type_list_append bK (pv 2) (aa (aD acT (hr.mono (by decide)) rfl T.aam T.oN.kp T.Ce .nil aF (aa (aD jw (hr.mono (by decide)) rfl T.mL T.ig.kp T.km .nil aF (aa (pv 0) (aa (pv 3) aj))) (aa (pv 4) aj))) aj))))))) (au (aG (pv 2))))) ?_
  refine⟨big (by show 0 <= 1000;omega),fun f hf=>?_⟩
  tm_up
  refine⟨l,b,xs,ss,rfl,jd hS hf,hg.same (aB.upd hf),hn,fun f2 H2 s2 n2 h2=>⟨_,rfl,⟨_,bh.of h2⟩,?_⟩⟩
  have ml:(lG b (cu ss)).length=ss.length:=by rw[Uo,List.length_map]
  have nff:f2≠f:=fun e=>by rw[e,ak] at n2;cases n2
  refine ahR (K:=K) (xs:=(lG b (cu ss)).map V.int) (fun i σ H'=>∃ (v w:Option V) (fs:List Int),σ=[some (.ref l),some (.int b),some (.ref f),v,w]/\aB H H'/\H' f=some (.lst (fs.map V.int))/\H' f2=some (.lst ((lG b (cu ss)).map V.int))/\fs++M9 ((cu ss).drop i) ((lG b (cu ss)).drop i)=lH b (cu ss))
   ⟨none,none,[],rfl,(aB.upd hf).trans s2,s2 _ _ ak,h2,ah1 ..⟩ ?_ ?_ ?_
  ·rintro i σ H' ⟨v,w,fs,rfl,_,_,h3,_⟩
   exact bh.of h3
  ·rintro i x t σ H' hx ⟨v,w,fs,rfl,s3,h3,h4,hm⟩ ht
   obtain⟨m,hm1,rfl⟩:=M8 hx
   have hil:i < ss.length:=by
    have:=(List.getElem?_eq_some_iff.mp hm1).1
    omega
   have hk:(cu ss)[i]? = some (ss[i]).1:=HY (List.getElem?_eq_getElem hil)
   rw[xO hk,xO hm1] at hm
   simp only [M9,head_drop] at hm
   have hl:=congrArg List.length hm
   simp only [List.length_append,List.length_cons,Dk,List.length_map] at hl
   have sT:aB H' (upd H' t (.tup [.int i,.int m])):=aB.upd ht
   have hS':bh K (upd H' t (.tup [.int i,.int m])) l xs:=(s3.trans sT).seq hS
   have hg':=hg.same (s3.trans sT)
   have h3':=sT _ _ h3
   have ka:kAt (cu ss) (i:Int)=some (ss[i]).1:=by rw[Aa];exact hk
   have kb:kAt (cu ss) ((i:Int)+1)=(cu ss)[i+1]?:=by rw[← Aa];rfl
   refine⟨t,_,rfl,nJ.of ak,rfl,_,_,rfl,_,_,rfl,rfl,?_⟩
   have fin:∀ z:Int,z=bw m (ss[i]).1 (cu ss)[i+1]?->∃ (v w:Option V) (fs':List Int),[some (V.ref l),some (V.int b),some (V.ref f),some (V.int (i:Int)),some (V.int m)]=[some (.ref l),some (.int b),some (.ref f),v,w]/\aB H (upd (upd H' t (.tup [.int i,.int m])) f (.lst (fs.map V.int++[V.int z]))) /\
     (upd (upd H' t (.tup [.int i,.int m])) f (.lst (fs.map V.int++[V.int z]))) f=some (.lst (fs'.map V.int))/\(upd (upd H' t (.tup [.int i,.int m])) f (.lst (fs.map V.int++[V.int z]))) f2=some (.lst ((lG b (cu ss)).map V.int))/\fs'++M9 ((cu ss).drop (i+1)) ((lG b (cu ss)).drop (i+1))=lH b (cu ss):=by
    intro z hz
    refine⟨_,_,fs++[z],rfl,dD (s3.trans sT) hf,by rw[ak,List.map_append];rfl,by rw[aA nff];exact sT _ _ h4,?_⟩
    rw[List.append_assoc,hz]
    exact hm
   refine oE (decide (m=2) && (decide (z9 (kAt (cu ss) (i:Int)) = "G") && decide (z9 (kAt (cu ss) ((i:Int)+1)) = "."))) ?_ ?_
   ·tm_up
    rw[jm]
    refine bJ (fun h=>?_) (fun h=>?_)
    ·tm_up
     refine⟨l,_,xs,ss,rfl,hS',hg',?_⟩
     tm_up
     rw[asF]
     refine bJ (fun h2=>?_) (fun h2=>?_)
     ·tm_up
      refine⟨l,_,xs,ss,rfl,hS',hg',?_⟩
      tm_up
      rw[asF]
      exact fu (by rw[h,h2];rfl)
     ·exact fu (by rw[h,Bool.eq_false_iff.mpr h2];rfl)
    ·exact fu (by rw[Bool.eq_false_iff.mpr h];rfl)
   ·refine bJ (fun h=>?_) (fun h=>?_)
    ·tm_up
     refine⟨.inl ⟨rfl,_,bh.of h3'⟩,?_⟩
     refine⟨_,_,_,rfl,rfl,h3',by rw[List.length_map];exact bc (by omega),fin 3 ?_⟩
     obtain⟨h1,h2⟩:=Bool.and_eq_true_iff.mp h
     obtain⟨h2,h5⟩:=Bool.and_eq_true_iff.mp h2
     have e1:(ss[i]).1=.G:=by
      have:=of_decide_eq_true h2
      rw[ka] at this
      exact str_inj.mp (this.trans (rfl:("G":Str)=Kd.G.str))
     have e2:(cu ss)[i+1]? = some .dot:=by
      have:=of_decide_eq_true h5
      rw[kb] at this
      exact ahZ.mp (this.trans (rfl:(".":Str)=z9 (some .dot)))
     unfold bw
     rw[if_pos ⟨of_decide_eq_true h1,e1,e2⟩]
    ·tm_up
     refine⟨.inl ⟨rfl,_,bh.of h3'⟩,?_⟩
     tm_up
     refine⟨l,_,xs,ss,rfl,hS',hg',?_⟩
     tm_up
     rw[ka]
     refine⟨_,_,rfl,?_⟩
     refine⟨_,_,_,rfl,rfl,h3',by rw[List.length_map];exact bc (by omega),fin _ ?_⟩
     unfold bw
     rw[if_neg]
     rintro ⟨h1,h2,h5⟩
     refine h ?_
     rw[ka,kb,h2,h5,h1]
     decide +kernel
  ·rintro σ H' ⟨v,w,fs,rfl,s3,h3,_,hm⟩
   rw[List.length_map,ml,List.drop_eq_nil_of_le (by rw[List.length_map];exact Nat.le_refl _)] at hm
   tm_up
   have e:fs=lH b (cu ss):=by rw[← hm];simp[M9]
   subst e
   exact q f _ s3 hf h3
inductive amD (K:Frag)(vs:List V)(H:Hp)(Q:VK)(E:XK):Prop
 | mk (l:Addr) (b:Int) (xs:List V) (ss:List Sg) (gj:vs=[.ref l,.int b]) (gk:bh K H l xs) (jc:nP H xs ss) (n8:ss.length <= 400) (xJ:∀ (f:Addr) (ys:List V) (H':Hp),aB H H'->H f=none->H' f=some (.lst ys)->Prs H' ys (Hk b (cu ss))->Q (.ref f) H'):amD K vs H Q E
theorem asY (T:Txt K w mg t):bW P w K mg base jF (0+3) t.Nz t.aeR ["line","begin"] (amD K):=by
 have Oa:=Yb (P:=P) (w:=w) (base:=base) T
 have ae7:=ail (P:=P) (w:=w) (base:=base) T
 refine T.U8.ok EY (fun vs H Q E h=>?_) (fun cdv A outer s H vs Q E hr h=>?_)
 ·obtain⟨_,_,_,_,rfl,_⟩:=h
  rfl
 ·obtain⟨l,b,xs,ss,rfl,hS,hg,hn,q⟩:=h
  refine bA (ao (aX (i:=2) EY.nd rfl (Or.inl rfl) (cj aj)) (ao (aX (i:=3) EY.nd rfl (Or.inl rfl) az) (ao (jk PassesOwn.never rfl (awJ rfl T.aas rfl T.FP (pv 0) (aD Oa (hr.mono (by decide)) rfl T.X3 T.pG.kp T.Fy .nil aF (aa (pv 0) (aa (pv 1) aj)))) (iR rfl (bu (aU (i:=4) EY.nd rfl (Or.inl rfl)) (bu (iR rfl (bu (aU (i:=5) EY.nd rfl (Or.inl rfl)) (bu (aU (i:=6) EY.nd rfl (Or.inl rfl)) eZ))) eZ))) (au (bC (cG (PW.pt (lU (aJ (cP.or (bQ (aY hr))) (pv 6) az (aQ _)) (jj (cF (bD (aD ae7 (hr.mono (by decide)) rfl T.aib T.Ls.kp T.Zh .nil aF (aa (pv 5) aj)))))))) (ao (wk (bC (aJ Dg (pv 3) (pv 4) (aQ _)) (au (bj (j4 PySem.F.plainAttrs_list PySem.F.slot_list_append PySem.F.type_list_append bK (pv 2) (aa (fQ (aa (pv 3) (aa (pv 4) aj))) aj)))) aO)) (au (aX (i:=3) EY.nd rfl (Or.inl rfl) (aV (bN.or (aR.or bO)) (pv 4) az)))) aO))) (ao (wk (bC (aJ Dg (pv 3) (aH (aM.or aN) rfl T.cC cB (aa (pv 0) aj)) (aQ _)) (au (bj (j4 PySem.F.plainAttrs_list PySem.F.slot_list_append PySem.F.type_list_append bK (pv 2) (aa (fQ (aa (pv 3) (aa (aH (aM.or aN) rfl T.cC cB (aa (pv 0) aj)) aj))) aj)))) aO)) (au (aG (pv 2))))))) ?_
  refine⟨big (by show 0 <= 1000;omega),fun f hf=>?_⟩
  tm_up
  refine⟨l,b,xs,ss,rfl,jd hS hf,hg.same (aB.upd hf),hn,fun f2 H2 s2 n2 h2=>⟨_,_,rfl,rfl,⟨xs,((aB.upd hf).trans s2).seq hS⟩,⟨_,bh.of h2⟩,?_⟩⟩
  have ml:(lG b (cu ss)).length=ss.length:=by rw[Uo,List.length_map]
  have nff:f2≠f:=fun e=>by rw[e,ak] at n2;cases n2
  have cnt:(Hk b (cu ss)).length <= 401:=by
   have:=vI (oG b (cu ss)) 0 0
   rw[yF,List.length_map] at this
   exact Nat.le_trans this (by omega)
  refine auT (K:=K) (xs:=xs) (ys:=(lG b (cu ss)).map V.int) (fun i σ H'=>∃ (v w u:Option V) (first:Nat) (ys:List V) (qs:List (Nat×Nat)),σ=[some (.ref l),some (.int b),some (.ref f),some (.int (first:Int)),v,w,u]/\aB H H'/\H' f=some (.lst ys)/\Prs H' ys qs/\H' f2=some (.lst ((lG b (cu ss)).map V.int))/\first <= i/\qs++gU i first (ah2 ((cu ss).drop i) ((lG b (cu ss)).drop i))=Hk b (cu ss))
   (by rw[List.length_map,ml];exact bZ hg) ⟨none,none,none,0,[],[],rfl,(aB.upd hf).trans s2,s2 _ _ ak,.nil,h2,Nat.le_refl _,by rw[List.drop_zero,List.drop_zero,ajN];rfl⟩ ?_ ?_ ?_
  ·rintro i σ H' ⟨v,w,u,first,ys,qs,rfl,s3,_,_,h4,_⟩
   exact⟨s3.seq hS,bh.of h4⟩
  ·rintro i x y t u' σ H' hx hy ⟨v,w,u,first,ys,qs,rfl,s3,h3,hq,h4,hfi,hm⟩ ht hu htu
   obtain⟨s,hs,p,rfl,hp⟩:=wu hg hx
   obtain⟨m,hm1,rfl⟩:=M8 hy
   rw[xO (HY (f:=Prod.fst) hs),xO hm1] at hm
   simp only [ah2] at hm
   have sT:aB H' (upd (upd H' t (.tup [.ref p,.int m])) u' (.tup [.int i,.ref t])):=(aB.upd ht).trans (aB.upd (by rw[aA htu.symm];exact hu))
   have ut:upd (upd H' t (.tup [.ref p,.int m])) u' (.tup [.int i,.ref t]) t=some (.tup [.ref p,.int m]):=by rw[aA htu,ak]
   refine⟨u',_,rfl,nJ.of ak,rfl,_,_,rfl,_,_,rfl,t,_,rfl,nJ.of ut,rfl,_,_,rfl,_,_,rfl,rfl,rfl,?_⟩
   generalize upd (upd H' t (.tup [.ref p,.int m])) u' (.tup [.int i,.ref t])=H3 at sT
   have hp3:=(s3.trans sT) _ _ hp
   have h33:=sT _ _ h3
   have hq3:=Ab sT hq
   refine oE (!inR m s.1) ?_ ?_
   ·tm_up
    rw[jm]
    refine bJ (fun h=>?_) (fun h=>?_)
    ·refine fu ?_
     unfold inR
     have:=of_decide_eq_true h
     simp[this]
    ·tm_up
     refine⟨p,s,rfl,hp3,_,rfl,fu ?_⟩
     have hm2:m≠2:=fun e=>h (decide_eq_true e)
     unfold inR
     simp[hm2]
   ·cases hin:inR m s.1 with
    | false =>
     rw[hin] at hm
     refine wj ?_
     refine⟨fun σ1 H1=>σ1=[some (.ref l),some (.int b),some (.ref f),some (.int (first:Int)),some (.int i),some (.ref p),some (.int m)]/\aB H H1/\(∃ ys',H1 f=some (.lst ys')/\Prs H1 ys' (qs++if first < i then [(first,i)] else []))/\H1 f2=some (.lst ((lG b (cu ss)).map V.int)),?_,?_⟩
     ·tm_up
      refine bJ (fun h=>?_) (fun h=>?_)
      ·have hlt:first < i:=by have:=of_decide_eq_true h;omega
       have ql:qs.length <= 401:=by
        have:=congrArg List.length hm
        simp only [List.length_append] at this
        omega
       tm_up
       refine⟨.inl ⟨rfl,_,bh.of h33⟩,?_⟩
       tm_up
       refine⟨by show 2 <= sizeLine;decide,fun z hz=>?_⟩
       have sz:aB H3 (upd H3 z (.tup [.int (first:Int),.int i])):=aB.upd hz
       have h3z:=sz _ _ h33
       refine⟨_,_,_,rfl,rfl,h3z,by rw[bZ hq3];exact bc (by omega),?_⟩
       rw[if_pos hlt]
       exact⟨rfl,dD ((s3.trans sT).trans sz) hf,⟨_,ak,oF (yH h3z (Ab sz hq3)) (ah3 h3z ⟨z,rfl,ak⟩)⟩,by rw[aA nff];exact sz _ _ (sT _ _ h4)⟩
      ·have hlt:¬ first < i:=fun z=>h (decide_eq_true (by omega))
       rw[if_neg hlt,List.append_nil]
       exact⟨rfl,s3.trans sT,⟨_,h33,hq3⟩,sT _ _ h4⟩
     ·rintro σ1 H1 ⟨rfl,sa,⟨ys',hb,hc⟩,hd⟩
      tm_up
      refine⟨_,_,_,i+1,ys',_,rfl,sa,hb,hc,hd,Nat.le_refl _,?_⟩
      rw[← hm,List.append_assoc]
      rfl
    | true =>
     rw[hin] at hm
     refine di ?_
     exact⟨_,_,_,first,ys,qs,rfl,s3.trans sT,h33,hq3,sT _ _ h4,by omega,hm⟩
  ·rintro σ H' ⟨v,w,u,first,ys,qs,rfl,s3,h3,hq,h4,hfi,hm⟩
   rw[bZ hg] at hm hfi
   rw[List.drop_eq_nil_of_le (by rw[List.length_map];exact Nat.le_refl _)] at hm
   have hm':qs++(if first < ss.length then [(first,ss.length)] else [])=Hk b (cu ss):=hm
   have ql:qs.length <= 401:=by
    have:=congrArg List.length hm
    simp only [List.length_append] at this
    omega
   refine⟨fun σ1 H1=>σ1=[some (.ref l),some (.int b),some (.ref f),some (.int (first:Int)),v,w,u]/\aB H H1/\∃ ys',H1 f=some (.lst ys')/\Prs H1 ys' (Hk b (cu ss)),?_,?_⟩
   ·tm_up
    refine .inl ⟨_,_,rfl,.inl (s3.seq hS),?_⟩
    rw[bZ hg]
    tm_up
    refine bJ (fun h=>?_) (fun h=>?_)
    ·have hlt:first < ss.length:=by have:=of_decide_eq_true h;omega
     tm_up
     refine⟨.inl ⟨rfl,_,bh.of h3⟩,?_⟩
     tm_up
     refine .inl ⟨_,_,rfl,.inl (s3.seq hS),?_⟩
     rw[bZ hg]
     refine⟨by show 2 <= sizeLine;decide,fun z hz=>?_⟩
     have sz:aB H' (upd H' z (.tup [.int (first:Int),.int (ss.length:Int)])):=aB.upd hz
     have h3z:=sz _ _ h3
     refine⟨_,_,_,rfl,rfl,h3z,by rw[bZ hq];exact bc (by omega),?_⟩
     rw[if_pos hlt] at hm'
     rw[← hm']
     exact⟨rfl,dD (s3.trans sz) hf,_,ak,oF (yH h3z (Ab sz hq)) (ah3 h3z ⟨z,rfl,ak⟩)⟩
    ·have hlt:¬ first < ss.length:=fun z=>h (decide_eq_true (by omega))
     rw[if_neg hlt,List.append_nil] at hm'
     rw[← hm']
     exact⟨rfl,s3,_,h3,hq⟩
   ·rintro σ1 H1 ⟨rfl,sa,ys',hb,hc⟩
    tm_up
    exact q f ys' H1 sa hf hb hc
inductive Eh (K:Frag)(vs:List V)(H:Hp)(Q:VK)(E:XK):Prop
 | mk (l f:Addr) (a:Nat) (xs:List V) (ss:List Sg) (fs:List Int) (gj:vs=[.ref l,.ref f,.int (a:Int)]) (gk:bh K H l xs) (jc:nP H xs ss) (n8:H f=some (.lst (fs.map V.int))) (xJ:fs.length=ss.length) (h5_:Q (.bl (oH (cu ss) fs a)) H):Eh K vs H Q E
theorem Ei (T:Txt K w mg t):bW P w K mg base jF (0+2) t.fW t.wA ["line","found","first"] (Eh K):=by
 have jw:=FW (P:=P) (w:=w) (base:=base) T
 refine T.ik.ok Uv (fun vs H Q E h=>?_) (fun cdv A outer s H vs Q E hr h=>?_)
 ·obtain⟨_,_,_,_,_,_,rfl,_⟩:=h
  rfl
 ·obtain⟨l,f,a,xs,ss,fs,rfl,hS,hg,hf,hl,q⟩:=h
  refine bA (au (aG (fV (tM (dh (cP.or (bQ (aY hr))) (aD jw (hr.mono (by decide)) rfl T.mL T.ig.kp T.km .nil aF (aa (pv 0) (aa (aV jE (pv 2) az) aj))) cA (aQ _)) (tL (dh (cP.or (bQ (aY hr))) (bH bx (pv 1) (aV jE (pv 2) az) (fun _ _=>rfl)) (cT (v:=.int 3) rfl T.ae3 ⟨_,rfl⟩) (aQ _))))))) ?_
  refine ZD (.bl (oH (cu ss) fs a)) ?_ q
  tm_up
  refine⟨l,_,xs,ss,rfl,hS,hg,?_⟩
  tm_up
  rw[o_G]
  refine bJ (fun h=>?_) (fun h=>?_)
  ·have e:=of_decide_eq_true h
   have e':1 <= a/\a - 1 < ss.length:=by
    unfold kAt at e
    split at e
    ·have:=(List.getElem?_eq_some_iff.mp e).1
     rw[List.length_map] at this
     omega
    ·cases e
   tm_up
   refine aqo (bh.of hf) (n:=a - 1) (by omega) (List.getElem?_eq_getElem (by omega)) ?_
   tm_up
   rw[jm]
   refine xM ?_
   unfold oH
   rw[h,List.getD_eq_getElem?_getD,List.getElem?_eq_getElem (by omega)]
   rfl
  ·refine xM ?_
   unfold oH
   rw[Bool.eq_false_iff.mpr h]
   rfl
inductive Bb (K:Frag)(vs:List V)(H:Hp)(Q:VK)(E:XK):Prop
 | mk (l:Addr) (z:Nat) (xs:List V) (ss:List Sg) (gj:vs=[.ref l,.int (z:Int)]) (gk:bh K H l xs) (jc:nP H xs ss) (n8:Q (.bl (jJ (cu ss) z)) H):Bb K vs H Q E
theorem amE (k:Option Kd):inV (.str (z9 k)) [.str "G",.str "D",.str "R"]=BR k:=by
 cases k with
 | none=>decide +kernel
 | some k=>cases k <;> decide +kernel
theorem Bc (T:Txt K w mg t):bW P w K mg base jF (0+2) t.eQ t.ug ["line","behind"] (Bb K):=by
 have jw:=FW (P:=P) (w:=w) (base:=base) T
 refine T.gF.ok Q9 (fun vs H Q E h=>?_) (fun cdv A outer s H vs Q E hr h=>?_)
 ·obtain⟨_,_,_,_,rfl,_⟩:=h
  rfl
 ·obtain⟨l,z,xs,ss,rfl,hS,hg,q⟩:=h
  refine bA (au (aG (fV (tM (dh (cP.or (bQ (aY hr))) (aD jw (hr.mono (by decide)) rfl T.mL T.ig.kp T.km .nil aF (aa (pv 0) (aa (pv 1) aj))) cA (aQ _)) (tL (dh (QJ.or QK) (aD jw (hr.mono (by decide)) rfl T.mL T.ig.kp T.km .nil aF (aa (pv 0) (aa (aV (bN.or (aR.or bO)) (pv 1) az) aj))) (cT (v:=.ref t.gn) rfl T.Mr rfl) rfl)))))) ?_
  refine ZD (.bl (jJ (cu ss) z)) ?_ q
  tm_up
  refine⟨l,_,xs,ss,rfl,hS,hg,?_⟩
  tm_up
  rw[o_G]
  refine bJ (fun h=>?_) (fun h=>?_)
  ·tm_up
   refine⟨l,_,xs,ss,rfl,hS,hg,?_⟩
   tm_up
   refine .inl ⟨_,_,rfl,.inr (T.Mt _),rfl,rfl,xM ?_⟩
   unfold jJ
   rw[Aa] at h
   have e:kAt (cu ss) ((z:Int)+1)=(cu ss)[z+1]?:=by rw[← Aa];rfl
   rw[h,← amE,← e]
   rfl
  ·refine xM ?_
   unfold jJ
   rw[Aa] at h
   rw[Bool.eq_false_iff.mpr h]
   rfl
def aqP (K:Frag)(g:List Kd->List Int->Nat->Nat->Bool×List Int):Sp:=fun vs H Q _=>∃ (l f:Addr) (a z:Nat) (xs:List V) (ss:List Sg) (fs:List Int),vs=[.ref l,.ref f,.int (a:Int),.int (z:Int)]/\bh K H l xs/\nP H xs ss/\H f=some (.lst (fs.map V.int))/\fs.length=ss.length/\a < z/\z <= ss.length /\
 Q (.bl (g (cu ss) fs a z).1) (upd H f (.lst ((g (cu ss) fs a z).2.map V.int)))
theorem Ob (T:Txt K w mg t):bW P w K mg base jF (0+3) t.dG t.qL ["line","found","first","behind"] (aqP K Lf):=by
 have wD:=Ei (P:=P) (w:=w) (base:=base) T
 have uF:=Bc (P:=P) (w:=w) (base:=base) T
 refine T.iD.ok Np (fun vs H Q E h=>?_) (fun cdv A outer s H vs Q E hr h=>?_)
 ·obtain⟨_,_,_,_,_,_,_,rfl,_⟩:=h
  rfl
 ·obtain⟨l,f,a,z,xs,ss,fs,rfl,hS,hg,hf,hl,haz,hz,q⟩:=h
  unfold Lf at q
  refine bA (ao (bC (bD (aD wD (hr.mono (by decide)) rfl T.DX T.ik.kp T.oZ .nil aF (aa (pv 0) (aa (pv 1) (aa (pv 2) aj))))) (ao (qx (cT (v:=.int 2) rfl T.lO ⟨_,rfl⟩) (HD (pv 1) (aV jE (pv 2) az) set_list)) (au (aG dY))) aO) (ao (bC (bD (aD uF (hr.mono (by decide)) rfl T.Ao T.gF.kp T.m8 .nil aF (aa (pv 0) (aa (pv 3) aj)))) (ao (qx (cT (v:=.int 2) rfl T.lO ⟨_,rfl⟩) (HD (pv 1) (pv 3) set_list)) (au (aG dY))) aO) (au (aG dY)))) ?_
  tm_up
  refine⟨l,f,a,xs,ss,fs,rfl,hS,hg,hf,hl,_,rfl,?_⟩
  refine bJ (fun h=>?_) (fun h=>?_)
  ·rw[if_pos h] at q
   have hp:=Up h
   rw[List.length_map] at hp
   tm_up
   refine⟨_,_,_,_,rfl,rfl,hf,Ac (j:=a - 1) (by omega) (by rw[List.length_map];omega),?_⟩
   rw[vm]
   exact q
  ·rw[if_neg h] at q
   tm_up
   refine⟨l,z,xs,ss,rfl,hS,hg,_,rfl,?_⟩
   refine bJ (fun h2=>?_) (fun h2=>?_)
   ·rw[if_pos h2] at q
    have hp:=Nf h2
    rw[List.length_map] at hp
    tm_up
    refine⟨_,_,_,_,rfl,rfl,hf,Ac (j:=z) rfl (by rw[List.length_map];omega),?_⟩
    rw[vm]
    exact q
   ·rw[if_neg h2,QT hf] at q
    exact q
theorem Oc (T:Txt K w mg t):bW P w K mg base jF (0+3) t.dH t.qM ["line","found","first","behind"] (aqP K Lg):=by
 have wD:=Ei (P:=P) (w:=w) (base:=base) T
 have uF:=Bc (P:=P) (w:=w) (base:=base) T
 have jw:=FW (P:=P) (w:=w) (base:=base) T
 refine T.iG.ok Nq (fun vs H Q E h=>?_) (fun cdv A outer s H vs Q E hr h=>?_)
 ·obtain⟨_,_,_,_,_,_,_,rfl,_⟩:=h
  rfl
 ·obtain⟨l,f,a,z,xs,ss,fs,rfl,hS,hg,hf,hl,haz,hz,q⟩:=h
  unfold Lg at q
  refine bA (ao (bC (cG (PW.pt (fP (aJ (gw.or gq) (aD jw (hr.mono (by decide)) rfl T.mL T.ig.kp T.km .nil aF (aa (pv 0) (aa (pv 3) aj))) (cT (v:=.ref t.gn) rfl T.Mr rfl) rfl) (ir (aJ (cP.or (bQ (aY hr))) (aD jw (hr.mono (by decide)) rfl T.mL T.ig.kp T.km .nil aF (aa (pv 0) (aa (aV jE (pv 3) az) aj))) cA (aQ _)))))) (ao (qx (cT (v:=.int 2) rfl T.Yv ⟨_,rfl⟩) (HD (pv 1) (aV jE (pv 3) az) set_list)) (au (aG dY))) aO) (ao (bC (cG (PW.pt (fP (bD (aD wD (hr.mono (by decide)) rfl T.DX T.ik.kp T.oZ .nil aF (aa (pv 0) (aa (pv 1) (aa (pv 2) aj))))) (ir (bD (aD uF (hr.mono (by decide)) rfl T.Ao T.gF.kp T.m8 .nil aF (aa (pv 0) (aa (pv 3) aj)))))))) (ao (qx (cT (v:=.int 2) rfl T.lO ⟨_,rfl⟩) (HD (pv 1) (aV jE (pv 2) az) set_list)) (ao (qx (cT (v:=.int 2) rfl T.lO ⟨_,rfl⟩) (HD (pv 1) (pv 3) set_list)) (au (aG dY)))) aO) (au (aG dY)))) ?_
  refine oE (BR (cu ss)[z]? && decide ((cu ss)[z - 1]? = some .s)) ?_ ?_
  ·tm_up
   refine⟨l,_,xs,ss,rfl,hS,hg,?_⟩
   tm_up
   refine .inl ⟨_,_,rfl,.inr (T.Mt _),rfl,rfl,_,rfl,?_⟩
   show if inV (.str (z9 (kAt (cu ss) (z:Int)))) [.str "G",.str "D",.str "R"]=true then _ else _
   rw[amE,Aa]
   refine bJ (fun h=>?_) (fun h=>?_)
   ·tm_up
    refine⟨l,_,xs,ss,rfl,hS,hg,?_⟩
    tm_up
    rw[o_s]
    have e:kAt (cu ss) ((z:Int) - 1)=(cu ss)[z - 1]?:=by rw[← Aa];congr 1;omega
    rw[e]
    exact fu (by rw[h];rfl)
   ·exact fu (by rw[Bool.eq_false_iff.mpr h];rfl)
  ·refine bJ (fun h=>?_) (fun h=>?_)
   ·rw[if_pos h] at q
    tm_up
    refine⟨_,_,_,_,rfl,rfl,hf,Ac (j:=z - 1) (by omega) (by rw[List.length_map];omega),?_⟩
    rw[vm]
    exact q
   ·rw[if_neg h] at q
    refine oE (oH (cu ss) fs a && jJ (cu ss) z) ?_ ?_
    ·tm_up
     refine⟨l,f,a,xs,ss,fs,rfl,hS,hg,hf,hl,_,rfl,?_⟩
     refine bJ (fun h=>?_) (fun h=>?_)
     ·tm_up
      refine⟨l,z,xs,ss,rfl,hS,hg,_,rfl,fu ?_⟩
      rw[h];rfl
     ·exact fu (by rw[Bool.eq_false_iff.mpr h];rfl)
    ·refine bJ (fun h2=>?_) (fun h2=>?_)
     ·rw[if_pos h2] at q
      have hp:=Up (Bool.and_eq_true_iff.mp h2).1
      have hr:=Nf (Bool.and_eq_true_iff.mp h2).2
      rw[List.length_map] at hp hr
      tm_up
      refine⟨_,_,_,_,rfl,rfl,hf,Ac (j:=a - 1) (by omega) (by rw[List.length_map];omega),?_⟩
      rw[vm]
      tm_up
      refine⟨_,_,_,_,rfl,rfl,ak,Ac (j:=z) rfl (by rw[List.length_map,List.length_set];omega),?_⟩
      rw[vm,dB]
      exact q
     ·rw[if_neg h2,QT hf] at q
      exact q
theorem acU (T:Txt K w mg t):bW P w K mg base jF (0+4) t.jQ t.Fj ["line","found","first","behind"] (aqP K settle):=by
 have RL:=Ob (P:=P) (w:=w) (base:=base) T
 have RM:=Oc (P:=P) (w:=w) (base:=base) T
 refine T.q8.ok Mm (fun vs H Q E h=>?_) (fun cdv A outer s H vs Q E hr h=>?_)
 ·obtain⟨_,_,_,_,_,_,_,rfl,_⟩:=h
  rfl
 ·obtain⟨l,f,a,z,xs,ss,fs,rfl,hS,hg,hf,hl,haz,hz,q⟩:=h
  unfold settle at q
  refine bA (ao (aX (i:=4) Mm.nd rfl (Or.inl rfl) (aV eF (aV jE (pv 3) (pv 2)) az)) (ao (bC (aJ (cP.or (bQ (aY hr))) (pv 4) az (aQ _)) (au (aG (aD RL (hr.mono (by decide)) rfl T.NQ T.iD.kp T.qY .nil aF (aa (pv 0) (aa (pv 1) (aa (pv 2) (aa (pv 3) aj))))))) aO) (ao (bC (aJ (cP.or (bQ (aY hr))) (pv 4) az (aQ _)) (au (aG (aD RM (hr.mono (by decide)) rfl T.NT T.iG.kp T.qZ .nil aF (aa (pv 0) (aa (pv 1) (aa (pv 2) (aa (pv 3) aj))))))) aO) (au (aG dY))))) ?_
  tm_up
  rw[jm]
  have e:((z:Int) - (a:Int)) % 3=(((z - a) % 3:Nat):Int):=by omega
  refine bJ (fun h=>?_) (fun h=>?_)
  ·have h1:(z - a) % 3=1:=by have:((z:Int) - (a:Int)) % 3=1:=of_decide_eq_true h;omega
   rw[if_pos h1] at q
   tm_up
   exact⟨l,f,a,z,xs,ss,fs,rfl,hS,hg,hf,hl,haz,hz,q⟩
  ·have h1:¬ (z - a) % 3=1:=fun c=>h (decide_eq_true (by show ((z:Int) - (a:Int)) % 3=1;omega))
   rw[if_neg h1] at q
   tm_up
   rw[jm]
   refine bJ (fun h=>?_) (fun h=>?_)
   ·have h2:(z - a) % 3=2:=by have:((z:Int) - (a:Int)) % 3=2:=of_decide_eq_true h;omega
    rw[if_pos h2] at q
    tm_up
    exact⟨l,f,a,z,xs,ss,fs,rfl,hS,hg,hf,hl,haz,hz,q⟩
   ·have h2:¬ (z - a) % 3=2:=fun c=>h (decide_eq_true (by show ((z:Int) - (a:Int)) % 3=2;omega))
    rw[if_neg h2,QT hf] at q
    exact q
inductive aaH (K:Frag)(vs:List V)(H:Hp)(Q:VK)(E:XK):Prop
 | mk (l:Addr) (b:Int) (xs:List V) (ss:List Sg) (gj:vs=[.ref l,.int b]) (gk:bh K H l xs) (jc:nP H xs ss) (n8:ss.length <= 400) (xJ:∀ (p f lo:Addr) (ys:List V) (H':Hp),aB H H'->H f=none->H lo=none->f≠lo->H' p=some (.tup [.ref f,.ref lo])->H' f=some (.lst ((oJ b (cu ss)).1.map V.int))->H' lo=some (.lst ys)->Prs H' ys (oJ b (cu ss)).2->Q (.ref p) H'):aaH K vs H Q E
theorem akc (T:Txt K w mg t):bW P w K mg base jF (0+5) t.uh t.UJ ["line","begin"] (aaH K):=by
 have Hz:=FZ (P:=P) (w:=w) (base:=base) T
 have avt:=asY (P:=P) (w:=w) (base:=base) T
 have afd:=acU (P:=P) (w:=w) (base:=base) T
 refine T.DY.ok yK (fun vs H Q E h=>?_) (fun cdv A outer s H vs Q E hr h=>?_)
 ·obtain⟨_,_,_,_,rfl,_⟩:=h
  rfl
 ·obtain⟨l,b,xs,ss,rfl,hS,hg,hn,q⟩:=h
  refine bA (ao (aX (i:=2) yK.nd rfl (Or.inl rfl) (aD Hz (hr.mono (by decide)) rfl T.Fz T.d7.kp T.kZ .nil aF (aa (pv 0) (aa (pv 1) aj)))) (ao (aX (i:=3) yK.nd rfl (Or.inl rfl) (cj aj)) (ao (jk PassesOwn.never rfl (dX (aD avt (hr.mono (by decide)) rfl T.asN T.U8.kp T.aj2 .nil aF (aa (pv 0) (aa (pv 1) aj)))) (iR rfl (bu (aU (i:=4) yK.nd rfl (Or.inl rfl)) (bu (aU (i:=5) yK.nd rfl (Or.inl rfl)) eZ))) (au (bC (cF (bD (aD afd (hr.mono (by decide)) rfl T.acO T.q8.kp T.FJ .nil aF (aa (pv 0) (aa (pv 2) (aa (pv 4) (aa (pv 5) aj))))))) (au (bj (j4 PySem.F.plainAttrs_list PySem.F.slot_list_append PySem.F.type_list_append bK (pv 3) (aa (fQ (aa (pv 4) (aa (pv 5) aj))) aj)))) aO))) (au (aG (fQ (aa (pv 2) (aa (pv 3) aj)))))))) ?_
  tm_up
  refine⟨l,b,xs,ss,rfl,hS,hg,hn,fun f H1 s1 n1 h1=>?_⟩
  refine⟨big (by show 0 <= 1000;omega),fun lo hlo=>?_⟩
  have s1':=s1.trans (aB.upd (o:=.lst []) hlo)
  tm_up
  refine⟨l,b,xs,ss,rfl,s1'.seq hS,hg.same s1',hn,fun r zs H2 s2 n2 h2 hz=>⟨_,rfl,⟨_,bh.of h2⟩,?_⟩⟩
  have aqQ:H lo=none:=s1.free hlo
  have nfl:f≠lo:=aC h1 hlo
  have nrf:r≠f:=fun e=>by
   have:=s1'.free n2
   have h1':=aB.upd (o:=.lst []) hlo _ _ h1
   rw[← e,n2] at h1';cases h1'
  have nrl:r≠lo:=fun e=>by rw[e,ak] at n2;cases n2
  have bl:(lH b (cu ss)).length=ss.length:=by rw[Dk,List.length_map]
  have cnt:(Hk b (cu ss)).length <= 401:=by
   have:=vI (oG b (cu ss)) 0 0
   rw[yF,List.length_map] at this
   exact Nat.le_trans this (by omega)
  refine yz (K:=K) (xs:=zs) (fun i σ H'=>∃ (v w:Option V) (c:RdS) (ys:List V),σ=[some (.ref l),some (.int b),some (.ref f),some (.ref lo),v,w]/\aB H H'/\H' f=some (.lst (c.1.map V.int))/\H' lo=some (.lst ys)/\Prs H' ys c.2/\H' r=some (.lst zs)/\Prs H' zs (Hk b (cu ss))/\c.1.length=ss.length/\c.2.length <= i/\((Hk b (cu ss)).drop i).foldl (yG (cu ss)) c=oJ b (cu ss))
   ⟨none,none,(lH b (cu ss),[]),[],rfl,s1'.trans s2,s2 _ _ (aB.upd (o:=.lst []) hlo _ _ h1),s2 _ _ ak,.nil,h2,hz,bl,Nat.le_refl _,rfl⟩ ?_ ?_ ?_
  ·rintro i σ H' _ ⟨v,w,c,ys,rfl,_,_,_,_,hr,_⟩
   exact bh.of hr
  ·rintro i x σ H' hx ⟨v,w,c,ys,rfl,s3,hf3,avw,hys,hr3,hzs,hcl,hci,Bd⟩
   obtain⟨pr,hpr,p,rfl,hp⟩:=wu hzs hx
   have hin:=aqq b (cu ss) pr (List.mem_of_getElem? hpr)
   rw[List.length_map] at hin
   rw[xO hpr,List.foldl_cons] at Bd
   have hil:i < 401:=by
    have:=(List.getElem?_eq_some_iff.mp hpr).1
    omega
   refine⟨p,_,rfl,nJ.of hp,rfl,_,_,rfl,_,_,rfl,rfl,?_⟩
   tm_up
   refine⟨l,f,pr.1,pr.2,xs,ss,c.1,rfl,s3.seq hS,hg.same s3,hf3,hcl,hin.1,hin.2,?_⟩
   have s4:aB H (upd H' f (.lst ((settle (cu ss) c.1 pr.1 pr.2).2.map V.int))):=dD s3 n1
   have akd:upd H' f (.lst ((settle (cu ss) c.1 pr.1 pr.2).2.map V.int)) lo=some (.lst ys):=by rw[aA nfl.symm];exact avw
   have hr4:upd H' f (.lst ((settle (cu ss) c.1 pr.1 pr.2).2.map V.int)) r=some (.lst zs):=by rw[aA nrf];exact hr3
   have asS:(settle (cu ss) c.1 pr.1 pr.2).2.length=ss.length:=by rw[Nb];exact hcl
   tm_up
   refine bJ (fun h=>?_) (fun h=>?_)
   ·have hst:(settle (cu ss) c.1 pr.1 pr.2).1=false:=by
     cases e:(settle (cu ss) c.1 pr.1 pr.2).1
     ·rfl
     ·rw[e] at h;cases h
    tm_up
    refine⟨.inl ⟨rfl,_,bh.of akd⟩,?_⟩
    tm_up
    refine⟨by show 2 <= sizeLine;decide,fun z hz=>?_⟩
    have sz:=aB.upd (o:=.tup [.int (pr.1:Int),.int (pr.2:Int)]) hz
    have aip:=sz _ _ akd
    refine⟨_,_,_,rfl,rfl,aip,by rw[bZ hys];exact bc (by omega),?_⟩
    refine⟨_,_,((settle (cu ss) c.1 pr.1 pr.2).2,c.2++[pr]),_,rfl,dD (s4.trans sz) aqQ,by rw[aA nfl];exact sz _ _ ak,ak,oF (yH aip (Ab sz (yH hf3 hys))) (ah3 aip ⟨z,rfl,ak⟩),
     by rw[aA nrl];exact sz _ _ hr4,yH aip (Ab sz (yH hf3 hzs)),asS,by simp;omega,?_⟩
    rw[← Bd]
    unfold yG
    rw[hst]
    rfl
   ·have hst:(settle (cu ss) c.1 pr.1 pr.2).1=true:=by
     cases e:(settle (cu ss) c.1 pr.1 pr.2).1
     ·rw[e] at h;exact absurd rfl h
     ·rfl
    refine⟨_,_,((settle (cu ss) c.1 pr.1 pr.2).2,c.2),ys,rfl,s4,ak,akd,yH hf3 hys,hr4,yH hf3 hzs,asS,by show c.2.length <= i+1;omega,?_⟩
    rw[← Bd]
    unfold yG
    rw[hst]
    rfl
  ·rintro σ H' ⟨v,w,c,ys,rfl,s3,hf3,avw,hys,hr3,hzs,hcl,hci,Bd⟩
   rw[bZ hz,List.drop_length] at Bd
   have e:c=oJ b (cu ss):=Bd
   subst e
   tm_up
   refine⟨by show 2 <= sizeLine;decide,fun z hz=>?_⟩
   have sz:=aB.upd (o:=.tup [.ref f,.ref lo]) hz
   exact q z f lo ys _ (s3.trans sz) n1 aqQ nfl ak (sz _ _ hf3) (sz _ _ avw) (Ab sz hys)
inductive ad5 (K:Frag)(vs:List V)(H:Hp)(Q:VK)(E:XK):Prop
 | mk (l:Addr) (b:Int) (xs:List V) (ss:List Sg) (gj:vs=[.ref l,.int b]) (gk:bh K H l xs) (jc:nP H xs ss) (n8:ss.length <= 400) (xJ:∀ (f:Addr) (H':Hp),aB H H'->H f=none->H' f=some (.lst ((oJ b (cu ss)).1.map V.int))->Q (.ref f) H'):ad5 K vs H Q E
theorem anL (T:Txt K w mg t):bW P w K mg base jF (0+6) t.yR t.Rg ["line","begin"] (ad5 K):=by
 have anM:=akc (P:=P) (w:=w) (base:=base) T
 refine T.zj.ok anw (fun vs H Q E h=>?_) (fun cdv A outer s H vs Q E hr h=>?_)
 ·obtain⟨_,_,_,_,rfl,_⟩:=h
  rfl
 ·obtain⟨l,b,xs,ss,rfl,hS,hg,hn,q⟩:=h
  refine bA (au (aG (bH bx (aD anM (hr.mono (by decide)) rfl T.aj3 T.DY.kp T.U9 .nil aF (aa (pv 0) (aa (pv 1) aj))) az (fun _ _=>rfl)))) ?_
  tm_up
  refine⟨l,b,xs,ss,rfl,hS,hg,hn,fun p f lo ys H' s1 n1 n2 _ hp hf _ _=>?_⟩
  tm_up
  exact q f H' s1 n1 hf
theorem aqR (k:Kd):(([(Str.ofString "3",V.str "2"),(Str.ofString "2",V.str "3")]:List (Str×V)).lookup k.str).getD (.str k.str)=.str (adT k).str:=by cases k <;> decide +kernel
inductive ad6 (K:Frag)(vs:List V)(H:Hp)(Q:VK)(E:XK):Prop
 | mk (l:Addr) (xs:List V) (ss:List Sg) (gj:vs=[.ref l]) (gk:bh K H l xs) (jc:nP H xs ss) (n8:ss.length <= 400) (xJ:∀ (f:Addr) (ys:List V) (H':Hp),aB H H'->H f=none->H' f=some (.lst ys)->nP H' ys (ss.map Af)->Q (.ref f) H'):ad6 K vs H Q E
theorem ad7 (T:Txt K w mg t):bW P w K mg base jF (0+1) t.yU t.aac ["line"] (ad6 K):=by
 refine T.Ea.ok anx (fun vs H Q E h=>?_) (fun cdv A outer s H vs Q E hr h=>?_)
 ·obtain⟨_,_,_,rfl,_⟩:=h
  rfl
 ·obtain⟨l,xs,ss,rfl,hS,hg,hn,q⟩:=h
  refine bA (au (aG (lF (cn:=["kind","tone"]) rfl (cU.of rfl) (dX (pv 0)) (fun _=>(iR rfl (bu (aU (i:=0) XQ rfl (Or.inl rfl)) (bu (aU (i:=1) XQ rfl (Or.inl rfl)) eZ)))) (fun _=>kO) (fun _=>(fQ (aa (ap8 (cT (v:=.ref t.fD) rfl T.aaw rfl) (pv 0) (pv 0)) (aa (pv 1) aj))))))) ?_
  tm_up
  refine⟨⟨xs,hS⟩,fun D b hD=>?_⟩
  refine eN (K:=K) (xs:=xs) (fun i ys σ H'=>∃ (v w:Option V),σ=[v,w,some (.ref l)]/\aB H H'/\H' D=some (.lst ys)/\nP H' ys ((ss.take i).map Af))
   ⟨none,none,rfl,aB.upd hD,ak,.nil⟩ ?_ ?_ ?_
  ·rintro i ys σ H' ⟨v,w,rfl,s2,_⟩
   exact s2.seq hS
  ·rintro i ys x σ H' hx ⟨v,w,rfl,s2,Rw,hsg⟩ N hN
   obtain⟨s,hs,p,rfl,hp⟩:=wu hg hx
   have hi:i < ss.length:=(List.getElem?_eq_some_iff.mp hs).1
   refine⟨p,_,rfl,nJ.of (s2 _ _ hp),rfl,_,_,rfl,_,_,rfl,rfl,?_⟩
   refine⟨_,_,rfl,T.Yt,?_⟩
   tm_up
   rw[aqR]
   refine⟨by show 2 <= sizeLine;decide,fun z hz=>?_⟩
   have sz:=aB.upd (o:=.tup [.str (adT s.1).str,.int s.2]) hz
   have hD3:=sz _ _ Rw
   refine⟨hD3,?_,?_⟩
   ·rw[bZ hsg,List.length_map,List.length_take]
    exact bc (by omega)
   ·refine hN _ _ _ ⟨_,_,rfl,dD (s2.trans sz) hD,ak,?_⟩
    rw[List.take_succ,hs,List.map_append]
    exact oF (aeH hD3 (hsg.same sz)) (ah0 hD3 ⟨z,rfl,ak⟩)
  ·rintro ys σ H' ⟨v,w,rfl,s2,Rw,hsg⟩
   rw[bZ hg,List.take_length] at hsg
   exact q D ys H' s2 hD Rw hsg
inductive Mw (c:Cs)(vs:List V)(H:Hp)(Q:VK)(E:XK):Prop
 | mk (x:Addr) (F:Addr->Prop) (vw:Vw) (ps fs:List Vw) (n:Str) (ss:List Sg) (gj:vs=[.ref x,.str n]) (gk:Ni c H x F vw ps fs) (jc:bR vw n=some (.pl ss)) (n8:∀ (l:Addr) (ys:List V) (H':Hp),H l=none->aB H H'->H' l=some (.lst ys)->nP H' ys ss->Q (.ref l) H'):Mw c vs H Q E
theorem acV (T:Txt K w mg t):bW P w K mg base jF (0+3) t.iy t.Ai ["self","name"] (Mw (cs t)):=by
 have gf:=oU (P:=P) (w:=w) (base:=base) T
 have aaI:=ad7 (P:=P) (w:=w) (base:=base) T
 have cR:=iK (P:=P) (w:=w) (base:=base) T
 refine T.vR.ok cM (fun vs H Q E h=>?_) (fun cdv A outer s H vs Q E hr h=>?_)
 ·obtain⟨_,_,_,_,_,_,_,rfl,_⟩:=h
  rfl
 ·obtain⟨x,F,vw,ps,fs,n,ss,rfl,B,hf,q⟩:=h
  refine bA (ao (aX (i:=2) cM.nd rfl (Or.inl rfl) (bM (pv 0) T.aZ T.oM gf (hr.mono (by decide)) T.jU .nil aF (aa (pv 1) aj))) (ao (bC (aJ aeu (pv 2) MP (aQ _)) (au (aG (cz QL rfl T.iI iu (aa (cY (bM (pv 0) T.aZ T.iC cR (hr.mono (by decide)) T.dO .nil aF (aa (pv 1) aj)) rfl) aj)))) aO) (ao (qx (pv 2) (iR rfl (bu (aU (i:=3) cM.nd rfl (Or.inl rfl)) (bu (aU (i:=4) cM.nd rfl (Or.inl rfl)) (bu (aU (i:=5) cM.nd rfl (Or.inl rfl)) (bu (aU (i:=6) cM.nd rfl (Or.inl rfl)) eZ)))))) (ao (aX (i:=7) cM.nd rfl (Or.inl rfl) aqd) (au (aG (fV (j0 (bD (pv 6)) (aD aaI (hr.mono (by decide)) rfl T.ad0 T.Ea.kp T.Rk .nil aF (aa (pv 7) aj)) (pv 7))))))))) ?_
  obtain⟨L,D,U,all,M,Ps,Fs,es,us,b,iM,pp,pf,f⟩:=B.ex
  obtain⟨dx,hx⟩:=b.hx
  obtain⟨vx,g,gv⟩:=b.Ib iM
  refine⟨_,rfl,x,dx,_,rfl,hx,qz _ _ _,_,rfl,x,F,vw,ps,fs,n,rfl,B,?_⟩
  rw[hf]
  refine⟨_,rfl,rfl,_,rfl,?_⟩
  refine bJ (fun _=>?_) (fun h=>absurd (by decide) h)
  refine⟨_,rfl,x,dx,_,rfl,hx,je _ _ _,_,rfl,x,dx,L,D,U,M L,vx,n,rfl,hx,b.hL,g,?_⟩
  rcases Z1 gv (fun _ _ r=>r.2.1) n with ⟨f1,f2⟩ | ⟨a,th,j,f1,f2,r,an,fj,fw⟩
  ·rw[f2] at hf
   cases hf
  rw[f1]
  rw[f2] at hf
  cases hf
  refine⟨a.o,_,a.d,_,_,rfl,(b.ha a r.1).1,T.j6,T.c7,Dl _ _ _,?_⟩
  refine⟨_,_,rfl,.inl (bh.of (b.ha a r.1).2),fun l hl=>?_⟩
  exact q l _ _ hl (aB.upd hl) ak (r.2.2.2.same (aB.upd hl))
inductive RN (c:Cs)(vs:List V)(H:Hp)(Q:VK)(E:XK):Prop
 | mk (x:Addr) (F:Addr->Prop) (vw:Vw) (ps fs:List Vw) (n:Str) (gj:vs=[.ref x,.str n]) (gk:Ni c H x F vw ps fs) (jc:match bR vw n with
 | none=>RX E c .vy H
 | some _=>∀ (l:Addr) (ys:List V) (H':Hp),H l=none->aB H H'->H' l=some (.lst ys)->nP H' ys (Ie vw n)->Q (.ref l) H'):RN c vs H Q E
theorem RP (T:Txt K w mg t):bW P w K mg base jF (0+4) t.iy t.Ai ["self","name"] (RN (cs t)):=by
 have afe:=acV (P:=P) (w:=w) (base:=base) T
 have gf:=oU (P:=P) (w:=w) (base:=base) T
 have aaI:=ad7 (P:=P) (w:=w) (base:=base) T
 have cR:=iK (P:=P) (w:=w) (base:=base) T
 refine T.vR.ok cM (fun vs H Q E h=>?_) (fun cdv A outer s H vs Q E hr h=>?_)
 ·obtain⟨_,_,_,_,_,_,rfl,_⟩:=h
  rfl
 ·obtain⟨x,F,vw,ps,fs,n,rfl,B,q⟩:=h
  refine bA (ao (aX (i:=2) cM.nd rfl (Or.inl rfl) (bM (pv 0) T.aZ T.oM gf (hr.mono (by decide)) T.jU .nil aF (aa (pv 1) aj))) (ao (bC (aJ aeu (pv 2) MP (aQ _)) (au (aG (cz QL rfl T.iI iu (aa (cY (bM (pv 0) T.aZ T.iC cR (hr.mono (by decide)) T.dO .nil aF (aa (pv 1) aj)) rfl) aj)))) aO) (ao (qx (pv 2) (iR rfl (bu (aU (i:=3) cM.nd rfl (Or.inl rfl)) (bu (aU (i:=4) cM.nd rfl (Or.inl rfl)) (bu (aU (i:=5) cM.nd rfl (Or.inl rfl)) (bu (aU (i:=6) cM.nd rfl (Or.inl rfl)) eZ)))))) (ao (aX (i:=7) cM.nd rfl (Or.inl rfl) (bM (pv 0) T.aZ T.q9 afe (hr.mono (by decide)) T.mO .nil aF (aa (pv 3) aj))) (au (aG (fV (j0 (bD (pv 6)) (aD aaI (hr.mono (by decide)) rfl T.ad0 T.Ea.kp T.Rk .nil aF (aa (pv 7) aj)) (pv 7))))))))) ?_
  obtain⟨L,D,U,all,M,Ps,Fs,es,us,b,iM,pp,pf,f⟩:=B.ex
  obtain⟨dx,hx⟩:=b.hx
  obtain⟨vx,g,gv⟩:=b.Ib iM
  have wv:=B.wv vw (.inr (.inl rfl))
  refine⟨_,rfl,x,dx,_,rfl,hx,qz _ _ _,_,rfl,x,F,vw,ps,fs,n,rfl,B,?_⟩
  cases hf:bR vw n with
  | none =>
   rw[hf] at q
   exact (Bool.noConfusion (show false=true from q.1))
  | some th =>
   rw[hf] at q
   cases th with
   | pl ss =>
    refine⟨_,rfl,rfl,_,rfl,?_⟩
    refine bJ (fun _=>?_) (fun h=>absurd (by decide) h)
    refine⟨_,rfl,x,dx,_,rfl,hx,je _ _ _,_,rfl,x,dx,L,D,U,M L,vx,n,rfl,hx,b.hL,g,?_⟩
    rcases Z1 gv (fun _ _ r=>r.2.1) n with ⟨f1,f2⟩ | ⟨a,th,j,f1,f2,r,an,fj,fw⟩
    ·rw[f2] at hf
     cases hf
    rw[f1]
    rw[f2] at hf
    cases hf
    refine⟨a.o,_,a.d,_,_,rfl,(b.ha a r.1).1,T.j6,T.c7,Dl _ _ _,?_⟩
    refine⟨_,_,rfl,.inl (bh.of (b.ha a r.1).2),fun l hl=>?_⟩
    exact q l _ _ hl (aB.upd hl) ak (by rw[Ds f2];exact r.2.2.2.same (aB.upd hl))
   | cn ld lt sl tn =>
    intro p hp
    refine⟨_,rfl,rfl,_,rfl,?_⟩
    refine bJ (fun h=>by have:=of_decide_eq_true h;cases this) (fun _=>?_)
    obtain⟨⟨ss,hld⟩,_⟩:=wv.ld n ld lt sl tn (dm hf)
    have hfl:=wv.find hld
    have gl:=(wv.gd _ _ hld).1
    rw[Dt hf hfl] at q
    refine⟨_,rfl,p,_,rfl,nJ.of hp,rfl,_,_,rfl,_,_,rfl,_,_,rfl,_,_,rfl,rfl,?_⟩
    refine⟨_,rfl,x,dx,_,rfl,hx,vK _ _ _,_,rfl,x,F,vw,ps,fs,ld,ss,rfl,B,hfl,fun l ys H1 hl s1 h1 g1=>?_⟩
    refine⟨fun v H'=>∃ l' ys',v=.ref l'/\H l'=none/\aB H H'/\H' l'=some (.lst ys')/\nP H' ys' (if tn=true then ss.map Af else ss),?_,?_⟩
    ·refine⟨_,rfl,_,rfl,?_⟩
     cases tn with
     | true =>
      refine wj ⟨_,rfl,l,ys,ss,rfl,bh.of h1,g1,by omega,fun f' ys' H2 s2 hf' h2 g2=>⟨f',ys',rfl,s1.free hf',s1.trans s2,h2,g2⟩⟩
     | false=>exact di ⟨_,rfl,l,ys,rfl,hl,s1,h1,g1⟩
    ·rintro v H' ⟨l',ys',rfl,a1,a2,a3,a4⟩
     exact q l' ys' H' a1 a2 a3 a4
inductive RQ (c:Cs)(vs:List V)(H:Hp)(Q:VK)(E:XK):Prop
 | mk (x:Addr) (F:Addr->Prop) (vw:Vw) (ps fs:List Vw) (n:Str) (gj:vs=[.ref x,.str n]) (gk:Ni c H x F vw ps fs) (jc:match bR vw n with
 | none=>RX E c .vy H
 | some _=>∀ (l:Addr) (H':Hp),H l=none->aB H H'->H' l=some (.lst ((lY vw n).map V.int))->Q (.ref l) H'):RQ c vs H Q E
theorem RT (T:Txt K w mg t):bW P w K mg base jF (0+7) t.jC t.Iz ["self","name"] (RQ (cs t)):=by
 have gf:=oU (P:=P) (w:=w) (base:=base) T
 have aiq:=anL (P:=P) (w:=w) (base:=base) T
 have vY:=RP (P:=P) (w:=w) (base:=base) T
 refine T.Aq.ok jN (fun vs H Q E h=>?_) (fun cdv A outer s H vs Q E hr h=>?_)
 ·obtain⟨_,_,_,_,_,_,rfl,_⟩:=h
  rfl
 ·obtain⟨x,F,vw,ps,fs,n,rfl,B,q⟩:=h
  refine bA (ao (aX (i:=2) jN.nd rfl (Or.inl rfl) (bM (pv 0) T.aZ T.oM gf (hr.mono (by decide)) T.jU .nil aF (aa (pv 1) aj))) (ao (bC (aJ aeu (pv 2) MP (aQ _)) (au (aG (aD aiq (hr.mono (by decide)) rfl T.adZ T.zj.kp T.Rj .nil aF (aa (bM (pv 0) T.aZ T.q9 vY (hr.mono (by decide)) T.mO .nil aF (aa (pv 1) aj)) (aa az aj))))) aO) (ao (qx (pv 2) (iR rfl (bu (aU (i:=3) jN.nd rfl (Or.inl rfl)) (bu (aU (i:=4) jN.nd rfl (Or.inl rfl)) (bu (aU (i:=5) jN.nd rfl (Or.inr rfl)) (bu (aU (i:=6) jN.nd rfl (Or.inl rfl)) eZ)))))) (ao (aX (i:=7) jN.nd rfl (Or.inl rfl) (fV (j0 (bD (pv 6)) az az))) (au (aG (lF (cn:=["worth"]) rfl (cU.of rfl) (dX (aD aiq (hr.mono (by decide)) rfl T.adZ T.zj.kp T.Rj .nil aF (aa (bM (pv 0) T.aZ T.q9 vY (hr.mono (by decide)) T.mO .nil aF (aa (pv 1) aj)) (aa (pv 7) aj)))) (fun _=>(aU (i:=0) Z9 rfl (Or.inl rfl))) (fun _=>kO) (fun _=>(aV (v8.or v9) (pv 6) (pv 0)))))))))) ?_
  obtain⟨L,D,U,all,M,Ps,Fs,es,us,b,iM,pp,pf,f⟩:=B.ex
  obtain⟨dx,hx⟩:=b.hx
  have wv:=B.wv vw (.inr (.inl rfl))
  refine⟨_,rfl,x,dx,_,rfl,hx,qz _ _ _,_,rfl,x,F,vw,ps,fs,n,rfl,B,?_⟩
  cases hf:bR vw n with
  | none =>
   rw[hf] at q
   exact (Bool.noConfusion (show false=true from q.1))
  | some th =>
   rw[hf] at q
   cases th with
   | pl ss =>
    have gl:=(wv.gd _ _ (dm hf)).1
    refine⟨_,rfl,rfl,_,rfl,?_⟩
    refine bJ (fun _=>?_) (fun h=>absurd (by decide) h)
    refine⟨_,rfl,x,dx,_,rfl,hx,vK _ _ _,_,rfl,x,F,vw,ps,fs,n,rfl,B,?_⟩
    rw[hf]
    intro l ys H1 hl s1 h1 g1
    rw[Ds hf] at g1
    refine⟨l,3,ys,ss,rfl,bh.of h1,g1,by omega,fun f' H2 s2 n2 h2=>?_⟩
    exact q f' H2 (s1.free n2) (s1.trans s2) (by rw[Q0 hf];exact h2)
   | cn ld lt sl tn =>
    intro p hp
    obtain⟨⟨ss,hld⟩,lt0,lt1,sl0,sl1⟩:=wv.ld n ld lt sl tn (dm hf)
    have hfl:=wv.find hld
    have gl:=(wv.gd _ _ hld).1
    rw[Q3 hf hfl] at q
    refine⟨_,rfl,rfl,_,rfl,?_⟩
    refine bJ (fun h=>by have:=of_decide_eq_true h;cases this) (fun _=>?_)
    refine⟨_,rfl,p,_,rfl,nJ.of hp,rfl,_,_,rfl,_,_,rfl,_,_,rfl,_,_,rfl,rfl,?_⟩
    refine⟨fun v H'=>v=.int (if tn=true then 2 else 3)/\H'=H,?_,?_⟩
    ·refine⟨_,rfl,_,rfl,?_⟩
     cases tn with
     | true=>exact wj ⟨rfl,rfl⟩
     | false=>exact di ⟨rfl,rfl⟩
    intro v0 H0 ⟨e1,e2⟩
    rw[e1,e2]
    refine⟨_,rfl,x,dx,_,rfl,hx,vK _ _ _,_,rfl,x,F,vw,ps,fs,n,rfl,B,?_⟩
    rw[hf]
    intro l ys H1 hl s1 h1 g1
    rw[Dt hf hfl] at g1
    have gl2:(if tn=true then ss.map Af else ss).length <= 400:=by
     split
     ·rw[List.length_map];omega
     ·omega
    refine⟨_,rfl,l,(if tn=true then 2 else 3),ys,_,rfl,bh.of h1,g1,gl2,fun f' H2 s2 n2 h2=>?_⟩
    generalize hW:(oJ (if tn=true then 2 else 3) (cu (if tn=true then ss.map Af else ss))).1=W at q h2
    have hWl:W.length <= 400:=by rw[← hW,yg,List.length_map];exact gl2
    refine⟨f',rfl,⟨_,bh.of h2⟩,fun D' b' hD'=>?_⟩
    generalize hbz:(if tn=true then (2:Int) else 3)=bz
    refine eN (K:=K) (xs:=W.map V.int) (fun i ys σ H'=>∃ v,σ=[v,some (.ref x),some (.str n),some (.ref p),some (.str ld),some (.int lt),some (.int sl),some (.bl tn),some (.int bz)]/\H'=upd H2 D' (.lst ys)/\ys=((W.take i).map fun w=>sl * w).map V.int) ⟨none,rfl,rfl,by simp⟩ ?_ ?_ ?_
    ·rintro i ys σ H' ⟨v,rfl,rfl,_⟩
     exact jd (bh.of h2) hD'
    ·rintro i ys y σ H' hy ⟨v,rfl,rfl,rfl⟩ N hN
     obtain⟨z,hz,rfl⟩:=M8 hy
     have hi:i < W.length:=(List.getElem?_eq_some_iff.mp hz).1
     refine fU ?_
     refine⟨_,rfl,_,rfl,.inl ⟨_,_,rfl,rfl,.inl ⟨by omega,by omega⟩,ak,?_,?_⟩⟩
     ·rw[List.length_map,List.length_map,List.length_take]
      exact bc (by omega)
     ·refine hN _ _ _ ⟨_,rfl,dB,?_⟩
      rw[List.take_succ,hz,List.map_append,List.map_append]
      rfl
    ·rintro ys σ H' ⟨v,rfl,rfl,rfl⟩
     rw[List.length_map,List.take_length]
     exact q D' _ (s1.free (s2.free hD')) ((s1.trans s2).trans (aB.upd hD')) ak
inductive ad8 (c:Cs)(vs:List V)(H:Hp)(Q:VK)(E:XK):Prop
 | mk (x:Addr) (F:Addr->Prop) (vw:Vw) (ps fs:List Vw) (n:Str) (th:Th) (gj:vs=[.ref x,.str n]) (gk:Ni c H x F vw ps fs) (jc:bR vw n=some th) (n8:∀ H',aB H H'->Q (.int (aaE th+Dj (lY vw n))) H'):ad8 c vs H Q E
theorem anN (T:Txt K w mg t):bW P w K mg base jF (0+8) t.yV t.aad ["book","name"] (ad8 (cs t)):=by
 have air:=afc (P:=P) (w:=w) (base:=base) T
 have Be:=RT (P:=P) (w:=w) (base:=base) T
 refine T.Jh.ok anz (fun vs H Q E h=>?_) (fun cdv A outer s H vs Q E hr h=>?_)
 ·obtain⟨_,_,_,_,_,_,_,rfl,_⟩:=h
  rfl
 ·obtain⟨x,F,vw,ps,fs,n,th,rfl,B,hf,q⟩:=h
  refine bA (au (aG (aV (bN.or (aR.or bO)) (aD air (hr.mono (by decide)) rfl T.aeY T.vQ.kp T.Jg .nil aF (aa (pv 0) (aa (pv 1) aj))) (aH ahT rfl T.aqC apY (aa (bM (pv 0) T.aZ T.FN Be (hr.mono (by decide)) T.vU .nil aF (aa (pv 1) aj)) aj))))) ?_
  have wv:=B.wv vw (.inr (.inl rfl))
  obtain⟨kb,kl,ll,b0,b9⟩:=amC wv hf
  obtain⟨L,D,U,all,M,Ps,Fs,es,us,b,_⟩:=B.ex
  obtain⟨dx,hx⟩:=b.hx
  tm_up
  refine⟨x,F,vw,ps,fs,n,th,rfl,B,hf,?_⟩
  tm_up
  refine⟨x,dx,_,rfl,hx,Ia _ _ _,_,rfl,x,F,vw,ps,fs,n,rfl,B,?_⟩
  rw[hf]
  intro k1 H1 nk1 s1 hk1
  tm_up
  refine⟨rfl,k1,lY vw n,rfl,bh.of hk1,fun x hx=>⟨(kb x hx).1,by have:=(kb x hx).2;omega⟩,by omega,?_⟩
  tm_up
  exact q H1 s1
inductive Mx (c:Cs)(vs:List V)(H:Hp)(Q:VK)(E:XK):Prop
 | mk (x:Addr) (F:Addr->Prop) (vw:Vw) (ps fs:List Vw) (gj:vs=[.ref x]) (gk:Ni c H x F vw ps fs) (jc:∀ (l:Addr) (H':Hp),H l=none->aB H H'->H' l=some (.lst (vw.map fun a=>V.str a.1))->Q (.ref l) H'):Mx c vs H Q E
theorem vD (T:Txt K w mg t):bW P w K mg base jF (0+1) t.iB t.Fl ["self"] (Mx (cs t)):=by
 refine T.xW.ok acL (fun vs H Q E h=>?_) (fun cdv A outer s H vs Q E hr h=>?_)
 ·obtain⟨_,_,_,_,_,rfl,_⟩:=h
  rfl
 ·obtain⟨x,F,vw,ps,fs,rfl,B,q⟩:=h
  refine bA (au (aG (lF (cn:=["voice"]) rfl (cU.of rfl) (dX (cY (pv 0) rfl)) (fun _=>(aU (i:=0) Yp rfl (Or.inl rfl))) (fun _=>kO) (fun _=>(cY (pv 0) rfl))))) ?_
  obtain⟨L,D,U,all,M,Ps,Fs,es,us,b,i,pp,pf,f⟩:=B.ex
  obtain⟨dx,hx⟩:=b.hx
  obtain⟨vx,g,gv⟩:=b.Ib i
  have hL:=b.hL
  have xl:=bZ g
  have vl:=bZ gv
  have ln:=(b.wf M (.inr (.inl rfl))).len
  have hn:=au9 gv fun _ _ r=>r.2.1
  refine⟨_,rfl,x,_,dx,_,_,rfl,hx,T.aZ,T.dg,yI _ _ _,L,rfl,⟨_,bh.of hL⟩,fun D' b' hD'=>?_⟩
  refine eN (K:=K) (xs:=M L) (fun i ys σ H'=>∃ v,σ=[v,some (.ref x)]/\H'=upd H D' (.lst ys)/\ys=(vx.take i).map fun a=>V.str a.n) ⟨none,rfl,rfl,by simp⟩ ?_ ?_ ?_
  ·rintro i ys σ H' ⟨v,rfl,rfl,_⟩
   exact jd (bh.of hL) hD'
  ·rintro i ys y σ H' hy ⟨v,rfl,rfl,rfl⟩ N hN
   obtain⟨a,e1,rfl,ha⟩:=wu g hy
   have hi:i < vx.length:=(List.getElem?_eq_some_iff.mp e1).1
   refine fU ?_
   refine⟨_,rfl,a.o,_,a.d,_,_,rfl,by rw[aA (aC ha hD')];exact ha,T.j6,T.iZ,ah4 _ _ _,ak,?_,?_⟩
   ·rw[List.length_map,List.length_take]
    exact bc (by omega)
   ·refine hN _ _ _ ⟨_,rfl,dB,?_⟩
    rw[List.take_succ,e1]
    simp
  ·rintro ys σ H' ⟨v,rfl,rfl,rfl⟩
   rw[xl,List.take_length,hn]
   exact q D' _ hD' (aB.upd hD') ak
def rE (vw:Vw):List (Str×Int):=vw.map fun q=>(q.1,aaE q.2+Dj (lY vw q.1))
def ad9 (ns:List Int)(m:Int):Prop:=(ns=[]->m=0)/\(ns≠[]->m∈ns/\∀ x∈ns,x <= m)
theorem aea (vw:Vw):(rE vw).length=vw.length:=by unfold rE;rw[List.length_map]
theorem aaJ {vw:Vw}{i:Nat}{q:Str×Th}(h:vw[i]? = some q):(rE vw)[i]? = some (q.1,aaE q.2+Dj (lY vw q.1)):=by
 unfold rE
 rw[List.getElem?_map,h]
 rfl
theorem ake {α β:Type}{F:α->β->Prop}{xs:List α}{ys:List β}{i:Nat}{x:α}{y:β}(h:Paired F xs (ys.take i))(e:ys[i]? = some y)(r:F x y):Paired F (xs++[x]) (ys.take (i+1)):=by
 rw[List.take_succ,e]
 exact oF h r
theorem asZ {ns:List Int}{v:V}(h:(ns=[]/\v=.int 0) ∨ ∃ m,v=.int m/\m∈ns/\∀ x∈ns,x <= m):∃ m,v=.int m/\ad9 ns m:=by
 rcases h with ⟨e,rfl⟩ | ⟨m,rfl,hm,hx⟩
 ·exact⟨0,rfl,fun _=>rfl,fun n=>absurd e n⟩
 ·exact⟨m,rfl,(fun e=>by rw[e] at hm;cases hm),fun _=>⟨hm,hx⟩⟩
inductive ais (c:Cs)(vs:List V)(H:Hp)(Q:VK)(E:XK):Prop
 | mk (x:Addr) (F:Addr->Prop) (vw:Vw) (ps fs:List Vw) (gj:vs=[.ref x]) (gk:Ni c H x F vw ps fs) (jc:∀ (l:Addr) (ys:List V) (m:Int) (H':Hp),H l=none->aB H H'->H' l=some (.lst ys)->ad9 ((rE vw).map (·.2)) m->Paired (j5 H') ys ((rE vw).map fun q=>(q.1,m - q.2))->Q (.ref l) H'):ais c vs H Q E
theorem aqS (T:Txt K w mg t):bW P w K mg base jF (0+9) t.Fo t.aeS ["book"] (ais (cs t)):=by
 have aqT:=anN (P:=P) (w:=w) (base:=base) T
 have iQ:=vD (P:=P) (w:=w) (base:=base) T
 refine T.Lw.ok Z4 (fun vs H Q E h=>?_) (fun cdv A outer s H vs Q E hr h=>?_)
 ·obtain⟨_,_,_,_,_,rfl,_⟩:=h
  rfl
 ·obtain⟨x,F,vw,ps,fs,rfl,B,q⟩:=h
  refine bA (ao (yD (i:=1) Z4.nd rfl rfl (cn:=["name"]) rfl (cU.of rfl) (dX (gG (pv 0) T.aZ T.oO iQ (hr.mono (by decide)) T.jV .nil aF)) (fun _=>(aU (i:=0) ajY rfl (Or.inl rfl))) (fun _=>kO) (fun _=>(fQ (aa (pv 0) (aa (aD aqT (hr.mono (by decide)) rfl T.anB T.Jh.kp T.aan .nil aF (aa (pv 1) (aa (pv 0) aj))) aj))))) (ao (aX (i:=2) Z4.nd rfl (Or.inr rfl) (asC rfl rfl T.ae1 (aa (lF (cn:=["name","end"]) rfl (cU.of rfl) (dX (pv 1)) (fun _=>(iR rfl (bu (aU (i:=0) Fd rfl (Or.inl rfl)) (bu (aU (i:=1) Fd rfl (Or.inl rfl)) eZ)))) (fun _=>kO) (fun _=>(pv 1))) aj) az)) (au (aG (lF (cn:=["name","end"]) rfl (cU.of rfl) (dX (pv 1)) (fun _=>(iR rfl (bu (aU (i:=0) Fd rfl (Or.inl rfl)) (bu (aU (i:=1) Fd rfl (Or.inl rfl)) eZ)))) (fun _=>kO) (fun _=>(fQ (aa (pv 0) (aa (aV jE (pv 4) (pv 1)) aj))))))))) ?_
  have wv:=B.wv vw (.inr (.inl rfl))
  have wl:=wv.len
  have el:=aea vw
  obtain⟨L,D0,U,all,M,Ps,Fs,es,us,bb,_⟩:=B.ex
  obtain⟨dx,hx⟩:=bb.hx
  refine⟨_,rfl,x,dx,_,rfl,hx,qy _ _ _,x,F,vw,ps,fs,rfl,B,fun l1 H1 n1 s1 h1=>⟨l1,rfl,⟨_,bh.of h1⟩,fun D b hD=>?_⟩⟩
  refine eN (K:=K) (xs:=vw.map fun q=>V.str q.1) (fun i zs σ H'=>∃ u,σ=[u,some (.ref x),none,none]/\aB H1 H'/\H' D=some (.lst zs)/\Paired (j5 H') zs ((rE vw).take i)/\i <= vw.length) ⟨none,rfl,aB.upd hD,ak,.nil,Nat.zero_le _⟩ ?_ ?_ ?_
  ·rintro i zs σ H' ⟨u,rfl,s2,_⟩
   exact bh.of (s2 _ _ h1)
  ·rintro i zs y σ H' hy ⟨u,rfl,s2,Rw,pz,il⟩ N hN
   obtain⟨⟨n,th⟩,hq,rfl⟩:∃ qn,vw[i]? = some qn/\y=.str qn.1:=by
    rw[List.getElem?_map] at hy
    cases e:vw[i]? with
    | none=>rw[e] at hy;cases hy
    | some z=>rw[e] at hy;exact⟨z,rfl,(Option.some.inj hy).symm⟩
   have il2:i < vw.length:=(List.getElem?_eq_some_iff.mp hq).1
   have hf:=wv.find (List.mem_of_getElem? hq)
   have zl:=bZ pz
   rw[List.length_take] at zl
   refine fU ?_
   refine⟨_,rfl,_,rfl,_,rfl,x,F,vw,ps,fs,n,th,rfl,B.same (s1.trans s2),hf,fun H5 s5=>?_⟩
   refine⟨big (by show 2 <= 1000;omega),fun pp hpp=>?_⟩
   have st:=aB.upd (o:=.tup [.str n,.int (aaE th+Dj (lY vw n))]) hpp
   have hD5:=st _ _ (s5 _ _ Rw)
   refine⟨hD5,bc (by omega),hN _ _ _ ⟨_,rfl,dD ((s2.trans s5).trans st) hD,ak,ake (bV (fun _ _ q=>j5.write hD5 (j5.same (s5.trans st) q)) pz) (aaJ hq) ?_,il2⟩⟩
   exact j5.write hD5 ⟨pp,rfl,ak⟩
  ·rintro zs σ H2 ⟨u,rfl,s2,Rw,pz,_⟩
   rw[List.length_map,← el,List.take_length] at pz
   have zl:=bZ pz
   have S2:=s1.trans s2
   refine⟨_,rfl,D,rfl,⟨_,bh.of Rw⟩,fun D2 b2 hD2=>?_⟩
   refine eN (K:=K) (xs:=zs) (fun i ws σ H'=>∃ u v,σ=[u,v,some (.ref x),some (.ref D),none]/\H'=upd H2 D2 (.lst ws)/\ws=((rE vw).take i).map fun q=>V.int q.2) ⟨none,none,rfl,rfl,by simp⟩ ?_ ?_ ?_
   ·rintro i ws σ H' ⟨u,v,rfl,rfl,_⟩
    exact jd (bh.of Rw) hD2
   ·rintro i ws y σ H' hy ⟨u,v,rfl,rfl,rfl⟩ N hN
    obtain⟨⟨n,e⟩,hq,p,rfl,hp⟩:=wu pz hy
    have il2:i < (rE vw).length:=(List.getElem?_eq_some_iff.mp hq).1
    unfold Hi
    refine⟨p,_,rfl,nJ.of (show upd H2 D2 _ p=_ by rw[aA (aC hp hD2)];exact hp),rfl,_,_,rfl,_,_,rfl,rfl,?_⟩
    refine⟨_,rfl,ak,bc (by rw[List.length_map,List.length_take];omega),hN _ _ _ ⟨_,_,rfl,dB,?_⟩⟩
    rw[List.take_succ,hq]
    simp
   ·rintro ws σ H3' ⟨u,v,rfl,rfl,rfl⟩
    rw[zl,List.take_length]
    have s3:=aB.upd (o:=.lst ((rE vw).map fun q=>V.int q.2)) hD2
    have h3:=ak (H:=H2) (a:=D2) (o:=.lst ((rE vw).map fun q=>V.int q.2))
    generalize upd H2 D2 (.lst ((rE vw).map fun q=>V.int q.2))=H3 at s3 h3
    have h3':H3 D2=some (.lst (((rE vw).map (·.2)).map V.int)):=by rw[h3,List.map_map];rfl
    have hD3:=s3 _ _ Rw
    have pz3:=bV (fun _ _ q=>j5.same s3 q) pz
    have S3:=S2.trans s3
    refine⟨D2,_,rfl,bh.of h3',fun v hv=>?_⟩
    obtain⟨m,rfl,hm⟩:=asZ hv
    clear hv
    refine⟨_,rfl,D,rfl,⟨_,bh.of hD3⟩,fun D4 b4 hD4=>?_⟩
    refine eN (K:=K) (xs:=zs) (fun i ws σ H'=>∃ u v,σ=[u,v,some (.ref x),some (.ref D),some (.int m)]/\aB H3 H'/\H' D4=some (.lst ws)/\Paired (j5 H') ws (((rE vw).map fun q=>(q.1,m - q.2)).take i)/\i <= vw.length) ⟨none,none,rfl,aB.upd hD4,ak,.nil,Nat.zero_le _⟩ ?_ ?_ ?_
    ·rintro i ws σ H' ⟨u,v,rfl,s4,_⟩
     exact bh.of (s4 _ _ hD3)
    ·rintro i ws y σ H' hy ⟨u,v,rfl,s4,avx,pw,il⟩ N hN
     obtain⟨⟨n,e⟩,hq,p,rfl,hp⟩:=wu pz3 hy
     have il2:i < (rE vw).length:=(List.getElem?_eq_some_iff.mp hq).1
     have wsl:=bZ pw
     rw[List.length_take] at wsl
     unfold Hi
     refine⟨p,_,rfl,nJ.of (s4 _ _ hp),rfl,_,_,rfl,_,_,rfl,rfl,?_⟩
     refine⟨_,rfl,_,rfl,_,rfl,_,_,rfl,rfl,?_⟩
     refine⟨big (by show 2 <= 1000;omega),fun pp hpp=>?_⟩
     have st:=aB.upd (o:=.tup [.str n,.int (m - e)]) hpp
     have hD5:=st _ _ avx
     refine⟨hD5,bc (by omega),hN _ _ _ ⟨_,_,rfl,dD (s4.trans st) hD4,ak,ake (y:=(n,m - e)) (bV (fun _ _ q=>j5.write hD5 (j5.same st q)) pw) (by rw[List.getElem?_map,hq];rfl) ?_,by omega⟩⟩
     exact j5.write hD5 ⟨pp,rfl,ak⟩
    ·rintro ws σ H4 ⟨u,v,rfl,s4,avx,pw,_⟩
     rw[zl,← List.length_map (f:=fun q:Str×Int=>(q.1,m - q.2)),List.take_length] at pw
     exact q D4 ws m H4 (S3.free hD4) (S3.trans s4) avx hm pw
theorem _root_.L2.ZK.same {H H':Hp}{a:Addr}{y:V}{r:Option V}(s:aB H H')(h:ZK H a y r):ZK H' a y r:=by
 have rd:∀ {u},Rd H a u->Rd H' a u:=fun z=>z.imp (fun e=>s _ _ e) fun ⟨o,e⟩=>⟨o,s _ _ e⟩
 rcases h with ⟨kvs,k,e,e2,e3⟩ | ⟨kvs,k,b,e,e2,e3,e4⟩
 ·exact .inl ⟨kvs,k,rd e,e2,e3⟩
 ·exact .inr ⟨kvs,k,b,rd e,e2,s _ _ e3,e4⟩
theorem Vi {K:Frag}{H:Hp}{p:Addr}{a b c d:V}{i:Nat}{v:V}{Q:VK}(h:H p=some (.tup [a,b,c,d]))(e:[a,b,c,d][i]? = some v)(q:Q v H):ahK K (.ref p) (.int (i:Int)) H Q∨ahL K (.ref p) (.int (i:Int)) H Q∨ahM (.ref p) (.int (i:Int)) H Q:=.inr (.inl ⟨p,_,i,v,rfl,rfl,nJ.of h,QG e,q⟩)
inductive RV (K:Frag)(vs:List V)(H:Hp)(Q:VK)(E:XK):Prop
 | mk (d:Addr) (vw:Vw) (n:Str) (th:Th) (gj:vs=[.ref d,.str n]) (gk:Q4 H d vw) (jc:LC vw) (n8:bR vw n=some th) (xJ:∀ (l:Addr) (ys:List V) (H':Hp),aB H H'->H' l=some (.lst ys)->nP H' ys (Ie vw n)->Q (.ref l) H'):RV K vs H Q E
theorem RW (T:Txt K w mg t):bW P w K mg base jF (0+1) t.mF t.IK ["_law_voices","_law_name"] (RV K):=by
 refine T.qp.ok qH (fun vs H Q E h=>?_) (fun cdv A outer s H vs Q E hr h=>?_)
 ·obtain⟨_,_,_,_,rfl,_⟩:=h
  rfl
 ·obtain⟨d,vw,n,th,rfl,hd,wv,hf,q⟩:=h
  refine bA (ao (aX (i:=2) qH.nd rfl (Or.inl rfl) (xN (QM hr) (pv 0) (pv 1) (fun _ _=>rfl))) (ao (bC (bD (aH cZ rfl T.bG bF (aa (pv 2) (aa (eY (v:=.ty "list") rfl T.iI iu rfl) aj)))) (au (aG (pv 2))) aO) (ao (bC (cF (bD (bH bx (pv 2) az (fun _ _=>rfl)))) (au (aG (xN (QM hr) (pv 0) (bH bx (pv 2) az (fun _ _=>rfl)) (fun _ _=>rfl)))) aO) (ao (aX (i:=3) qH.nd rfl (Or.inl rfl) (cj aj)) (ao (jk PassesOwn.never rfl (dX (xN (QM hr) (pv 0) (bH bx (pv 2) az (fun _ _=>rfl)) (fun _ _=>rfl))) (aU (i:=4) qH.nd rfl (Or.inl rfl)) (ao (aX (i:=5) qH.nd rfl (Or.inl rfl) (fV (j0 (aJ (cP.or (bQ (aY hr))) (bH bx (pv 4) az (fun _ _=>rfl)) cA (aQ _)) cA (fV (j0 (aJ (cP.or (bQ (aY hr))) (bH bx (pv 4) az (fun _ _=>rfl)) cA (aQ _)) cA (bH bx (pv 4) az (fun _ _=>rfl))))))) (au (bj (j4 PySem.F.plainAttrs_list PySem.F.slot_list_append PySem.F.type_list_append bK (pv 3) (aa (fQ (aa (pv 5) (aa (bH bx (pv 4) az (fun _ _=>rfl)) aj))) aj)))))) (au (aG (pv 3)))))))) ?_
  obtain⟨v,hg,hv⟩:=hd.get hf
  refine⟨_,rfl,_,rfl,d,v,rfl,hg,?_⟩
  cases th with
  | pl ss =>
   obtain⟨l,ys,rfl,h1,h2⟩:=hv
   tm_up
   refine⟨_,_,_,_,rfl,iT.lst h1,rfl,_,rfl,wj ?_⟩
   exact⟨_,rfl,q l ys H (aB.refl _) h1 (by rw[Ds hf];exact h2)⟩
  | cn ld lt sl tn =>
   obtain⟨p,rfl,hp⟩:=hv
   obtain⟨⟨ss,hld⟩,_⟩:=wv.ld n ld lt sl tn (dm hf)
   have hfl:=wv.find hld
   have gl:=(wv.gd _ _ hld).1
   rw[Dt hf hfl] at q
   obtain⟨v2,hg2,l,ys,rfl,h1,h2⟩:=hd.get hfl
   tm_up
   refine⟨_,_,_,_,rfl,iT.tup hp,rfl,_,rfl,di ?_⟩
   refine⟨_,rfl,Vi (i:=3) hp rfl ?_⟩
   refine⟨_,rfl,?_⟩
   cases tn with
   | false =>
    refine wj ?_
    refine⟨_,rfl,_,rfl,Vi (i:=0) hp rfl ?_⟩
    exact⟨d,_,rfl,hg2,q l ys H (aB.refl _) h1 h2⟩
   | true =>
    refine di ?_
    refine⟨big (by show 0 <= 1000;omega),fun told aqU=>?_⟩
    have s1:=aB.upd (o:=.lst []) aqU
    have ht1:=ak (H:=H) (a:=told) (o:=.lst [])
    generalize upd H told (.lst [])=H1 at s1 ht1
    have y3:=bZ h2
    refine⟨_,rfl,_,rfl,Vi (i:=0) (s1 _ _ hp) rfl ?_⟩
    have nlt:l≠told:=aC h1 aqU
    have hg3:ZK H1 d (.str ld) (some (.ref l)):=hg2.same s1
    refine⟨d,_,rfl,hg3,l,rfl,⟨_,bh.of (s1 _ _ h1)⟩,yz (K:=K) (xs:=ys) (fun i σ H'=>∃ (u k:Option V) (zs:List V),σ=[some (.ref d),some (.str n),some (.ref p),some (.ref told),u,k]/\aB H H'/\H' told=some (.lst zs)/\nP H' zs ((ss.take i).map Af)) ⟨none,none,[],rfl,s1,ht1,.nil⟩ ?_ ?_ ?_⟩
    ·rintro i σ H' _ ⟨u,k,zs,rfl,s2,_⟩
     exact bh.of (s2 _ _ h1)
    ·rintro i y σ H' hy ⟨u,k,zs,rfl,s2,ht2,gz⟩
     obtain⟨sg,hsg,ps,rfl,hps⟩:=wu h2 hy
     have hi:i < ss.length:=(List.getElem?_eq_some_iff.mp hsg).1
     have as3:=s2 _ _ hps
     have zl:=bZ gz
     rw[List.length_map,List.length_take] at zl
     refine⟨fun v Hx=>v=.str (adT sg.1).str/\Hx=H',?_,?_⟩
     ·refine⟨_,rfl,ix0 as3 ?_⟩
      refine .inl ⟨rfl,_,rfl,?_⟩
      rw[aqn]
      refine bJ (fun h=>?_) (fun h=>?_)
      ·rw[of_decide_eq_true h]
       exact⟨rfl,rfl⟩
      ·have h':sg.1≠.two:=fun z=>h (decide_eq_true z)
       refine⟨fun v Hx=>v=.str (adT sg.1).str/\Hx=H',?_,fun _ _ z=>z⟩
       refine⟨_,rfl,ix0 as3 ?_⟩
       refine .inl ⟨rfl,_,rfl,?_⟩
       rw[aeG]
       refine bJ (fun h3=>?_) (fun h3=>?_)
       ·rw[of_decide_eq_true h3]
        exact⟨rfl,rfl⟩
       ·have h3':sg.1≠.three:=fun z=>h3 (decide_eq_true z)
        refine⟨_,rfl,ix0 as3 ⟨?_,rfl⟩⟩
        cases hk:sg.1 <;> first | rfl | exact absurd hk h' | exact absurd hk h3'
     intro v Hx ⟨e1,e2⟩
     rw[e1,e2]
     refine⟨_,rfl,.inl ⟨rfl,_,bh.of ht2⟩,_,rfl,_,rfl,ix1 as3 ?_⟩
     refine⟨by show 2 <= sizeLine;decide,fun tp htp=>?_⟩
     have s3:=aB.upd (o:=.tup [V.str (adT sg.1).str,V.int sg.2]) htp
     refine⟨told,_,_,rfl,rfl,s3 _ _ ht2,bc (by omega),?_⟩
     refine⟨_,_,zs++[.ref tp],rfl,dD (s2.trans s3) aqU,ak,?_⟩
     rw[List.take_succ,hsg,List.map_append]
     exact oF (aeH (s3 _ _ ht2) (gz.same s3)) (ah0 (s3 _ _ ht2) ⟨tp,rfl,ak⟩)
    ·rintro σ H' ⟨u,k,zs,rfl,s2,ht2,gz⟩
     rw[y3,List.take_length] at gz
     exact⟨_,rfl,q told zs H' s2 ht2 gz⟩
theorem avy {k:Kd}(h:k.meas=true)(m:Int):intText? k.str=some (nm m k)/\k.str.length <= 640:=by
 cases k <;> first | (cases h;done) | exact⟨by first | exact (show intText? Kd.three.str=some 3 by decide +kernel) | exact (show intText? Kd.two.str=some 2 by decide +kernel),by decide +kernel⟩
theorem axs {k:Kd}(h:¬ k.meas=true)(m:Int):nm m k=m:=by
 cases k <;> first | rfl | exact absurd rfl h
theorem ait (k:Kd):k.meas=(decide (k=.three) || decide (k=.two)):=by cases k <;> rfl
theorem amF (k:Kd):inS k.str ".32" = k.parting:=by cases k <;> decide +kernel
theorem RZ (k:Kd):inS k.str "sdr" = k.small:=by cases k <;> decide +kernel
theorem as4 {k:Kd}(h:k.parting=true)(m:Int)(n:Option Kd):bw m k n=0:=by cases k <;> first | (cases h;done) | (unfold bw;rw[if_neg (by rintro ⟨_,z,_⟩;cases z)];rfl)
theorem aqV {k:Kd}(h:k.small=true)(m:Int)(n:Option Kd):bw m k n=1:=by cases k <;> first | (cases h;done) | (unfold bw;rw[if_neg (by rintro ⟨_,z,_⟩;cases z)];rfl)
theorem azB (m:Int)(n:Option Kd):bw m .D n=2:=by unfold bw;rw[if_neg (by rintro ⟨_,z,_⟩;cases z)];rfl
theorem as5 {k:Kd}{m:Int}{n:Option Kd}(hm:Ms m)(h1:k.parting=false)(h2:k.small=false)(h3:k≠.D)(h4:¬ (m=2/\k=.G/\n=some .dot)):bw m k n=m:=by
 unfold bw
 rw[if_neg h4]
 rcases hm with rfl | rfl <;> cases k <;> first | (cases h1;done) | (cases h2;done) | rfl | exact absurd rfl h3
inductive aeb (K:Frag)(vs:List V)(H:Hp)(Q:VK)(E:XK):Prop
 | mk (l:Addr) (b:Int) (xs:List V) (ss:List Sg) (gj:vs=[.ref l,.int b]) (gk:Ms b) (jc:bh K H l xs) (n8:nP H xs ss) (xJ:ss.length <= 400) (h5_:∀ (f:Addr) (H':Hp),aB H H'->H f=none->H' f=some (.lst ((lH b (cu ss)).map V.int))->Q (.ref f) H'):aeb K vs H Q E
theorem anO (T:Txt K w mg t):bW P w K mg base jF (0+1) t.yW t.aae ["_law_line_here","_law_begin"] (aeb K):=by
 refine T.Ji.ok yx (fun vs H Q E h=>?_) (fun cdv A outer s H vs Q E hr h=>?_)
 ·obtain⟨_,_,_,_,rfl,_⟩:=h
  rfl
 ·obtain⟨l,b,xs,ss,rfl,hMs,hS,hg,hn,q⟩:=h
  have p62:(2:Int) ^ 62=4611686018427387904:=by decide
  refine bA (ao (aX (i:=2) yx.nd rfl (Or.inl rfl) (cj aj)) (ao (aX (i:=3) yx.nd rfl (Or.inl rfl) (pv 1)) (ao (jk PassesOwn.never rfl (tQ rfl T.rA (aa (aH (aM.or aN) rfl T.cC cB (aa (pv 0) aj)) aj)) (aU (i:=4) yx.nd rfl (Or.inl rfl)) (ao (aX (i:=5) yx.nd rfl (Or.inl rfl) (bH bx (bH bx (pv 0) (pv 4) (fun _ _=>rfl)) az (fun _ _=>rfl))) (ao (wk (bC (cG (PW.pt (lU (aJ (cP.or (bQ (aY hr))) (pv 5) cA (aQ _)) (jj (aJ (cP.or (bQ (aY hr))) (pv 5) cA (aQ _)))))) (au (aX (i:=3) yx.nd rfl (Or.inl rfl) (cz (yf.or j7) rfl T.N5 M3 (aa (pv 5) aj)))) aO)) (au (bC (aJ (gw.or gq) (pv 5) cA rfl) (au (bj (j4 PySem.F.plainAttrs_list PySem.F.slot_list_append PySem.F.type_list_append bK (pv 2) (aa az aj)))) (au (bC (aJ (gw.or gq) (pv 5) cA rfl) (au (bj (j4 PySem.F.plainAttrs_list PySem.F.slot_list_append PySem.F.type_list_append bK (pv 2) (aa az aj)))) (au (bC (aJ (cP.or (bQ (aY hr))) (pv 5) cA (aQ _)) (au (bj (j4 PySem.F.plainAttrs_list PySem.F.slot_list_append PySem.F.type_list_append bK (pv 2) (aa az aj)))) (au (bC (cG (PW.pt (fP (aJ (cP.or (bQ (aY hr))) (pv 3) az (aQ _)) (fP (aJ (cP.or (bQ (aY hr))) (pv 5) cA (aQ _)) (fP (aJ Dg (aV (bN.or (aR.or bO)) (pv 4) az) (aH (aM.or aN) rfl T.cC cB (aa (pv 0) aj)) (aQ _)) (ir (aJ (cP.or (bQ (aY hr))) (bH bx (bH bx (pv 0) (aV (bN.or (aR.or bO)) (pv 4) az) (fun _ _=>rfl)) az (fun _ _=>rfl)) cA (aQ _)))))))) (au (bj (j4 PySem.F.plainAttrs_list PySem.F.slot_list_append PySem.F.type_list_append bK (pv 2) (aa az aj)))) (au (bj (j4 PySem.F.plainAttrs_list PySem.F.slot_list_append PySem.F.type_list_append bK (pv 2) (aa (pv 3) aj))))))))))))))) (au (aG (pv 2)))))) ?_
  refine⟨big (by show 0 <= 1000;omega),fun f hf=>?_⟩
  tm_up
  refine .inl ⟨_,_,rfl,.inl (jd hS hf),?_⟩
  rw[bZ hg]
  refine⟨(ss.length:Int),rfl,by rw[p62];omega,by rw[p62];omega,?_⟩
  refine ye (n:=((ss.length:Int)).toNat) (fun i σ H'=>∃ (m:Int) (v w:Option V) (fs:List Int),σ=[some (.ref l),some (.int b),some (.ref f),some (.int m),v,w]/\Ms m/\H'=upd H f (.lst (fs.map V.int))/\fs++lH m ((cu ss).drop i)=lH b (cu ss))
   ⟨b,none,none,[],rfl,hMs,rfl,rfl⟩ ?_ ?_
  ·rintro i σ H' hi ⟨m,v,w,fs,rfl,hm3,rfl,hm⟩
   have hil:i < ss.length:=by omega
   have hd:=xO (HY (f:=Prod.fst) (List.getElem?_eq_getElem hil))
   rw[hd] at hm
   have hS':bh K (upd H f (.lst (fs.map V.int))) l xs:=jd hS hf
   have hg':nP (upd H f (.lst (fs.map V.int))) xs ss:=hg.same (aB.upd hf)
   have hl:=congrArg List.length hm
   simp only [List.length_append,lH,List.length_cons,Dk,List.length_map] at hl
   simp only [lH,head_drop] at hm
   tm_up
   refine acI hS' hg' (n:=i) (by omega) (List.getElem?_eq_getElem hil) fun p hp=>?_
   generalize hk:(ss[i]).1=k at hm hp
   tm_up
   refine ap9 [some (.ref l),some (.int b),some (.ref f),some (.int (nm m k)),some (.int (0+(i:Int))),some (.str k.str)] (upd H f (.lst (fs.map V.int))) ?_ ?_
   ·refine oE k.meas ?_ ?_
    ·tm_up
     rw[aeG]
     refine bJ (fun h=>?_) (fun h=>?_)
     ·exact fu (by rw[ait,h];rfl)
     ·tm_up
      rw[aqn]
      exact fu (by rw[ait,Bool.eq_false_iff.mpr h];rfl)
    refine bJ (fun h=>?_) (fun h=>?_)
    ·obtain⟨e1,e2⟩:=avy h m
     tm_up
     exact .inr ⟨_,_,rfl,e1,e2,rfl,rfl⟩
    ·rw[axs h]
     exact⟨rfl,rfl⟩
   have hm4:=hm3.nm k
   have fin:∀ (z:Int),z=bw (nm m k) k (cu ss)[i+1]?->∃ (m':Int) (v w:Option V) (fs':List Int),[some (V.ref l),some (V.int b),some (V.ref f),some (V.int (nm m k)),some (V.int (0+(i:Int))),some (V.str k.str)]=[some (.ref l),some (.int b),some (.ref f),some (.int m'),v,w]/\Ms m'/\upd (upd H f (.lst (fs.map V.int))) f (.lst (fs.map V.int++[V.int z]))=upd H f (.lst (fs'.map V.int))/\fs'++lH m' ((cu ss).drop (i+1))=lH b (cu ss):=by
    intro z hz
    exact⟨nm m k,_,_,fs++[z],rfl,hm4,by rw[dB,List.map_append];rfl,by rw[List.append_assoc,hz];exact hm⟩
   tm_up
   refine bJ (fun h=>?_) (fun h=>?_)
   ·have h':k.parting=true:=by rw[← amF];exact h
    tm_up
    refine⟨.inl ⟨rfl,_,bh.of ak⟩,?_⟩
    refine⟨_,_,_,rfl,rfl,ak,by rw[List.length_map];exact bc (by omega),fin 0 (as4 h' ..).symm⟩
   ·have h1:k.parting=false:=by rw[← amF];exact Bool.eq_false_iff.mpr h
    tm_up
    refine bJ (fun h=>?_) (fun h=>?_)
    ·have h':k.small=true:=by rw[← RZ];exact h
     tm_up
     refine⟨.inl ⟨rfl,_,bh.of ak⟩,?_⟩
     refine⟨_,_,_,rfl,rfl,ak,by rw[List.length_map];exact bc (by omega),fin 1 (aqV h' ..).symm⟩
    ·have h2:k.small=false:=by rw[← RZ];exact Bool.eq_false_iff.mpr h
     tm_up
     rw[k_D]
     refine bJ (fun h=>?_) (fun h=>?_)
     ·have h':k=.D:=of_decide_eq_true h
      tm_up
      refine⟨.inl ⟨rfl,_,bh.of ak⟩,?_⟩
      refine⟨_,_,_,rfl,rfl,ak,by rw[List.length_map];exact bc (by omega),fin 2 (by rw[h'];exact (azB ..).symm)⟩
     ·have h3:k≠.D:=fun z=>h (decide_eq_true z)
      refine oE (decide (nm m k=2/\k=.G/\(cu ss)[i+1]? = some .dot)) ?_ ?_
      ·tm_up
       rw[jm]
       refine bJ (fun h=>?_) (fun h=>?_)
       ·have e1:=of_decide_eq_true h
        tm_up
        rw[k_G]
        refine bJ (fun h=>?_) (fun h=>?_)
        ·have e2:=of_decide_eq_true h
         tm_up
         refine .inl ⟨_,_,rfl,.inl hS',?_⟩
         rw[bZ hg]
         tm_up
         refine bJ (fun h=>?_) (fun h=>?_)
         ·have hlt:i+1 < ss.length:=by have:=of_decide_eq_true h;omega
          tm_up
          refine acI hS' hg' (n:=i+1) (by omega) (List.getElem?_eq_getElem hlt) fun p2 hp2=>?_
          tm_up
          rw[aw1]
          refine fu ?_
          have e3:(cu ss)[i+1]? = some (ss[i+1]).1:=HY (List.getElem?_eq_getElem hlt)
          rw[e3]
          subst e2
          simp[e1]
         ·refine fu ?_
          have e3:(cu ss)[i+1]? = none:=List.getElem?_eq_none (by rw[List.length_map];have:¬ (0+(i:Int)+1 < ss.length):=fun z=>h (decide_eq_true z);omega)
          rw[e3]
          simp
        ·refine fu ?_
         have e2:k≠.G:=fun z=>h (decide_eq_true z)
         simp[e2]
       ·refine fu ?_
        have e1:nm m k≠2:=fun z=>h (decide_eq_true z)
        simp[e1]
      ·refine bJ (fun h=>?_) (fun h=>?_)
       ·have h':=of_decide_eq_true h
        tm_up
        refine⟨.inl ⟨rfl,_,bh.of ak⟩,?_⟩
        refine⟨_,_,_,rfl,rfl,ak,by rw[List.length_map];exact bc (by omega),fin 3 (by unfold bw;rw[if_pos h'])⟩
       ·have h':¬ (nm m k=2/\k=.G/\(cu ss)[i+1]? = some .dot):=fun z=>h (decide_eq_true z)
        tm_up
        refine⟨.inl ⟨rfl,_,bh.of ak⟩,?_⟩
        tm_up
        refine⟨_,_,_,rfl,rfl,ak,by rw[List.length_map];exact bc (by omega),fin _ (as5 hm4 h1 h2 h3 h').symm⟩
  ·rintro σ H' ⟨m,v,w,fs,rfl,_,rfl,hm⟩
   have e0:((ss.length:Int)).toNat=ss.length:=by omega
   rw[e0,List.drop_eq_nil_of_le (by rw[List.length_map];exact Nat.le_refl _)] at hm
   tm_up
   have e:fs=lH b (cu ss):=by rw[← hm];simp[lH]
   subst e
   exact q f _ (aB.upd hf) hf ak
inductive aaK (K:Frag)(vs:List V)(H:Hp)(Q:VK)(E:XK):Prop
 | mk (l:Addr) (b:Int) (xs:List V) (ss:List Sg) (gj:vs=[.ref l,.int b]) (gk:bh K H l xs) (jc:nP H xs ss) (n8:ss.length <= 400) (xJ:∀ (f:Addr) (H':Hp),aB H H'->H f=none->H' f=some (.lst ((ph b (cu ss)).map V.bl))->Q (.ref f) H'):aaK K vs H Q E
theorem axt {k:Kd}(h:k.meas=true)(m:Int):intText? k.str=some (nm m k)/\k.str.length <= 640:=by
 cases k <;> first | (cases h;done) | exact⟨by first | exact (show intText? Kd.three.str=some 3 by decide +kernel) | exact (show intText? Kd.two.str=some 2 by decide +kernel),by decide +kernel⟩
theorem azC {k:Kd}(h:¬ k.meas=true)(m:Int):nm m k=m:=by
 cases k <;> first | rfl | exact absurd rfl h
theorem amG (k:Kd):k.meas=(decide (k=.three) || decide (k=.two)):=by cases k <;> rfl
theorem akf (T:Txt K w mg t):bW P w K mg base jF (0+1) t.um t.UL ["_law_line_here","_law_begin"] (aaK K):=by
 refine T.Eb.ok yL (fun vs H Q E h=>?_) (fun cdv A outer s H vs Q E hr h=>?_)
 ·obtain⟨_,_,_,_,rfl,_⟩:=h
  rfl
 ·obtain⟨l,b,xs,ss,rfl,hS,hg,hn,q⟩:=h
  refine bA (ao (aX (i:=2) yL.nd rfl (Or.inl rfl) (cj aj)) (ao (aX (i:=3) yL.nd rfl (Or.inl rfl) (pv 1)) (ao (jk PassesOwn.never rfl (dX (pv 0)) (aU (i:=4) yL.nd rfl (Or.inl rfl)) (ao (wk (bC (cG (PW.pt (lU (aJ (cP.or (bQ (aY hr))) (bH bx (pv 4) az (fun _ _=>rfl)) cA (aQ _)) (jj (aJ (cP.or (bQ (aY hr))) (bH bx (pv 4) az (fun _ _=>rfl)) cA (aQ _)))))) (au (aX (i:=3) yL.nd rfl (Or.inl rfl) (cz (yf.or j7) rfl T.N5 M3 (aa (bH bx (pv 4) az (fun _ _=>rfl)) aj)))) aO)) (au (bj (j4 PySem.F.plainAttrs_list PySem.F.slot_list_append PySem.F.type_list_append bK (pv 2) (aa (dh (cP.or (bQ (aY hr))) (pv 3) az (aQ _)) aj)))))) (au (aG (pv 2)))))) ?_
  refine⟨big (by show 0 <= 1000;omega),fun f hf=>?_⟩
  tm_up
  refine⟨⟨xs,jd hS hf⟩,yz (K:=K) (xs:=xs) (fun i σ H'=>∃ (m:Int) (v:Option V) (fs:List Bool),σ=[some (.ref l),some (.int b),some (.ref f),some (.int m),v]/\H'=upd H f (.lst (fs.map V.bl))/\fs++ph m ((cu ss).drop i)=ph b (cu ss))
   ⟨b,none,[],rfl,rfl,rfl⟩ ?_ ?_ ?_⟩
  ·rintro i σ H' _ ⟨m,v,fs,rfl,rfl,_⟩
   exact jd hS hf
  ·rintro i x σ H' hx ⟨m,v,fs,rfl,rfl,hm⟩
   obtain⟨s,hs,p,rfl,hp⟩:=wu hg hx
   have hd:=xO (HY (f:=Prod.fst) hs)
   rw[hd] at hm
   have hp':upd H f (.lst (fs.map V.bl)) p=some (.tup [.str s.1.str,.int s.2]):=by rw[aA (aC hp hf)];exact hp
   have hl:=congrArg List.length hm
   simp only [List.length_append,ph,List.length_cons,ajP,List.length_map] at hl
   refine ap9 [some (.ref l),some (.int b),some (.ref f),some (.int (nm m s.1)),some (.ref p)] (upd H f (.lst (fs.map V.bl))) ?_ ?_
   ·refine oE s.1.meas ?_ ?_
    ·tm_up
     rw[aeG]
     refine bJ (fun h=>?_) (fun h=>?_)
     ·exact fu (by rw[amG,h];rfl)
     ·tm_up
      rw[aqn]
      exact fu (by rw[amG,Bool.eq_false_iff.mpr h];rfl)
    refine bJ (fun h=>?_) (fun h=>?_)
    ·obtain⟨e1,e2⟩:=axt h m
     tm_up
     exact .inr ⟨_,_,rfl,e1,e2,rfl,rfl⟩
    ·rw[azC h]
     exact⟨rfl,rfl⟩
   ·tm_up
    refine⟨.inl ⟨rfl,_,bh.of ak⟩,?_⟩
    tm_up
    rw[jm]
    refine⟨_,_,_,rfl,rfl,ak,by rw[List.length_map];exact bc (by omega),?_⟩
    exact⟨_,_,fs++[decide (nm m s.1=3)],rfl,by rw[dB,List.map_append];rfl,by rw[List.append_assoc];exact hm⟩
  ·rintro σ H' ⟨m,v,fs,rfl,rfl,hm⟩
   rw[List.drop_eq_nil_of_le (by rw[List.length_map,bZ hg];exact Nat.le_refl _)] at hm
   tm_up
   have e:fs=ph b (cu ss):=by rw[← hm];simp[ph]
   subst e
   exact q f _ (aB.upd hf) hf ak
def azD (K:Frag)(g:List Kd->List Int->Nat->Nat->Bool×List Int):Sp:=fun vs H Q _=>∃ (l f:Addr) (a z:Nat) (xs:List V) (ss:List Sg) (fs:List Int),vs=[.ref l,.ref f,.int (a:Int),.int (z:Int)]/\bh K H l xs/\nP H xs ss/\l≠f/\H f=some (.lst (fs.map V.int))/\fs.length=ss.length/\a < z/\z <= ss.length /\
 Q (.bl (g (cu ss) fs a z).1) (upd H f (.lst ((g (cu ss) fs a z).2.map V.int)))
theorem aaL (k:Kd):inS k.str "GDR" = k.great:=by cases k <;> decide +kernel
theorem Vj (o:Option Kd):(o.getD .dot).great=BR o:=by cases o <;> rfl
theorem azE (o:Option Kd):decide (o.getD .dot=.G)=decide (o=some .G):=by
 cases o with
 | none=>decide
 | some k=>simp
theorem anP {ks:List Kd}{f:List Int}{a z:Nat}{r:Nat}(hr:(z - a) % 3=r)(hr3:r < 3) :
  settle ks f a z=if decide (r=2) && (BR ks[z]? && decide (ks[z - 1]? = some .s)) then (true,f.set (z - 1) 2) else
   (decide (r=0) || ((decide (r=1) && (oH ks f a || jJ ks z)) || (decide (r=2) && (oH ks f a && jJ ks z))),
    let g:=if (decide (r=1) && oH ks f a) || (decide (r=2) && (oH ks f a && jJ ks z)) then f.set (a - 1) 2 else f
    if (decide (r=1) && (jJ ks z && !oH ks f a)) || (decide (r=2) && (oH ks f a && jJ ks z)) then g.set z 2 else g):=by
 unfold settle Lf Lg
 rw[hr]
 have:r=0∨r=1∨r=2:=by omega
 rcases this with rfl | rfl | rfl <;> cases oH ks f a <;> cases jJ ks z <;> cases BR ks[z]? <;> cases decide (ks[z - 1]? = some .s) <;> rfl
theorem aqW (T:Txt K w mg t):bW P w K mg base jF (0+1) t.Fp t.aeT ["_law_line_here","_law_told","_law_low","_law_high"] (azD K settle):=by
 refine T.Rn.ok DQ (fun vs H Q E h=>?_) (fun cdv A outer s H vs Q E hr h=>?_)
 ·obtain⟨_,_,_,_,_,_,_,rfl,_⟩:=h
  rfl
 ·obtain⟨l,f,a,z,xs,ss,fs,rfl,hS,hg,hlf,hf,hl,haz,hz,q⟩:=h
  obtain⟨r,hrr⟩:∃ r:Nat,(z - a) % 3=r:=⟨_,rfl⟩
  have hr3:r < 3:=by omega
  rw[anP hrr hr3] at q
  have hri:((z:Int) - (a:Int)) % 3=(r:Int):=by omega
  have dI:∀ n:Nat,decide (V.int (((z:Int) - (a:Int)) % 3)=V.int (n:Int))=decide (r=n):=fun n=>by
   rw[hri,jm]
   by_cases e:r=n
   ·simp[e]
   ·have:¬ ((r:Int)=(n:Int)):=by omega
    simp[e,this]
  have d0:decide (V.int (((z:Int) - (a:Int)) % 3)=V.int 0)=decide (r=0):=dI 0
  have d1:decide (V.int (((z:Int) - (a:Int)) % 3)=V.int 1)=decide (r=1):=dI 1
  have d2:decide (V.int (((z:Int) - (a:Int)) % 3)=V.int 2)=decide (r=2):=dI 2
  refine bA (ao (aX (i:=4) DQ.nd rfl (Or.inl rfl) (aV eF (aV jE (pv 3) (pv 2)) az)) (ao (aX (i:=5) DQ.nd rfl (Or.inl rfl) (fV (j0 (aJ Dg (pv 3) (aH (aM.or aN) rfl T.cC cB (aa (pv 0) aj)) (aQ _)) (bH bx (bH bx (pv 0) (pv 3) (fun _ _=>rfl)) az (fun _ _=>rfl)) cA))) (ao (aX (i:=6) DQ.nd rfl (Or.inl rfl) (fV (j0 (aJ Dg (aV (bN.or (aR.or bO)) (pv 3) az) (aH (aM.or aN) rfl T.cC cB (aa (pv 0) aj)) (aQ _)) (bH bx (bH bx (pv 0) (aV (bN.or (aR.or bO)) (pv 3) az) (fun _ _=>rfl)) az (fun _ _=>rfl)) cA))) (ao (aX (i:=7) DQ.nd rfl (Or.inl rfl) (fV (tM (dh ahG (pv 2) az (aQ _)) (tM (dh (cP.or (bQ (aY hr))) (bH bx (bH bx (pv 0) (aV jE (pv 2) az) (fun _ _=>rfl)) az (fun _ _=>rfl)) cA (aQ _)) (tL (dh (cP.or (bQ (aY hr))) (bH bx (pv 1) (aV jE (pv 2) az) (fun _ _=>rfl)) az (aQ _))))))) (ao (aX (i:=8) DQ.nd rfl (Or.inl rfl) (fV (tM (dh (cP.or (bQ (aY hr))) (pv 5) cA (aQ _)) (tL (dh (QJ.or QK) (pv 6) cA rfl))))) (ao (bC (cG (PW.pt (fP (aJ (cP.or (bQ (aY hr))) (pv 4) az (aQ _)) (fP (aJ (gw.or gq) (pv 5) cA rfl) (ir (aJ (cP.or (bQ (aY hr))) (bH bx (bH bx (pv 0) (aV jE (pv 3) az) (fun _ _=>rfl)) az (fun _ _=>rfl)) cA (aQ _))))))) (ao (qx az (HD (pv 1) (aV jE (pv 3) az) set_list)) (au (aG dY))) aO) (ao (wk (bC (cG (PW.pt (lU (cG (PW.pt (fP (aJ (cP.or (bQ (aY hr))) (pv 4) az (aQ _)) (ir (bD (pv 7)))))) (jj (cG (PW.pt (fP (aJ (cP.or (bQ (aY hr))) (pv 4) az (aQ _)) (fP (bD (pv 7)) (ir (bD (pv 8))))))))))) (au (qx az (HD (pv 1) (aV jE (pv 2) az) set_list))) aO)) (ao (wk (bC (cG (PW.pt (lU (cG (PW.pt (fP (aJ (cP.or (bQ (aY hr))) (pv 4) az (aQ _)) (fP (bD (pv 8)) (ir (cF (bD (pv 7)))))))) (jj (cG (PW.pt (fP (aJ (cP.or (bQ (aY hr))) (pv 4) az (aQ _)) (fP (bD (pv 7)) (ir (bD (pv 8))))))))))) (au (qx az (HD (pv 1) (pv 3) set_list))) aO)) (au (aG (fV (apo (dh (cP.or (bQ (aY hr))) (pv 4) az (aQ _)) (apo (fV (tM (dh (cP.or (bQ (aY hr))) (pv 4) az (aQ _)) (tL (fV (apo (pv 7) (tL (pv 8))))))) (tL (fV (tM (dh (cP.or (bQ (aY hr))) (pv 4) az (aQ _)) (tM (pv 7) (tL (pv 8))))))))))))))))))) ?_
  tm_up
  refine ZD (.str ((cu ss)[z]?.getD .dot).str) ?_ ?_
  ·tm_up
   refine .inl ⟨_,_,rfl,.inl hS,?_⟩
   rw[bZ hg]
   tm_up
   refine bJ (fun h=>?_) (fun h=>?_)
   ·have hlt:z < ss.length:=by have:=of_decide_eq_true h;omega
    tm_up
    refine acI hS hg (n:=z) rfl (List.getElem?_eq_getElem hlt) fun p hp=>?_
    tm_up
    refine xM ?_
    rw[List.getElem?_map,List.getElem?_eq_getElem hlt]
    rfl
   ·refine xM ?_
    have hge:¬ z < ss.length:=fun c=>h (decide_eq_true (by omega))
    rw[List.getElem?_eq_none (by rw[List.length_map];omega)]
    rfl
  refine ZD (.str ((cu ss)[z+1]?.getD .dot).str) ?_ ?_
  ·tm_up
   refine .inl ⟨_,_,rfl,.inl hS,?_⟩
   rw[bZ hg]
   tm_up
   refine bJ (fun h=>?_) (fun h=>?_)
   ·have hlt:z+1 < ss.length:=by have:=of_decide_eq_true h;omega
    tm_up
    refine acI hS hg (n:=z+1) (by omega) (List.getElem?_eq_getElem hlt) fun p hp=>?_
    tm_up
    refine xM ?_
    rw[List.getElem?_map,List.getElem?_eq_getElem hlt]
    rfl
   ·refine xM ?_
    have hge:¬ z+1 < ss.length:=fun c=>h (decide_eq_true (by omega))
    rw[List.getElem?_eq_none (by rw[List.length_map];omega)]
    rfl
  refine ZD (.bl (oH (cu ss) fs a)) ?_ ?_
  ·tm_up
   refine bJ (fun h=>?_) (fun h=>?_)
   ·have hp:0 < a:=by have:=of_decide_eq_true h;omega
    have hlt:a - 1 < ss.length:=by omega
    have ek:kAt (cu ss) ((a:Int) - 1)=some (ss[a - 1]).1:=by
     have:(a:Int) - 1=((a - 1:Nat):Int):=by omega
     rw[this,Aa,List.getElem?_map,List.getElem?_eq_getElem hlt]
     rfl
    tm_up
    refine acI hS hg (n:=a - 1) (by omega) (List.getElem?_eq_getElem hlt) fun p hp=>?_
    tm_up
    rw[k_G]
    refine bJ (fun h2=>?_) (fun h2=>?_)
    ·tm_up
     refine aqo (bh.of hf) (n:=a - 1) (by omega) (List.getElem?_eq_getElem (by omega)) ?_
     tm_up
     rw[jm]
     refine xM ?_
     unfold oH
     rw[ek,of_decide_eq_true h2,List.getD_eq_getElem?_getD,List.getElem?_eq_getElem (by omega)]
     simp
    ·refine xM ?_
     unfold oH
     rw[ek]
     have:(ss[a - 1]).1≠.G:=fun c=>h2 (decide_eq_true c)
     simp[this]
   ·refine xM ?_
    have hp:a=0:=by
     have:¬ 0 < a:=fun c=>h (decide_eq_true (by omega))
     omega
    subst hp
    unfold oH kAt
    simp
  refine ZD (.bl (jJ (cu ss) z)) ?_ ?_
  ·tm_up
   rw[k_G,azE]
   refine bJ (fun h=>?_) (fun h=>?_)
   ·tm_up
    refine xM ?_
    unfold jJ
    rw[h]
    show V.bl (!inS _ _)=_
    rw[aaL,Vj]
    rfl
   ·refine xM ?_
    unfold jJ
    rw[Bool.eq_false_iff.mpr h]
    rfl
  generalize hL:oH (cu ss) fs a=L at q
  generalize hR:jJ (cu ss) z=R at q
  refine oE (decide (r=2) && (BR (cu ss)[z]? && decide ((cu ss)[z - 1]? = some .s))) ?_ ?_
  ·tm_up
   rw[d2]
   refine bJ (fun h=>?_) (fun h=>?_)
   ·rw[h]
    tm_up
    refine bJ (fun h2=>?_) (fun h2=>?_)
    ·have h2':BR (cu ss)[z]? = true:=by
      have:inS ((cu ss)[z]?.getD .dot).str "GDR" = true:=h2
      rwa [aaL,Vj] at this
     rw[h2']
     tm_up
     have hlt:z - 1 < ss.length:=by omega
     refine acI hS hg (n:=z - 1) (by omega) (List.getElem?_eq_getElem hlt) fun p hp=>?_
     tm_up
     rw[k_s]
     refine fu ?_
     rw[List.getElem?_map,List.getElem?_eq_getElem hlt]
     simp
    ·have h2':BR (cu ss)[z]? = false:=by
      have:inS ((cu ss)[z]?.getD .dot).str "GDR" = false:=Bool.eq_false_iff.mpr h2
      rwa [aaL,Vj] at this
     rw[h2']
     exact fu rfl
   ·exact fu (by rw[Bool.eq_false_iff.mpr h];rfl)
  refine bJ (fun h=>?_) (fun h=>?_)
  ·rw[if_pos h] at q
   tm_up
   refine⟨_,_,_,_,rfl,rfl,hf,Ac (j:=z - 1) (by omega) (by rw[List.length_map];omega),?_⟩
   rw[vm]
   exact q
  ·rw[if_neg h] at q
   dsimp only at q
   have hLp:L=true->1 <= a/\a - 1 < ss.length:=fun e=>by
    have:=Up (hL.trans e)
    rwa [List.length_map] at this
   have hRp:R=true->z < ss.length:=fun e=>by
    have:=Nf (hR.trans e)
    rwa [List.length_map] at this
   generalize hg1:(if (decide (r=1) && L || decide (r=2) && (L && R))=true then fs.set (a - 1) 2 else fs)=g1 at q
   have g1l:g1.length=ss.length:=by rw[← hg1];split <;> simp[hl]
   refine ap9 [some (.ref l),some (.ref f),some (.int (a:Int)),some (.int (z:Int)),some (.int (((z:Int) - (a:Int)) % 3)),some (.str ((cu ss)[z]?.getD .dot).str),some (.str ((cu ss)[z+1]?.getD .dot).str),some (.bl L),some (.bl R)] (upd H f (.lst (g1.map V.int))) ?_ ?_
   ·refine oE (decide (r=1) && L || decide (r=2) && (L && R)) ?_ ?_
    ·refine oE (decide (r=1) && L) ?_ ?_
     ·tm_up
      rw[d1]
      refine bJ (fun h=>?_) (fun h=>?_)
      ·tm_up
       exact fu (by rw[h];rfl)
      ·exact fu (by rw[Bool.eq_false_iff.mpr h];rfl)
     ·refine bJ (fun h=>fu (by rw[h];rfl)) (fun h=>?_)
      rw[Bool.eq_false_iff.mpr h,Bool.false_or]
      refine oE (decide (r=2) && (L && R)) ?_ (fu rfl)
      tm_up
      rw[d2]
      refine bJ (fun h=>?_) (fun h=>?_)
      ·tm_up
       refine bJ (fun h2=>?_) (fun h2=>?_)
       ·tm_up
        exact fu (by rw[h,h2];rfl)
       ·exact fu (by rw[h,Bool.eq_false_iff.mpr h2];rfl)
      ·exact fu (by rw[Bool.eq_false_iff.mpr h];rfl)
    ·refine bJ (fun h=>?_) (fun h=>?_)
     ·rw[if_pos h] at hg1
      have hp:=hLp (by cases L <;> simp_all)
      tm_up
      refine⟨_,_,_,_,rfl,rfl,hf,Ac (j:=a - 1) (by omega) (by rw[List.length_map];omega),?_⟩
      rw[vm,hg1]
      exact⟨rfl,rfl⟩
     ·rw[if_neg h] at hg1
      subst hg1
      rw[QT hf]
      exact⟨rfl,rfl⟩
   generalize hg2:(if (decide (r=1) && (R && !L) || decide (r=2) && (L && R))=true then g1.set z 2 else g1)=g2 at q
   refine ap9 [some (.ref l),some (.ref f),some (.int (a:Int)),some (.int (z:Int)),some (.int (((z:Int) - (a:Int)) % 3)),some (.str ((cu ss)[z]?.getD .dot).str),some (.str ((cu ss)[z+1]?.getD .dot).str),some (.bl L),some (.bl R)] (upd H f (.lst (g2.map V.int))) ?_ ?_
   ·refine oE (decide (r=1) && (R && !L) || decide (r=2) && (L && R)) ?_ ?_
    ·refine oE (decide (r=1) && (R && !L)) ?_ ?_
     ·tm_up
      rw[d1]
      refine bJ (fun h=>?_) (fun h=>?_)
      ·tm_up
       refine bJ (fun h2=>?_) (fun h2=>?_)
       ·tm_up
        exact fu (by rw[h,h2];rfl)
       ·exact fu (by rw[h,Bool.eq_false_iff.mpr h2];rfl)
      ·exact fu (by rw[Bool.eq_false_iff.mpr h];rfl)
     ·refine bJ (fun h=>fu (by rw[h];rfl)) (fun h=>?_)
      rw[Bool.eq_false_iff.mpr h,Bool.false_or]
      refine oE (decide (r=2) && (L && R)) ?_ (fu rfl)
      tm_up
      rw[d2]
      refine bJ (fun h=>?_) (fun h=>?_)
      ·tm_up
       refine bJ (fun h2=>?_) (fun h2=>?_)
       ·tm_up
        exact fu (by rw[h,h2];rfl)
       ·exact fu (by rw[h,Bool.eq_false_iff.mpr h2];rfl)
      ·exact fu (by rw[Bool.eq_false_iff.mpr h];rfl)
    ·refine bJ (fun h=>?_) (fun h=>?_)
     ·rw[if_pos h] at hg2
      have hp:=hRp (by cases R <;> simp_all)
      tm_up
      refine⟨_,_,_,_,rfl,rfl,ak,Ac (j:=z) rfl (by rw[List.length_map];omega),?_⟩
      rw[vm,hg2,dB]
      exact⟨rfl,rfl⟩
     ·rw[if_neg h] at hg2
      subst hg2
      exact⟨rfl,rfl⟩
   refine ZD (.bl (decide (r=0) || (decide (r=1) && (L || R) || decide (r=2) && (L && R)))) ?_ q
   tm_up
   rw[d0]
   refine bJ (fun h=>xM (by rw[h];rfl)) (fun h=>?_)
   rw[Bool.eq_false_iff.mpr h,Bool.false_or]
   refine ZD (.bl (decide (r=1) && (L || R))) ?_ ?_
   ·tm_up
    rw[d1]
    refine bJ (fun h=>?_) (fun h=>xM (by rw[Bool.eq_false_iff.mpr h];rfl))
    refine ZD (.bl (L || R)) ?_ (xM (by rw[h];rfl))
    tm_up
    refine bJ (fun h=>xM (by rw[h];rfl)) (fun h=>?_)
    tm_up
    exact xM (by rw[Bool.eq_false_iff.mpr h];rfl)
   ·refine⟨_,rfl,?_⟩
    refine bJ (fun h=>xM (by rw[h];rfl)) (fun h=>?_)
    rw[Bool.eq_false_iff.mpr h,Bool.false_or]
    refine ZD (.bl (decide (r=2) && (L && R))) ?_ (xM rfl)
    tm_up
    rw[d2]
    refine bJ (fun h=>?_) (fun h=>xM (by rw[Bool.eq_false_iff.mpr h];rfl))
    tm_up
    refine bJ (fun h2=>?_) (fun h2=>?_)
    ·tm_up
     exact xM (by rw[h,h2];rfl)
    ·exact xM (by rw[h,Bool.eq_false_iff.mpr h2];rfl)
inductive aec (K:Frag)(vs:List V)(H:Hp)(Q:VK)(E:XK):Prop
 | mk (l:Addr) (b:Int) (xs:List V) (ss:List Sg) (gj:vs=[.ref l,.int b]) (gk:Ms b) (jc:H l=some (.lst xs)) (n8:nP H xs ss) (xJ:ss.length <= 400) (h5_:∀ (p f lo:Addr) (ys:List V) (H':Hp),aB H H'->H f=none->H lo=none->f≠lo->H' p=some (.tup [.ref f,.ref lo])->H' f=some (.lst ((oJ b (cu ss)).1.map V.int))->H' lo=some (.lst ys)->Prs H' ys (oJ b (cu ss)).2->Q (.ref p) H'):aec K vs H Q E
theorem anQ (T:Txt K w mg t):bW P w K mg base jF (0+2) t.yX t.aaf ["_law_line_here","_law_begin"] (aec K):=by
 have aqX:=anO (P:=P) (w:=w) (base:=base) T
 have anR:=akf (P:=P) (w:=w) (base:=base) T
 have as6:=aqW (P:=P) (w:=w) (base:=base) T
 refine T.Ec.ok qj (fun vs H Q E h=>?_) (fun cdv A outer s H vs Q E hr h=>?_)
 ·obtain⟨_,_,_,_,rfl,_⟩:=h
  rfl
 ·obtain⟨l,b,xs,ss,rfl,hMs,hS,hg,hn,q⟩:=h
  refine bA (ao (aX (i:=2) qj.nd rfl (Or.inl rfl) (aD aqX (hr.mono (by decide)) rfl T.anC T.Ji.kp T.aao .nil aF (aa (pv 0) (aa (pv 1) aj)))) (ao (aX (i:=3) qj.nd rfl (Or.inl rfl) (aD anR (hr.mono (by decide)) rfl T.aj4 T.Eb.kp T.Va .nil aF (aa (pv 0) (aa (pv 1) aj)))) (ao (aX (i:=4) qj.nd rfl (Or.inl rfl) (cj aj)) (ao (aX (i:=5) qj.nd rfl (Or.inl rfl) az) (ao (Zq PassesOwn.never (aJ Dg (pv 5) (aH (aM.or aN) rfl T.cC cB (aa (pv 0) aj)) (aQ _)) (ao (aX (i:=6) qj.nd rfl (Or.inl rfl) (pv 5)) (ao (Zq PassesOwn.never (cG (PW.pt (fP (aJ Dg (pv 6) (aH (aM.or aN) rfl T.cC cB (aa (pv 0) aj)) (aQ _)) (fP (aJ (gw.or gq) (bH bx (bH bx (pv 0) (pv 6) (fun _ _=>rfl)) az (fun _ _=>rfl)) cA rfl) (ir (bD (bH bx (pv 3) (pv 6) (fun _ _=>rfl)))))))) (au (aX (i:=6) qj.nd rfl (Or.inl rfl) (aV (bN.or (aR.or bO)) (pv 6) az)))) (ao (wk (bC (cG (PW.pt (fP (aJ ahG (pv 6) (pv 5) (aQ _)) (ir (cF (bD (aD as6 (hr.mono (by decide)) rfl T.aqB T.Rn.kp T.aeZ .nil aF (aa (pv 0) (aa (pv 2) (aa (pv 5) (aa (pv 6) aj))))))))))) (au (bj (j4 PySem.F.plainAttrs_list PySem.F.slot_list_append PySem.F.type_list_append bK (pv 4) (aa (fQ (aa (pv 5) (aa (pv 6) aj))) aj)))) aO)) (au (aX (i:=5) qj.nd rfl (Or.inl rfl) (aH (amY rfl) rfl T.ae1 ajG (aa (pv 6) (aa (aV (bN.or (aR.or bO)) (pv 5) az) aj))))))))) (au (aG (fQ (aa (pv 2) (aa (pv 4) aj)))))))))) ?_
  tm_up
  refine⟨l,b,xs,ss,rfl,hMs,bh.of hS,hg,hn,fun f H1 s1 n1 h1=>?_⟩
  tm_up
  refine⟨l,b,xs,ss,rfl,bh.of (s1 _ _ hS),hg.same s1,hn,fun th H2 s2 n2 h2=>?_⟩
  refine⟨big (by show 0 <= 1000;omega),fun lo hlo=>?_⟩
  have s3:=s2.trans (aB.upd (o:=.lst []) hlo)
  have aqQ:H lo=none:=s1.free (s2.free hlo)
  have nfl:f≠lo:=aC (s2 _ _ h1) hlo
  have ntl:th≠lo:=aC h2 hlo
  have ntf:th≠f:=fun e=>by rw[e,h1] at n2;cases n2
  have nlf:l≠f:=aC hS n1
  have bl:(lH b (cu ss)).length=ss.length:=by rw[Dk,List.length_map]
  have cnt:(Hk b (cu ss)).length <= 401:=by
   have:=vI (oG b (cu ss)) 0 0
   rw[yF,List.length_map] at this
   exact Nat.le_trans this (by omega)
  tm_up
  refine⟨fun mm σ H'=>∃ (low:Nat) (v:Option V) (c:RdS) (ys:List V),mm=ss.length - low/\low <= ss.length/\σ=[some (.ref l),some (.int b),some (.ref f),some (.ref th),some (.ref lo),some (.int (low:Int)),v]/\aB H H'/\H' f=some (.lst (c.1.map V.int))/\H' lo=some (.lst ys)/\Prs H' ys c.2/\H' th=some (.lst ((ph b (cu ss)).map V.bl))/\c.1.length=ss.length/\c.2.length+(gU low low ((oG b (cu ss)).drop low)).length <= 401/\(gU low low ((oG b (cu ss)).drop low)).foldl (yG (cu ss)) c=oJ b (cu ss),
   ⟨_,0,none,(lH b (cu ss),[]),[],rfl,Nat.zero_le _,rfl,s1.trans s3,s3 _ _ h1,ak,.nil,by rw[aA ntl];exact h2,bl,by show 0+(Hk b (cu ss)).length <= 401;omega,rfl⟩,?_⟩
  rintro mm σ H' ⟨low,v,c,ys,rfl,hlow,rfl,s4,hf4,akd,hys,hth,hcl,axv,Bd⟩
  have hl4:=s4 _ _ hS
  have hg4:=hg.same s4
  tm_up
  refine .inl ⟨_,_,rfl,.inl (bh.of hl4),?_⟩
  rw[bZ hg]
  tm_up
  refine bJ (fun h=>?_) (fun h=>?_)
  ·have hlt:low < ss.length:=by have:=of_decide_eq_true h;omega
   refine⟨fun σ' H''=>∃ m',m' < ss.length - low/\∃ (low:Nat) (v:Option V) (c:RdS) (ys:List V),m'=ss.length - low/\low <= ss.length/\σ'=[some (.ref l),some (.int b),some (.ref f),some (.ref th),some (.ref lo),some (.int (low:Int)),v]/\aB H H''/\H'' f=some (.lst (c.1.map V.int))/\H'' lo=some (.lst ys)/\Prs H'' ys c.2/\H'' th=some (.lst ((ph b (cu ss)).map V.bl))/\c.1.length=ss.length/\c.2.length+(gU low low ((oG b (cu ss)).drop low)).length <= 401/\(gU low low ((oG b (cu ss)).drop low)).foldl (yG (cu ss)) c=oJ b (cu ss),fun _ _ h=>h,?_⟩
   generalize hn':lead ((oG b (cu ss)).drop low)=n
   have hnle:n <= ss.length - low:=by
    have:=amk ((oG b (cu ss)).drop low)
    rw[List.length_drop,yF,List.length_map,hn'] at this
    exact this
   tm_up
   refine⟨fun mm σ H''=>∃ j:Nat,mm=n - j/\j <= n/\σ=[some (.ref l),some (.int b),some (.ref f),some (.ref th),some (.ref lo),some (.int (low:Int)),some (.int ((low+j:Nat):Int))]/\H''=H',⟨n,0,rfl,Nat.zero_le _,rfl,rfl⟩,?_⟩
   rintro mm σ H'' ⟨j,rfl,hj,rfl,rfl⟩
   have hla:=amm ((oG b (cu ss)).drop low) j (by rw[hn'];exact hj)
   rw[hn',au3] at hla
   refine oE (decide (j < n)) ?_ ?_
   ·tm_up
    refine .inl ⟨_,_,rfl,.inl (bh.of hl4),?_⟩
    rw[bZ hg]
    tm_up
    refine bJ (fun h=>?_) (fun h=>?_)
    ·have hjl:low+j < ss.length:=by have:=of_decide_eq_true h;omega
     have hk:(cu ss)[low+j]? = some (ss[low+j]).1:=HY (List.getElem?_eq_getElem hjl)
     obtain⟨tb,ht1,ht2⟩:=aml hMs (cu ss) (low+j) _ hk
     rw[ht2] at hla
     tm_up
     refine acI (bh.of hl4) hg4 (n:=low+j) rfl (List.getElem?_eq_getElem hjl) fun p hp=>?_
     tm_up
     refine bJ (fun h=>?_) (fun h=>?_)
     ·have h':(ss[low+j]).1.small=true:=by rw[← RZ];exact h
      rw[h',Bool.true_and] at hla
      tm_up
      refine ixL (bh.of hth) (n:=low+j) rfl (HY ht1) ?_
      tm_up
      refine fu ?_
      cases tb with
      | true=>exact (decide_eq_true (hla.mpr rfl)).symm
      | false=>exact (decide_eq_false (fun z=>by have:=hla.mp z;cases this)).symm
     ·have h':(ss[low+j]).1.small=false:=by rw[← RZ];exact Bool.eq_false_iff.mpr h
      rw[h',Bool.false_and] at hla
      exact fu (decide_eq_false (fun z=>by have:=hla.mp z;cases this)).symm
    ·have hjl:¬ low+j < ss.length:=fun z=>h (decide_eq_true (by omega))
     exact fu (decide_eq_false (by omega)).symm
   refine bJ (fun h=>?_) (fun h=>?_)
   ·have hjn:=of_decide_eq_true h
    refine⟨fun σ' Hx=>∃ m',m' < n - j/\∃ j:Nat,m'=n - j/\j <= n/\σ'=[some (.ref l),some (.int b),some (.ref f),some (.ref th),some (.ref lo),some (.int (low:Int)),some (.int ((low+j:Nat):Int))]/\Hx=H'',fun _ _ h=>h,?_⟩
    tm_up
    exact⟨n - (j+1),by omega,j+1,rfl,by omega,rfl,rfl⟩
   ·have hjn:j=n:=by
     have:¬ j < n:=fun z=>h (decide_eq_true z)
     omega
    subst hjn
    have hrf:=ZQ ((oG b (cu ss)).drop low) low low (by rw[hn'];omega) (Nat.le_refl _)
    rw[hn',List.drop_drop] at hrf
    refine⟨fun σ1 H1=>σ1=[some (.ref l),some (.int b),some (.ref f),some (.ref th),some (.ref lo),some (.int (low:Int)),some (.int ((low+j:Nat):Int))]/\∃ (c:RdS) (ys:List V),aB H H1/\H1 f=some (.lst (c.1.map V.int))/\H1 lo=some (.lst ys)/\Prs H1 ys c.2/\H1 th=some (.lst ((ph b (cu ss)).map V.bl))/\c.1.length=ss.length/\c.2.length+(gU (low+j) (low+j) ((oG b (cu ss)).drop (low+j))).length <= 401/\(gU (low+j) (low+j) ((oG b (cu ss)).drop (low+j))).foldl (yG (cu ss)) c=oJ b (cu ss),?_,?_⟩
    ·by_cases hj0:j=0
     ·subst hj0
      refine oE false ?_ ?_
      ·tm_up
       rw[decide_eq_false (show ¬ ((low:Int) < ((low+0:Nat):Int)) by omega)]
       exact fu rfl
      ·exact di ⟨rfl,c,ys,s4,hf4,akd,hys,hth,hcl,axv,Bd⟩
     ·have hlt2:low < low+j:=by omega
      rw[if_pos hlt2,List.singleton_append] at hrf
      rw[hrf,List.foldl_cons] at Bd
      rw[hrf,List.length_cons] at axv
      have s5:aB H (upd H'' f (.lst ((settle (cu ss) c.1 low (low+j)).2.map V.int))):=dD s4 n1
      have aip:upd H'' f (.lst ((settle (cu ss) c.1 low (low+j)).2.map V.int)) lo=some (.lst ys):=by rw[aA nfl.symm];exact akd
      have axw:upd H'' f (.lst ((settle (cu ss) c.1 low (low+j)).2.map V.int)) th=some (.lst ((ph b (cu ss)).map V.bl)):=by rw[aA ntf];exact hth
      have aqK:(settle (cu ss) c.1 low (low+j)).2.length=ss.length:=by rw[Nb];exact hcl
      refine⟨fun bb H3=>bb = !(settle (cu ss) c.1 low (low+j)).1/\H3=upd H'' f (.lst ((settle (cu ss) c.1 low (low+j)).2.map V.int)),?_,?_⟩
      ·tm_up
       rw[decide_eq_true (show ((low:Int) < ((low+j:Nat):Int)) by omega)]
       refine wj ?_
       tm_up
       refine⟨l,f,low,low+j,xs,ss,c.1,rfl,bh.of hl4,hg4,nlf,hf4,hcl,hlt2,by omega,?_⟩
       tm_up
       exact⟨rfl,rfl⟩
      ·rintro bb H3 ⟨rfl,rfl⟩
       refine bJ (fun h=>?_) (fun h=>?_)
       ·have hst:(settle (cu ss) c.1 low (low+j)).1=false:=by
         cases e:(settle (cu ss) c.1 low (low+j)).1
         ·rfl
         ·rw[e] at h;cases h
        tm_up
        refine⟨.inl ⟨rfl,_,bh.of aip⟩,?_⟩
        tm_up
        refine⟨by show 2 <= sizeLine;decide,fun z hz=>?_⟩
        have sz:=aB.upd (o:=.tup [.int (low:Int),.int ((low+j:Nat):Int)]) hz
        have anS:=sz _ _ aip
        refine⟨_,_,_,rfl,rfl,anS,by rw[bZ hys];exact bc (by omega),?_⟩
        refine⟨rfl,((settle (cu ss) c.1 low (low+j)).2,c.2++[(low,low+j)]),_,dD (s5.trans sz) aqQ,by rw[aA nfl];exact sz _ _ ak,ak,oF (yH anS (Ab sz (yH hf4 hys))) (ah3 anS ⟨z,rfl,ak⟩),
         by rw[aA ntl];exact sz _ _ axw,aqK,by simp only [List.length_append,List.length_singleton];omega,?_⟩
        rw[← Bd]
        unfold yG
        rw[hst]
        rfl
       ·have hst:(settle (cu ss) c.1 low (low+j)).1=true:=by
         cases e:(settle (cu ss) c.1 low (low+j)).1
         ·rw[e] at h;exact absurd rfl h
         ·rfl
        refine⟨rfl,((settle (cu ss) c.1 low (low+j)).2,c.2),ys,s5,ak,aip,yH hf4 hys,axw,aqK,by show c.2.length+_ <= 401;omega,?_⟩
        rw[← Bd]
        unfold yG
        rw[hst]
        rfl
    ·rintro σ1 H1 ⟨rfl,c',ys',s6,hf6,anS,axx,axy,axz,amH,afg⟩
     tm_up
     refine⟨_,_,rfl,?_⟩
     by_cases hj0:j=0
     ·subst hj0
      have hbl:(oG b (cu ss))[low]? = some false:=by
       have h1:low < (oG b (cu ss)).length:=by rw[yF,List.length_map];exact hlt
       have h2:¬ (oG b (cu ss))[low+0]? = some true:=fun z=>Nat.lt_irrefl _ (hla.mpr z)
       rw[Nat.add_zero,List.getElem?_eq_getElem h1] at h2
       rw[List.getElem?_eq_getElem h1]
       cases e:(oG b (cu ss))[low]
       ·rfl
       ·rw[e] at h2;exact absurd rfl h2
      rw[Nat.add_zero,xO hbl] at afg amH
      have er:gU low low (false :: (oG b (cu ss)).drop (low+1))=gU (low+1) (low+1) ((oG b (cu ss)).drop (low+1)):=by
       show (if low < low then [(low,low)] else [])++gU (low+1) (low+1) ((oG b (cu ss)).drop (low+1))=_
       rw[if_neg (Nat.lt_irrefl _),List.nil_append]
      rw[er] at afg amH
      have em:(if (low:Int)+1 > ((low+0:Nat):Int) then (low:Int)+1 else ((low+0:Nat):Int))=((low+1:Nat):Int):=by rw[if_pos (by omega)];rfl
      rw[em]
      exact⟨ss.length - (low+1),by omega,low+1,_,c',ys',rfl,by omega,rfl,s6,hf6,anS,axx,axy,axz,amH,afg⟩
     ·have em:(if (low:Int)+1 > ((low+j:Nat):Int) then (low:Int)+1 else ((low+j:Nat):Int))=((low+j:Nat):Int):=by
       split <;> omega
      rw[em]
      exact⟨ss.length - (low+j),by omega,low+j,_,c',ys',rfl,by omega,rfl,s6,hf6,anS,axx,axy,axz,amH,afg⟩
  ·have hlt:low=ss.length:=by
    have:¬ low < ss.length:=fun z=>h (decide_eq_true (by omega))
    omega
   subst hlt
   rw[List.drop_eq_nil_of_le (by rw[yF,List.length_map];exact Nat.le_refl _)] at Bd
   have e:c=oJ b (cu ss):=by
    have:gU ss.length ss.length []=[]:=by unfold gU;rw[if_neg (Nat.lt_irrefl _)]
    rw[this] at Bd
    exact Bd
   subst e
   tm_up
   refine⟨by show 2 <= sizeLine;decide,fun z hz=>?_⟩
   have sz:=aB.upd (o:=.tup [.ref f,.ref lo]) hz
   exact q z f lo ys _ (s4.trans sz) n1 aqQ nfl ak (sz _ _ hf4) (sz _ _ akd) (Ab sz hys)
inductive R0 (K:Frag)(vs:List V)(H:Hp)(Q:VK)(E:XK):Prop
 | mk (d:Addr) (vw:Vw) (n:Str) (th:Th) (gj:vs=[.ref d,.str n]) (gk:Q4 H d vw) (jc:LC vw) (n8:bR vw n=some th) (xJ:∀ (l:Addr) (H':Hp),aB H H'->H' l=some (.lst ((lY vw n).map V.int))->Q (.ref l) H'):R0 K vs H Q E
theorem R1 (T:Txt K w mg t):bW P w K mg base jF (0+3) t.mG t.IV ["_law_voices","_law_name"] (R0 K):=by
 have Js:=RW (P:=P) (w:=w) (base:=base) T
 have aiu:=anQ (P:=P) (w:=w) (base:=base) T
 refine T.qt.ok Fb (fun vs H Q E h=>?_) (fun cdv A outer s H vs Q E hr h=>?_)
 ·obtain⟨_,_,_,_,rfl,_⟩:=h
  rfl
 ·obtain⟨d,vw,n,th,rfl,hd,wv,hf,q⟩:=h
  refine bA (ao (aX (i:=2) Fb.nd rfl (Or.inr rfl) (xN (QM hr) (pv 0) (pv 1) (fun _ _=>rfl))) (ao (aX (i:=3) Fb.nd rfl (Or.inl rfl) (aD Js (hr.mono (by decide)) rfl T.Rm T.qp.kp T.Ar .nil aF (aa (pv 0) (aa (pv 1) aj)))) (ao (bC (bD (aH cZ rfl T.bG bF (aa (pv 2) (aa (eY (v:=.ty "list") rfl T.iI iu rfl) aj)))) (au (aG (bH bx (aD aiu (hr.mono (by decide)) rfl T.ad1 T.Ec.kp T.Ro .nil aF (aa (pv 3) (aa az aj))) az (fun _ _=>rfl)))) aO) (au (aG (lF (cn:=["_law_worth"]) rfl (cU.of rfl) (dX (bH bx (aD aiu (hr.mono (by decide)) rfl T.ad1 T.Ec.kp T.Ro .nil aF (aa (pv 3) (aa (fV (j0 (bD (bH bx (pv 2) az (fun _ _=>rfl))) az az)) aj))) az (fun _ _=>rfl))) (fun _=>(aU (i:=0) Yq rfl (Or.inl rfl))) (fun _=>kO) (fun _=>(aV (v8.or v9) (bH bx (pv 3) az (fun _ _=>rfl)) (pv 0))))))))) ?_
  obtain⟨v,hg,hv⟩:=hd.get hf
  refine⟨_,rfl,_,rfl,d,v,rfl,hg,?_⟩
  refine⟨_,rfl,_,rfl,d,vw,n,th,rfl,hd,wv,hf,fun l ys H1 s1 h1 g1=>?_⟩
  cases th with
  | pl ss =>
   obtain⟨l0,ys0,rfl,h0,_⟩:=hv
   have gl:=(wv.gd _ _ (dm hf)).1
   rw[Ds hf] at g1
   tm_up
   refine⟨_,_,_,_,rfl,iT.lst (s1 _ _ h0),rfl,_,rfl,wj ?_⟩
   refine⟨_,rfl,l,3,ys,ss,rfl,.inl rfl,h1,g1,by omega,fun p f lo zs H2 s2 _ _ _ hp hf2 _ _=>ix0 hp ?_⟩
   exact q f H2 (s1.trans s2) (by rw[Q0 hf];exact hf2)
  | cn ld lt sl tn =>
   obtain⟨p,rfl,hp⟩:=hv
   obtain⟨⟨ss,hld⟩,lt0,lt1,sl0,sl1⟩:=wv.ld n ld lt sl tn (dm hf)
   have hfl:=wv.find hld
   have gl:=(wv.gd _ _ hld).1
   rw[Dt hf hfl] at g1
   rw[Q3 hf hfl] at q
   have gl2:(if tn=true then ss.map Af else ss).length <= 400:=by
    split
    ·rw[List.length_map];omega
    ·omega
   tm_up
   refine⟨_,_,_,_,rfl,iT.tup (s1 _ _ hp),rfl,_,rfl,di ?_⟩
   refine⟨_,rfl,?_⟩
   refine⟨fun v H'=>v=.int (if tn=true then 2 else 3)/\H'=H1,?_,?_⟩
   ·refine⟨_,rfl,Vi (i:=3) (s1 _ _ hp) rfl ⟨_,rfl,?_⟩⟩
    cases tn with
    | true=>exact wj ⟨rfl,rfl⟩
    | false=>exact di ⟨rfl,rfl⟩
   intro v0 H0 ⟨e1,e2⟩
   rw[e1,e2]
   have hMs:Ms (if tn=true then 2 else 3):=by cases tn;exact .inl rfl;exact .inr rfl
   refine⟨l,_,ys,_,rfl,hMs,h1,g1,gl2,fun p2 f lo zs H2 s2 _ _ _ hp2 hf2 _ _=>ix0 hp2 ?_⟩
   generalize hW:(oJ (if tn=true then 2 else 3) (cu (if tn=true then ss.map Af else ss))).1=W at q hf2
   have hWl:W.length <= 400:=by rw[← hW,yg,List.length_map];exact gl2
   refine⟨f,rfl,⟨_,bh.of hf2⟩,fun D' b' hD'=>?_⟩
   have hpD:=s2 _ _ (s1 _ _ hp)
   refine eN (K:=K) (xs:=W.map V.int) (fun i ys' σ H'=>∃ v,σ=[v,some (.ref d),some (.str n),some (.ref p),some (.ref l)]/\H'=upd H2 D' (.lst ys')/\ys'=((W.take i).map fun w=>sl * w).map V.int) ⟨none,rfl,rfl,by simp⟩ ?_ ?_ ?_
   ·rintro i ys σ H' ⟨v,rfl,rfl,_⟩
    exact jd (bh.of hf2) hD'
   ·rintro i ys' y σ H' hy ⟨v,rfl,rfl,rfl⟩ N hN
    obtain⟨z,hz,rfl⟩:=M8 hy
    have hi:i < W.length:=(List.getElem?_eq_some_iff.mp hz).1
    refine fU ?_
    refine⟨_,rfl,Vi (i:=2) (by rw[aA (aC hpD hD')];exact hpD) rfl ?_⟩
    refine⟨_,rfl,.inl ⟨_,_,rfl,rfl,.inl ⟨by omega,by omega⟩,ak,?_,?_⟩⟩
    ·rw[List.length_map,List.length_map,List.length_take]
     exact bc (by omega)
    ·refine hN _ _ _ ⟨_,rfl,dB,?_⟩
     rw[List.take_succ,hz,List.map_append,List.map_append]
     rfl
   ·rintro ys' σ H' ⟨v,rfl,rfl,rfl⟩
    rw[List.length_map,List.take_length]
    exact q D' _ ((s1.trans s2).trans (aB.upd hD')) ak
inductive Jt (K:Frag)(vs:List V)(H:Hp)(Q:VK)(E:XK):Prop
 | mk (d:Addr) (vw:Vw) (n:Str) (th:Th) (gj:vs=[.ref d,.str n]) (gk:Q4 H d vw) (jc:LC vw) (n8:bR vw n=some th) (xJ:∀ H',aB H H'->Q (.int (aaE th+Dj (lY vw n))) H'):Jt K vs H Q E
theorem aaM (T:Txt K w mg t):bW P w K mg base jF (0+4) t.iV t.BZ ["_law_voices","_law_name"] (Jt K):=by
 have Ju:=R1 (P:=P) (w:=w) (base:=base) T
 refine T.kE.ok Ih (fun vs H Q E h=>?_) (fun cdv A outer s H vs Q E hr h=>?_)
 ·obtain⟨_,_,_,_,rfl,_⟩:=h
  rfl
 ·obtain⟨d,vw,n,th,rfl,hd,wv,hf,q⟩:=h
  refine bA (ao (aX (i:=2) Ih.nd rfl (Or.inl rfl) (fV (j0 (bD (aH cZ rfl T.bG bF (aa (xN (QM hr) (pv 0) (pv 1) (fun _ _=>rfl)) (aa (eY (v:=.ty "list") rfl T.iI iu rfl) aj)))) az (bH bx (xN (QM hr) (pv 0) (pv 1) (fun _ _=>rfl)) az (fun _ _=>rfl))))) (au (aG (aV (bN.or (aR.or bO)) (pv 2) (aH ahT rfl T.aqC apY (aa (aD Ju (hr.mono (by decide)) rfl T.Rp T.qt.kp T.Av .nil aF (aa (pv 0) (aa (pv 1) aj))) aj)))))) ?_
  obtain⟨kb,kl,ll,b0,b9⟩:=amC wv hf
  obtain⟨v,hg,hv⟩:=hd.get hf
  refine⟨fun x H'=>x=.int (aaE th)/\H'=H,?_,?_⟩
  ·tm_up
   refine⟨d,v,rfl,hg,?_⟩
   cases th with
   | pl ss =>
    obtain⟨l0,ys0,rfl,h0,_⟩:=hv
    tm_up
    refine⟨_,_,_,_,rfl,iT.lst h0,rfl,_,rfl,wj ?_⟩
    exact⟨rfl,rfl⟩
   | cn ld lt sl tn =>
    obtain⟨p,rfl,hp⟩:=hv
    tm_up
    refine⟨_,_,_,_,rfl,iT.tup hp,rfl,_,rfl,di ?_⟩
    tm_up
    refine⟨d,_,rfl,hg,?_⟩
    exact Vi (i:=1) hp rfl ⟨rfl,rfl⟩
  intro x0 H0 ⟨e1,e2⟩
  rw[e1,e2]
  clear e1 e2 x0 H0
  tm_up
  refine⟨d,vw,n,th,rfl,hd,wv,hf,fun k1 H1 s1 hk1=>?_⟩
  tm_up
  refine⟨rfl,k1,lY vw n,rfl,bh.of hk1,fun x hx=>⟨(kb x hx).1,by have:=(kb x hx).2;omega⟩,by omega,?_⟩
  tm_up
  exact q H1 s1
inductive aaN (vs:List V)(H:Hp)(Q:VK)(E:XK):Prop
 | mk (n:Int) (gj:vs=[.int n]) (gk:Q (.bl true) H):aaN vs H Q E
theorem Ga (T:Txt K w mg t):bW P w K mg base jF (0+1) t.uo t.UT ["_law_found"] aaN:=by
 refine T.m9.ok ajW (fun vs H Q E h=>?_) (fun cdv A outer s H vs Q E hr h=>?_)
 ·obtain⟨_,rfl,_⟩:=h
  rfl
 ·obtain⟨n,rfl,q⟩:=h
  refine bA (au (aG (fV (tM (aH cZ rfl T.bG bF (aa (pv 0) (aa (eY (v:=.ty "int") rfl T.N5 M3 rfl) aj))) (tL (aus (aH cZ rfl T.bG bF (aa (pv 0) (aa (eY (v:=.ty "bool") rfl T.amy amd rfl) aj))))))))) ?_
  refine ZD (.bl true) ?_ q
  exact⟨_,rfl,_,_,_,_,rfl,iT.int _,rfl,_,rfl,wj ⟨_,rfl,_,_,_,_,rfl,iT.int _,rfl,_,rfl,xM rfl⟩⟩
def as7 (H:Hp)(y:V)(r:List V):Prop:=∃ p,y=.ref p/\H p=some (.tup r)/\∀ v∈r,(∃ i,v=.int i) ∨ ∃ z,v=.str z
theorem auf {α β γ:Type}{F:α->β->Prop}{G:α->γ->Prop}{f:β->γ}(h:∀ x y,F x y->G x (f y)):∀ {xs:List α} {ys:List β},Paired F xs ys->Paired G xs (ys.map f)
 | _,_,.nil=>.nil
 | _,_,.cons r t=>.cons (h _ _ r) (auf h t)
inductive aed (K:Frag)(vs:List V)(H:Hp)(Q:VK)(E:XK):Prop
 | mk (l1 l2:Addr) (xs ys:List V) (rs:List (List V)) (gj:vs=[.ref l1,.ref l2]) (gk:H l1=some (.lst xs)) (jc:H l2=some (.lst ys)) (n8:Paired (as7 H) xs rs) (xJ:Paired (as7 H) ys rs) (h5_:∀ H',aB H H'->Q (.bl true) H'):aed K vs H Q E
theorem anT (T:Txt K w mg t):bW P w K mg base jF (0+2) t.yZ t.aag ["_law_found","_law_due"] (aed K):=by
 have qw:=Ga (P:=P) (w:=w) (base:=base) T
 refine T.Jk.ok DR (fun vs H Q E h=>?_) (fun cdv A outer s H vs Q E hr h=>?_)
 ·obtain⟨_,_,_,_,_,rfl,_⟩:=h
  rfl
 ·obtain⟨l1,l2,xs,ys,rs,rfl,h1,h2,g1,g2,q⟩:=h
  have el:xs.length=ys.length:=(bZ g1).trans (bZ g2).symm
  refine bA (ao (bC (cG (PW.pt (lU (cF (bD (aH cZ rfl T.bG bF (aa (pv 0) (aa (eY (v:=.ty "list") rfl T.iI iu rfl) aj))))) (jj (aJ (Df.or (tR (aY hr))) (aH (aM.or aN) rfl T.cC cB (aa (pv 0) aj)) (aH (aM.or aN) rfl T.cC cB (aa (pv 1) aj)) (aQ _)))))) (au (aG dY)) aO) (ao (jk PassesOwn.never rfl (ajJ rfl T.aas (pv 0) (pv 1)) (iR rfl (bu (aU (i:=2) DR.nd rfl (Or.inl rfl)) (bu (aU (i:=3) DR.nd rfl (Or.inl rfl)) eZ))) (ao (bC (cG (PW.pt (lU (cF (bD (aH cZ rfl T.bG bF (aa (pv 2) (aa (eY (v:=.ty "tuple") rfl T.Rr QS rfl) aj))))) (jj (aJ (Df.or (tR (aY hr))) (aH (aM.or aN) rfl T.cC cB (aa (pv 2) aj)) (aH (aM.or aN) rfl T.cC cB (aa (pv 3) aj)) (aQ _)))))) (au (aG dY)) aO) (au (jk PassesOwn.never rfl (asA rfl T.aas (pv 2) (pv 3)) (iR rfl (bu (aU (i:=4) DR.nd rfl (Or.inl rfl)) (bu (aU (i:=5) DR.nd rfl (Or.inl rfl)) eZ))) (ao (bC (cG (PW.pt (lU (cG (PW.pt (fP (bD (aH cZ rfl T.bG bF (aa (pv 5) (aa (eY (v:=.ty "str") rfl T.ae2 aeA rfl) aj)))) (ir (cF (bD (aH cZ rfl T.bG bF (aa (pv 4) (aa (eY (v:=.ty "str") rfl T.ae2 aeA rfl) aj))))))))) (jj (cG (PW.pt (fP (cF (bD (aH cZ rfl T.bG bF (aa (pv 5) (aa (eY (v:=.ty "str") rfl T.ae2 aeA rfl) aj))))) (ir (cF (bD (aD qw (hr.mono (by decide)) rfl T.zm T.m9.kp T.uA .nil aF (aa (pv 4) aj)))))))))))) (au (aG dY)) aO) (au (bC (aJ (Df.or (tR (aY hr))) (pv 4) (pv 5) (aQ _)) (au (aG dY)) aO))))))) (au (aG dY)))) ?_
  refine oE false ?_ ?_
  ·tm_up
   refine⟨_,_,_,_,rfl,iT.lst h1,rfl,_,rfl,di ?_⟩
   tm_up
   refine .inl ⟨_,_,rfl,.inl (bh.of h1),?_⟩
   tm_up
   refine .inl ⟨_,_,rfl,.inl (bh.of h2),?_⟩
   tm_up
   exact fu (by rw[el];simp)
  refine di ?_
  tm_up
  refine⟨⟨_,bh.of h1⟩,⟨_,bh.of h2⟩,amh (K:=K) (xs:=xs) (ys:=ys) (fun i σ H'=>∃ v1 v2 v3 v4,σ=[some (.ref l1),some (.ref l2),v1,v2,v3,v4]/\aB H H') el ⟨none,none,none,none,rfl,aB.refl _⟩ ?_ ?_ ?_⟩
  ·rintro i σ H' ⟨v1,v2,v3,v4,rfl,s2⟩
   exact⟨s2.seq (bh.of h1),s2.seq (bh.of h2)⟩
  ·rintro i x y tt σ H' hx hy ⟨v1,v2,v3,v4,rfl,s2⟩ hn
   obtain⟨r,e1,p,rfl,hp,hr⟩:=wu g1 hx
   obtain⟨r',e2,p2,rfl,hp2,_⟩:=wu g2 hy
   have es:r'=r:=Option.some.inj (e2.symm.trans e1)
   subst es
   have s3:aB H (upd H' tt (.tup [.ref p,.ref p2])):=s2.trans (aB.upd hn)
   have hp':=s3 _ _ hp
   have hp2':=s3 _ _ hp2
   refine⟨tt,_,rfl,nJ.of ak,rfl,_,_,rfl,_,_,rfl,rfl,?_⟩
   generalize upd H' tt (.tup [.ref p,.ref p2])=H3 at s3 hp' hp2'
   refine oE false ?_ ?_
   ·tm_up
    refine⟨_,_,_,_,rfl,iT.tup hp',rfl,_,rfl,di ?_⟩
    tm_up
    refine .inl ⟨_,_,rfl,.inr (nJ.of hp'),?_⟩
    tm_up
    refine .inl ⟨_,_,rfl,.inr (nJ.of hp2'),?_⟩
    tm_up
    exact fu (by simp)
   refine di ?_
   refine⟨_,rfl,_,rfl,p,p2,r',r',rfl,rfl,hp',hp2',aql (xs:=r') (ys:=r') (fun j σ H'=>∃ v3 v4,σ=[some (.ref l1),some (.ref l2),some (.ref p),some (.ref p2),v3,v4]/\aB H H'/\H' p=some (.tup r')/\H' p2=some (.tup r')) rfl ⟨_,_,rfl,s3,hp',hp2'⟩ ?_ ?_ ?_⟩
   ·rintro j σ H4 ⟨v3,v4,rfl,s4,k1,k2⟩
    exact⟨k1,k2⟩
   ·rintro j a b tt2 σ H4 ha hb ⟨v3,v4,rfl,s4,k1,k2⟩ hn2
    have eab:b=a:=Option.some.inj (hb.symm.trans ha)
    subst eab
    have st:=aB.upd (o:=.tup [b,b]) hn2
    have s5:=s4.trans st
    have k15:=st _ _ k1
    have k25:=st _ _ k2
    refine⟨tt2,_,rfl,nJ.of ak,rfl,_,_,rfl,_,_,rfl,rfl,?_⟩
    clear st
    generalize upd H4 tt2 (.tup [b,b])=H5 at s5 k15 k25
    rcases hr b (List.mem_of_getElem? hb) with ⟨n,rfl⟩ | ⟨z,rfl⟩
    ·refine oE false ?_ ?_
     ·refine oE false ?_ ?_
      ·tm_up
       refine⟨_,_,_,_,rfl,iT.int _,rfl,_,rfl,di ?_⟩
       exact fu rfl
      refine di ?_
      refine oE false ?_ ?_
      ·tm_up
       refine⟨_,_,_,_,rfl,iT.int _,rfl,_,rfl,wj ?_⟩
       exact⟨_,rfl,n,rfl,_,rfl,fu rfl⟩
      exact⟨rfl,rfl⟩
     refine di ?_
     tm_up
     have e0:(!decide (V.int n=V.int n))=false:=by rw[decide_eq_true rfl];rfl
     rw[e0]
     exact di ⟨_,_,rfl,s5,k15,k25⟩
    ·refine oE false ?_ ?_
     ·refine oE false ?_ ?_
      ·tm_up
       refine⟨_,_,_,_,rfl,iT.str _,rfl,_,rfl,wj ?_⟩
       tm_up
       exact⟨_,_,_,_,rfl,iT.str _,rfl,_,rfl,fu rfl⟩
      refine di ?_
      refine oE false ?_ ?_
      ·tm_up
       exact⟨_,_,_,_,rfl,iT.str _,rfl,_,rfl,di (fu rfl)⟩
      exact⟨rfl,rfl⟩
     refine di ?_
     tm_up
     have e0:(!decide (V.str z=V.str z))=false:=by rw[decide_eq_true rfl];rfl
     rw[e0]
     exact di ⟨_,_,rfl,s5,k15,k25⟩
   ·rintro σ H4 ⟨v3,v4,rfl,s4,_,_⟩
    exact⟨_,_,_,_,rfl,s4⟩
  ·rintro σ H' ⟨v1,v2,v3,v4,rfl,s2⟩
   exact q _ s2
inductive aaO (K:Frag)(c:Cs)(vs:List V)(H:Hp)(Q:VK)(E:XK):Prop
 | mk (a x d:Addr) (ns:List Int) (F:Addr->Prop) (vw:Vw) (ps fs:List Vw) (gj:vs=[.ref a,.ref x,.ref d]) (gk:bh K H a (ns.map V.int)) (jc:ns.length <= 63) (n8:Ni c H x F vw ps fs) (xJ:Q4 H d vw) (h5_:∀ H',aB H H'->Q (.bl true) H'):aaO K c vs H Q E
theorem j5.row {H:Hp}{y:V}{t:Str×Int}(h:j5 H y t):as7 H y [.str t.1,.int t.2]:=by
 obtain⟨p,e1,e2⟩:=h
 refine⟨p,e1,e2,fun v hv=>?_⟩
 rcases List.mem_cons.mp hv with rfl | hv
 ·exact .inr ⟨_,rfl⟩
 rw[List.mem_singleton.mp hv]
 exact .inl ⟨_,rfl⟩
theorem amI {H:Hp}{ys:List V}{ts:List (Str×Int)}(h:Paired (j5 H) ys ts):Paired (as7 H) ys (ts.map fun t=>[.str t.1,.int t.2]):=auf (fun _ _ q=>q.row) h
theorem axA {K:Frag}{H:Hp}{y z:V}{q:Str×Int}(n:Nat)(h1:j5 H y q)(h2:j5 H z q):Deq K H (n+1) y z:=by
 obtain⟨p,rfl,h1⟩:=h1
 obtain⟨p2,rfl,h2⟩:=h2
 refine .tup (nJ.of h1) (nJ.of h2) rfl fun i x y e1 e2=>?_
 have e:x=y:=Option.some.inj (e1.symm.trans e2)
 subst e
 match i,e1 with
 | 0,e1=>cases e1;exact .flat rfl
 | 1,e1=>cases e1;exact .flat rfl
 | n+2,e1=>simp at e1
theorem avz {K:Frag}{H:Hp}{a b:Addr}{xs ys:List V}{qs:List (Str×Int)}(ha:bh K H a xs)(hb:bh K H b ys)(g:Paired (j5 H) xs qs)(g2:Paired (j5 H) ys qs):Deq K H 60 (.ref a) (.ref b):=by
 refine .lst ha hb ((bZ g).trans (bZ g2).symm) fun i x y e1 e2=>?_
 obtain⟨sg,h1,h1'⟩:=wu g e1
 obtain⟨sg',h2,h2'⟩:=wu g2 e2
 rw[h1] at h2
 cases h2
 exact axA 58 h1' h2'
theorem aiw:∀ ns:List Int,∃ m,ad9 ns m
 | []=>⟨0,fun _=>rfl,fun h=>absurd rfl h⟩
 | n :: ns=>by
  obtain⟨m,h⟩:=aiw ns
  by_cases hn:ns=[]
  ·subst hn
   exact⟨n,(fun e=>by cases e),fun _=>⟨List.mem_cons_self ..,fun x hx=>by rw[List.mem_singleton.mp hx];exact Int.le_refl _⟩⟩
  ·obtain⟨h1,h2⟩:=h.2 hn
   by_cases hc:n <= m
   ·refine⟨m,(fun e=>by cases e),fun _=>⟨List.mem_cons_of_mem _ h1,fun x hx=>?_⟩⟩
    rcases List.mem_cons.mp hx with rfl | hx
    ·exact hc
    ·exact h2 x hx
   ·refine⟨n,(fun e=>by cases e),fun _=>⟨List.mem_cons_self ..,fun x hx=>?_⟩⟩
    rcases List.mem_cons.mp hx with rfl | hx
    ·exact Int.le_refl _
    ·have:=h2 x hx;omega
theorem aaP {ns:List Int}{m m':Int}(h:ad9 ns m)(h':ad9 ns m'):m=m':=by
 by_cases e:ns=[]
 ·rw[h.1 e,h'.1 e]
 ·have a:=h.2 e
  have b:=h'.2 e
  have:=a.2 _ b.1
  have:=b.2 _ a.1
  omega
theorem aqY {ns:List Int}{m m':Int}(h:ad9 ns m)(hm:m'∈ns)(hx:∀ x∈ns,x <= m'):m'=m:=by
 have hn:ns≠[]:=fun e=>by rw[e] at hm;cases hm
 obtain⟨h1,h2⟩:=h.2 hn
 have a:=h2 _ hm
 have b:=hx _ h1
 omega
theorem aqZ {K:Frag}{a b:Addr}{xs ys:List V}{g:TG}{tc:TT}{te:TE}{D:Addr}{R:Hp->Prop}{σ:St}{H:Hp}(Pv:Nat->List V->St->Hp->Prop)(he:xs.length=ys.length)(h0:Pv 0 [] σ H)(hl:∀ i zs σ H,Pv i zs σ H->bh K H a xs/\bh K H b ys)
  (hs:∀ i zs x y t σ H,xs[i]? = some x->ys[i]? = some y->Pv i zs σ H->H t=none->∀ N:List V->St->Hp->Prop,(∀ zs σ H,Pv (i+1) zs σ H->N zs σ H)->Hi g tc te D zs (.ref t) σ (upd H t (.tup [x,y])) N) (hd:∀ zs σ H,Pv xs.length zs σ H->R H):amg (Itz K a b) g tc te D R σ H:=by
 refine⟨fun i m zs σ H=>m=xs.length - i/\i <= xs.length/\Pv i zs σ H,⟨xs.length,by simp,Nat.zero_le _,h0⟩,?_⟩
 rintro i m zs σ H ⟨rfl,hi,p⟩
 obtain⟨q,q2⟩:=hl i zs σ H p
 by_cases hlt:i < xs.length
 ·have hlt2:i < ys.length:=by omega
  refine .inr ⟨⟨xs,ys,xs[i],ys[i],q,q2,by simp[hlt],by simp[hlt2]⟩,fun x H' y=>?_⟩
  obtain⟨x0,y0,t,rfl,hn,hx,hy,rfl⟩:=y
  exact hs i zs x0 y0 t σ H (hx xs q) (hy ys q2) p hn (fun zs' σ' H'=>∃ m',m' < xs.length - i/\m'=xs.length - (i+1)/\i+1 <= xs.length/\Pv (i+1) zs' σ' H') fun zs' σ' H' q=>⟨xs.length - (i+1),by omega,rfl,hlt,q⟩
 ·have e:i=xs.length:=by omega
  subst e
  exact .inl ⟨⟨xs,ys,q,q2,by omega⟩,hd zs σ H p⟩
theorem aaQ (T:Txt K w mg t):bW P w K mg base jF (0+10) t.uq t.UW ["_law_script","_law_book","_law_voices"] (aaO K (cs t)):=by
 have amJ:=aqS (P:=P) (w:=w) (base:=base) T
 have My:=aaM (P:=P) (w:=w) (base:=base) T
 have aq0:=anT (P:=P) (w:=w) (base:=base) T
 refine T.kI.ok uc (fun vs H Q E h=>?_) (fun cdv A outer s H vs Q E hr h=>?_)
 ·obtain⟨_,_,_,_,_,_,_,_,rfl,_⟩:=h
  rfl
 ·obtain⟨a,x,d,ns,F,vw,ps,fs,rfl,hS,hl,B,hd,q⟩:=h
  refine bA (ao (aX (i:=3) uc.nd rfl (Or.inr rfl) (lF (cn:=["_law_name"]) rfl (cU.of rfl) (dX (cz yE rfl T.iI iu (aa (pv 2) aj))) (fun _=>(aU (i:=0) Mp rfl (Or.inl rfl))) (fun _=>kO) (fun _=>(aD My (hr.mono (by decide)) rfl T.Jj T.kE.kp T.vA .nil aF (aa (pv 3) (aa (pv 0) aj)))))) (ao (yD (i:=4) uc.nd rfl rfl (cn:=["_law_name"]) rfl (cU.of rfl) (dX (cz yE rfl T.iI iu (aa (pv 2) aj))) (fun _=>(aU (i:=0) Mp rfl (Or.inl rfl))) (fun _=>kO) (fun _=>(fQ (aa (pv 0) (aa (aV jE (aH adM rfl T.ae1 ajG (aa (pv 4) aj)) (aD My (hr.mono (by decide)) rfl T.Jj T.kE.kp T.vA .nil aF (aa (pv 3) (aa (pv 0) aj)))) aj))))) (ao (aX (i:=5) uc.nd rfl (Or.inl rfl) (aD amJ (hr.mono (by decide)) rfl T.aie T.Lw.kp T.Zi .nil aF (aa (pv 1) aj))) (ao (bj (j4 PySem.F.plainAttrs_list PySem.F.slot_list_append PySem.F.type_list_append bK (pv 5) (aa (fQ (aa cA (aa az aj))) aj))) (ao (aX (i:=6) uc.nd rfl (Or.inl rfl) (aD amJ (hr.mono (by decide)) rfl T.aie T.Lw.kp T.Zi .nil aF (aa (pv 1) aj))) (ao (bC (cG (PW.pt (lU (aJ (Df.or (tR (aY hr))) (pv 5) (aV (bN.or (aR.or bO)) (pv 4) (cj (aa (fQ (aa cA (aa az aj))) aj))) (aQ _)) (jj (cF (bD (aD aq0 (hr.mono (by decide)) rfl T.anD T.Jk.kp T.aap .nil aF (aa (pv 6) (aa (pv 4) aj))))))))) (au (aG dY)) aO) (ao (bC (aJ (M6 (aY hr)) (pv 3) (cj aj) (aQ _)) (au (aG dY)) aO) (ao (yD (i:=7) uc.nd rfl rfl (cn:=["_law_last","_law_name","_law_wait"]) rfl (cU.of rfl) (ajJ rfl T.aas (pv 6) (pv 3)) (fun _=>(iR rfl (bu (iR rfl (bu (aU (i:=1) BW rfl (Or.inl rfl)) (bu (aU (i:=2) BW rfl (Or.inl rfl)) eZ))) (bu (aU (i:=0) BW rfl (Or.inl rfl)) eZ)))) (fun _=>kO) (fun _=>(aV (bN.or (aR.or bO)) (pv 2) (pv 0)))) (au (aG (fV (tM (dh (cP.or (bQ (aY hr))) (aH adM rfl T.ae1 ajG (aa (pv 7) aj)) (aH adN rfl T.aj7 ajF (aa (pv 7) aj)) (aQ _)) (tL (dh (cP.or (bQ (aY hr))) (aH adN rfl T.aj7 ajF (aa (lF (cn:=["_law_name","_law_wait"]) rfl (cU.of rfl) (dX (pv 6)) (fun _=>(iR rfl (bu (aU (i:=0) Mq rfl (Or.inl rfl)) (bu (aU (i:=1) Mq rfl (Or.inl rfl)) eZ)))) (fun _=>kO) (fun _=>(pv 1))) aj)) az (aQ _))))))))))))))) ?_
  have wv:=B.wv vw (.inr (.inl rfl))
  have wl:=wv.len
  have el:=aea vw
  obtain⟨kvs,hk,ek⟩:=hd.keys
  have amK:∀ {i:Nat} {y:V},(vw.map fun q=>V.str q.1)[i]? = some y->∃ n th,vw[i]? = some (n,th)/\y=.str n:=fun {i y} hy=>by
   rw[List.getElem?_map] at hy
   cases e:vw[i]? with
   | none=>rw[e] at hy;cases hy
   | some z=>rw[e] at hy;exact⟨z.1,z.2,rfl,(Option.some.inj hy).symm⟩
  refine⟨_,rfl,rfl,d,kvs,rfl,.inl hk,fun l7 hl7=>?_⟩
  have S7:=aB.upd (o:=.lst (kvs.map fun kv=>kV kv.1)) hl7
  have h7:=ak (H:=H) (a:=l7) (o:=.lst (kvs.map fun kv=>kV kv.1))
  rw[ek] at S7 h7 ⊢
  generalize upd H l7 (.lst (vw.map fun q=>V.str q.1))=H7 at S7 h7
  refine⟨l7,rfl,⟨_,bh.of h7⟩,fun D b hD=>?_⟩
  refine eN (K:=K) (xs:=vw.map fun q=>V.str q.1) (fun i zs σ H'=>∃ u,σ=[u,some (.ref a),some (.ref x),some (.ref d),none,none,none,none,none]/\aB H7 H'/\H' D=some (.lst zs)/\zs=((rE vw).take i).map (fun q=>V.int q.2)/\i <= vw.length) ⟨none,rfl,aB.upd hD,ak,by simp,Nat.zero_le _⟩ ?_ ?_ ?_
  ·rintro i zs σ H' ⟨u,rfl,s2,_⟩
   exact bh.of (s2 _ _ h7)
  ·rintro i zs y σ H' hy ⟨u,rfl,s2,Rw,rfl,il⟩ N hN
   obtain⟨n,th,hq,rfl⟩:=amK hy
   have il2:i < vw.length:=(List.getElem?_eq_some_iff.mp hq).1
   have hf:=wv.find (List.mem_of_getElem? hq)
   refine fU ?_
   refine⟨_,rfl,_,rfl,d,vw,n,th,rfl,hd.same (S7.trans s2),wv,hf,fun H5 s5=>?_⟩
   refine⟨s5 _ _ Rw,bc (by rw[List.length_map,List.length_take];omega),hN _ _ _ ⟨_,rfl,dD (s2.trans s5) hD,ak,?_,il2⟩⟩
   rw[List.take_succ,aaJ hq]
   simp
  ·rintro zs σ H2 ⟨u,rfl,s2,Rw,rfl,_⟩
   rw[List.length_map,← el,List.take_length] at Rw
   have azH:H2 D=some (.lst (((rE vw).map (·.2)).map V.int)):=by rw[Rw,List.map_map];rfl
   have S2:=S7.trans s2
   obtain⟨m0,hm0⟩:=aiw ((rE vw).map (·.2))
   generalize hes:rE vw=es at *
   refine⟨_,rfl,rfl,d,kvs,rfl,.inl (S2 _ _ hk),fun l8 hl8=>?_⟩
   have S8:=aB.upd (o:=.lst (kvs.map fun kv=>kV kv.1)) hl8
   have h8:=ak (H:=H2) (a:=l8) (o:=.lst (kvs.map fun kv=>kV kv.1))
   rw[ek] at S8 h8 ⊢
   generalize upd H2 l8 (.lst (vw.map fun q=>V.str q.1))=H8 at S8 h8
   have D8:=S8 _ _ azH
   refine⟨l8,rfl,⟨_,bh.of h8⟩,fun E2 b2 hE2=>?_⟩
   refine eN (K:=K) (xs:=vw.map fun q=>V.str q.1) (fun i zs σ H'=>∃ u,σ=[u,some (.ref a),some (.ref x),some (.ref d),some (.ref D),none,none,none,none]/\aB H8 H'/\H' E2=some (.lst zs)/\Paired (j5 H') zs ((es.map fun q=>(q.1,m0 - q.2)).take i)/\i <= vw.length) ⟨none,rfl,aB.upd hE2,ak,.nil,Nat.zero_le _⟩ ?_ ?_ ?_
   ·rintro i zs σ H' ⟨u,rfl,s3,_⟩
    exact bh.of (s3 _ _ h8)
   ·rintro i zs y σ H' hy ⟨u,rfl,s3,hEl,pz,il⟩ N hN
    obtain⟨n,th,hq,rfl⟩:=amK hy
    have il2:i < vw.length:=(List.getElem?_eq_some_iff.mp hq).1
    have hf:=wv.find (List.mem_of_getElem? hq)
    have eq:=aaJ hq
    rw[hes] at eq
    have zl:=bZ pz
    rw[List.length_take] at zl
    refine fU ?_
    refine⟨_,rfl,_,rfl,rfl,D,_,rfl,bh.of (s3 _ _ D8),(fun e=>?_),fun m hm hx=>?_⟩
    ·have e':es.length=0:=by rw[← List.length_map (f:=(·.2)),e];rfl
     omega
    have em:=aqY hm0 hm hx
    subst em
    refine⟨_,rfl,_,rfl,d,vw,n,th,rfl,hd.same ((S2.trans S8).trans s3),wv,hf,fun H5 s5=>?_⟩
    refine⟨_,_,rfl,rfl,?_⟩
    refine⟨big (by show 2 <= 1000;omega),fun pp hpp=>?_⟩
    have st:=aB.upd (o:=.tup [.str n,.int (m - (aaE th+Dj (lY vw n)))]) hpp
    have hE5:=st _ _ (s5 _ _ hEl)
    refine⟨hE5,bc (by omega),hN _ _ _ ⟨_,rfl,dD ((s3.trans s5).trans st) hE2,ak,ake (y:=(n,m - (aaE th+Dj (lY vw n)))) (bV (fun _ _ q=>j5.write hE5 (j5.same (s5.trans st) q)) pz) (by rw[List.getElem?_map,eq];rfl) ?_,il2⟩⟩
    exact j5.write hE5 ⟨pp,rfl,ak⟩
   ·rintro zs σ H3 ⟨u,rfl,s3,hEl,pz,_⟩
    rw[List.length_map,← el,← List.length_map (f:=fun q:Str×Int=>(q.1,m0 - q.2)),List.take_length] at pz
    have zl:=bZ pz
    rw[List.length_map] at zl
    have S3:=(S2.trans S8).trans s3
    have D3:=s3 _ _ D8
    tm_up
    refine⟨x,F,vw,ps,fs,rfl,B.same S3,fun l4 ys4 m4 H4 n4 s4 h4 im4 g4=>?_⟩
    rw[hes] at im4 g4
    have e4:=aaP im4 hm0
    subst e4
    have y4:=bZ g4
    rw[List.length_map] at y4
    refine⟨_,rfl,.inl ⟨rfl,_,bh.of h4⟩,?_⟩
    tm_up
    refine⟨big (by show 2 <= 1000;omega),fun tp htp=>?_⟩
    have st:=aB.upd (o:=.tup [V.str "x",V.int 1]) htp
    have azK:=ak (H:=H4) (a:=tp) (o:=.tup [V.str "x",V.int 1])
    refine⟨l4,_,_,rfl,rfl,st _ _ h4,bc (by omega),?_⟩
    have s5:aB H3 (upd (upd H4 tp (.tup [V.str "x",V.int 1])) l4 (.lst (ys4++[.ref tp]))):=dD (s4.trans st) n4
    have h5:=ak (H:=upd H4 tp (.tup [V.str "x",V.int 1])) (a:=l4) (o:=.lst (ys4++[.ref tp]))
    have g5:Paired (j5 (upd (upd H4 tp (.tup [V.str "x",V.int 1])) l4 (.lst (ys4++[.ref tp])))) (ys4++[.ref tp]) ((es.map fun q=>(q.1,m4 - q.2))++[((("x":Str),(1:Int)))]) :=
     bV (fun _ _ q=>j5.write (st _ _ h4) q) (oF (bV (fun _ _ q=>j5.same st q) g4) ⟨tp,rfl,azK⟩)
    generalize upd (upd H4 tp (.tup [V.str "x",V.int 1])) l4 (.lst (ys4++[.ref tp]))=H5 at s5 h5 g5
    have S5:=S3.trans s5
    tm_up
    refine⟨x,F,vw,ps,fs,rfl,B.same S5,fun l6 ys6 m6 H6 n6 s6 h6 im6 g6=>?_⟩
    rw[hes] at im6 g6
    have e6:=aaP im6 hm0
    subst e6
    have y6:=bZ g6
    rw[List.length_map] at y6
    have S6:=S5.trans s6
    refine⟨fun c H'=>c=false/\aB H6 H',?_,?_⟩
    ·tm_up
     refine⟨big (by show 2 <= 1000;omega),fun t7 ht7=>?_⟩
     have s7:=aB.upd (o:=.tup [V.str "x",V.int 1]) ht7
     have h7':=ak (H:=H6) (a:=t7) (o:=.tup [V.str "x",V.int 1])
     generalize upd H6 t7 (.tup [V.str "x",V.int 1])=H7' at s7 h7'
     refine⟨big (by show 1 <= 1000;omega),fun l8' hl8'=>?_⟩
     have s8:=aB.upd (o:=.lst [V.ref t7]) hl8'
     have h8':=ak (H:=H7') (a:=l8') (o:=.lst [V.ref t7])
     generalize upd H7' l8' (.lst [V.ref t7])=H8' at s8 h8'
     have s68:=s7.trans s8
     have hE8:=s68 _ _ (s6 _ _ (s5 _ _ hEl))
     refine .inr (.inr ⟨E2,l8',_,_,rfl,rfl,hE8,h8',big (by rw[zl];show _+1 <= 1000;omega),fun c hc=>?_⟩)
     have s9:=aB.upd (o:=.lst (zs++[V.ref t7])) hc
     have h9:=ak (H:=H8') (a:=c) (o:=.lst (zs++[V.ref t7]))
     generalize upd H8' c (.lst (zs++[V.ref t7]))=H9 at s9 h9
     have s69:=s68.trans s9
     have pz9:Paired (j5 H9) (zs++[V.ref t7]) ((es.map fun q=>(q.1,m6 - q.2))++[((("x":Str),(1:Int)))]):=oF (bV (fun _ _ q=>j5.same (s5.trans (s6.trans s69)) q) pz) ⟨t7,rfl,s9 _ _ (s8 _ _ h7')⟩
     refine .inr ⟨l4,c,rfl,rfl,avz (bh.of (s69 _ _ (s6 _ _ h5))) (bh.of h9) (bV (fun _ _ q=>j5.same (s6.trans s69) q) g5) pz9,?_⟩
     refine⟨_,rfl,di ?_⟩
     tm_up
     refine⟨l6,E2,ys6,zs,_,rfl,s69 _ _ h6,s9 _ _ hE8,amI (bV (fun _ _ q=>j5.same s69 q) g6),amI (bV (fun _ _ q=>j5.same (s5.trans (s6.trans s69)) q) pz),fun H10 s10=>?_⟩
     exact⟨_,rfl,rfl,s69.trans s10⟩
    rintro _ H7' ⟨rfl,s7⟩
    refine di ?_
    have S7':=S6.trans s7
    have D7:=s7 _ _ (s6 _ _ (s5 _ _ D3))
    have L7:=s7 _ _ h6
    have G7:=bV (fun _ _ q=>j5.same s7 q) g6
    refine⟨_,rfl,big (by show 0 <= 1000;omega),fun e1 he1=>?_⟩
    have s8:=aB.upd (o:=.lst []) he1
    have h8e:=ak (H:=H7') (a:=e1) (o:=.lst [])
    generalize upd H7' e1 (.lst [])=H8' at s8 h8e
    have D8':=s8 _ _ D7
    have L8:=s8 _ _ L7
    have G8:=bV (fun _ _ q=>j5.same s8 q) G7
    have S8':=S7'.trans s8
    refine⟨D,e1,_,rfl,rfl,bh.of D8',bh.of h8e,_,rfl,?_⟩
    refine bJ (fun hem=>q _ S8') (fun hem=>?_)
    have ene:es≠[]:=fun e=>by rw[e] at hem;exact hem rfl
    have epos:0 < es.length:=by
     cases es with
     | nil=>exact absurd rfl ene
     | cons _ _=>exact Nat.succ_pos _
    have esl:ys6.length=((es.map (·.2)).map V.int).length:=by rw[y6,List.length_map,List.length_map]
    refine⟨_,rfl,_,rfl,l6,D,rfl,rfl,⟨_,bh.of L8⟩,⟨_,bh.of D8'⟩,fun Dm bm hDm=>?_⟩
    refine aqZ (K:=K) (xs:=ys6) (ys:=(es.map (·.2)).map V.int) (fun i ws σ H'=>∃ u v w,σ=[u,v,w,some (.ref a),some (.ref x),some (.ref d),some (.ref D),some (.ref E2),some (.ref l4),some (.ref l6),none]/\aB H8' H'/\H' Dm=some (.lst ws)/\ws=(List.replicate i m6).map V.int/\i <= es.length) esl ⟨none,none,none,rfl,aB.upd hDm,ak,rfl,Nat.zero_le _⟩ ?_ ?_ ?_
    ·rintro i ws σ H' ⟨u,v,w,rfl,s9,_⟩
     exact⟨bh.of (s9 _ _ L8),bh.of (s9 _ _ D8')⟩
    ·rintro i ws xx yy tt σ H' hxx hyy ⟨u,v,w,rfl,s9,hml,rfl,il⟩ hn N hN
     obtain⟨⟨n,wt⟩,hq,p,rfl,hp⟩:=wu G8 hxx
     obtain⟨z,hz,rfl⟩:=M8 hyy
     have il2:i < es.length:=by
      have:=(List.getElem?_eq_some_iff.mp hz).1
      rw[List.length_map] at this
      exact this
     have ew:wt+z=m6:=by
      rw[List.getElem?_map,List.getElem?_eq_getElem il2] at hq hz
      have e1:=Option.some.inj hq
      have e2:=Option.some.inj hz
      have e3:m6 - es[i].2=wt:=congrArg Prod.snd e1
      have e4:es[i].2=z:=e2
      omega
     have st:=aB.upd (o:=.tup [.ref p,.int z]) hn
     have hmt:=st _ _ hml
     unfold Hi
     refine⟨tt,_,rfl,nJ.of ak,rfl,_,_,rfl,p,_,rfl,nJ.of (st _ _ (s9 _ _ hp)),rfl,_,_,rfl,_,_,rfl,rfl,_,_,rfl,rfl,?_⟩
     refine⟨_,rfl,_,rfl,.inl ⟨_,_,rfl,rfl,?_⟩⟩
     refine⟨hmt,bc (by rw[List.length_map,List.length_replicate];omega),hN _ _ _ ⟨_,_,_,rfl,dD (s9.trans st) hDm,ak,?_,il2⟩⟩
     rw[show V.int (wt+z)=V.int m6 from congrArg V.int ew,List.replicate_succ',List.map_append]
     rfl
    ·rintro ws σ H9 ⟨u,v,w,rfl,s9,hml,rfl,_⟩
     rw[y6] at hml
     have L9:=s9 _ _ L8
     have G9:=bV (fun _ _ q=>j5.same s9 q) G8
     have rne:List.replicate es.length m6≠[]:=fun e=>by
      have:=congrArg List.length e
      rw[List.length_replicate] at this
      exact absurd this (by show es.length≠0;omega)
     refine⟨fun v H'=>v=.bl true/\aB H9 H',?_,?_⟩
     ·refine⟨_,rfl,rfl,Dm,_,rfl,bh.of hml,rne,fun m1 hm1 _=>?_⟩
      refine⟨_,rfl,rfl,Dm,_,rfl,bh.of hml,rne,fun m2 hm2 _=>?_⟩
      have e1:=List.eq_of_mem_replicate hm1
      have e2:=List.eq_of_mem_replicate hm2
      subst e1 e2
      tm_up
      rw[decide_eq_true (rfl:V.int m2=V.int m2)]
      refine wj ?_
      refine⟨_,rfl,l6,rfl,⟨_,bh.of L9⟩,fun Dn bn hDn=>?_⟩
      refine eN (K:=K) (xs:=ys6) (fun i ws σ H'=>∃ u v,σ=[u,v,some (.ref a),some (.ref x),some (.ref d),some (.ref D),some (.ref E2),some (.ref l4),some (.ref l6),some (.ref Dm)]/\H'=upd H9 Dn (.lst ws)/\ws=((es.map fun q=>m2 - q.2).take i).map V.int) ⟨none,none,rfl,rfl,by simp⟩ ?_ ?_ ?_
      ·rintro i ws σ H' ⟨u,v,rfl,rfl,_⟩
       exact jd (bh.of L9) hDn
      ·rintro i ws y σ H' hy ⟨u,v,rfl,rfl,rfl⟩ N hN
       obtain⟨⟨n,wt⟩,hq,p,rfl,hp⟩:=wu G9 hy
       have il2:i < es.length:=by
        have:=(List.getElem?_eq_some_iff.mp hq).1
        rw[List.length_map] at this
        exact this
       have ew:(es.map fun q=>m2 - q.2)[i]? = some wt:=by
        rw[List.getElem?_map,List.getElem?_eq_getElem il2] at hq ⊢
        exact congrArg some (congrArg Prod.snd (Option.some.inj hq))
       unfold Hi
       refine⟨p,_,rfl,nJ.of (show upd H9 Dn _ p=_ by rw[aA (aC hp hDn)];exact hp),rfl,_,_,rfl,_,_,rfl,rfl,?_⟩
       refine⟨_,rfl,ak,bc (by rw[List.length_map,List.length_take,List.length_map];omega),hN _ _ _ ⟨_,_,rfl,dB,?_⟩⟩
       rw[List.take_succ,ew]
       simp
      ·rintro ws σ H' ⟨u,v,rfl,rfl,rfl⟩
       rw[y6,← List.length_map (f:=fun q:Str×Int=>m2 - q.2),List.take_length]
       have wne:(es.map fun q=>m2 - q.2)≠[]:=fun e=>ene (List.map_eq_nil_iff.mp e)
       refine⟨rfl,Dn,_,rfl,bh.of ak,wne,fun m3 hm3 hx3=>?_⟩
       have e3:m3=0:=by
        obtain⟨h1,h2⟩:=hm0.2 (fun e=>ene (List.map_eq_nil_iff.mp e))
        obtain⟨q1,hq1,e1⟩:=List.mem_map.mp h1
        obtain⟨q2,hq2,e2⟩:=List.mem_map.mp hm3
        have a1:=hx3 _ (List.mem_map.mpr ⟨q1,hq1,rfl⟩)
        have a2:=h2 _ (List.mem_map.mpr ⟨q2,hq2,rfl⟩)
        have e1':q1.2=m2:=e1
        have e2':m2 - q2.2=m3:=e2
        have a1':m3 <= m2 - q1.2:=a1
        have a2':q2.2 <= m2:=a2
        omega
       subst e3
       tm_up
       exact⟨by rw[decide_eq_true (rfl:V.int 0=V.int 0)],aB.upd hDn⟩
     rintro _ H10 ⟨rfl,s10⟩
     exact q _ ((S8'.trans s9).trans s10)
inductive aaR (K:Frag)(vs:List V)(H:Hp)(Q:VK)(E:XK):Prop
 | mk (l1 l2:Addr) (xs ys:List V) (ss:List Sg) (gj:vs=[.ref l1,.ref l2]) (gk:H l1=some (.lst xs)) (jc:bh K H l2 ys) (n8:nP H xs ss) (xJ:nP H ys ss) (h5_:∀ H',aB H H'->Q (.bl true) H'):aaR K vs H Q E
theorem akg (T:Txt K w mg t):bW P w K mg base jF (0+2) t.ur t.U0 ["_law_found","_law_due"] (aaR K):=by
 have qw:=Ga (P:=P) (w:=w) (base:=base) T
 refine T.Ed.ok Nr (fun vs H Q E h=>?_) (fun cdv A outer s H vs Q E hr h=>?_)
 ·obtain⟨_,_,_,_,_,rfl,_⟩:=h
  rfl
 ·obtain⟨l1,l2,xs,ys,ss,rfl,h1,h2,g1,g2,q⟩:=h
  have el:xs.length=ys.length:=(bZ g1).trans (bZ g2).symm
  refine bA (ao (bC (cG (PW.pt (lU (cF (bD (aH cZ rfl T.bG bF (aa (pv 0) (aa (eY (v:=.ty "list") rfl T.iI iu rfl) aj))))) (jj (aJ (Df.or (tR (aY hr))) (aH (aM.or aN) rfl T.cC cB (aa (pv 0) aj)) (aH (aM.or aN) rfl T.cC cB (aa (pv 1) aj)) (aQ _)))))) (au (aG dY)) aO) (ao (jk PassesOwn.never rfl (ajJ rfl T.aas (pv 0) (pv 1)) (iR rfl (bu (aU (i:=2) Nr.nd rfl (Or.inl rfl)) (bu (aU (i:=3) Nr.nd rfl (Or.inl rfl)) eZ))) (ao (bC (cG (PW.pt (lU (cF (bD (aH cZ rfl T.bG bF (aa (pv 2) (aa (eY (v:=.ty "tuple") rfl T.Rr QS rfl) aj))))) (jj (aJ (Df.or (tR (aY hr))) (aH (aM.or aN) rfl T.cC cB (aa (pv 2) aj)) az (aQ _)))))) (au (aG dY)) aO) (au (bC (cG (PW.pt (lU (cF (bD (aH cZ rfl T.bG bF (aa (bH bx (pv 2) az (fun _ _=>rfl)) (aa (eY (v:=.ty "str") rfl T.ae2 aeA rfl) aj))))) (lU (cF (bD (aD qw (hr.mono (by decide)) rfl T.zm T.m9.kp T.uA .nil aF (aa (bH bx (pv 2) az (fun _ _=>rfl)) aj)))) (jj (aJ (Df.or (tR (aY hr))) (pv 2) (pv 3) (aQ _))))))) (au (aG dY)) aO)))) (au (aG dY)))) ?_
  refine oE false ?_ ?_
  ·tm_up
   refine⟨_,_,_,_,rfl,iT.lst h1,rfl,_,rfl,di ?_⟩
   tm_up
   refine .inl ⟨_,_,rfl,.inl (bh.of h1),?_⟩
   tm_up
   refine .inl ⟨_,_,rfl,.inl h2,?_⟩
   tm_up
   exact fu (by rw[el];simp)
  refine di ?_
  tm_up
  refine⟨⟨_,bh.of h1⟩,⟨_,h2⟩,amh (K:=K) (xs:=xs) (ys:=ys) (fun i σ H'=>∃ v1 v2,σ=[some (.ref l1),some (.ref l2),v1,v2]/\aB H H') el ⟨none,none,rfl,aB.refl _⟩ ?_ ?_ ?_⟩
  ·rintro i σ H' ⟨v1,v2,rfl,s2⟩
   exact⟨s2.seq (bh.of h1),s2.seq h2⟩
  ·rintro i x y tt σ H' hx hy ⟨v1,v2,rfl,s2⟩ hn
   obtain⟨sg,e1,p,rfl,hp⟩:=wu g1 hx
   obtain⟨sg',e2,p2,rfl,hp2⟩:=wu g2 hy
   have es:sg'=sg:=Option.some.inj (e2.symm.trans e1)
   subst es
   have s3:aB H (upd H' tt (.tup [.ref p,.ref p2])):=s2.trans (aB.upd hn)
   have hp':=s3 _ _ hp
   have hp2':=s3 _ _ hp2
   refine⟨tt,_,rfl,nJ.of ak,rfl,_,_,rfl,_,_,rfl,rfl,?_⟩
   generalize upd H' tt (.tup [.ref p,.ref p2])=H3 at s3 hp' hp2'
   refine oE false ?_ ?_
   ·tm_up
    refine⟨_,_,_,_,rfl,iT.tup hp',rfl,_,rfl,di ?_⟩
    tm_up
    refine .inl ⟨_,_,rfl,.inr (nJ.of hp'),?_⟩
    tm_up
    exact fu rfl
   refine di ?_
   refine oE false ?_ ?_
   ·tm_up
    refine⟨_,_,_,_,rfl,iT.str _,rfl,_,rfl,di ?_⟩
    tm_up
    refine⟨aw2 59 hp' hp2',?_⟩
    tm_up
    exact fu rfl
   refine di ?_
   exact⟨_,_,rfl,s3⟩
  ·rintro σ H' ⟨v1,v2,rfl,s2⟩
   exact q _ s2
inductive aef (K:Frag)(vs:List V)(H:Hp)(Q:VK)(E:XK):Prop
 | mk (f d:Addr) (fs ds:List Int) (gj:vs=[.ref f,.ref d]) (gk:H f=some (.lst (fs.map V.int))) (jc:bh K H d (ds.map V.int)) (n8:ds.length <= 1000) (xJ:Q (.bl (decide (fs=ds))) H):aef K vs H Q E
theorem anU (T:Txt K w mg t):bW P w K mg base jF (0+2) t.za t.aah ["_law_found","_law_due"] (aef K):=by
 have qw:=Ga (P:=P) (w:=w) (base:=base) T
 refine T.Jl.ok adX (fun vs H Q E h=>?_) (fun cdv A outer s H vs Q E hr h=>?_)
 ·obtain⟨_,_,_,_,rfl,_⟩:=h
  rfl
 ·obtain⟨f,d,fs,ds,rfl,hf,hd,hn,q⟩:=h
  refine bA (ao (bC (cG (PW.pt (lU (cF (bD (aH cZ rfl T.bG bF (aa (pv 0) (aa (eY (v:=.ty "list") rfl T.iI iu rfl) aj))))) (jj (aJ (Df.or (tR (aY hr))) (aH (aM.or aN) rfl T.cC cB (aa (pv 0) aj)) (aH (aM.or aN) rfl T.cC cB (aa (pv 1) aj)) (aQ _)))))) (au (aG dY)) aO) (ao (jk PassesOwn.never rfl (tQ rfl T.rA (aa (aH (aM.or aN) rfl T.cC cB (aa (pv 1) aj)) aj)) (aU (i:=2) adX.nd rfl (Or.inl rfl)) (au (bC (cG (PW.pt (lU (cF (bD (aD qw (hr.mono (by decide)) rfl T.zm T.m9.kp T.uA .nil aF (aa (bH bx (pv 0) (pv 2) (fun _ _=>rfl)) aj)))) (jj (aJ (Df.or (tR (aY hr))) (bH bx (pv 0) (pv 2) (fun _ _=>rfl)) (bH bx (pv 1) (pv 2) (fun _ _=>rfl)) (aQ _)))))) (au (aG dY)) aO))) (au (aG dY)))) ?_
  refine oE (decide (fs.length≠ds.length)) ?_ ?_
  ·tm_up
   refine⟨_,_,_,_,rfl,iT.lst hf,rfl,_,rfl,?_⟩
   refine di ?_
   tm_up
   refine .inl ⟨_,_,rfl,.inl (bh.of hf),?_⟩
   tm_up
   refine .inl ⟨_,_,rfl,.inl hd,?_⟩
   tm_up
   rw[List.length_map,List.length_map]
   refine fu ?_
   rw[jm]
   by_cases e:fs.length=ds.length
   ·simp[e]
   ·have:¬ ((fs.length:Int)=(ds.length:Int)):=by omega
    simp[e,this]
  ·refine bJ (fun h=>?_) (fun h=>?_)
   ·have e:fs≠ds:=fun z=>by
     have:=of_decide_eq_true h
     rw[z] at this
     exact this rfl
    rw[decide_eq_false e] at q
    exact q
   ·have el:fs.length=ds.length:=by
     by_cases e:fs.length=ds.length
     ·exact e
     ·exact absurd (decide_eq_true e) h
    tm_up
    refine .inl ⟨_,_,rfl,.inl hd,?_⟩
    rw[List.length_map]
    have p62:(2:Int) ^ 62=4611686018427387904:=by decide
    refine⟨(ds.length:Int),rfl,by rw[p62];omega,by rw[p62];omega,?_⟩
    refine ye (n:=((ds.length:Int)).toNat) (fun i σ H'=>∃ v,σ=[some (.ref f),some (.ref d),v]/\H'=H/\fs.take i=ds.take i) ⟨none,rfl,rfl,rfl⟩ ?_ ?_
    ·rintro i σ H' hi ⟨v,rfl,rfl,ht⟩
     have hid:i < ds.length:=by omega
     have hif:i < fs.length:=by omega
     refine oE (decide (fs[i]≠ds[i])) ?_ ?_
     ·tm_up
      refine aqo (bh.of hf) (n:=i) (by omega) (List.getElem?_eq_getElem hif) ?_
      tm_up
      refine aqo (bh.of hf) (n:=i) (by omega) (List.getElem?_eq_getElem hif) ?_
      tm_up
      refine aqo hd (n:=i) (by omega) (List.getElem?_eq_getElem hid) ?_
      tm_up
      refine fu ?_
      rw[jm]
      simp
     ·refine bJ (fun h=>?_) (fun h=>?_)
      ·have e:fs≠ds:=fun z=>by
        subst z
        exact (of_decide_eq_true h) rfl
       rw[decide_eq_false e] at q
       exact q
      ·have e:fs[i]=ds[i]:=by
        by_cases z:fs[i]=ds[i]
        ·exact z
        ·exact absurd (decide_eq_true z) h
       refine⟨_,rfl,rfl,?_⟩
       rw[List.take_succ_eq_append_getElem hif,List.take_succ_eq_append_getElem hid,ht,e]
    ·rintro σ H' ⟨v,rfl,rfl,ht⟩
     have e:fs=ds:=by
      have h1:((ds.length:Int)).toNat=ds.length:=by omega
      rw[h1,List.take_length,← el,List.take_length] at ht
      exact ht
     rw[decide_eq_true e] at q
     exact q
theorem amL {K:Frag}{H:Hp}{a b:Addr}{ys:List V}(ha:bh K H a ys)(hb:bh K H b ys)(hf:∀ v∈ys,∃ x,v=.str x):Deq K H 60 (.ref a) (.ref b):=by
 refine .lst ha hb rfl fun i x y e1 e2=>?_
 have e:x=y:=Option.some.inj (e1.symm.trans e2)
 subst e
 obtain⟨z,rfl⟩:=hf x (List.mem_of_getElem? e1)
 exact .flat rfl
theorem axD {K:Frag}{H:Hp}{p p2:Addr}{ld:Str}{lt sl:Int}{tn:Bool}(n:Nat)(h1:H p=some (.tup [.str ld,.int lt,.int sl,.bl tn]))(h2:H p2=some (.tup [.str ld,.int lt,.int sl,.bl tn])):Deq K H (n+1) (.ref p) (.ref p2):=by
 refine .tup (nJ.of h1) (nJ.of h2) rfl fun i x y e1 e2=>?_
 have e:x=y:=Option.some.inj (e1.symm.trans e2)
 subst e
 match i,e1 with
 | 0,e1=>cases e1;exact .flat rfl
 | 1,e1=>cases e1;exact .flat rfl
 | 2,e1=>cases e1;exact .flat rfl
 | 3,e1=>cases e1;exact .flat rfl
 | n+4,e1=>simp at e1
theorem aq1 {vw:Vw}(w:LC vw)(n:Str):(lY vw n).length <= 400:=by
 cases hf:bR vw n with
 | none=>unfold lY;rw[hf];exact Nat.zero_le _
 | some th =>
  cases th with
  | pl ss =>
   rw[Q0 hf,yg,List.length_map]
   have:=(w.gd _ _ (dm hf)).1
   omega
  | cn ld lt sl tn =>
   obtain⟨⟨ss,hld⟩,_⟩:=w.ld n ld lt sl tn (dm hf)
   rw[Q3 hf (w.find hld),List.length_map,yg,List.length_map]
   have:=(w.gd _ _ hld).1
   split
   ·rw[List.length_map];omega
   ·omega
theorem aq2 {vw:Vw}(w:LC vw)(n:Str):(Ie vw n).length <= 200:=by
 cases hf:bR vw n with
 | none=>unfold Ie;rw[hf];exact Nat.zero_le _
 | some th =>
  cases th with
  | pl ss =>
   rw[Ds hf]
   exact (w.gd _ _ (dm hf)).1
  | cn ld lt sl tn =>
   obtain⟨⟨ss,hld⟩,_⟩:=w.ld n ld lt sl tn (dm hf)
   rw[Dt hf (w.find hld)]
   have:=(w.gd _ _ hld).1
   split
   ·rw[List.length_map];exact this
   ·exact this
inductive Yc (K:Frag)(c:Cs)(vs:List V)(H:Hp)(Q:VK)(E:XK):Prop
 | mk (x d:Addr) (F:Addr->Prop) (vw:Vw) (ps fs:List Vw) (gj:vs=[.ref x,.ref d]) (gk:Ni c H x F vw ps fs) (jc:Q4 H d vw) (n8:∀ H',aB H H'->Q (.bl true) H'):Yc K c vs H Q E
theorem Yd (T:Txt K w mg t):bW P w K mg base jF (0+8) t.pF t.NB ["_law_book","_law_voices"] (Yc K (cs t)):=by
 have iQ:=vD (P:=P) (w:=w) (base:=base) T
 have gf:=oU (P:=P) (w:=w) (base:=base) T
 have anV:=akg (P:=P) (w:=w) (base:=base) T
 have aq3:=anU (P:=P) (w:=w) (base:=base) T
 have Be:=RT (P:=P) (w:=w) (base:=base) T
 have vY:=RP (P:=P) (w:=w) (base:=base) T
 have Js:=RW (P:=P) (w:=w) (base:=base) T
 have Ju:=R1 (P:=P) (w:=w) (base:=base) T
 have qw:=Ga (P:=P) (w:=w) (base:=base) T
 refine T.mQ.ok Ag (fun vs H Q E h=>?_) (fun cdv A outer s H vs Q E hr h=>?_)
 ·obtain⟨_,_,_,_,_,_,rfl,_⟩:=h
  rfl
 ·obtain⟨x,d,F,vw,ps,fs,rfl,B,hd,q⟩:=h
  refine bA (ao (aX (i:=2) Ag.nd rfl (Or.inl rfl) (gG (pv 0) T.aZ T.oO iQ (hr.mono (by decide)) T.jV .nil aF)) (ao (bC (cG (PW.pt (lU (cF (bD (aH cZ rfl T.bG bF (aa (pv 2) (aa (eY (v:=.ty "list") rfl T.iI iu rfl) aj))))) (jj (aJ (Df.or (tR (aY hr))) (pv 2) (cz yE rfl T.iI iu (aa (pv 1) aj)) (aQ _)))))) (au (aG dY)) aO) (ao (bj (aex PySem.F.plainAttrs_list PySem.F.slot_list_reverse PySem.F.type_list_reverse ajC (pv 2))) (ao (bj (j4 PySem.F.plainAttrs_list PySem.F.slot_list_append PySem.F.type_list_append bK (pv 2) (aa cA aj))) (ao (bC (aJ (Df.or (tR (aY hr))) (gG (pv 0) T.aZ T.oO iQ (hr.mono (by decide)) T.jV .nil aF) (cz yE rfl T.iI iu (aa (pv 1) aj)) (aQ _)) (au (aG dY)) aO) (ao (jk PassesOwn.never rfl (dX (cz yE rfl T.iI iu (aa (pv 1) aj))) (aU (i:=3) Ag.nd rfl (Or.inl rfl)) (ao (bj (j4 PySem.F.plainAttrs_list PySem.F.slot_list_append PySem.F.type_list_append bK (bM (pv 0) T.aZ T.FN Be (hr.mono (by decide)) T.vU .nil aF (aa (pv 3) aj)) (aa az aj))) (ao (bj (j4 PySem.F.plainAttrs_list PySem.F.slot_list_append PySem.F.type_list_append bK (bM (pv 0) T.aZ T.q9 vY (hr.mono (by decide)) T.mO .nil aF (aa (pv 3) aj)) (aa (fQ (aa cA (aa az aj))) aj))) (ao (bC (cF (bD (aD anV (hr.mono (by decide)) rfl T.aj5 T.Ed.kp T.Vb .nil aF (aa (bM (pv 0) T.aZ T.q9 vY (hr.mono (by decide)) T.mO .nil aF (aa (pv 3) aj)) (aa (aD Js (hr.mono (by decide)) rfl T.Rm T.qp.kp T.Ar .nil aF (aa (pv 1) (aa (pv 3) aj))) aj))))) (au (aG dY)) aO) (ao (bC (cF (bD (aD aq3 (hr.mono (by decide)) rfl T.anE T.Jl.kp T.aaq .nil aF (aa (bM (pv 0) T.aZ T.FN Be (hr.mono (by decide)) T.vU .nil aF (aa (pv 3) aj)) (aa (aD Ju (hr.mono (by decide)) rfl T.Rp T.qt.kp T.Av .nil aF (aa (pv 1) (aa (pv 3) aj))) aj))))) (au (aG dY)) aO) (ao (aX (i:=4) Ag.nd rfl (Or.inl rfl) (bM (pv 0) T.aZ T.oM gf (hr.mono (by decide)) T.jU .nil aF (aa (pv 3) aj))) (au (bC (bD (aH cZ rfl T.bG bF (aa (xN (QM hr) (pv 1) (pv 3) (fun _ _=>rfl)) (aa (eY (v:=.ty "list") rfl T.iI iu rfl) aj)))) (au (bC (aJ al2 (pv 4) MP (aQ _)) (au (aG dY)) aO)) (au (bC (cG (PW.pt (lU (cF (bD (aH cZ rfl T.bG bF (aa (pv 4) (aa (eY (v:=.ty "tuple") rfl T.Rr QS rfl) aj))))) (lU (aJ (Df.or (tR (aY hr))) (aH (aM.or aN) rfl T.cC cB (aa (pv 4) aj)) az (aQ _)) (jj (aJ (Df.or (tR (aY hr))) (pv 4) (xN (QM hr) (pv 1) (pv 3) (fun _ _=>rfl)) (aQ _))))))) (au (aG dY)) (au (bC (cG (PW.pt (lU (cF (bD (aD qw (hr.mono (by decide)) rfl T.zm T.m9.kp T.uA .nil aF (aa (bH bx (pv 4) az (fun _ _=>rfl)) aj)))) (lU (cF (bD (aD qw (hr.mono (by decide)) rfl T.zm T.m9.kp T.uA .nil aF (aa (bH bx (pv 4) az (fun _ _=>rfl)) aj)))) (jj (cF (bD (aH cZ rfl T.bG bF (aa (bH bx (pv 4) az (fun _ _=>rfl)) (aa (eY (v:=.ty "bool") rfl T.amy amd rfl) aj)))))))))) (au (aG dY)) aO)))))))))))) (au (aG dY)))))))) ?_
  have wv:=B.wv vw (.inr (.inl rfl))
  have hx:∃ dx L D U,H x=some (.ins t.bI dx (QV L D U)):=by
   obtain⟨L,D,U,all,M,Ps,Fs,es,us,b,_⟩:=B.ex
   obtain⟨dx,e⟩:=b.hx
   exact⟨dx,L,D,U,e⟩
  obtain⟨dx,L,D,U,hx⟩:=hx
  have wl:=wv.len
  have hstr:∀ v∈vw.map (fun q=>V.str q.1),∃ z,v=.str z:=fun v hv=>by
   obtain⟨q,_,e⟩:=List.mem_map.mp hv
   exact⟨_,e.symm⟩
  refine⟨_,rfl,x,dx,_,rfl,hx,qy _ _ _,x,F,vw,ps,fs,rfl,B,fun l1 H1 nl1 s1 h1=>?_⟩
  obtain⟨kvs,hk,ek⟩:=hd.keys
  refine⟨fun b H'=>b=false/\aB H1 H',?_,?_⟩
  ·tm_up
   refine⟨_,_,_,_,rfl,iT.lst h1,rfl,_,rfl,di ?_⟩
   refine⟨_,rfl,_,rfl,rfl,d,kvs,rfl,.inl (s1 _ _ hk),fun l2 hl2=>?_⟩
   have s2:=aB.upd (o:=.lst (kvs.map fun kv=>kV kv.1)) hl2
   have h2:=ak (H:=H1) (a:=l2) (o:=.lst (kvs.map fun kv=>kV kv.1))
   rw[ek] at s2 h2 ⊢
   refine .inr ⟨l1,l2,rfl,rfl,amL (bh.of (s2 _ _ h1)) (bh.of h2) hstr,?_⟩
   exact⟨_,rfl,rfl,s2⟩
  rintro b H2 ⟨rfl,s2⟩
  refine di ?_
  have h12:=s2 _ _ h1
  refine⟨_,rfl,.inl ⟨rfl,_,bh.of h12⟩,l1,_,rfl,rfl,h12,?_⟩
  have s3:aB H (upd H2 l1 (.lst (vw.map fun a=>V.str a.1).reverse)):=dD (s1.trans s2) nl1
  have h3:=ak (H:=H2) (a:=l1) (o:=.lst (vw.map fun a=>V.str a.1).reverse)
  generalize upd H2 l1 (.lst (vw.map fun a=>V.str a.1).reverse)=H3 at s3 h3
  refine⟨_,rfl,.inl ⟨rfl,_,bh.of h3⟩,l1,_,_,rfl,rfl,h3,bc (by rw[List.length_reverse,List.length_map];omega),?_⟩
  have s4:aB H (upd H3 l1 (.lst ((vw.map fun a=>V.str a.1).reverse++[V.str "x"]))):=dD s3 nl1
  generalize upd H3 l1 (.lst ((vw.map fun a=>V.str a.1).reverse++[V.str "x"]))=H4 at s4
  refine⟨_,rfl,x,dx,_,rfl,s4 _ _ hx,qy _ _ _,x,F,vw,ps,fs,rfl,B.same s4,fun l5 H5 nl5 s5 h5=>?_⟩
  refine⟨_,rfl,rfl,d,kvs,rfl,.inl (s5 _ _ (s4 _ _ hk)),fun l6 hl6=>?_⟩
  have s6:=aB.upd (o:=.lst (kvs.map fun kv=>kV kv.1)) hl6
  have h6:=ak (H:=H5) (a:=l6) (o:=.lst (kvs.map fun kv=>kV kv.1))
  rw[ek] at s6 h6 ⊢
  refine .inr ⟨l5,l6,rfl,rfl,amL (bh.of (s6 _ _ h5)) (bh.of h6) hstr,?_⟩
  refine⟨_,rfl,di ?_⟩
  have S6:=(s4.trans s5).trans s6
  generalize upd H5 l6 (.lst (vw.map fun q=>V.str q.1))=H6 at S6
  refine⟨_,rfl,rfl,d,kvs,rfl,.inl (S6 _ _ hk),fun l7 hl7=>?_⟩
  have s7:=aB.upd (o:=.lst (kvs.map fun kv=>kV kv.1)) hl7
  have h7:=ak (H:=H6) (a:=l7) (o:=.lst (kvs.map fun kv=>kV kv.1))
  rw[ek] at s7 h7 ⊢
  have S7:=S6.trans s7
  generalize upd H6 l7 (.lst (vw.map fun q=>V.str q.1))=H7 at S7 h7
  refine⟨l7,rfl,⟨_,bh.of h7⟩,yz (K:=K) (xs:=vw.map fun q=>V.str q.1) (fun i σ H'=>∃ (u v:Option V),σ=[some (.ref x),some (.ref d),some (.ref l1),u,v]/\aB H7 H') ⟨none,none,rfl,aB.refl _⟩ ?_ ?_ ?_⟩
  ·rintro i σ H' _ ⟨u,v,rfl,s8⟩
   exact bh.of (s8 _ _ h7)
  ·rintro i y σ H8 hy ⟨u,v,rfl,s8⟩
   obtain⟨qn,hq,rfl⟩:∃ qn,vw[i]? = some qn/\y=.str qn.1:=by
    rw[List.getElem?_map] at hy
    cases e:vw[i]? with
    | none=>rw[e] at hy;cases hy
    | some z=>rw[e] at hy;exact⟨z,rfl,(Option.some.inj hy).symm⟩
   obtain⟨n,th⟩:=qn
   have hf:=wv.find (List.mem_of_getElem? hq)
   have kl:=aq1 wv n
   have ll:=aq2 wv n
   have S8:=S7.trans s8
   have B8:=B.same S8
   have hd8:=hd.same S8
   refine⟨_,rfl,x,dx,_,rfl,S8 _ _ hx,Ia _ _ _,_,rfl,x,F,vw,ps,fs,n,rfl,B8,?_⟩
   rw[hf]
   intro k1 H9 nk1 s9 hk1
   refine⟨.inl ⟨rfl,_,bh.of hk1⟩,k1,_,_,rfl,rfl,hk1,bc (by rw[List.length_map];omega),?_⟩
   have s10:aB H8 (upd H9 k1 (.lst ((lY vw n).map V.int++[V.int 7]))):=dD s9 nk1
   generalize upd H9 k1 (.lst ((lY vw n).map V.int++[V.int 7]))=H10 at s10
   have B10:=B8.same s10
   refine⟨_,rfl,x,dx,_,rfl,s10 _ _ (S8 _ _ hx),vK _ _ _,_,rfl,x,F,vw,ps,fs,n,rfl,B10,?_⟩
   rw[hf]
   intro l11 axF H11 azP s11 h11 g11
   have y11:=bZ g11
   refine⟨.inl ⟨rfl,_,bh.of h11⟩,(by show 2 <= sizeLine;decide),fun tp htp=>?_⟩
   have st:=aB.upd (o:=.tup [V.str "R",V.int 0]) htp
   refine⟨l11,_,_,rfl,rfl,st _ _ h11,bc (by omega),?_⟩
   have s12:aB H10 (upd (upd H11 tp (.tup [V.str "R",V.int 0])) l11 (.lst (axF++[.ref tp]))):=dD (s11.trans st) azP
   generalize upd (upd H11 tp (.tup [V.str "R",V.int 0])) l11 (.lst (axF++[.ref tp]))=H12 at s12
   have S12:=s10.trans s12
   have B12:=B8.same S12
   have azQ:=hd8.same S12
   refine⟨_,rfl,x,dx,_,rfl,S12 _ _ (S8 _ _ hx),vK _ _ _,_,rfl,x,F,vw,ps,fs,n,rfl,B12,?_⟩
   rw[hf]
   intro l13 azR H13 aCW s13 h13 g13
   refine⟨_,rfl,_,rfl,d,vw,n,th,rfl,azQ.same s13,wv,hf,fun l14 azS H14 s14 h14 g14=>?_⟩
   refine⟨l13,l14,azR,azS,Ie vw n,rfl,s14 _ _ h13,bh.of h14,g13.same s14,g14,fun H15 s15=>?_⟩
   refine⟨_,rfl,di ?_⟩
   have S15:=((S12.trans s13).trans s14).trans s15
   have B15:=B8.same S15
   refine⟨_,rfl,x,dx,_,rfl,S15 _ _ (S8 _ _ hx),Ia _ _ _,_,rfl,x,F,vw,ps,fs,n,rfl,B15,?_⟩
   rw[hf]
   intro k16 H16 aC1 s16 h16
   refine⟨_,rfl,_,rfl,d,vw,n,th,rfl,(hd8.same S15).same s16,wv,hf,fun l17 H17 s17 h17=>?_⟩
   refine⟨k16,l17,lY vw n,lY vw n,rfl,s17 _ _ h16,bh.of h17,by omega,?_⟩
   rw[decide_eq_true rfl]
   refine⟨_,rfl,di ?_⟩
   have S17:=(S15.trans s16).trans s17
   have B17:=B8.same S17
   have azT:=hd8.same S17
   have fin:∀ {u v:Option V},∃ (u' v':Option V),[some (V.ref x),some (V.ref d),some (V.ref l1),u,v]=[some (V.ref x),some (V.ref d),some (V.ref l1),u',v']/\aB H7 H17:=⟨_,_,rfl,s8.trans S17⟩
   obtain⟨v18,avC,axG⟩:=azT.get hf
   refine⟨_,rfl,x,dx,_,rfl,S17 _ _ (S8 _ _ hx),qz _ _ _,_,rfl,x,F,vw,ps,fs,n,rfl,B17,?_⟩
   rw[hf]
   cases th with
   | pl ss =>
    obtain⟨l0,ys0,rfl,h0,_⟩:=axG
    refine⟨_,rfl,_,rfl,d,_,rfl,avC,?_⟩
    refine⟨_,_,_,_,rfl,iT.lst h0,rfl,_,rfl,wj ?_⟩
    refine⟨_,rfl,rfl,_,rfl,?_⟩
    exact bJ (fun h=>absurd h (by decide)) (fun _=>fin)
   | cn ld lt sl tn =>
    intro p hp
    obtain⟨p2,rfl,hp2⟩:=axG
    refine⟨_,rfl,_,rfl,d,_,rfl,avC,?_⟩
    refine⟨_,_,_,_,rfl,iT.tup hp2,rfl,_,rfl,di ?_⟩
    refine⟨fun b H'=>b=false/\H'=H17,?_,?_⟩
    ·tm_up
     refine⟨_,_,_,_,rfl,iT.tup hp,rfl,_,rfl,di ?_⟩
     refine⟨_,rfl,.inl ⟨p,_,rfl,.inr (nJ.of hp),?_⟩⟩
     refine .inl ⟨rfl,_,rfl,di ?_⟩
     refine⟨_,rfl,_,rfl,_,rfl,d,_,rfl,avC,.inr ⟨p,p2,rfl,rfl,axD 59 hp hp2,?_⟩⟩
     exact⟨_,rfl,rfl,rfl⟩
    intro b H18 ⟨e1,e2⟩
    rw[e1,e2]
    refine di ?_
    refine⟨fun b H'=>b=false/\H'=H17,?_,?_⟩
    ·refine⟨_,rfl,Vi (i:=1) hp rfl ⟨lt,rfl,_,rfl,di ?_⟩⟩
     refine⟨_,rfl,Vi (i:=2) hp rfl ⟨sl,rfl,_,rfl,di ?_⟩⟩
     refine⟨_,rfl,Vi (i:=3) hp rfl ?_⟩
     exact⟨_,_,_,_,rfl,iT.bl _,rfl,_,rfl,rfl,rfl⟩
    intro b H18 ⟨e1,e2⟩
    rw[e1,e2]
    refine di ?_
    exact fin
  ·rintro σ H' ⟨u,v,rfl,s8⟩
   exact q _ (S7.trans s8)
theorem Bw.fresh {c:Cs}{H0 H H':Hp}{x:Addr}{vw:Vw}{ps fs:List Vw}(h:Bw c H0 H x [] vw ps fs)(s:aB H H'):∃ H1,Bw c H1 H' x [] vw ps fs/\aB H0 H1/\(∀ y o,H' y=some o->H y=none->H1 y=some o)/\(∀ y o,H' y=some o->(∀ xs,o≠.lst xs)->H1 y=some o):=by
 obtain⟨F,b,hF,h0,ho⟩:=h.ex
 classical
 refine⟨fun y=>if F y then none else H' y,⟨⟨F,b.same s,fun y z=>let ⟨xs,e⟩:=hF y z;⟨xs,s _ _ e⟩,fun y hy=>if_pos hy,fun a ha=>nomatch ha⟩,fun y o e=>?_⟩,fun y o e=>?_,fun y o e n=>?_,fun y o e k=>?_⟩
 ·have e:(if F y then none else H' y)=some o:=e
  by_cases hy:F y
  ·rw[if_pos hy] at e;exact nomatch e
  ·rwa [if_neg hy] at e
 ·show (if F y then none else H' y)=some o
  rw[if_neg (fun hy=>by rw[h0 y hy] at e;exact nomatch e)]
  exact s _ _ (h.sm _ _ e)
 ·show (if F y then none else H' y)=some o
  rw[if_neg ?_,e]
  intro hy
  obtain⟨xs,q⟩:=hF y hy
  rw[n] at q
  exact nomatch q
 ·show (if F y then none else H' y)=some o
  rw[if_neg ?_,e]
  intro hy
  obtain⟨xs,q⟩:=hF y hy
  rw[s _ _ q] at e
  exact k xs (Option.some.inj e).symm
def TvB (B H:Hp)(y:V)(q:Str×Th):Prop:=∃ p v,y=.ref p/\H p=some (.tup [.str q.1,v])/\ThV B v q.2
theorem TvB.same {B H H':Hp}(s:aB H H'){y:V}{q:Str×Th}(h:TvB B H y q):TvB B H' y q:=by
 obtain⟨p,v,e1,e2,e3⟩:=h
 exact⟨p,v,e1,s _ _ e2,e3⟩
theorem TvB.write {B H:Hp}{l:Addr}{xs:List V}{o:HO}(hl:H l=some (.lst xs)){y:V}{q:Str×Th}(h:TvB B H y q):TvB B (upd H l o) y q:=by
 obtain⟨p,v,e1,e2,e3⟩:=h
 exact⟨p,v,e1,by rw[aA (fun e=>by rw[e,hl] at e2;exact nomatch e2)];exact e2,e3⟩
theorem aeg {B H:Hp}:∀ {ys:List V} {vw:Vw},Paired (TvB B H) ys vw->∃ kvs:List (Key×V),Paired (fun y kv=>∃ q,y=.ref q/\H q=some (.tup [kV kv.1,kv.2])) ys kvs/\Paired (ah8 B) kvs vw
 | _,_,.nil=>⟨[],.nil,.nil⟩
 | _,_,.cons ⟨p,v,e1,e2,e3⟩ t=>by
  obtain⟨kvs,h1,h2⟩:=aeg t
  exact⟨(Sum.inr _,v) :: kvs,.cons ⟨p,e1,e2⟩ h1,.cons ⟨rfl,e3⟩ h2⟩
inductive zy (K:Frag)(c:Cs)(vs:List V)(H:Hp)(Q:VK)(E:XK):Prop
 | mk (a x tl:Addr) (ns:List Int) (H0:Hp) (vw:Vw) (ps fs:List Vw) (gj:vs=[.ref a,.ref x,.ref tl]) (gk:bh K H0 a (ns.map V.int)) (jc:ns.length <= 63) (n8:Bw c H0 H x [] vw ps fs) (xJ:tU H0 tl vw) (h5_:adU vw) (h6_:ps.length <= 800) (h7_:∀ (H':Hp) (fs':List Vw),Bw c H0 H' x [] vw ps fs'->fs'.length <= fs.length+1->Q (.bl true) H'):zy K c vs H Q E
theorem Od (T:Txt K w mg t):bW P w K mg base jF (0+11) t.dJ t.qN ["_law_script","_law_book","_law_told"] (zy K (cs t)):=by
 have afh:=acS (P:=P) (w:=w) (base:=base) T
 have Ba:=xZ (P:=P) (w:=w) (base:=base) T
 have mR:=FT (P:=P) (w:=w) (base:=base) T
 have Jv:=RC (P:=P) (w:=w) (base:=base) T
 have uG:=aaQ (P:=P) (w:=w) (base:=base) T
 have bU:=xY (P:=P) (w:=w) (base:=base) T
 have zA:=Yd (P:=P) (w:=w) (base:=base) T
 refine T.iH.ok jO (fun vs H Q E h=>?_) (fun cdv A outer s H vs Q E hr h=>?_)
 ·obtain⟨_,_,_,_,_,_,_,_,rfl,_⟩:=h
  rfl
 ·obtain⟨a,x,tl,ns,H0,vw,ps,fs,rfl,hS,hl,B,⟨ys,ht,pvt⟩,ek,pl,q⟩:=h
  refine bA (ao (asq 4 ["_law_script","_law_book","_law_told","_law_plain","","_law_line_here","_law_voices"] (yD (i:=3) Hy rfl rfl (cn:=["_law_name","_law_thing"]) rfl (cU.of rfl) (dX (pv 2)) (fun _=>(iR rfl (bu (aU (i:=0) tH rfl (Or.inl rfl)) (bu (aU (i:=1) tH rfl (Or.inl rfl)) eZ)))) (fun _=>(auL (bD (aH cZ rfl T.bG bF (aa (pv 1) (aa (eY (v:=.ty "list") rfl T.iI iu rfl) aj)))))) (fun _=>(pv 0)))) (ao (bC (aJ (M6 (aY hr)) (pv 3) (cj aj) (aQ _)) (au (aG dY)) aO) (ao (aX (i:=4) jO.nd rfl (Or.inr rfl) (bH bx (pv 3) (aV eF (aD bU (hr.mono (by decide)) rfl T.cg T.bL.kp T.bY .nil aF (aa (pv 0) (aa az aj))) (aH (aM.or aN) rfl T.cC cB (aa (pv 3) aj))) (fun _ _=>rfl))) (ao (aX (i:=5) jO.nd rfl (Or.inr rfl) (aD afh (hr.mono (by decide)) rfl T.acN T.qX.kp T.Fx .nil aF (aa (pv 0) (aa (pv 1) (aa (pv 4) (aa (xN (QM hr) (cz jH rfl T.xX xK (aa (pv 2) aj)) (pv 4) (fun _ _=>rfl)) aj)))))) (ao (aX (i:=6) jO.nd rfl (Or.inl rfl) (cz jH rfl T.xX xK (aa (lF (cn:=["_law_one","_law_thing"]) rfl (cU.of rfl) (dX (pv 2)) (fun _=>(iR rfl (bu (aU (i:=0) tK rfl (Or.inl rfl)) (bu (aU (i:=1) tK rfl (Or.inl rfl)) eZ)))) (fun _=>kO) (fun _=>(fQ (aa (pv 0) (aa (fV (j0 (aJ (cP.or (bQ (aY hr))) (pv 0) (pv 6) (aQ _)) (pv 7) (pv 1))) aj))))) aj))) (ao (bC (cG (PW.pt (lU (cF (bD (aD uG (hr.mono (by decide)) rfl T.uB T.kI.kp T.qu .nil aF (aa (pv 0) (aa (pv 1) (aa (pv 6) aj)))))) (jj (cF (bD (aD zA (hr.mono (by decide)) rfl T.Aw T.mQ.kp T.uC .nil aF (aa (pv 1) (aa (pv 6) aj))))))))) (au (aG dY)) aO) (ao (bj (gG (pv 1) T.aZ T.qT mR (hr.mono (by decide)) T.mK .nil aF)) (ao (bC (cF (bD (aD uG (hr.mono (by decide)) rfl T.uB T.kI.kp T.qu .nil aF (aa (pv 0) (aa (pv 1) (aa (cz jH rfl T.xX xK (aa (pv 2) aj)) aj)))))) (au (aG dY)) aO) (ao (bj (gG (pv 1) T.aZ T.Ri Jv (hr.mono (by decide)) T.Am .nil aF)) (ao (bC (cF (bD (aD uG (hr.mono (by decide)) rfl T.uB T.kI.kp T.qu .nil aF (aa (pv 0) (aa (pv 1) (aa (pv 6) aj)))))) (au (aG dY)) aO) (ao (bj (gG (pv 1) T.aZ T.qT mR (hr.mono (by decide)) T.mK .nil aF)) (au (aG (aD uG (hr.mono (by decide)) rfl T.uB T.kI.kp T.qu .nil aF (aa (pv 0) (aa (pv 1) (aa (cz jH rfl T.xX xK (aa (pv 2) aj)) aj))))))))))))))))) ?_
  have yl:=bZ pvt
  have wl:=ek.w.len
  refine⟨rfl,_,rfl,tl,rfl,⟨_,bh.of (B.sm _ _ ht)⟩,fun D b hD=>?_⟩
  refine eN (K:=K) (xs:=ys) (fun i zs σ H'=>∃ (u v:Option V) (pns:List Str),σ=[u,v,some (.ref a),some (.ref x),some (.ref tl),none,none,none,none]/\aB H H'/\H' D=some (.lst zs)/\zs=pns.map V.str/\pns.length <= i/\i <= vw.length/\∀ m∈pns,∃ ss,(m,Th.pl ss)∈vw)
   ⟨none,none,[],rfl,aB.upd hD,ak,rfl,Nat.le_refl _,Nat.zero_le _,fun _ h=>nomatch h⟩ ?_ ?_ ?_
  ·rintro i zs σ H' ⟨u,v,pns,rfl,s2,_⟩
   exact bh.of (s2 _ _ (B.sm _ _ ht))
  ·rintro i zs y σ H' hy ⟨u,v,pns,rfl,s2,Rw,rfl,pl2,il,hpn⟩ N hN
   obtain⟨⟨n,th⟩,hq,p,w0,rfl,hp,hv⟩:=wu pvt hy
   have il2:i < vw.length:=(List.getElem?_eq_some_iff.mp hq).1
   unfold Hi
   refine⟨p,_,rfl,nJ.of (s2 _ _ (B.sm _ _ hp)),rfl,_,_,rfl,_,_,rfl,rfl,?_⟩
   cases th with
   | pl ss =>
    obtain⟨l,ls,rfl,hl1,_⟩:=hv
    tm_up
    refine⟨_,_,_,_,rfl,iT.lst (s2 _ _ (B.sm _ _ hl1)),rfl,_,rfl,wj ?_⟩
    refine⟨_,rfl,Rw,bc (by rw[List.length_map];omega),hN _ _ _ ⟨_,_,pns++[n],rfl,dD s2 hD,ak,by rw[List.map_append];rfl,by rw[List.length_append];show _+1 <= _;omega,il2,fun m hm=>?_⟩⟩
    rcases List.mem_append.mp hm with hm | hm
    ·exact hpn m hm
    ·rw[List.mem_singleton.mp hm]
     exact⟨ss,List.mem_of_getElem? hq⟩
   | cn ld lt sl tn =>
    obtain⟨tp,rfl,hl1⟩:=hv
    tm_up
    refine⟨_,_,_,_,rfl,iT.tup (s2 _ _ (B.sm _ _ hl1)),rfl,_,rfl,di ?_⟩
    exact hN _ _ _ ⟨_,_,pns,rfl,s2,Rw,rfl,by omega,il2,hpn⟩
  ·rintro zs σ H1 ⟨u,v,pns,rfl,s1,Rw,rfl,pl2,il,hpn⟩
   have B1:=B.same s1
   refine⟨rfl,?_⟩
   refine⟨_,rfl,big (by show 0 <= 1000;omega),fun e0 he0=>?_⟩
   have s2:=aB.upd (o:=.lst []) he0
   have h2:=ak (H:=H1) (a:=e0) (o:=.lst [])
   generalize upd H1 e0 (.lst [])=H2 at s2 h2
   have hD2:=s2 _ _ Rw
   have B2:=B1.same s2
   refine⟨D,e0,pns.map V.str,rfl,rfl,bh.of hD2,bh.of h2,_,rfl,?_⟩
   refine bJ (fun hem=>?_) (fun hem=>?_)
   ·exact q _ fs B2 (Nat.le_succ _)
   have pn0:0 < pns.length:=by
    cases pns with
    | nil=>exact absurd rfl hem
    | cons _ _=>exact Nat.succ_pos _
   tm_up
   refine⟨a,ns,7,rfl,B2.sm.seq hS,hl,?_⟩
   refine⟨_,rfl,.inl ⟨D,_,rfl,.inl (bh.of hD2),?_⟩⟩
   obtain⟨k,hkI,hk⟩:=acJ (jD ns 7) (k:=(pns.length:Int)) (by omega)
   refine⟨_,_,rfl,rfl,by rw[List.length_map];show (0:Int) < pns.length;omega,?_⟩
   obtain⟨n,hn⟩:∃ n,pns[k]? = some n:=⟨_,List.getElem?_eq_getElem (by omega)⟩
   obtain⟨ss,hss⟩:=hpn n (List.mem_of_getElem? hn)
   have hf:=ek.w.find hss
   refine ixL (bh.of hD2) (n:=k) (by rw[List.length_map];exact hkI) (by rw[List.getElem?_map,hn];rfl) ?_
   tm_up
   obtain⟨kvs,k1,k2⟩:=Nj pvt
   have kl:=bZ k2
   have knd:=Z2 k2 ek.w.nd
   obtain⟨v,hval,hv⟩:=aqx k2 hf
   obtain⟨l,ls,rfl,hl0,gl0⟩:=hv
   refine⟨rfl,tl,ys,kvs,rfl,bh.of (B2.sm _ _ ht),bV (fun _ _ ⟨q,e1,e2⟩=>⟨q,e1,B2.sm _ _ e2⟩) k1,by omega,fun d hd=>?_⟩
   rw[Ew kvs [] (by simpa using knd)]
   have s3:=aB.upd (o:=.dK kvs) hd
   have h3:=ak (H:=H2) (a:=d) (o:=.dK kvs)
   rw[List.nil_append]
   generalize upd H2 d (.dK kvs)=H3 at s3 h3
   have B3:=B2.same s3
   refine⟨_,rfl,d,.ref l,rfl,.inl ⟨kvs,Sum.inr n,.inl h3,rfl,hval.symm⟩,?_⟩
   have ssl:=ek.sh n ss hss
   refine⟨a,x,l,n,ns,ls,ss,H0,vw,ps,fs,rfl,hS,hl,B3,hl0,gl0,hf,ssl,by omega,fun l4 ys4 ss4 H4 B4 h4 g4 asS gd4=>?_⟩
   obtain⟨H0',B4',s00,kp4⟩:=B4.rebase
   have h40:=kp4 _ _ h4 (.inr (List.mem_singleton_self _))
   have g40:nP H0' ys4 ss4:=kp4.sgs g4
   have axH:=s00 _ _ ht
   tm_up
   refine⟨⟨_,bh.of (B4'.sm _ _ axH)⟩,fun D2 b2 hD2=>?_⟩
   refine eN (K:=K) (xs:=ys) (fun i zs σ H'=>∃ (u v:Option V),σ=[u,v,some (.ref a),some (.ref x),some (.ref tl),some (.ref D),some (.str n),some (.ref l4),none]/\aB H4 H'/\H' D2=some (.lst zs)/\Paired (TvB H0' H') zs ((Dq vw n (.pl ss4)).take i)/\i <= vw.length)
    ⟨none,none,rfl,aB.upd hD2,ak,.nil,Nat.zero_le _⟩ ?_ ?_ ?_
   ·rintro i zs σ H' ⟨u,v,rfl,s5,_⟩
    exact bh.of (s5 _ _ (B4'.sm _ _ axH))
   ·rintro i zs y σ H5 hy ⟨u,v,rfl,s5,hD5,pv5,il5⟩ N hN
    obtain⟨⟨m,th⟩,hq,p,w0,rfl,hp,hv⟩:=wu pvt hy
    have il6:i < vw.length:=(List.getElem?_eq_some_iff.mp hq).1
    have hp5:=s5 _ _ (B4'.sm _ _ (s00 _ _ hp))
    have zl5:=bZ pv5
    rw[List.length_take] at zl5
    have eq6:(Dq vw n (.pl ss4))[i]? = some (m,if m=n then Th.pl ss4 else th):=by
     unfold Dq
     rw[List.getElem?_map,hq]
     show some (if m=n then (n,Th.pl ss4) else (m,th))=_
     by_cases e:m=n
     ·rw[if_pos e,if_pos e,e]
     ·rw[if_neg e,if_neg e]
    unfold Hi
    refine⟨p,_,rfl,nJ.of hp5,rfl,_,_,rfl,_,_,rfl,rfl,?_⟩
    tm_up
    refine⟨fun vv H'=>H'=H5/\ThV H0' vv (if m=n then Th.pl ss4 else th),?_,?_⟩
    ·tm_up
     refine bJ (fun he=>?_) (fun he=>?_)
     ·have e:m=n:=by injection (of_decide_eq_true he)
      refine⟨_,rfl,rfl,?_⟩
      rw[if_pos e]
      exact⟨l4,ys4,rfl,h40,g40⟩
     ·have e:m≠n:=fun e=>he (decide_eq_true (by rw[e]))
      refine⟨_,rfl,rfl,?_⟩
      rw[if_neg e]
      exact hv.same s00
    rintro vv H6 ⟨e6,hvv⟩
    rw[e6]
    clear e6 H6
    refine⟨big (by show 2 <= 1000;omega),fun p7 hp7=>?_⟩
    have st:=aB.upd (o:=.tup [V.str m,vv]) hp7
    refine⟨st _ _ hD5,bc (by omega),hN _ _ _ ⟨_,_,rfl,dD (s5.trans st) hD2,ak,?_,il6⟩⟩
    rw[List.take_succ,eq6]
    exact bV (fun _ _ q=>TvB.write (st _ _ hD5) q) (oF (bV (fun _ _ q=>TvB.same st q) pv5) ⟨p7,vv,rfl,ak,hvv⟩)
   ·rintro zs σ H5 ⟨u,v,rfl,s5,hD5,pv5,_⟩
    have vl5:(Dq vw n (.pl ss4)).length=vw.length:=by unfold Dq;rw[List.length_map]
    rw[yl,← vl5,List.take_length] at pv5
    obtain⟨anW,j1,j2⟩:=aeg pv5
    have kl5:=bZ j2
    have azW:=Z2 j2 (by rw[Nh];exact ek.w.nd)
    refine⟨rfl,D2,zs,anW,rfl,bh.of hD5,j1,by omega,fun d5 hd5=>?_⟩
    rw[Ew anW [] (by simpa using azW),List.nil_append]
    have s6:=aB.upd (o:=.dK anW) hd5
    have h6:=ak (H:=H5) (a:=d5) (o:=.dK anW)
    generalize upd H5 d5 (.dK anW)=H6 at s6 h6
    obtain⟨H1,B6,s01,fr1,fr2⟩:=B4'.fresh (s5.trans s6)
    have dv:Q4 H1 d5 (Dq vw n (.pl ss4)):=⟨anW,fr2 _ _ h6 (fun _ z=>nomatch z),bV (fun _ _ q=>q.same s01) j2⟩
    have tld:tU H1 tl vw:=tU.same (s00.trans s01) ⟨ys,ht,pvt⟩
    have hS1:=(s00.trans s01).seq hS
    refine⟨fun b H'=>b=false/\aB H6 H',?_,?_⟩
    ·obtain⟨F6,b6,_⟩:=B6.ex
     tm_up
     refine⟨a,x,d5,ns,F6,_,_,_,rfl,B6.sm.seq hS1,hl,b6,dv.same B6.sm,fun H7 s7=>⟨_,rfl,di ?_⟩⟩
     have B7:=B6.same s7
     obtain⟨F7,b7,_⟩:=B7.ex
     tm_up
     exact⟨x,d5,F7,_,_,_,rfl,b7,dv.same B7.sm,fun H8 s8=>⟨_,rfl,rfl,s7.trans s8⟩⟩
    rintro _ H7 ⟨rfl,s7⟩
    refine di ?_
    have B7:=B6.same s7
    obtain⟨dx7,L7,D7,U7,hx7⟩:=B7.hx
    obtain⟨F7,b7,f7,z7,o7⟩:=B7.ex
    refine⟨_,rfl,x,dx7,_,rfl,hx7,vJ _ _ _,?_⟩
    refine⟨x,F7,_,_,[],rfl,b7,by rw[List.length_append];show ps.length+1+0 <= 900;omega,(fun z=>by simp at z),fun XJ v0 e0 H8 fr8 b8=>?_⟩
    obtain⟨e01,e02⟩:=qD e0
    subst e01 e02
    obtain⟨B8,_⟩:=Bw.mk' b8 B7.sm f7 z7 o7 (Gr.refl _ _) fr8
    obtain⟨zs8,axI,hz8,pk8,kl8,dk8⟩:=(tld.same B8.sm).dict ek.w.nd
    tm_up
    refine⟨rfl,tl,zs8,axI,rfl,bh.of hz8,pk8,by omega,fun d8 hd8=>?_⟩
    obtain⟨s9,d9⟩:=dk8 d8 hd8
    generalize upd H8 d8 (.dK (lX [] axI))=H9 at s9 d9
    have B9:=B8.same s9
    obtain⟨F9,b9,_⟩:=B9.ex
    refine⟨a,x,d8,ns,F9,_,_,_,rfl,B9.sm.seq hS1,hl,b9,d9,fun H10 s10=>⟨_,rfl,di ?_⟩⟩
    have B10:=B9.same s10
    obtain⟨azX,L10,D10,U10,azY⟩:=B10.hx
    obtain⟨F10,b10,f10,z10,o10⟩:=B10.ex
    refine⟨_,rfl,x,azX,_,rfl,azY,XH _ _ _,?_⟩
    refine⟨x,F10,_,_,_,rfl,b10,by show _+1 <= 900;omega,(fun z=>by simp at z),fun fs0 v0 e0 H11 afb b11=>?_⟩
    obtain⟨e01,e02⟩:=qD e0
    subst e01 e02
    obtain⟨B11,_⟩:=Bw.mk' b11 B10.sm f10 z10 o10 (Gr.refl _ _) afb
    obtain⟨F11,azZ,_⟩:=B11.ex
    tm_up
    refine⟨a,x,d5,ns,F11,_,_,_,rfl,B11.sm.seq hS1,hl,azZ,dv.same B11.sm,fun H12 s12=>⟨_,rfl,di ?_⟩⟩
    have B12:=B11.same s12
    obtain⟨az0,L12,D12,U12,az1⟩:=B12.hx
    obtain⟨F12,b12,f12,z12,o12⟩:=B12.ex
    refine⟨_,rfl,x,az0,_,rfl,az1,vJ _ _ _,?_⟩
    refine⟨x,F12,_,_,_,rfl,b12,by rw[List.length_append];show _+1+0 <= 900;omega,(fun z=>by simp at z),fun ps1 v1 e1 H13 az2 b13=>?_⟩
    obtain⟨e11,e12⟩:=qD e1
    subst e11 e12
    obtain⟨B13,_⟩:=Bw.mk' b13 B12.sm f12 z12 o12 (Gr.refl _ _) az2
    obtain⟨az3,auj,az4,az5,aDu,az6⟩:=(tld.same B13.sm).dict ek.w.nd
    tm_up
    refine⟨rfl,tl,az3,auj,rfl,bh.of az4,az5,by omega,fun d13 az8=>?_⟩
    obtain⟨s14,d14⟩:=az6 d13 az8
    generalize upd H13 d13 (.dK (lX [] auj))=H14 at s14 d14
    have B14:=B13.same s14
    obtain⟨F14,b14,f14,z14,o14⟩:=B14.ex
    refine⟨a,x,d13,ns,F14,_,_,_,rfl,B14.sm.seq hS1,hl,b14,d14,fun H15 s15=>?_⟩
    have B15:=B14.same s15
    obtain⟨F15,b15,f15,z15,o15⟩:=B15.ex
    have s0H:aB H0 H1:=s00.trans s01
    exact q H15 _ ⟨⟨F15,b15,f15,fun y hy=>s0H.free (z15 y hy),o15⟩,s0H.trans B15.sm⟩ (by show 1 <= fs.length+1;omega)
theorem aaS (vw:Vw)(n:Str):jM (vw++[(n,.pl [])])=vw:=by
 unfold jM
 rw[List.getLast?_concat]
 show (if ([]:List Sg)=[] then _ else _)=_
 rw[if_pos rfl,List.dropLast_concat]
theorem aeh (vw:Vw)(n ld:Str)(lt sl:Int)(tn:Bool):jM (vw++[(n,.cn ld lt sl tn)])=vw:=by
 unfold jM
 rw[List.getLast?_concat]
 exact List.dropLast_concat
theorem anY (vw:Vw)(n:Str){ss:List Sg}{j:Nat}{s:Sg}(h:ss[j]? = some s):jM (vw++[(n,.pl (ss.take (j+1)))])=vw++[(n,.pl (ss.take j))]:=by
 have e:ss.take (j+1)=ss.take j++[s]:=by rw[List.take_succ,h];rfl
 unfold jM
 rw[List.getLast?_concat,e]
 show (if ss.take j++[s]=[] then _ else _)=_
 rw[if_neg (by simp),List.dropLast_concat,List.dropLast_concat]
theorem akh (vw:Vw)(n:Str){ss:List Sg}(h:ss≠[]):jM (vw++[(n,.pl ss)])=vw++[(n,.pl ss.dropLast)]:=by
 unfold jM
 rw[List.getLast?_concat]
 show (if ss=[] then _ else _)=_
 rw[if_neg h,List.dropLast_concat]
theorem afi {α β:Type}{F:α->β->Prop}:∀ {ys:List α} {vs:List β} {q:β},Paired F ys (vs++[q])->∃ ys0 y,ys=ys0++[y]/\Paired F ys0 vs/\F y q
 | _,[],_,.cons r .nil=>⟨[],_,rfl,.nil,r⟩
 | _,_ :: vs,_,.cons r t=>by
  obtain⟨ys0,y,rfl,h1,h2⟩:=afi t
  exact⟨_ :: ys0,y,rfl,.cons r h1,h2⟩
theorem amN (xs:List V)(v:V):MT (xs++[v]) none (some (-1))=xs:=by
 unfold MT
 have e:HT.tD (xs++[v]).length (xs++[v]).length (some (-1))=xs.length:=by
  rw[List.length_append]
  show HT.tD (xs.length+1) (xs.length+1) (some (-1))=xs.length
  unfold HT.tD
  first | omega | (simp;omega) | (split <;> omega)
 rw[HT.Zu,e,Nat.sub_zero,List.drop_zero,List.take_left']
 rfl
inductive Jw (K:Frag)(c:Cs)(vs:List V)(H:Hp)(Q:VK)(E:XK):Prop
 | mk (a x tl:Addr) (ns:List Int) (H0:Hp) (vw:Vw) (ps:List Vw) (gj:vs=[.ref a,.ref x,.ref tl]) (gk:bh K H0 a (ns.map V.int)) (jc:ns.length <= 63) (n8:Bw c H0 H x [] vw ps (if vw.length < 12 then [afa vw] else [])) (xJ:tU H0 tl vw) (h5_:adU vw) (h6_:ps.length <= 400) (h7_:(vw≠[]->∃ XJ,ps=XJ++[jM vw])) (h8_:∀ H',Q (.bl true) H'):Jw K c vs H Q E
theorem aaT (T:Txt K w mg t):bW P w K mg base jF (0+12) t.iW t.Ca ["_law_script","_law_book","_law_told"] (Jw K (cs t)):=by
 have Ba:=xZ (P:=P) (w:=w) (base:=base) T
 have mR:=FT (P:=P) (w:=w) (base:=base) T
 have Jv:=RC (P:=P) (w:=w) (base:=base) T
 have R3:=Od (P:=P) (w:=w) (base:=base) T
 have uG:=aaQ (P:=P) (w:=w) (base:=base) T
 have zA:=Yd (P:=P) (w:=w) (base:=base) T
 have iQ:=vD (P:=P) (w:=w) (base:=base) T
 refine T.oR.ok yM (fun vs H Q E h=>?_) (fun cdv A outer s H vs Q E hr h=>?_)
 ·obtain⟨_,_,_,_,_,_,_,rfl,_⟩:=h
  rfl
 ·obtain⟨a,x,tl,ns,H0,vw,ps,rfl,hS,hl,B,tld,ek,pl,bf,q⟩:=h
  refine bA (ao (bC (cG (PW.pt (lU (cF (bD (aD uG (hr.mono (by decide)) rfl T.uB T.kI.kp T.qu .nil aF (aa (pv 0) (aa (pv 1) (aa (cz jH rfl T.xX xK (aa (pv 2) aj)) aj)))))) (jj (cF (bD (aD zA (hr.mono (by decide)) rfl T.Aw T.mQ.kp T.uC .nil aF (aa (pv 1) (aa (cz jH rfl T.xX xK (aa (pv 2) aj)) aj))))))))) (au (aG dY)) aO) (ao (wk (bC (aJ Dg (aH (aM.or aN) rfl T.cC cB (aa (pv 2) aj)) az (aQ _)) (ao (bj (gG (pv 1) T.aZ T.Ri Jv (hr.mono (by decide)) T.Am .nil aF)) (ao (bC (cF (bD (aD zA (hr.mono (by decide)) rfl T.Aw T.mQ.kp T.uC .nil aF (aa (pv 1) (aa (cz jH rfl T.xX xK (aa (aV (bN.or (aR.or bO)) (pv 2) (cj (aa (fQ (aa cA (aa (cj aj) aj))) aj))) aj)) aj))))) (au (aG dY)) aO) (au (bj (gG (pv 1) T.aZ T.qT mR (hr.mono (by decide)) T.mK .nil aF))))) aO)) (ao (bC (cF (bD (aD R3 (hr.mono (by decide)) rfl T.NZ T.iH.kp T.rm .nil aF (aa (pv 0) (aa (pv 1) (aa (pv 2) aj)))))) (au (aG dY)) aO) (ao (bC (aJ (M6 (aY hr)) (pv 2) (cj aj) (aQ _)) (au (aG (dh (M6 (aY hr)) (gG (pv 1) T.aZ T.oO iQ (hr.mono (by decide)) T.jV .nil aF) (cj aj) (aQ _)))) aO) (ao (aX (i:=3) yM.nd rfl (Or.inl rfl) (ou (vq.or (BJ.or BK)) (pv 2) vo (lE (Xx HH az)))) (ao (wk (bC (cG (PW.pt (fP (bD (aH cZ rfl T.bG bF (aa (bH bx (bH bx (pv 2) (Xx HH az) (fun _ _=>rfl)) az (fun _ _=>rfl)) (aa (eY (v:=.ty "list") rfl T.iI iu rfl) aj)))) (ir (aJ (auV (aY hr)) (bH bx (bH bx (pv 2) (Xx HH az) (fun _ _=>rfl)) az (fun _ _=>rfl)) (cj aj) (aQ _)))))) (au (aX (i:=3) yM.nd rfl (Or.inl rfl) (aV (bN.or (aR.or bO)) (pv 3) (cj (aa (fQ (aa (bH bx (bH bx (pv 2) (Xx HH az) (fun _ _=>rfl)) az (fun _ _=>rfl)) (aa (ou (vq.or (BJ.or BK)) (bH bx (bH bx (pv 2) (Xx HH az) (fun _ _=>rfl)) az (fun _ _=>rfl)) vo (lE (Xx HH az))) aj))) aj))))) aO)) (ao (bj (gG (pv 1) T.aZ T.qT mR (hr.mono (by decide)) T.mK .nil aF)) (au (aG (fV (tM (aD uG (hr.mono (by decide)) rfl T.uB T.kI.kp T.qu .nil aF (aa (pv 0) (aa (pv 1) (aa (cz jH rfl T.xX xK (aa (pv 3) aj)) aj)))) (tL (aD zA (hr.mono (by decide)) rfl T.Aw T.mQ.kp T.uC .nil aF (aa (pv 1) (aa (cz jH rfl T.xX xK (aa (pv 3) aj)) aj))))))))))))))) ?_
  have wl:=ek.w.len
  refine⟨fun b H'=>b=false/\aB H H',?_,?_⟩
  ·tm_up
   obtain⟨ys,kvs,ht,pk,kl,dk⟩:=(tld.same B.sm).dict ek.w.nd
   refine⟨rfl,tl,ys,kvs,rfl,bh.of ht,pk,by omega,fun d hd=>?_⟩
   obtain⟨s1,d1⟩:=dk d hd
   generalize upd H d (.dK (lX [] kvs))=H1 at s1 d1
   have B1:=B.same s1
   obtain⟨F1,b1,_⟩:=B1.ex
   refine⟨a,x,d,ns,F1,vw,ps,_,rfl,B1.sm.seq hS,hl,b1,d1,fun H2 s2=>⟨_,rfl,di ?_⟩⟩
   have s12:=s1.trans s2
   have B2:=B.same s12
   clear pk dk ht hd
   obtain⟨ys,kvs,ht,pk,kl,dk⟩:=(tld.same B2.sm).dict ek.w.nd
   tm_up
   refine⟨rfl,tl,ys,kvs,rfl,bh.of ht,pk,by omega,fun d hd=>?_⟩
   obtain⟨s3,d3⟩:=dk d hd
   generalize upd H2 d (.dK (lX [] kvs))=H3 at s3 d3
   have B3:=B2.same s3
   obtain⟨F3,b3,_⟩:=B3.ex
   exact⟨x,d,F3,vw,ps,_,rfl,b3,d3,fun H4 s4=>⟨_,rfl,rfl,s12.trans (s3.trans s4)⟩⟩
  rintro _ H1 ⟨rfl,s1⟩
  refine di ?_
  have B1:=B.same s1
  clear B s1
  refine⟨fun σ H'=>σ=[some (.ref a),some (.ref x),some (.ref tl),none]/\Bw (cs t) H0 H' x [] vw ps (if vw.length < 12 then [afa vw] else []),?_,?_⟩
  ·obtain⟨ys,ht,pvt⟩:=tld
   have yl:=bZ pvt
   tm_up
   refine .inl ⟨tl,ys,rfl,.inl (bh.of (B1.sm _ _ ht)),?_⟩
   tm_up
   refine bJ (fun hlt=>?_) (fun hlt=>?_)
   ·have hlt':vw.length < 12:=by have:=of_decide_eq_true hlt;omega
    rw[if_pos hlt'] at B1
    obtain⟨dx,L,D,U,hx⟩:=B1.hx
    obtain⟨F1,b1,f1,z1,o1⟩:=B1.ex
    refine⟨_,rfl,x,dx,_,rfl,hx,XH _ _ _,?_⟩
    refine⟨x,F1,_,ps,_,rfl,b1,by show ps.length+1 <= 900;omega,(fun z=>nomatch z),fun fs0 v0 e0 H4 fr4 b4=>?_⟩
    obtain⟨e01,e02⟩:=qD (show []++[afa vw]=fs0++[v0] from e0)
    subst e01 e02
    obtain⟨B4,k4⟩:=Bw.mk' b4 B1.sm f1 z1 o1 (Gr.refl _ _) fr4
    clear b1 f1 z1 o1 fr4 b4 k4
    refine⟨_,rfl,_,rfl,big (by show 0 <= 1000;omega),fun e0 he0=>?_⟩
    have s5:=aB.upd (o:=.lst []) he0
    have h5:=ak (H:=H4) (a:=e0) (o:=.lst [])
    generalize upd H4 e0 (.lst [])=H5 at s5 h5
    refine⟨big (by show 2 <= 1000;omega),fun p0 hp0=>?_⟩
    have s6:=aB.upd (o:=.tup [V.str "zed",V.ref e0]) hp0
    have h6:=ak (H:=H5) (a:=p0) (o:=.tup [V.str "zed",V.ref e0])
    generalize upd H5 p0 (.tup [V.str "zed",V.ref e0])=H6 at s6 h6
    refine⟨big (by show 1 <= 1000;omega),fun l0 hl0=>?_⟩
    have s7:=aB.upd (o:=.lst [V.ref p0]) hl0
    have h7:=ak (H:=H6) (a:=l0) (o:=.lst [V.ref p0])
    generalize upd H6 l0 (.lst [V.ref p0])=H7 at s7 h7
    have s47:=(s5.trans s6).trans s7
    refine .inr (.inr ⟨tl,l0,ys,_,rfl,rfl,s47 _ _ (B4.sm _ _ ht),h7,big (by show _+1 <= 1000;omega),fun c hc=>?_⟩)
    have s8:=aB.upd (o:=.lst (ys++[V.ref p0])) hc
    have h8:=ak (H:=H7) (a:=c) (o:=.lst (ys++[V.ref p0]))
    generalize upd H7 c (.lst (ys++[V.ref p0]))=H8 at s8 h8
    have s48:=s47.trans s8
    have B8:=B4.same s48
    have tz:tU H8 c (afa vw):=⟨_,h8,M7 (bV (fun _ _ q=>q.same B8.sm) pvt) (.cons ⟨p0,.ref e0,rfl,s8 _ _ (s7 _ _ h6),e0,[],rfl,s8 _ _ (s7 _ _ (s6 _ _ h5)),.nil⟩ .nil)⟩
    obtain⟨zs,kvs,hz,pk,kl,dk⟩:=tz.dict B8.wv.nd
    have zl:(afa vw).length=vw.length+1:=by unfold afa;rw[List.length_append];rfl
    tm_up
    refine⟨rfl,c,zs,kvs,rfl,bh.of hz,pk,by omega,fun d hd=>?_⟩
    obtain⟨s9,d9⟩:=dk d hd
    generalize upd H8 d (.dK (lX [] kvs))=H9 at s9 d9
    have B9:=B8.same s9
    obtain⟨F9,b9,_⟩:=B9.ex
    refine⟨x,d,F9,afa vw,_,_,rfl,b9,d9,fun H10 s10=>⟨_,rfl,di ?_⟩⟩
    have B10:=B9.same s10
    obtain⟨dx2,L2,D2,U2,hx2⟩:=B10.hx
    obtain⟨F3,b3,f3,z3,o3⟩:=B10.ex
    refine⟨_,rfl,x,dx2,_,rfl,hx2,vJ _ _ _,?_⟩
    refine⟨x,F3,_,_,[],rfl,b3,by rw[List.length_append];show ps.length+1+0 <= 900;omega,(fun z=>by simp at z),fun XJ v0 e0 H11 afb b11=>?_⟩
    obtain⟨e01,e02⟩:=qD e0
    subst e01 e02
    obtain⟨B11,k11⟩:=Bw.mk' b11 B10.sm f3 z3 o3 (Gr.refl _ _) afb
    exact⟨rfl,by rw[if_pos hlt'];exact B11⟩
   ·exact⟨rfl,B1⟩
  rintro _ H2 ⟨rfl,B2⟩
  tm_up
  refine⟨a,x,tl,ns,H0,vw,ps,_,rfl,hS,hl,B2,tld,ek,by omega,fun H3 fs3 B3 l3=>⟨_,rfl,di ?_⟩⟩
  have l3':fs3.length <= 2:=by
   refine Nat.le_trans l3 ?_
   split
   ·exact Nat.le_refl _
   ·exact Nat.le_succ _
  obtain⟨ys,ht,pvt⟩:=tld
  have yl:=bZ pvt
  refine⟨_,rfl,big (by show 0 <= 1000;omega),fun e0 he0=>?_⟩
  have s4:=aB.upd (o:=.lst []) he0
  have h4:=ak (H:=H3) (a:=e0) (o:=.lst [])
  generalize upd H3 e0 (.lst [])=H4 at s4 h4
  have B4:=B3.same s4
  refine⟨tl,e0,ys,rfl,rfl,bh.of (B4.sm _ _ ht),bh.of h4,_,rfl,?_⟩
  refine bJ (fun hem=>?_) (fun hem=>?_)
  ·have vn:vw=[]:=by
    cases vw with
    | nil=>rfl
    | cons q r=>cases pvt;exact nomatch hem
   subst vn
   obtain⟨dx,L,D,U,hx⟩:=B4.hx
   obtain⟨F4,b4,_⟩:=B4.ex
   refine⟨_,rfl,x,dx,_,rfl,hx,qy _ _ _,x,F4,[],ps,fs3,rfl,b4,fun l5 H5 nl5 s5 h5=>?_⟩
   refine⟨big (by show 0 <= 1000;omega),fun e6 he6=>?_⟩
   exact⟨l5,e6,[],rfl,rfl,bh.of (aB.upd he6 _ _ h5),bh.of ak,q _⟩
  ·obtain⟨vw0,n,th,rfl⟩:∃ vw0 n th,vw=vw0++[(n,th)]:=by
    rcases List.eq_nil_or_concat vw with rfl | ⟨v0,⟨n,th⟩,e⟩
    ·cases pvt
     exact absurd rfl hem
    ·exact⟨v0,n,th,by rw[e,List.concat_eq_append]⟩
   obtain⟨XJ,rfl⟩:=bf (by simp)
   obtain⟨ys0,y,rfl,p0,p,v,rfl,hp,hv⟩:=afi pvt
   have w24:=ek.sh
   refine⟨_,rfl,_,rfl,-1,rfl,.inl ⟨tl,_,rfl,bh.of (B4.sm _ _ ht),fun l5 hl5=>?_⟩⟩
   rw[amN]
   have s5:=aB.upd (o:=.lst ys0) hl5
   have h5:=ak (H:=H4) (a:=l5) (o:=.lst ys0)
   generalize upd H4 l5 (.lst ys0)=H5 at s5 h5
   have ht5:=s5 _ _ (B4.sm _ _ ht)
   have hp5:=s5 _ _ (B4.sm _ _ hp)
   refine⟨fun σ H'=>∃ (l':Addr) (H1:Hp),σ=[some (.ref a),some (.ref x),some (.ref tl),some (.ref l')]/\Bw (cs t) H1 H' x [] (vw0++[(n,th)]) (XJ++[jM (vw0++[(n,th)])]) fs3/\aB H0 H1/\tU H1 l' (jM (vw0++[(n,th)])),?_,?_⟩
   ·cases th with
    | cn ld lt sl tn =>
     obtain⟨tp,rfl,htp⟩:=hv
     obtain⟨H1',B5',s01,fr1,fr2⟩:=B4.fresh s5
     refine oE false ?_ ?_
     ·tm_up
      refine .inl ⟨tl,_,-1,_,rfl,rfl,bh.of ht5,HN _ _,?_⟩
      tm_up
      exact⟨_,_,_,_,rfl,iT.tup (s5 _ _ (B4.sm _ _ htp)),rfl,_,rfl,di (fu rfl)⟩
     refine di ?_
     exact⟨l5,H1',rfl,B5',s01,by rw[aeh];exact⟨ys0,fr1 _ _ h5 hl5,bV (fun _ _ q=>q.same s01) p0⟩⟩
    | pl ss =>
     obtain⟨l,zs,rfl,hl6,g6⟩:=hv
     have avF:=s5 _ _ (B4.sm _ _ hl6)
     refine⟨fun b H'=>aB H5 H'/\b = !zs.isEmpty,?_,?_⟩
     ·tm_up
      refine .inl ⟨tl,_,-1,_,rfl,rfl,bh.of ht5,HN _ _,?_⟩
      tm_up
      refine⟨_,_,_,_,rfl,iT.lst avF,rfl,_,rfl,wj ?_⟩
      tm_up
      refine .inl ⟨tl,_,-1,_,rfl,rfl,bh.of ht5,HN _ _,?_⟩
      refine .inr (.inl ⟨p,_,1,_,rfl,rfl,nJ.of hp5,rfl,?_⟩)
      refine⟨big (by show 0 <= 1000;omega),fun e6 he6=>?_⟩
      exact⟨l,e6,zs,rfl,rfl,bh.of (aB.upd he6 _ _ avF),bh.of ak,_,rfl,aB.upd he6,rfl⟩
     rintro b H6 ⟨s6,rfl⟩
     refine bJ (fun hne=>?_) (fun hne=>?_)
     ·obtain⟨ss0,sl0,rfl⟩:∃ ss0 sl0,ss=ss0++[sl0]:=by
       rcases List.eq_nil_or_concat ss with rfl | ⟨v0,s0,e⟩
       ·cases g6
        exact nomatch hne
       ·exact⟨v0,s0,by rw[e,List.concat_eq_append]⟩
      obtain⟨zs0,z0,rfl,g60,_⟩:=afi g6
      have ht6:=s6 _ _ ht5
      have hp6:=s6 _ _ hp5
      have aAb:=s6 _ _ avF
      tm_up
      refine .inl ⟨tl,_,-1,_,rfl,rfl,bh.of ht6,HN _ _,?_⟩
      refine .inr (.inl ⟨p,_,0,_,rfl,rfl,nJ.of hp6,rfl,?_⟩)
      tm_up
      refine .inl ⟨tl,_,-1,_,rfl,rfl,bh.of ht6,HN _ _,?_⟩
      refine .inr (.inl ⟨p,_,1,_,rfl,rfl,nJ.of hp6,rfl,?_⟩)
      refine⟨_,rfl,-1,rfl,.inl ⟨l,_,rfl,bh.of aAb,fun l7 hl7=>?_⟩⟩
      rw[amN]
      have s7:=aB.upd (o:=.lst zs0) hl7
      have h7:=ak (H:=H6) (a:=l7) (o:=.lst zs0)
      generalize upd H6 l7 (.lst zs0)=H7 at s7 h7
      refine⟨big (by show 2 <= 1000;omega),fun p7 hp7=>?_⟩
      have s8:=aB.upd (o:=.tup [V.str n,V.ref l7]) hp7
      have h8:=ak (H:=H7) (a:=p7) (o:=.tup [V.str n,V.ref l7])
      generalize upd H7 p7 (.tup [V.str n,V.ref l7])=H8 at s8 h8
      refine⟨big (by show 1 <= 1000;omega),fun l9 hl9=>?_⟩
      have s9:=aB.upd (o:=.lst [V.ref p7]) hl9
      have h9:=ak (H:=H8) (a:=l9) (o:=.lst [V.ref p7])
      generalize upd H8 l9 (.lst [V.ref p7])=H9 at s9 h9
      have yl0:=bZ p0
      have wl0:vw0.length <= 12:=by rw[List.length_append] at wl;omega
      refine .inr (.inr ⟨l5,l9,ys0,_,rfl,rfl,s9 _ _ (s8 _ _ (s7 _ _ (s6 _ _ h5))),h9,big (by show _+1 <= 1000;omega),fun c hc=>?_⟩)
      have s10:=aB.upd (o:=.lst (ys0++[V.ref p7])) hc
      have h10:=ak (H:=H9) (a:=c) (o:=.lst (ys0++[V.ref p7]))
      generalize upd H9 c (.lst (ys0++[V.ref p7]))=H10 at s10 h10
      have S10:=((((s5.trans s6).trans s7).trans s8).trans s9).trans s10
      have nc:H4 c=none:=((((s5.trans s6).trans s7).trans s8).trans s9).free hc
      have n7:H4 l7=none:=(s5.trans s6).free hl7
      obtain⟨H1',B5',s01,fr1,fr2⟩:=B4.fresh S10
      refine⟨c,H1',rfl,B5',s01,?_⟩
      rw[akh _ _ (by simp),List.dropLast_concat]
      exact⟨_,fr1 _ _ h10 nc,M7 (bV (fun _ _ q=>q.same s01) p0) (.cons ⟨p7,.ref l7,rfl,fr2 _ _ (s10 _ _ (s9 _ _ h8)) (fun _ z=>nomatch z),l7,zs0,rfl,fr1 _ _ (s10 _ _ (s9 _ _ (s8 _ _ h7))) n7,nP.same s01 g60⟩ .nil)⟩
     ·obtain⟨H1',B5',s01,fr1,fr2⟩:=B4.fresh (s5.trans s6)
      have sn:ss=[]:=by
       cases g6 with
       | nil=>rfl
       | cons _ _=>exact absurd rfl hne
      subst sn
      exact⟨l5,H1',rfl,B5',s01,by rw[aaS];exact⟨ys0,fr1 _ _ (s6 _ _ h5) hl5,bV (fun _ _ q=>q.same s01) p0⟩⟩
   rintro _ H6 ⟨l',H1',rfl,B6,s01,axK⟩
   obtain⟨dx,L,D,U,hx⟩:=B6.hx
   obtain⟨F6,b6,f6,z6,o6⟩:=B6.ex
   tm_up
   refine⟨x,dx,_,rfl,hx,vJ _ _ _,?_⟩
   refine⟨x,F6,_,_,fs3,rfl,b6,by omega,(fun z=>by simp at z),fun ps1 v1 e1 H7 fr7 b7=>?_⟩
   obtain⟨e01,e02⟩:=qD e1
   subst e01 e02
   obtain⟨B7,k7⟩:=Bw.mk' b7 B6.sm f6 z6 o6 (Gr.refl _ _) fr7
   have wl7:=B7.wv.len
   refine⟨fun v H'=>v=.bl true,?_,?_⟩
   ·obtain⟨zs,kvs,hz,pk,kl,dk⟩:=(axK.same B7.sm).dict B7.wv.nd
    tm_up
    refine⟨rfl,l',zs,kvs,rfl,bh.of hz,pk,by omega,fun d hd=>?_⟩
    obtain⟨s8,d8⟩:=dk d hd
    generalize upd H7 d (.dK (lX [] kvs))=H8 at s8 d8
    have B8:=B7.same s8
    obtain⟨F8,b8,_⟩:=B8.ex
    refine⟨a,x,d,ns,F8,_,_,_,rfl,B8.sm.seq (s01.seq hS),hl,b8,d8,fun H9 s9=>⟨true,rfl,wj ?_⟩⟩
    have B9:=B8.same s9
    clear pk dk hz hd
    obtain⟨zs,kvs,hz,pk,kl,dk⟩:=(axK.same B9.sm).dict B9.wv.nd
    tm_up
    refine⟨rfl,l',zs,kvs,rfl,bh.of hz,pk,by omega,fun d hd=>?_⟩
    obtain⟨s10,d10⟩:=dk d hd
    generalize upd H9 d (.dK (lX [] kvs))=H10 at s10 d10
    have B10:=B9.same s10
    obtain⟨F10,b10,_⟩:=B10.ex
    exact⟨x,d,F10,_,_,_,rfl,b10,d10,fun H11 s11=>rfl⟩
   rintro _ H9 rfl
   exact q _
inductive aaU (vs:List V)(H:Hp)(Q:VK)(E:XK):Prop
 | mk (x:Str) (gj:vs=[.str x]) (gk:x.length <= 1000) (jc:∀ H',aB H H'->Q (.bl (nameB x)) H'):aaU vs H Q E
theorem aki (T:Txt K w mg t):bW P w K mg base jF (0+1) t.uv t.U3 ["name"] aaU:=by
 refine T.Ef.ok ajX (fun vs H Q E h=>?_) (fun cdv A outer s H vs Q E hr h=>?_)
 ·obtain⟨_,rfl,_⟩:=h
  rfl
 ·obtain⟨x,rfl,hx,q⟩:=h
  refine bA (au (aG (fV (tM (ahH HJ HJ az (aH (aM.or aN) rfl T.cC cB (aa (pv 0) aj)) (cT (v:=.int 8) rfl T.aaz ⟨_,rfl⟩)) (tL (aH aqb rfl T.ava auP (aa (lF (cn:=["letter"]) rfl (cU.of rfl) (auM (pv 0)) (fun _=>(aU (i:=0) acM rfl (Or.inl rfl))) (fun _=>kO) (fun _=>(dh (gw.or gq) (pv 0) (cT (v:=.str "abcdefghijklmnopqrstuvwxyz") rfl T.anF ⟨_,rfl⟩) rfl))) aj))))))) ?_
  have xb:x.length <= sizeLine:=Nat.le_trans hx (by decide)
  refine⟨fun v H'=>v=.bl (nameB x)/\aB H H',?_,fun _ _ ⟨e1,e2⟩=>by rw[e1];exact q _ e2⟩
  unfold nameB
  refine⟨_,rfl,.inr ⟨_,rfl,xb,_,_,rfl,rfl,_,rfl,?_⟩⟩
  refine bJ (fun h1=>?_) (fun h1=>?_)
  rotate_left
  ·have e1:decide (1 <= x.length)=false:=decide_eq_false fun z=>h1 (decide_eq_true (by omega))
   rw[e1]
   exact⟨_,rfl,di ⟨rfl,aB.refl _⟩⟩
  have e1:decide (1 <= x.length)=true:=decide_eq_true (by have:=of_decide_eq_true h1;omega)
  rw[e1,Bool.true_and]
  refine⟨_,_,rfl,rfl,_,rfl,?_⟩
  refine bJ (fun h2=>?_) (fun h2=>?_)
  rotate_left
  ·have e2:decide (x.length <= 8)=false:=decide_eq_false fun z=>h2 (decide_eq_true (by omega))
   rw[e2]
   exact⟨rfl,aB.refl _⟩
  have n2:x.length <= 8:=by have:=of_decide_eq_true h2;omega
  have e2:decide (x.length <= 8)=true:=decide_eq_true n2
  rw[e2,Bool.true_and]
  refine⟨_,rfl,_,rfl,fun D b hD=>?_⟩
  refine ap3 (fun i ys σ H'=>∃ v,σ=[v,some (.str x)]/\H'=upd H D (.lst ys)/\ys=((x.cps.toList.take i).map fun c=>inS ⟨#[c]⟩ "abcdefghijklmnopqrstuvwxyz").map V.bl/\i <= x.cps.size) ⟨none,rfl,rfl,rfl,Nat.zero_le _⟩ ?_ ?_
  ·rintro i ys c σ H' hc ⟨v,rfl,rfl,rfl,hi⟩ N hN
   have hi2:i < x.cps.size:=(Array.getElem?_eq_some_iff.mp hc).1
   have hcm:x.cps.toList[i]? = some c:=by simpa using hc
   have sz:x.cps.size <= 8:=n2
   refine fU ?_
   refine⟨_,rfl,.inr ⟨_,_,rfl,rfl,ak,?_,?_⟩⟩
   ·rw[List.length_map,List.length_map,List.length_take]
    exact bc (by omega)
   ·refine hN _ _ _ ⟨_,rfl,dB,?_,hi2⟩
    rw[List.take_succ,hcm,List.map_append,List.map_append]
    rfl
  ·rintro ys σ H' ⟨v,rfl,rfl,rfl,hi⟩
   refine⟨rfl,D,_,rfl,bh.of ak,?_,aB.upd hD⟩
   rw[show x.cps.size=x.cps.toList.length from rfl,List.take_length]
   refine congrArg V.bl ?_
   rw[List.all_map]
   rfl
theorem aq7 {x:Str}{l:List V}(h:inV (.str x) l=true):V.str x∈l:=by
 unfold inV at h
 obtain⟨y,hy,e⟩:=List.any_eq_true.mp h
 cases y with
 | str z =>
  have:z=x:=by simpa [eqV] using e
  rw[← this]
  exact hy
 | _=>simp[eqV] at e
theorem akj {x:Str}{l:List V}(h:V.str x∈l):inV (.str x) l=true:=by
 unfold inV
 exact List.any_eq_true.mpr ⟨_,h,by simp[eqV]⟩
def Ci (vw:Vw)(n:Str):Option Rf:=if nameB n=false then some .ams else if (bR vw n).isSome then some .adS else if 12 <= vw.length then some .Full else none
theorem Ye {vw:Vw}{n:Str}(h:Ci vw n=none):nameB n=true/\bR vw n=none/\vw.length < 12:=by
 unfold Ci at h
 split at h
 ·cases h
 ·next h1 =>
  split at h
  ·cases h
  ·next h2 =>
   split at h
   ·cases h
   ·next h3=>exact⟨by simpa using h1,by cases e:bR vw n with | none=>rfl | some _=>rw[e] at h2;exact absurd rfl h2,by omega⟩
inductive zB (c:Cs)(vs:List V)(H:Hp)(Q:VK)(E:XK):Prop
 | mk (x:Addr) (F:Addr->Prop) (vw:Vw) (ps fs:List Vw) (n:Str) (gj:vs=[.ref x,.str n]) (gk:Ni c H x F vw ps fs) (jc:n.length <= 1000) (n8:match Ci vw n with
 | some r=>∀ H',aB H H'->RX E c r H'
 | none=>∀ H',aB H H'->Q .non H'):zB c vs H Q E
theorem zE (T:Txt K w mg t):bW P w K mg base jF (0+2) t.cV t.qO ["self","name"] (zB (cs t)):=by
 have anZ:=aki (P:=P) (w:=w) (base:=base) T
 have iQ:=vD (P:=P) (w:=w) (base:=base) T
 refine T.lM.ok Nt (fun vs H Q E h=>?_) (fun cdv A outer s H vs Q E hr h=>?_)
 ·obtain⟨_,_,_,_,_,_,rfl,_⟩:=h
  rfl
 ·obtain⟨x,F,vw,ps,fs,n,rfl,B,hlen,q⟩:=h
  refine bA (ao (bC (cF (bD (aD anZ (hr.mono (by decide)) rfl T.aj6 T.Ef.kp T.Vc .nil aF (aa (pv 1) aj)))) (au lV) aO) (ao (bC (aJ (gw.or gq) (pv 1) (gG (pv 0) T.aZ T.oO iQ (hr.mono (by decide)) T.jV .nil aF) rfl) (au lV) aO) (au (bC (aJ atv (aH (aM.or aN) rfl T.cC cB (aa (cY (pv 0) rfl) aj)) (cT (v:=.int 12) rfl T.acR ⟨_,rfl⟩) (aQ _)) (au lV) aO)))) ?_
  refine⟨_,rfl,n,rfl,hlen,fun H1 s1=>?_⟩
  unfold Ci at q
  refine⟨_,rfl,?_⟩
  cases hnb:nameB n with
  | false =>
   rw[if_pos hnb] at q
   have q:=q H1 s1
   exact wj (Bool.noConfusion (show false=true from q.1))
  | true =>
   rw[if_neg (by rw[hnb];decide)] at q
   refine di ?_
   have B1:=B.same s1
   obtain⟨L,D,U,all,M,Ps,Fs,es,us,b,i,pp,pf,f⟩:=B1.ex
   obtain⟨dx,hx⟩:=b.hx
   refine⟨_,rfl,_,rfl,x,dx,_,rfl,hx,qy _ _ _,?_⟩
   refine⟨x,F,vw,ps,fs,rfl,B1,fun l H2 hl s2 hl2=>?_⟩
   refine .inl ⟨l,_,rfl,.inl (bh.of hl2),rfl,?_,_,rfl,?_⟩
   ·rw[List.all_map]
    exact List.all_eq_true.mpr fun _ _=>rfl
   have mem:inV (.str n) (vw.map fun a=>V.str a.1)=true ↔ (bR vw n).isSome=true:=by
    constructor
    ·intro h
     obtain⟨a,ha,e⟩:=List.mem_map.mp (aq7 h)
     cases e2:bR vw n with
     | some _=>rfl
     | none=>exact absurd (V.str.inj e) (Et e2 a ha)
    ·intro h
     cases e2:bR vw n with
     | none=>rw[e2] at h;cases h
     | some th=>exact akj (List.mem_map.mpr ⟨_,dm e2,rfl⟩)
   refine bJ (fun h=>?_) (fun h=>?_)
   ·rw[if_pos (mem.mp h)] at q
    have q:=q H2 (s1.trans s2)
    exact (Bool.noConfusion (show false=true from q.1))
   rw[if_neg (fun z=>h (mem.mpr z))] at q
   refine⟨_,rfl,x,_,dx,_,_,rfl,s2 _ _ hx,T.aZ,T.dg,yI _ _ _,?_⟩
   refine .inl ⟨L,M L,rfl,.inl (bh.of (s2 _ _ b.hL)),?_⟩
   refine⟨_,_,rfl,rfl,_,rfl,?_⟩
   have ll:=bZ i
   refine bJ (fun h=>?_) (fun h=>?_)
   ·have h':=of_decide_eq_true h
    rw[if_pos (by omega)] at q
    have q:=q H2 (s1.trans s2)
    exact (Bool.noConfusion (show false=true from q.1))
   ·rw[if_neg (fun z=>h (decide_eq_true (by omega)))] at q
    exact q _ (s1.trans s2)
inductive Jx (c:Cs)(vs:List V)(H:Hp)(Q:VK)(E:XK):Prop
 | mk (x dx L D U v:Addr) (xs ds us:List V) (gj:vs=[.ref x,.ref v]) (gk:H x=some (.ins c.B dx (QV L D U))) (jc:H L=some (.lst xs)) (n8:H D=some (.lst ds)) (xJ:H U=some (.lst us)) (h5_:L≠D) (h6_:L≠U) (h7_:D≠U) (h8_:xs.length <= 12) (h9_:ds.length <= 900) (azv:∀ (e:Dd) (H1 H':Hp),e.T=L->e.i=xs.length->e.bs=[]->e.as=[.ref v]->aB H H1->H e.B=none->H e.A=none->xP c.D H1 (.ref e.o) e->(∀ y o,H1 y=some o->y≠L->y≠D->y≠U->H' y=some o)->H' L=some (.lst (xs++[.ref v]))->H' D=some (.lst (ds++[.ref e.o]))->H' U=some (.lst [])->Q .non H'):Jx c vs H Q E
theorem Jy (T:Txt K w mg t):bW P w K mg base jF (0+3) t.gm t.Cd ["self","voice"] (Jx (cs t)):=by
 have gR:=o9 (P:=P) (w:=w) (base:=base) T
 have fY:=nF (P:=P) (w:=w) (base:=base) T
 refine T.vB.ok Z5 (fun vs H Q E h=>?_) (fun cdv A outer s H vs Q E hr h=>?_)
 ·obtain⟨_,_,_,_,_,_,_,_,_,rfl,_⟩:=h
  rfl
 ·obtain⟨x,dx,L,D,U,v,xs,ds,us,rfl,hx,hL,hD,hU,n1,n2,n3,hxs,hds,q⟩:=h
  refine bA (au (bj (bM (pv 0) T.aZ T.oX gR (hr.mono (by decide)) T.jr .nil aF (aa (Lb T.Zk fY (hr.mono (by decide)) rfl T.Zj T.ie .nil aF (aa (cY (pv 0) rfl) (aa (aH (aM.or aN) rfl T.cC cB (aa (cY (pv 0) rfl) aj)) (aa (cj aj) (aa (cj (aa (pv 1) aj)) aj))))) aj)))) ?_
  refine⟨_,rfl,x,dx,_,rfl,hx,qC _ _ _,?_⟩
  refine⟨_,rfl,x,_,dx,_,_,rfl,hx,T.aZ,T.dg,yI _ _ _,?_⟩
  refine⟨_,rfl,x,_,dx,_,_,rfl,hx,T.aZ,T.dg,yI _ _ _,?_⟩
  refine .inl ⟨L,xs,rfl,.inl (bh.of hL),?_⟩
  refine⟨big (by show 0 <= 1000;omega),fun B hB=>?_⟩
  refine⟨_,rfl,big (by show 1 <= 1000;omega),fun A_ hA=>?_⟩
  have hA0:=Zf hA
  have LA:L≠A_:=aC (aB.upd (o:=.lst []) hB _ _ hL) hA
  have sB:=(aB.upd (o:=.lst []) hB).trans (aB.upd (o:=.lst [V.ref v]) hA)
  have hB2:=aB.upd (o:=.lst [V.ref v]) hA _ _ (ak (H:=H) (a:=B) (o:=.lst []))
  have hA2:=ak (H:=upd H B (.lst [])) (a:=A_) (o:=.lst [V.ref v])
  generalize upd (upd H B (.lst [])) A_ (.lst [V.ref v])=H2 at sB hB2 hA2
  intro d dd nd ndd ne
  refine⟨d,dd,L,(xs.length:Int),B,A_,rfl,ak,rfl,?_⟩
  rw[dB]
  have s3:aB H2 (upd (upd H2 dd (.own d)) d (.ins t.bT dd (ZS L (xs.length:Int) B A_))):=fun y o hy=>by
   rw[aA (aC hy nd),aA (aC hy ndd)]
   exact hy
  have hd3:=ak (H:=upd H2 dd (.own d)) (a:=d) (o:=.ins t.bT dd (ZS L (xs.length:Int) B A_))
  generalize upd (upd H2 dd (.own d)) d (.ins t.bT dd (ZS L (xs.length:Int) B A_))=H3 at s3 hd3
  have s4:=sB.trans s3
  refine⟨x,dx,L,D,U,d,dd,L,B,A_,xs.length,ds,us,xs,[],[.ref v],rfl,s4 _ _ hx,s4 _ _ hD,s4 _ _ hU,hd3,s4 _ _ hL,s3 _ _ hB2,s3 _ _ hA2,LA,n1,n2,n3,by simp,by simp;omega,hds,?_⟩
  refine q ⟨d,dd,L,xs.length,B,A_,[],[.ref v]⟩ H3 _ rfl rfl rfl rfl s4 hB hA0 ⟨rfl,hd3,s3 _ _ hB2,s3 _ _ hA2⟩ (fun y o hy y1 y2 y3=>?_) ?_ ?_ ak
  ·rw[aA y3,aA y2,aA y1]
   exact hy
  ·rw[aA n2,aA n1,ak]
   simp
  ·rw[aA n3,ak]
inductive Mz (C:Addr)(vs:List V)(H:Hp)(Q:VK)(E:XK):Prop
 | mk (x dx:Addr) (n:Str) (tm:V) (gj:vs=[.ref x,.str n,tm]) (gk:H x=some (.ins C dx [])) (jc:∀ (L:Addr) (H':Hp),(∀ y o,H y=some o->y≠x->H' y=some o)->H L=none->L≠x->H' x=some (.ins C dx (voF n tm L))->H' L=some (.lst [])->Q .non H'):Mz C vs H Q E
theorem Bf (T:Txt K w mg t):bW P w K mg base jF (0+1) t.dq t.uw ["self","name","terms"] (Mz t.fc):=by
 refine T.nj.ok Ra (fun vs H Q E h=>?_) (fun cdv A outer s H vs Q E hr h=>?_)
 ·obtain⟨_,_,_,_,rfl,_⟩:=h
  rfl
 ·obtain⟨x,dx,n,tm,rfl,hx,q⟩:=h
  refine bA (ao (By (pv 0) (pv 1) rfl) (ao (By (pv 0) (pv 2) rfl) (au (By (pv 0) (cj aj) rfl)))) ?_
  refine⟨_,rfl,_,rfl,x,_,dx,_,rfl,hx,T.j6,T.iZ,by show 0 < 1000;decide,?_⟩
  refine⟨_,rfl,_,rfl,x,_,dx,_,rfl,ak,T.j6,T.gO,by rw[aeJ];show 1 < 1000;decide,?_⟩
  refine⟨big (by show 0 <= 1000;omega),fun L hL=>?_⟩
  rw[dB] at hL
  have nx:x≠L:=fun e=>by rw[← e,ak] at hL;cases hL
  have hL0:H L=none:=by rw[aA (Ne.symm nx)] at hL;exact hL
  refine⟨_,rfl,x,_,dx,_,rfl,by rw[aA nx,dB];exact ak,T.j6,T.c7,by rw[aeJ,amo];show 2 < 1000;decide,?_⟩
  rw[aeJ,amo,asH]
  simp only [dB]
  refine q L _ (fun y o hy ny=>?_) hL0 (Ne.symm nx) ak ?_
  ·rw[aA ny,aA (aC hy hL0),aA ny];exact hy
  ·rw[aA (Ne.symm nx)];exact ak
inductive Bg (c:Cs)(vs:List V)(H:Hp)(Q:VK)(E:XK):Prop
 | mk (x:Addr) (F:Addr->Prop) (vw:Vw) (ps fs:List Vw) (n:Str) (gj:vs=[.ref x,.str n]) (gk:Ni c H x F vw ps fs) (jc:n.length <= 1000) (n8:ps.length <= 900) (xJ:match Ci vw n with
 | some r=>∀ H',aB H H'->RX E c r H'
 | none=>∀ F' H',Gr F F' H->Fr F H H'->Ni c H' x F' (vw++[(n,.pl [])]) (ps++[vw]) []->Q .non H'):Bg c vs H Q E
theorem R4 (T:Txt K w mg t):bW P w K mg base jF (0+4) t.du t.uy ["self","name"] (Bg (cs t)):=by
 have rF:=zE (P:=P) (w:=w) (base:=base) T
 have Cj:=Jy (P:=P) (w:=w) (base:=base) T
 have uH:=Bf (P:=P) (w:=w) (base:=base) T
 refine T.nu.ok Rb (fun vs H Q E h=>?_) (fun cdv A outer s H vs Q E hr h=>?_)
 ·obtain⟨_,_,_,_,_,_,rfl,_⟩:=h
  rfl
 ·obtain⟨x,F,vw,ps,fs,n,rfl,B,hlen,hps,q⟩:=h
  refine bA (ao (bj (bM (pv 0) T.aZ T.zp rF (hr.mono (by decide)) T.lN .nil aF (aa (pv 1) aj))) (au (bj (bM (pv 0) T.aZ T.Jm Cj (hr.mono (by decide)) T.vC .nil aF (aa (Lb T.aih uH (hr.mono (by decide)) rfl T.aif T.nq .nil aF (aa (pv 1) (aa MP aj))) aj))))) ?_
  obtain⟨L,D,U,all,M,Ps,Fs,es,us,b,i,pp,pf,f⟩:=B.ex
  obtain⟨dx,hx⟩:=b.hx
  refine⟨_,rfl,x,dx,_,rfl,hx,Ad _ _ _,_,rfl,x,F,vw,ps,fs,n,rfl,B,hlen,?_⟩
  cases ho:Ci vw n with
  | some r =>
   rw[ho] at q
   intro H' s'
   have q:=q H' s'
   exact (Bool.noConfusion (show false=true from q.1))
  | none =>
   rw[ho] at q
   obtain⟨_,hf,avG⟩:=Ye ho
   intro H1 s1
   have b1:=b.kept f (.same s1)
   obtain⟨ds,hD,pD⟩:=b1.hD
   obtain⟨ux,hU,pU⟩:=b1.hU
   have ll:=bZ i
   have dl:=bZ pD
   have pl:=bZ pp
   have pe:=b.past.len
   refine⟨_,rfl,x,dx,_,rfl,s1 _ _ hx,Ml _ _ _,_,rfl,?_⟩
   intro v dv nv ndv ne
   refine⟨v,dv,n,.non,rfl,ak,fun l H2 kp hl hlv hv2 hl2=>⟨rfl,?_⟩⟩
   have s2:aB H1 H2:=fun y o hy=>kp y o (by rw[aA (aC hy nv),aA (aC hy ndv)];exact hy) (aC hy nv)
   have hl1:H1 l=none:=Z0 hl
   refine⟨x,dx,L,D,U,v,M L,ds,ux,rfl,s2 _ _ (s1 _ _ hx),s2 _ _ b1.hL,s2 _ _ hD,s2 _ _ hU,b.LD,b.LU,b.DU,by omega,by omega,fun e H3 H' eT ei eb ea s3 nB nA hd fr hL' hD' hU'=>?_⟩
   obtain⟨F',g,fr',B'⟩:=Bk.added b1 (Is.kept (F:=F) (.same s1) i) (bV (fun _ _ q=>Is.kept (F:=F) (.same s1) q) pp) f B.wv (a:=⟨v,dv,n,.non,l⟩) (th:=.pl []) s2 nv hl1 hv2 hl2 (fun M' h0=>⟨rfl,by rw[h0];exact .nil⟩) ((B.wv vw (.inr (.inl rfl))).aw7 (Et hf) avG) eT ei eb ea s3 nB nA hd hD pD fr hL' hD' hU'
   exact q F' H' (g.old s1) (fun y o hy hn=>fr' y o (s1 y o hy) hn) B'
def Ck (lt sl:Int):Prop:=0 <= lt/\lt <= 999/\1 <= sl/\sl <= 9
instance (lt sl:Int):Decidable (Ck lt sl):=by unfold Ck;exact inferInstance
inductive Bh (c:Cs)(vs:List V)(H:Hp)(Q:VK)(E:XK):Prop
 | mk (x:Addr) (F:Addr->Prop) (vw:Vw) (ps fs:List Vw) (n ld:Str) (lt sl:Int) (tn:Bool) (gj:vs=[.ref x,.str n,.str ld,.int lt,.int sl,.bl tn]) (gk:Ni c H x F vw ps fs) (jc:n.length <= 1000) (n8:ps.length <= 900) (xJ:match Ci vw n with
 | some r=>∀ H',aB H H'->RX E c r H'
 | none=>match bR vw ld with
  | none=>∀ H',aB H H'->RX E c .vy H'
  | some (.cn _ _ _ _)=>∀ H',aB H H'->RX E c .Dr H'
  | some (.pl _)=>(¬ Ck lt sl->∀ H',aB H H'->RX E c .amt H')/\(Ck lt sl->∀ F' H',Gr F F' H->Fr F H H'->Ni c H' x F' (vw++[(n,.cn ld lt sl tn)]) (ps++[vw]) []->Q .non H')):Bh c vs H Q E
theorem R5 (T:Txt K w mg t):bW P w K mg base jF (0+4) t.dw t.mZ ["self","name","leader","later","slow","is_turned"] (Bh (cs t)):=by
 have rF:=zE (P:=P) (w:=w) (base:=base) T
 have dj:=jh (P:=P) (w:=w) (base:=base) T
 have Cj:=Jy (P:=P) (w:=w) (base:=base) T
 have uH:=Bf (P:=P) (w:=w) (base:=base) T
 refine T.ju.ok Rc (fun vs H Q E h=>?_) (fun cdv A outer s H vs Q E hr h=>?_)
 ·obtain⟨_,_,_,_,_,_,_,_,_,_,rfl,_⟩:=h
  rfl
 ·obtain⟨x,F,vw,ps,fs,n,ld,lt,sl,tn,rfl,B,hlen,hps,q⟩:=h
  refine bA (ao (bj (bM (pv 0) T.aZ T.zp rF (hr.mono (by decide)) T.lN .nil aF (aa (pv 1) aj))) (ao (bj (bM (pv 0) T.aZ T.jg dj (hr.mono (by decide)) T.eV .nil aF (aa (pv 2) aj))) (ao (bC (cF (cG (PW.pt (fP (QD HJ HJ az (pv 3) (cT (v:=.int 999) rfl T.aqD ⟨_,rfl⟩)) (ir (QD HJ HJ az (pv 4) (cT (v:=.int 9) rfl T.anG ⟨_,rfl⟩))))))) (au lV) aO) (au (bj (bM (pv 0) T.aZ T.Jm Cj (hr.mono (by decide)) T.vC .nil aF (aa (Lb T.aih uH (hr.mono (by decide)) rfl T.aif T.nq .nil aF (aa (pv 1) (aa (fQ (aa (pv 2) (aa (pv 3) (aa (pv 4) (aa (pv 5) aj))))) aj))) aj))))))) ?_
  obtain⟨L,D,U,all,M,Ps,Fs,es,us,b,i,pp,pf,f⟩:=B.ex
  obtain⟨dx,hx⟩:=b.hx
  have wv:=B.wv vw (.inr (.inl rfl))
  refine⟨_,rfl,x,dx,_,rfl,hx,Ad _ _ _,_,rfl,x,F,vw,ps,fs,n,rfl,B,hlen,?_⟩
  cases ho:Ci vw n with
  | some r =>
   rw[ho] at q
   intro H' s'
   have q:=q H' s'
   exact (Bool.noConfusion (show false=true from q.1))
  | none =>
   rw[ho] at q
   obtain⟨_,hf,avG⟩:=Ye ho
   intro H1 s1
   have b1:=b.kept f (.same s1)
   have i1:Is H1 L all M vw:=Is.kept (F:=F) (.same s1) i
   obtain⟨vx,g,gv⟩:=b1.Ib i1
   have hx1:=s1 _ _ hx
   refine⟨_,rfl,x,dx,_,rfl,hx1,jK _ _ _,_,rfl,x,dx,L,D,U,M L,vx,ld,rfl,hx1,b1.hL,g,?_⟩
   rcases Z1 gv (fun _ _ r=>r.2.1) ld with ⟨f1,f2⟩ | ⟨a,th,j,f1,f2,r,an,fj,fw⟩
   ·rw[f1]
    rw[f2] at q
    have q:=q H1 s1
    exact (Bool.noConfusion (show false=true from q.1))
   rw[f1]
   rw[f2] at q
   cases th with
   | cn ld2 lt2 sl2 tn2 =>
    obtain⟨pt,hpt,_⟩:=r.2.2
    have q:=q H1 s1
    refine⟨(fun z=>by rw[hpt] at z;cases z),(fun _ _=>(Bool.noConfusion (show false=true from q.1))),.inr ⟨pt,hpt⟩⟩
   | pl ss =>
    obtain⟨htm,hg⟩:=r.2.2
    obtain⟨q1,q2⟩:=q
    refine⟨fun _=>?_,(fun pz z=>by rw[htm] at z;cases z),.inl htm⟩
    refine⟨fun bb H'=>bb=decide (Ck lt sl)/\H'=H1,?_,?_⟩
    ·refine⟨_,rfl,_,_,rfl,rfl,_,rfl,?_⟩
     refine bJ (fun h1=>?_) (fun h1=>?_)
     rotate_left
     ·have e:decide (Ck lt sl)=false:=decide_eq_false fun z=>h1 (decide_eq_true z.1)
      rw[e]
      exact⟨_,rfl,di ⟨rfl,rfl⟩⟩
     refine⟨_,_,rfl,rfl,_,rfl,?_⟩
     refine bJ (fun h2=>?_) (fun h2=>?_)
     rotate_left
     ·have e:decide (Ck lt sl)=false:=decide_eq_false fun z=>h2 (decide_eq_true z.2.1)
      rw[e]
      exact⟨rfl,rfl⟩
     refine⟨_,rfl,_,_,rfl,rfl,_,rfl,?_⟩
     refine bJ (fun h3=>?_) (fun h3=>?_)
     rotate_left
     ·have e:decide (Ck lt sl)=false:=decide_eq_false fun z=>h3 (decide_eq_true z.2.2.1)
      rw[e]
      exact⟨_,rfl,rfl,rfl⟩
     refine⟨_,_,rfl,rfl,_,rfl,?_,rfl⟩
     refine decide_eq_decide.mpr ⟨fun z=>⟨of_decide_eq_true h1,of_decide_eq_true h2,of_decide_eq_true h3,z⟩,fun z=>z.2.2.2⟩
    intro bb H1' ⟨e1,e2⟩
    rw[e1,e2]
    by_cases hok:Ck lt sl
    rotate_left
    ·rw[decide_eq_false hok]
     have q:=q1 hok H1 s1
     exact wj (Bool.noConfusion (show false=true from q.1))
    rw[decide_eq_true hok]
    refine di ?_
    obtain⟨ds,hD,pD⟩:=b1.hD
    obtain⟨ux,hU,pU⟩:=b1.hU
    have ll:=bZ i
    have dl:=bZ pD
    have pl:=bZ pp
    have pe:=b.past.len
    refine⟨_,rfl,x,dx,_,rfl,hx1,Ml _ _ _,_,rfl,_,rfl,_,rfl,_,rfl,_,rfl,(by show 4 <= sizeLine;decide),fun tp htp=>?_⟩
    have st:=aB.upd (o:=.tup [V.str ld,V.int lt,V.int sl,V.bl tn]) htp
    have axL:=ak (H:=H1) (a:=tp) (o:=.tup [V.str ld,V.int lt,V.int sl,V.bl tn])
    generalize upd H1 tp (.tup [V.str ld,V.int lt,V.int sl,V.bl tn])=H1t at st axL
    intro v dv nv ndv ne
    refine⟨v,dv,n,.ref tp,rfl,ak,fun l H2 kp hl hlv hv2 hl2=>⟨rfl,?_⟩⟩
    have s2t:aB H1t H2:=fun y o hy=>kp y o (by rw[aA (aC hy nv),aA (aC hy ndv)];exact hy) (aC hy nv)
    have s2:=st.trans s2t
    have hl1:H1 l=none:=st.free (Z0 hl)
    refine⟨x,dx,L,D,U,v,M L,ds,ux,rfl,s2 _ _ hx1,s2 _ _ b1.hL,s2 _ _ hD,s2 _ _ hU,b.LD,b.LU,b.DU,by omega,by omega,fun e H3 H' eT ei eb ea s3 nB nA hd fr hL' hD' hU'=>?_⟩
    obtain⟨F',gr,fr',B'⟩:=Bk.added b1 i1 (bV (fun _ _ q=>Is.kept (F:=F) (.same s1) q) pp) f B.wv (a:=⟨v,dv,n,.ref tp,l⟩) (th:=.cn ld lt sl tn) s2 (st.free nv) hl1 hv2 hl2 (fun M' h0=>⟨tp,rfl,s2t _ _ axL⟩) (wv.aw8 (Et hf) avG (dm f2) hok.1 hok.2.1 hok.2.2.1 hok.2.2.2) eT ei eb ea s3 nB nA hd hD pD fr hL' hD' hU'
    exact q2 hok F' H' (gr.old s1) (fun y o hy hn=>fr' y o (s1 y o hy) hn) B'
theorem an0 {vw:Vw}{n:Str}{a b:Th}(h:∀ q∈vw,q.1≠n):Dq (vw++[(n,a)]) n b=vw++[(n,b)]:=by
 unfold Dq
 rw[List.map_append]
 have e1:vw.map (fun q=>if q.1=n then (n,b) else q)=vw:=by
  conv=>rhs;rw[← List.map_id vw]
  exact List.map_congr_left fun q hq=>if_neg (h q hq)
 have e2:[(n,a)].map (fun q:Str×Th=>if q.1=n then (n,b) else q)=[(n,b)]:=by
  show [if n=n then (n,b) else (n,a)]=_
  rw[if_pos rfl]
 rw[e2]
 exact congrArg (· ++ [(n,b)]) e1
theorem aei {vw:Vw}{n:Str}(h:nameB n=true)(hn:∀ q∈vw,q.1≠n)(hl:vw.length < 12):Ci vw n=none:=by
 have hf:bR vw n=none:=by
  cases e:bR vw n with
  | none=>rfl
  | some th=>exact absurd rfl (hn _ (dm e))
 unfold Ci
 rw[if_neg (by rw[h];decide),hf,if_neg (by simp),if_neg (by omega)]
theorem an1 {vw:Vw}{n:Str}{a:Th}(h:∀ q∈vw,q.1≠n):bR (vw++[(n,a)]) n=some a:=by
 unfold bR
 rw[List.find?_append,List.find?_eq_none.mpr (fun q hq e=>h q hq (of_decide_eq_true e))]
 rw[Option.none_or,List.find?_cons_of_pos (p:=fun q:Str×Th=>decide (q.1=n)) (decide_eq_true rfl)]
 rfl
theorem aq8 {ss:List Sg}{i:Nat}{s:Sg}(h:ss[i]? = some s):(ss.take i).take i++[s]++(ss.take i).drop i=ss.take (i+1):=by
 rw[List.take_take,Nat.min_self,List.drop_eq_nil_of_le (by rw[List.length_take];omega),List.append_nil,List.take_succ,h]
 rfl
theorem an2 {vw:Vw}{i:Nat}{q:Str×Th}(h:vw[i]? = some q):vw.take (i+1)=vw.take i++[q]:=by
 rw[List.take_succ,h];rfl
theorem aq9 {vw:Vw}(nd:(vw.map (·.1)).Nodup){i:Nat}{q:Str×Th}(h:vw[i]? = some q):∀ p∈vw.take i,p.1≠q.1:=fun p hp e=>by
 obtain⟨j,hj⟩:=List.getElem?_of_mem hp
 have hji:j < i:=by
  have:=(List.getElem?_eq_some_iff.mp hj).1
  rw[List.length_take] at this
  omega
 rw[List.getElem?_take_of_lt hji] at hj
 have e1:(vw.map (·.1))[j]? = some q.1:=by rw[List.getElem?_map,hj,← e];rfl
 have e2:(vw.map (·.1))[i]? = some q.1:=by rw[List.getElem?_map,h];rfl
 have:=QX nd e1 e2
 omega
inductive R6 (K:Frag)(c:Cs)(vs:List V)(H:Hp)(Q:VK)(E:XK):Prop
 | mk (x tl:Addr) (H0:Hp) (vw:Vw) (gj:vs=[.ref x,.ref tl]) (gk:Bw c H0 H x [] [] [] []) (jc:tU H0 tl vw) (n8:adU vw) (xJ:∀ (H':Hp) (ps:List Vw),Bw c H0 H' x [] vw ps (if vw.length < 12 then [afa vw] else [])->ps.length <= 400->(vw≠[]->∃ XJ,ps=XJ++[jM vw])->Q (.ref x) H'):R6 K c vs H Q E
theorem afj (T:Txt K w mg t):bW P w K mg base jF (0+5) t.mH t.IW ["_law_book","_law_told"] (R6 K (cs t)):=by
 have Ej:=R4 (P:=P) (w:=w) (base:=base) T
 have Ba:=xZ (P:=P) (w:=w) (base:=base) T
 have mR:=FT (P:=P) (w:=w) (base:=base) T
 have Vk:=R5 (P:=P) (w:=w) (base:=base) T
 have N8:=X6 (P:=P) (w:=w) (base:=base) T
 refine T.vV.ok qI (fun vs H Q E h=>?_) (fun cdv A outer s H vs Q E hr h=>?_)
 ·obtain⟨_,_,_,_,rfl,_⟩:=h
  rfl
 ·obtain⟨x,tl,H0,vw,rfl,B,⟨ys,ht,pvt⟩,ek,q⟩:=h
  refine bA (ao (jk PassesOwn.never rfl (dX (pv 1)) (iR rfl (bu (aU (i:=2) qI.nd rfl (Or.inl rfl)) (bu (aU (i:=3) qI.nd rfl (Or.inl rfl)) eZ))) (au (bC (bD (aH cZ rfl T.bG bF (aa (pv 3) (aa (eY (v:=.ty "tuple") rfl T.Rr QS rfl) aj)))) (au (bj (bM (pv 0) T.aZ T.Rq Vk (hr.mono (by decide)) T.uD .nil aF (aa (pv 2) (aa (bH bx (pv 3) az (fun _ _=>rfl)) (aa (bH bx (pv 3) az (fun _ _=>rfl)) (aa (bH bx (pv 3) az (fun _ _=>rfl)) (aa (bH bx (pv 3) az (fun _ _=>rfl)) aj)))))))) (ao (bj (bM (pv 0) T.aZ T.Ax Ej (hr.mono (by decide)) T.nC .nil aF (aa (pv 2) aj))) (au (jk PassesOwn.never rfl (ame rfl T.FP (pv 3)) (iR rfl (bu (aU (i:=4) qI.nd rfl (Or.inl rfl)) (bu (aU (i:=5) qI.nd rfl (Or.inl rfl)) eZ))) (au (bj (bM (pv 0) T.aZ T.XR N8 (hr.mono (by decide)) T.Fv .nil aF (aa (pv 2) (aa (pv 4) (aa (pv 5) aj)))))))))))) (ao (wk (bC (aJ Dg (aH (aM.or aN) rfl T.cC cB (aa (pv 1) aj)) az (aQ _)) (ao (bj (bM (pv 0) T.aZ T.Ax Ej (hr.mono (by decide)) T.nC .nil aF (aa cA aj))) (au (bj (gG (pv 0) T.aZ T.qT mR (hr.mono (by decide)) T.mK .nil aF)))) aO)) (au (aG (pv 0))))) ?_
  have yl:=bZ pvt
  have wl:=ek.w.len
  tm_up
  refine⟨⟨_,bh.of (B.sm _ _ ht)⟩,yz (K:=K) (xs:=ys) (fun i σ H'=>∃ (v2 v3 v4 v5:Option V) (ps:List Vw),σ=[some (.ref x),some (.ref tl),v2,v3,v4,v5]/\Bw (cs t) H0 H' x [] (vw.take i) ps []/\ps.length <= 26 * i/\i <= vw.length/\(0 < i->∃ XJ,ps=XJ++[jM (vw.take i)])) ⟨none,none,none,none,[],rfl,B,Nat.le_refl _,Nat.zero_le _,fun z=>absurd z (by decide)⟩ ?_ ?_ ?_⟩
  ·rintro i σ H' _ ⟨v2,v3,v4,v5,ps,rfl,B1,_⟩
   exact bh.of (B1.sm _ _ ht)
  ·rintro i y σ H1 hy ⟨v2,v3,v4,v5,ps,rfl,B1,pl1,il,_⟩
   obtain⟨⟨n,th⟩,hq,p,v,rfl,hp,hv⟩:=wu pvt hy
   have il2:i < vw.length:=(List.getElem?_eq_some_iff.mp hq).1
   have til:(vw.take i).length=i:=by rw[List.length_take];omega
   obtain⟨nb,_,auk⟩:=ek.nm _ (List.mem_of_getElem? hq)
   have nn:=aq9 ek.w.nd hq
   have no:=aei nb nn (by omega)
   obtain⟨dx,L,D,U,hx⟩:=B1.hx
   obtain⟨F1,b1,f1,z1,o1⟩:=B1.ex
   have hp1:=B1.sm _ _ hp
   rw[an2 hq]
   refine⟨p,_,rfl,nJ.of hp1,rfl,_,_,rfl,_,_,rfl,rfl,?_⟩
   cases th with
   | cn ld lt sl tn =>
    obtain⟨tp,rfl,htp⟩:=hv
    have ht1:=B1.sm _ _ htp
    obtain⟨ss,hss⟩:=ek.ld i n ld lt sl tn hq
    have hfl:=(LC.take ek i).find hss
    have tk:Ck lt sl:=(ek.w.ld _ _ _ _ _ (List.mem_of_getElem? hq)).2
    tm_up
    refine⟨_,_,_,_,rfl,iT.tup ht1,rfl,_,rfl,wj ?_⟩
    refine⟨_,rfl,x,dx,_,rfl,hx,Uq _ _ _,_,rfl,_,rfl,Vi (i:=0) ht1 rfl ?_⟩
    refine⟨_,rfl,Vi (i:=1) ht1 rfl ?_⟩
    refine⟨_,rfl,Vi (i:=2) ht1 rfl ?_⟩
    refine⟨_,rfl,Vi (i:=3) ht1 rfl ?_⟩
    refine⟨x,F1,_,ps,[],n,ld,lt,sl,tn,rfl,b1,auk,by omega,?_⟩
    rw[no,hfl]
    refine⟨fun z=>absurd tk z,fun _ F7 H7 gr7 fr7 b7=>?_⟩
    obtain⟨B7,k7⟩:=Bw.mk' b7 B1.sm f1 z1 o1 gr7 fr7
    exact⟨_,_,_,_,_,rfl,B7,by rw[List.length_append];show ps.length+1 <= _;omega,il2,fun _=>⟨ps,by rw[aeh]⟩⟩
   | pl ss =>
    obtain⟨l,zs,rfl,hl,g⟩:=hv
    have hl1:=B1.sm _ _ hl
    tm_up
    refine⟨_,_,_,_,rfl,iT.lst hl1,rfl,_,rfl,di ?_⟩
    have s24:=ek.sh n ss (List.mem_of_getElem? hq)
    have gdS:=(ek.w.gd n ss (List.mem_of_getElem? hq)).2
    have zl:=bZ g
    refine⟨_,rfl,x,dx,_,rfl,hx,Dp _ _ _,_,rfl,?_⟩
    refine⟨x,F1,_,ps,[],n,rfl,b1,auk,by omega,?_⟩
    rw[no]
    intro F2 H2 gr2 fr2 b2
    obtain⟨B2,k2⟩:=Bw.mk' b2 B1.sm f1 z1 o1 gr2 fr2
    clear b1 f1 z1 o1 gr2 fr2 b2 k2 hx
    refine⟨_,rfl,l,rfl,⟨_,bh.of (B2.sm _ _ hl)⟩,ahR (K:=K) (xs:=zs) (fun j σ H'=>∃ (v4 v5:Option V) (ps':List Vw),σ=[some (.ref x),some (.ref tl),some (.str n),some (.ref l),v4,v5]/\Bw (cs t) H0 H' x [] (vw.take i++[(n,.pl (ss.take j))]) ps' []/\ps'.length=ps.length+1+j/\j <= ss.length/\∃ XJ,ps'=XJ++[jM (vw.take i++[(n,.pl (ss.take j))])]) ⟨_,_,ps++[vw.take i],rfl,B2,by simp,Nat.zero_le _,ps,by rw[show ss.take 0=[] from rfl,aaS]⟩ ?_ ?_ ?_⟩
    ·rintro j σ H3 ⟨_,_,ps',rfl,B3,_⟩
     exact bh.of (B3.sm _ _ hl)
    ·rintro j y τ σ H3 hy3 ⟨_,_,ps',rfl,B3,pl3,jl,_⟩ hτ
     obtain⟨sg,hsg,pp,rfl,hpp⟩:=wu g hy3
     have hj:j < ss.length:=(List.getElem?_eq_some_iff.mp hsg).1
     have s4:=aB.upd (o:=.tup [.int (j:Int),.ref pp]) hτ
     have aBi:=ak (H:=H3) (a:=τ) (o:=.tup [.int (j:Int),.ref pp])
     generalize upd H3 τ (.tup [.int (j:Int),.ref pp])=H4 at s4 aBi
     have B4:=B3.same s4
     obtain⟨dx4,L4,D4,U4,hx4⟩:=B4.hx
     obtain⟨F4,b4,f4,z4,o4⟩:=B4.ex
     have tjl:(ss.take j).length=j:=by rw[List.length_take];omega
     refine⟨τ,_,rfl,nJ.of aBi,rfl,_,_,rfl,_,_,rfl,rfl,?_⟩
     refine⟨_,rfl,x,dx4,_,rfl,hx4,ZX _ _ _,_,rfl,_,rfl,_,rfl,?_⟩
     refine⟨x,F4,_,ps',[],n,(j:Int),pp,(sg.1.str,sg.2),rfl,b4,B4.sm _ _ hpp,by omega,?_⟩
     rw[an1 nn]
     have gd:=amv (gdS sg (List.mem_of_getElem? hsg))
     refine⟨(fun z=>absurd ⟨by omega,by rw[tjl];omega⟩ z),(fun _ z=>by rw[gd] at z;cases z),(fun _ _ z=>by rw[tjl] at z;omega),fun _ _ _ s9 w F9 H9 e1 e2 gr9 fr9 b9=>?_⟩
     have es:s9=sg:=Prod.ext (str_inj.mp e1) e2
     subst es
     rw[Int.toNat_natCast,aq8 hsg,an0 nn] at b9
     obtain⟨B9,k9⟩:=Bw.mk' b9 B4.sm f4 z4 o4 gr9 fr9
     exact⟨_,_,_,rfl,B9,by rw[List.length_append];show ps'.length+1=_;omega,hj,ps',by rw[anY _ _ hsg]⟩
    ·rintro σ H3 ⟨_,_,ps',rfl,B3,pl3,jl,XJ,e0⟩
     rw[zl,List.take_length] at B3 e0
     exact⟨_,_,_,_,ps',rfl,B3,by rw[zl] at pl3;omega,il2,fun _=>⟨XJ,e0⟩⟩
  ·rintro σ H1 ⟨v2,v3,v4,v5,ps,rfl,B1,pl1,_,bf⟩
   rw[yl,List.take_length] at B1 bf
   have bf':vw≠[]->∃ XJ,ps=XJ++[jM vw]:=fun hne=>bf (by
    cases vw with
    | nil=>exact absurd rfl hne
    | cons _ _=>exact Nat.succ_pos _)
   have zn:∀ q∈vw,q.1 ≠ "zed":=fun q hq=>(ek.nm q hq).2.1
   refine⟨fun σ H'=>σ=[some (.ref x),some (.ref tl),v2,v3,v4,v5]/\Bw (cs t) H0 H' x [] vw ps (if vw.length < 12 then [afa vw] else []),?_,?_⟩
   ·tm_up
    refine .inl ⟨tl,ys,rfl,.inl (bh.of (B1.sm _ _ ht)),?_⟩
    tm_up
    refine bJ (fun hlt=>?_) (fun hlt=>?_)
    ·have hlt':vw.length < 12:=by have:=of_decide_eq_true hlt;omega
     obtain⟨dx,L,D,U,hx⟩:=B1.hx
     obtain⟨F1,b1,f1,z1,o1⟩:=B1.ex
     refine⟨_,rfl,x,dx,_,rfl,hx,Dp _ _ _,?_⟩
     refine⟨x,F1,_,ps,[],"zed",rfl,b1,by decide +kernel,by omega,?_⟩
     rw[aei (by decide +kernel) zn hlt']
     intro F2 H2 gr2 fr2 b2
     obtain⟨B2,k2⟩:=Bw.mk' b2 B1.sm f1 z1 o1 gr2 fr2
     obtain⟨dx2,L2,D2,U2,hx2⟩:=B2.hx
     obtain⟨F3,b3,f3,z3,o3⟩:=B2.ex
     refine⟨_,rfl,x,dx2,_,rfl,hx2,vJ _ _ _,?_⟩
     refine⟨x,F3,_,_,[],rfl,b3,by rw[List.length_append];show ps.length+1+0 <= 900;omega,(fun z=>by simp at z),fun XJ v0 e0 H4 fr4 b4=>?_⟩
     obtain⟨e01,e02⟩:=qD e0
     subst e01 e02
     obtain⟨B4,k4⟩:=Bw.mk' b4 B2.sm f3 z3 o3 (Gr.refl _ _) fr4
     exact⟨rfl,by rw[if_pos hlt'];exact B4⟩
    ·have hlt':¬ vw.length < 12:=fun z=>hlt (decide_eq_true (by omega))
     exact⟨rfl,by rw[if_neg hlt'];exact B1⟩
   rintro _ H2 ⟨rfl,B2⟩
   tm_up
   exact q H2 ps B2 (by omega) bf'
inductive R7 (C:Addr)(vs:List V)(H:Hp)(Q:VK)(E:XK):Prop
 | mk (x dx:Addr) (gj:vs=[.ref x]) (gk:H x=some (.ins C dx [])) (jc:∀ (L D U:Addr) (H':Hp),(∀ y o,H y=some o->y≠x->H' y=some o)->H L=none->H D=none->H U=none->L≠D->L≠U->D≠U->H' x=some (.ins C dx (QV L D U))->H' L=some (.lst [])->H' D=some (.lst [])->H' U=some (.lst [])->Q .non H'):R7 C vs H Q E
theorem Vl (T:Txt K w mg t):bW P w K mg base jF (0+1) t.dU t.wB ["self"] (R7 t.bI):=by
 refine T.o8.ok Uw (fun vs H Q E h=>?_) (fun cdv A outer s H vs Q E hr h=>?_)
 ·obtain⟨_,_,rfl,_⟩:=h
  rfl
 ·obtain⟨x,dx,rfl,hx,q⟩:=h
  refine bA (ao (By (pv 0) (cj aj) rfl) (ao (By (pv 0) (cj aj) rfl) (au (By (pv 0) (cj aj) rfl)))) ?_
  refine⟨big (by show 0 <= 1000;omega),fun L hL=>?_⟩
  have xL:x≠L:=aC hx hL
  refine⟨_,rfl,x,_,dx,_,rfl,by rw[aA xL];exact hx,T.aZ,T.dg,by show 0 < 1000;decide,?_⟩
  refine⟨big (by show 0 <= 1000;omega),fun D hD=>?_⟩
  have xD:x≠D:=aC ak hD
  have DL:L≠D:=aC (show upd (upd H L (.lst [])) x _ L=some (.lst []) by rw[aA (Ne.symm xL)];exact ak) hD
  have hD0:H D=none:=by rw[aA (Ne.symm xD),aA (Ne.symm DL)] at hD;exact hD
  refine⟨_,rfl,x,_,dx,_,rfl,by rw[aA xD];exact ak,T.aZ,T.gb,by rw[aeM];show 1 < 1000;decide,?_⟩
  refine⟨big (by show 0 <= 1000;omega),fun U hU=>?_⟩
  have xU:x≠U:=aC ak hU
  have DU:D≠U:=by
   rintro rfl
   rw[aA (Ne.symm xU),ak] at hU
   cases hU
  have LU:L≠U:=by
   rintro rfl
   rw[aA (Ne.symm xU),aA DL,aA (Ne.symm xU),ak] at hU
   cases hU
  have hU0:H U=none:=by rw[aA (Ne.symm xU),aA (Ne.symm DU),aA (Ne.symm xU),aA (Ne.symm LU)] at hU;exact hU
  refine⟨_,rfl,x,_,dx,_,rfl,by rw[aA xU];exact ak,T.aZ,T.dM,by rw[aeM,amr];show 2 < 1000;decide,?_⟩
  rw[aeM,amr,asJ]
  refine q L D U _ (fun y o hy ny=>?_) hL hD0 hU0 DL LU DU ak ?_ ?_ ?_
  ·rw[aA ny,aA (aC hy hU0),aA ny,aA (aC hy hD0),aA ny,aA (aC hy hL)];exact hy
  ·rw[aA (Ne.symm xL),aA LU,aA (Ne.symm xL),aA DL,aA (Ne.symm xL)];exact ak
  ·rw[aA (Ne.symm xD),aA DU,aA (Ne.symm xD)];exact ak
  ·rw[aA (Ne.symm xU)];exact ak
theorem avH (T:Txt K w mg t):bW P w K mg base jF (0+13) t.aai t.aqA ["_law_script"] (ZR K):=by
 have aix:=ae6 (P:=P) (w:=w) (base:=base) T
 have acW:=aaT (P:=P) (w:=w) (base:=base) T
 have aiy:=afj (P:=P) (w:=w) (base:=base) T
 have Yw:=Vl (P:=P) (w:=w) (base:=base) T
 refine T.amx.ok aqz (fun vs H Q E h=>?_) (fun cdv A outer s H vs Q E hr h=>?_)
 ·obtain⟨a,ns,rfl,_⟩:=h
  rfl
 ·obtain⟨a,ns,rfl,hS,hl,q⟩:=h
  refine bA (ao (aX (i:=1) aqz.nd rfl (Or.inl rfl) (aD aix (hr.mono (by decide)) rfl T.aeV T.vP.kp T.Jc .nil aF (aa (pv 0) aj))) (au (aG (aD acW (hr.mono (by decide)) rfl T.aar T.oR.kp T.Cg .nil aF (aa (pv 0) (aa (aD aiy (hr.mono (by decide)) rfl T.ae0 T.vV.kp T.Jo .nil aF (aa (apC T.asQ Yw (hr.mono (by decide)) rfl T.asO T.wC .nil aF) (aa (pv 1) aj))) (aa (pv 1) aj))))))) ?_
  tm_up
  refine⟨a,ns,rfl,hS,hl,fun tl vw H3 s3 nt tld ek=>?_⟩
  refine⟨_,rfl,?_⟩
  intro x dx nx ndx _
  refine⟨x,dx,rfl,ak,fun L D U H4 kp4 nL nD nU LD LU DU hx4 hL4 hD4 hU4=>⟨rfl,?_⟩⟩
  have s4:=au8 nx ndx kp4
  have B4:Bw (cs t) H3 H4 x [] [] [] []:=Bw.new hx4 hL4 hD4 hU4 LD LU DU s4 (Z0 nL) (Z0 nD) (Z0 nU)
  refine⟨_,rfl,x,tl,H3,vw,rfl,B4,tld,ek,fun H5 ps B5 l5 bf=>?_⟩
  refine⟨_,rfl,?_⟩
  exact⟨a,x,tl,ns,H3,vw,ps,rfl,s3.seq hS,hl,B5,tld,ek,l5,bf,q⟩
theorem all_mk {l:OpenLaw}{w:World}{K:Frag}{h:Heap}{mg:Str->Option Value}{fa fc bT bI lZ ud mj mq yN my jy jz qm jA cH Nu dF fB Fe ue pA gH yQ cD cN dR jB mz mC jP iw mD pC Ah uf iU cI Nz Zg fW eQ dG dH jQ uh yR Lk yU iy jC yV iB Fo mF yW um Fp yX mG iV uo yZ uq ur za pF dJ iW uv cV gm dq du dw lJ mH dU aai gn iY fX dW eU gM fD fG cO:Addr}(X:K.In h)(G:h.Ns mainGlobals mg)(hfa:mg "law" = some (.ref fa))
  {afk afl akk akl afm afn afo afp an3 an4 afq afr afs aft afu afv akm akn afw afx Gb Gd as8 as9 Oe Og Yx Yy ara arb ako akp aiz aiA Yz YB an5 an6 Jz JB LK LQ Vm Vn afy afz aiB aiC aiD aiE acX acY acZ ac0 afA afB aiF aiG afC akq akr aaV aaW Ge Gf ata atb arc Vo Vp R8 R9 Oh Oi Oj Ol ac1 ac2 aks akt an7 an8 aku an9 aoa afD afE afF afG aob aoc ac3 ac4 ard arf afH afI aod aoe akv akx arh ari aof aog afJ afK aaX aaY aky akz aoh aoi akA akB akC akD aoj aok aiH aiI Om Oo aaZ aa0 akE akF Oq Ot aa1 aa2 Sd Sh Sq Ss Su Sv Ou afL afM Vq Vr avI avJ aa3 aa4 Vs Vt Sw YC:Option Addr} {afN akG afO afP aol afQ afR afS akH afT Gg atc Ov YD arj akI aiJ YF aom JC LR Vu afU aiK aiL ac5 ac6 afV aiM afW akJ aa5 Gh atd ark Vv Sx Ow Ox ac7 akK aon akL aoo afX afY aop ac8 arl afZ aoq akM arn aor af0 aa6 akN aos akO akP aot aiN Oz aa7 akQ OD aa8 Sy SJ SM OJ af1 Vy avK aa9 aba Vz VB SN YG:Array (Option Value)} {af2 af3 af4 af5 SQ af6 akR akS akT akU abb akV af7 af8 af9 aga SX agb agc agd age agf S9 agg aou aov aow aox aej aoy agh agi agj agk Tc agl agm agn ago agp Td agq agr ags agt agu Te agv akW akX akY akZ abd ak0 agw agx agy agz Tf agA Gi Gj Gk Gm rG Gn ate atf atg ath amO ati O1 O2 O3 O4 zF O5 YH YJ YK YL Hu YM aro arp arq ars aiO art ak1 ak2 ak3 ak4 abe ak5 aiP aiQ aiR aiS Yg aiT YQ YS YT YW Hv YX aoz aoA aoB aoC aek aoD JD JF JG JH vZ JK Ma Mf Mg Mh xG Mi VD VF VG VH Ek VJ agB agC agD agE Tg agF aiU aiV aiW aiX Yh aiY aiZ ai0 ai1 ai2 Yi ai3 ac9 ada adb ade MF adf adg adh adi adk MJ adl agG agH agI agJ Ti agK ai4 ai5 ai6 ai7 Yj ai8 agL ak6 ak7 ak8 ak9 abf ala abg abh abi abj JL abk Gp Gq Gs Gu rH Gv atj atk atl atm amP atn aru VL VM VN VP El VR Tj Tn Tp Tq Bj Tr O6 O7 O8 O9 zG Pa Pb Pg Ph Pj zH Pk adm adn ado adp MK adq alb alc ald ale abl alf aoE aoF aoG aoH ael aoI alg aoJ aoK aoL aoM aem aoN agM agN agO agP Tt agQ agR agS agT agU Tu agV aoO aoP aoQ aoR aen aoS adt adu adv adw MN adx arv arw arx arz ai9 arA agW agX agY agZ Tv ag0 aoT aoU aoV aoW aeo aoX alh ali alj alk abm alm arB arC arD arE aja arF aoY aoZ ao0 ao1 aep ao2 ag1 ag2 ag3 ag4 Tw ag5 abn abo abp abq JM abr aln alo alp alq abt alr ao3 ao4 ao5 ao6 aeq ao7 als alu alv alw abu alx aly alz alA alB abv alC ao8 ao9 apa apb aer apc ajb ajc ajd aje Yk ajf Pn Pq Pr Pu zJ Px abw abx aby abz JN abA alD alE alF alG abB alH Py Pz PB PJ zK PK abC abD abE abF JP abG Tz TF TJ TQ Bl TV TX TY T3 T4 Bm T5 T6 T7 T8 T9 Bo Ua PL ag6 ag7 ag8 ag9 Ub aha V0 V1 V2 V3 Em V4 avL avM avN avO arG avP:Value}
  {qK Iw yS gJ gK abH abI abJ abK abL abM V5 V6 V7 V8 V9 Uc Ud Ue Ug YZ Y0 Y4 Y5 Y6 qP Wa Wb Wc Wd We Wf Wg Wh Wi Wj Wk Wl Wm Wn Wo Wq Wr Ws Wt Wu Wv Ww PN PQ PX P0 xQ lK oW qQ Ln qR vz xR Rh Lp:Tok}
  {ahb arH alI Qa ady adz Y7 Y8 Wx abN abO abP Wy:Nat}
  (abQ:nsIn K mainGlobals "Voice" = some (some (.ref fc)))
  (ahc:nsIn K mainGlobals "Deed" = some (some (.ref bT)))
  (ahd:nsIn K mainGlobals "Book" = some (some (.ref bI)))
  (JQ:nsIn K mainGlobals "_law_cell_at" = some (some (.ref lZ)))
  (JR:K.lookup lZ=some ⟨af2,afk,.func (fnOf "_law_cell_at" "_law_cell_at" (aL pO) (aK pO) (aq pO) .none af3 af4 af5 afl SQ af6),afN⟩)
  (JS:codeIn K SQ "_law_cell_at" = true)
  (JT:keepIn K (.ref lZ)=true)
  (Wz:nsIn K mainGlobals "_law_mixed" = some (some (.ref ud)))
  (WD:K.lookup ud=some ⟨akR,akk,.func (fnOf "_law_mixed" "_law_mixed" (aL yh) (aK yh) (aq yh) .none akS akT akU akl abb akV),akG⟩)
  (WK:codeIn K abb "_law_mixed" = true)
  (WL:keepIn K (.ref ud)=true)
  (JV:nsIn K mainGlobals "_law_sign_by" = some (some (.ref mj)))
  (JW:K.lookup mj=some ⟨af7,afm,.func (fnOf "_law_sign_by" "_law_sign_by" (aL pP) (aK pP) (aq pP) .none af8 af9 aga afn SX agb),afO⟩)
  (JX:codeIn K SX "_law_sign_by" = true)
  (JZ:keepIn K (.ref mj)=true)
  (J0:nsIn K mainGlobals "_law_numbers" = some (some (.ref mq)))
  (J1:K.lookup mq=some ⟨agc,afo,.func (fnOf "_law_numbers" "_law_numbers" (aL pQ) (aK pQ) (aq pQ) .none agd age agf afp S9 agg),afP⟩)
  (J2:codeIn K S9 "_law_numbers" = true)
  (J3:keepIn K (.ref mq)=true)
  (abR:nsIn K mainGlobals "_law_line" = some (some (.ref yN)))
  (abS:K.lookup yN=some ⟨aou,an3,.func (fnOf "_law_line" "_law_line" (aL Du) (aK Du) (aq Du) .none aov aow aox an4 aej aoy),aol⟩)
  (abT:codeIn K aej "_law_line" = true)
  (abU:keepIn K (.ref yN)=true)
  (J4:nsIn K mainGlobals "_law_entries" = some (some (.ref my)))
  (J5:K.lookup my=some ⟨agh,afq,.func (fnOf "_law_entries" "_law_entries" (aL jx) (aK jx) (aq jx) .none agi agj agk afr Tc agl),afQ⟩)
  (J6:codeIn K Tc "_law_entries" = true)
  (J7:keepIn K (.ref my)=true)
  (J8:findIn K (.ref bT) "undo" = some (some (.ref jy)))
  (J9:K.lookup jy=some ⟨agm,afs,.func (fnOf "undo" "Deed.undo" (aL pR) (aK pR) (aq pR) .none agn ago agp aft Td agq),afR⟩)
  (Ka:codeIn K Td "Deed.undo" = true)
  (Bp:keepIn K (.ref jy)=true)
  (Gw:isFn K (.ref jy)=true)
  (Kc:findIn K (.ref bI) "undo" = some (some (.ref jz)))
  (Ke:K.lookup jz=some ⟨agr,afu,.func (fnOf "undo" "Book.undo" (aL pW) (aK pW) (aq pW) .none ags agt agu afv Te agv),afS⟩)
  (Kf:codeIn K Te "Book.undo" = true)
  (Br:keepIn K (.ref jz)=true)
  (Gx:isFn K (.ref jz)=true)
  (WM:findIn K (.ref bT) "do" = some (some (.ref qm)))
  (WN:K.lookup qm=some ⟨akW,akm,.func (fnOf "do" "Deed.do" (aL yj) (aK yj) (aq yj) .none akX akY akZ akn abd ak0),akH⟩)
  (WQ:codeIn K abd "Deed.do" = true)
  (Lx:keepIn K (.ref qm)=true)
  (Qc:isFn K (.ref qm)=true)
  (Kg:findIn K (.ref bI) "redo" = some (some (.ref jA)))
  (Kh:K.lookup jA=some ⟨agw,afw,.func (fnOf "redo" "Book.redo" (aL pX) (aK pX) (aq pX) .none agx agy agz afx Tf agA),afT⟩)
  (Kl:codeIn K Tf "Book.redo" = true)
  (Bs:keepIn K (.ref jA)=true)
  (Gy:isFn K (.ref jA)=true)
  (lg:nsIn K mainGlobals "refuse_other_places" = some (some (.ref cH)))
  (lq:K.lookup cH=some ⟨Gi,Gb,.func (fnOf "refuse_other_places" "refuse_other_places" (aL cW) (aK cW) (aq cW) .none Gj Gk Gm Gd rG Gn),Gg⟩)
  (lr:codeIn K rG "refuse_other_places" = true)
  (lu:keepIn K (.ref cH)=true)
  (alJ:nsIn K mainGlobals "good" = some (some (.ref Nu)))
  (alK:K.lookup Nu=some ⟨ate,as8,.func (fnOf "good" "good" (aL Us) (aK Us) (aq Us) .none atf atg ath as9 amO ati),atc⟩)
  (alL:codeIn K amO "good" = true)
  (alM:keepIn K (.ref Nu)=true)
  (rJ:nsIn K mainGlobals "refuse_bad_sign" = some (some (.ref dF)))
  (rK:K.lookup dF=some ⟨O1,Oe,.func (fnOf "refuse_bad_sign" "refuse_bad_sign" (aL fH) (aK fH) (aq fH) .none O2 O3 O4 Og zF O5),Ov⟩)
  (rM:codeIn K zF "refuse_bad_sign" = true)
  (rN:keepIn K (.ref dF)=true)
  (zL:findIn K (.ref bI) "perform" = some (some (.ref fB)))
  (zM:K.lookup fB=some ⟨YH,Yx,.func (fnOf "perform" "Book.perform" (aL jo) (aK jo) (aq jo) .none YJ YK YL Yy Hu YM),YD⟩)
  (zN:codeIn K Hu "Book.perform" = true)
  (rO:keepIn K (.ref fB)=true)
  (wF:isFn K (.ref fB)=true)
  (ahe:nsIn K mainGlobals "small" = some (some (.ref Fe)))
  (ahf:K.lookup Fe=some ⟨aro,ara,.func (fnOf "small" "small" (aL Lh) (aK Lh) (aq Lh) .none arp arq ars arb aiO art),arj⟩)
  (ahg:codeIn K aiO "small" = true)
  (RD:keepIn K (.ref Fe)=true)
  (WR:nsIn K mainGlobals "low_end" = some (some (.ref ue)))
  (WT:K.lookup ue=some ⟨ak1,ako,.func (fnOf "low_end" "low_end" (aL ym) (aK ym) (aq ym) .none ak2 ak3 ak4 akp abe ak5),akI⟩)
  (WW:codeIn K abe "low_end" = true)
  (WX:keepIn K (.ref ue)=true)
  (Qd:nsIn K mainGlobals "high_end" = some (some (.ref pA)))
  (Qe:K.lookup pA=some ⟨aiP,aiz,.func (fnOf "high_end" "high_end" (aL tV) (aK tV) (aq tV) .none aiQ aiR aiS aiA Yg aiT),aiJ⟩)
  (Qf:codeIn K Yg "high_end" = true)
  (Qg:keepIn K (.ref pA)=true)
  (zO:nsIn K mainGlobals "sets_measure" = some (some (.ref gH)))
  (zP:K.lookup gH=some ⟨YQ,Yz,.func (fnOf "sets_measure" "sets_measure" (aL jq) (aK jq) (aq jq) .none YS YT YW YB Hv YX),YF⟩)
  (zQ:codeIn K Hv "sets_measure" = true)
  (zR:keepIn K (.ref gH)=true)
  (abV:nsIn K mainGlobals "window" = some (some (.ref yQ)))
  (abW:K.lookup yQ=some ⟨aoz,an5,.func (fnOf "window" "window" (aL Dv) (aK Dv) (aq Dv) .none aoA aoB aoC an6 aek aoD),aom⟩)
  (abX:codeIn K aek "window" = true)
  (abY:keepIn K (.ref yQ)=true)
  (nR:findIn K (.ref bI) "voice_called" = some (some (.ref cD)))
  (nW:K.lookup cD=some ⟨JD,Jz,.func (fnOf "voice_called" "Book.voice_called" (aL dN) (aK dN) (aq dN) .none JF JG JH JB vZ JK),JC⟩)
  (nY:codeIn K vZ "Book.voice_called" = true)
  (ji:keepIn K (.ref cD)=true)
  (mU:isFn K (.ref cD)=true)
  (pH:findIn K (.ref bI) "plain_voice" = some (some (.ref cN)))
  (pI:K.lookup cN=some ⟨Ma,LK,.func (fnOf "plain_voice" "Book.plain_voice" (aL eO) (aK eO) (aq eO) .none Mf Mg Mh LQ xG Mi),LR⟩)
  (pJ:codeIn K xG "Book.plain_voice" = true)
  (jY:keepIn K (.ref cN)=true)
  (nZ:isFn K (.ref cN)=true)
  (wG:findIn K (.ref bT) "__init__" = some (some (.ref dR)))
  (wH:K.lookup dR=some ⟨VD,Vm,.func (fnOf "__init__" "Deed.__init__" (aL gW) (aK gW) (aq gW) .none VF VG VH Vn Ek VJ),Vu⟩)
  (wI:codeIn K Ek "Deed.__init__" = true)
  (wJ:keepIn K (.ref dR)=true)
  (uI:isFn K (.ref dR)=true)
  (Km:findIn K (.ref bI) "swap" = some (some (.ref jB)))
  (Ko:K.lookup jB=some ⟨agB,afy,.func (fnOf "swap" "Book.swap" (aL pY) (aK pY) (aq pY) .none agC agD agE afz Tg agF),afU⟩)
  (Kp:codeIn K Tg "Book.swap" = true)
  (Bt:keepIn K (.ref jB)=true)
  (Gz:isFn K (.ref jB)=true)
  (Qh:findIn K (.ref bI) "put" = some (some (.ref mz)))
  (Qi:K.lookup mz=some ⟨aiU,aiB,.func (fnOf "put" "Book.put" (aL tW) (aK tW) (aq tW) .none aiV aiW aiX aiC Yh aiY),aiK⟩)
  (Qj:codeIn K Yh "Book.put" = true)
  (GC:keepIn K (.ref mz)=true)
  (Kq:isFn K (.ref mz)=true)
  (Qk:findIn K (.ref bI) "cut" = some (some (.ref mC)))
  (Ql:K.lookup mC=some ⟨aiZ,aiD,.func (fnOf "cut" "Book.cut" (aL tX) (aK tX) (aq tX) .none ai0 ai1 ai2 aiE Yi ai3),aiL⟩)
  (Qm:codeIn K Yi "Book.cut" = true)
  (GD:keepIn K (.ref mC)=true)
  (Kr:isFn K (.ref mC)=true)
  (GF:nsIn K mainGlobals "_law_one_deed" = some (some (.ref jP)))
  (GJ:K.lookup jP=some ⟨ac9,acX,.func (fnOf "_law_one_deed" "_law_one_deed" (aL mV) (aK mV) (aq mV) .none ada adb ade acY MF adf),ac5⟩)
  (GK:codeIn K MF "_law_one_deed" = true)
  (GP:keepIn K (.ref jP)=true)
  (GQ:findIn K (.ref bI) "canon" = some (some (.ref iw)))
  (GR:K.lookup iw=some ⟨adg,acZ,.func (fnOf "canon" "Book.canon" (aL mW) (aK mW) (aq mW) .none adh adi adk ac0 MJ adl),ac6⟩)
  (GX:codeIn K MJ "Book.canon" = true)
  (yc:keepIn K (.ref iw)=true)
  (Cm:isFn K (.ref iw)=true)
  (Ks:nsIn K mainGlobals "beginning" = some (some (.ref mD)))
  (Ku:K.lookup mD=some ⟨agG,afA,.func (fnOf "beginning" "beginning" (aL pZ) (aK pZ) (aq pZ) .none agH agI agJ afB Ti agK),afV⟩)
  (Kv:codeIn K Ti "beginning" = true)
  (Kw:keepIn K (.ref mD)=true)
  (Qn:nsIn K mainGlobals "measures" = some (some (.ref pC)))
  (Qo:K.lookup pC=some ⟨ai4,aiF,.func (fnOf "measures" "measures" (aL tY) (aK tY) (aq tY) (.ref Ah) ai5 ai6 ai7 aiG Yj ai8),aiM⟩)
  (Qp:codeIn K Yj "measures" = true)
  (Qq:keepIn K (.ref pC)=true)
  (Bu:K.lookup Ah=some ⟨agL,afC,.seq #[.int 3 qK] ahb,afW⟩)
  (WY:nsIn K mainGlobals "kind_at" = some (some (.ref uf)))
  (W0:K.lookup uf=some ⟨ak6,akq,.func (fnOf "kind_at" "kind_at" (aL yo) (aK yo) (aq yo) .none ak7 ak8 ak9 akr abf ala),akJ⟩)
  (W2:codeIn K abf "kind_at" = true)
  (W3:keepIn K (.ref uf)=true)
  (Cp:nsIn K mainGlobals "plain_worth" = some (some (.ref iU)))
  (Cq:K.lookup iU=some ⟨abg,aaV,.func (fnOf "plain_worth" "plain_worth" (aL j8) (aK j8) (aq j8) .none abh abi abj aaW JL abk),aa5⟩)
  (Cr:codeIn K JL "plain_worth" = true)
  (Cu:keepIn K (.ref iU)=true)
  (lz:nsIn K mainGlobals "worths_without_runs" = some (some (.ref cI)))
  (lB:K.lookup cI=some ⟨Gp,Ge,.func (fnOf "worths_without_runs" "worths_without_runs" (aL cX) (aK cX) (aq cX) .none Gq Gs Gu Gf rH Gv),Gh⟩)
  (lC:codeIn K rH "worths_without_runs" = true)
  (lD:keepIn K (.ref cI)=true)
  (alN:nsIn K mainGlobals "runs" = some (some (.ref Nz)))
  (alO:K.lookup Nz=some ⟨atj,ata,.func (fnOf "runs" "runs" (aL Ut) (aK Ut) (aq Ut) (.ref Zg) atk atl atm atb amP atn),atd⟩)
  (alP:codeIn K amP "runs" = true)
  (alQ:keepIn K (.ref Nz)=true)
  (Zm:K.lookup Zg=some ⟨aru,arc,.seq #[.int 3 Iw] arH,ark⟩)
  (wK:nsIn K mainGlobals "has_left_note" = some (some (.ref fW)))
  (wL:K.lookup fW=some ⟨VL,Vo,.func (fnOf "has_left_note" "has_left_note" (aL gY) (aK gY) (aq gY) .none VM VN VP Vp El VR),Vv⟩)
  (wN:codeIn K El "has_left_note" = true)
  (wO:keepIn K (.ref fW)=true)
  (uJ:nsIn K mainGlobals "has_right_note" = some (some (.ref eQ)))
  (uK:K.lookup eQ=some ⟨Tj,R8,.func (fnOf "has_right_note" "has_right_note" (aL gA) (aK gA) (aq gA) .none Tn Tp Tq R9 Bj Tr),Sx⟩)
  (uL:codeIn K Bj "has_right_note" = true)
  (uM:keepIn K (.ref eQ)=true)
  (rP:nsIn K mainGlobals "settle_one_over" = some (some (.ref dG)))
  (rQ:K.lookup dG=some ⟨O6,Oh,.func (fnOf "settle_one_over" "settle_one_over" (aL fJ) (aK fJ) (aq fJ) .none O7 O8 O9 Oi zG Pa),Ow⟩)
  (rR:codeIn K zG "settle_one_over" = true)
  (rT:keepIn K (.ref dG)=true)
  (rW:nsIn K mainGlobals "settle_two_over" = some (some (.ref dH)))
  (rY:K.lookup dH=some ⟨Pb,Oj,.func (fnOf "settle_two_over" "settle_two_over" (aL fK) (aK fK) (aq fK) .none Pg Ph Pj Ol zH Pk),Ox⟩)
  (rZ:codeIn K zH "settle_two_over" = true)
  (sr:keepIn K (.ref dH)=true)
  (GZ:nsIn K mainGlobals "settle_run" = some (some (.ref jQ)))
  (G3:K.lookup jQ=some ⟨adm,ac1,.func (fnOf "settle_run" "settle_run" (aL mX) (aK mX) (aq mX) .none adn ado adp ac2 MK adq),ac7⟩)
  (G4:codeIn K MK "settle_run" = true)
  (G5:keepIn K (.ref jQ)=true)
  (W4:nsIn K mainGlobals "reading" = some (some (.ref uh)))
  (W5:K.lookup uh=some ⟨alb,aks,.func (fnOf "reading" "reading" (aL yp) (aK yp) (aq yp) .none alc ald ale akt abl alf),akK⟩)
  (W6:codeIn K abl "reading" = true)
  (W7:keepIn K (.ref uh)=true)
  (abZ:nsIn K mainGlobals "worths" = some (some (.ref yR)))
  (ab0:K.lookup yR=some ⟨aoE,an7,.func (fnOf "worths" "worths" (aL Dw) (aK Dw) (aq Dw) (.ref Lk) aoF aoG aoH an8 ael aoI),aon⟩)
  (ab1:codeIn K ael "worths" = true)
  (ab2:keepIn K (.ref yR)=true)
  (Ly:K.lookup Lk=some ⟨alg,aku,.seq #[.int 3 yS] alI,akL⟩)
  (ab3:nsIn K mainGlobals "turned" = some (some (.ref yU)))
  (ab4:K.lookup yU=some ⟨aoJ,an9,.func (fnOf "turned" "turned" (aL Dy) (aK Dy) (aq Dy) .none aoK aoL aoM aoa aem aoN),aoo⟩)
  (ab5:codeIn K aem "turned" = true)
  (ab6:keepIn K (.ref yU)=true)
  (Ky:findIn K (.ref bI) "line" = some (some (.ref iy)))
  (Kz:K.lookup iy=some ⟨agM,afD,.func (fnOf "line" "Book.line" (aL qb) (aK qb) (aq qb) .none agN agO agP afE Tt agQ),afX⟩)
  (KC:codeIn K Tt "Book.line" = true)
  (Bv:keepIn K (.ref iy)=true)
  (G6:isFn K (.ref iy)=true)
  (KH:findIn K (.ref bI) "kept" = some (some (.ref jC)))
  (KJ:K.lookup jC=some ⟨agR,afF,.func (fnOf "kept" "Book.kept" (aL qd) (aK qd) (aq qd) .none agS agT agU afG Tu agV),afY⟩)
  (KN:codeIn K Tu "Book.kept" = true)
  (Bx:keepIn K (.ref jC)=true)
  (Ha:isFn K (.ref jC)=true)
  (ab7:nsIn K mainGlobals "ending" = some (some (.ref yV)))
  (ab8:K.lookup yV=some ⟨aoO,aob,.func (fnOf "ending" "ending" (aL Dz) (aK Dz) (aq Dz) .none aoP aoQ aoR aoc aen aoS),aop⟩)
  (ab9:codeIn K aen "ending" = true)
  (aca:keepIn K (.ref yV)=true)
  (Hb:findIn K (.ref bI) "names" = some (some (.ref iB)))
  (Hc:K.lookup iB=some ⟨adt,ac3,.func (fnOf "names" "Book.names" (aL mY) (aK mY) (aq mY) .none adu adv adw ac4 MN adx),ac8⟩)
  (Hd:codeIn K MN "Book.names" = true)
  (yd:keepIn K (.ref iB)=true)
  (Cv:isFn K (.ref iB)=true)
  (ahh:nsIn K mainGlobals "waits" = some (some (.ref Fo)))
  (ahi:K.lookup Fo=some ⟨arv,ard,.func (fnOf "waits" "waits" (aL Li) (aK Li) (aq Li) .none arw arx arz arf ai9 arA),arl⟩)
  (ahj:codeIn K ai9 "waits" = true)
  (ahk:keepIn K (.ref Fo)=true)
  (KQ:nsIn K mainGlobals "_law_line_of" = some (some (.ref mF)))
  (KR:K.lookup mF=some ⟨agW,afH,.func (fnOf "_law_line_of" "_law_line_of" (aL qe) (aK qe) (aq qe) .none agX agY agZ afI Tv ag0),afZ⟩)
  (KY:codeIn K Tv "_law_line_of" = true)
  (KZ:keepIn K (.ref mF)=true)
  (acb:nsIn K mainGlobals "_law_base" = some (some (.ref yW)))
  (acd:K.lookup yW=some ⟨aoT,aod,.func (fnOf "_law_base" "_law_base" (aL DG) (aK DG) (aq DG) .none aoU aoV aoW aoe aeo aoX),aoq⟩)
  (ace:codeIn K aeo "_law_base" = true)
  (acf:keepIn K (.ref yW)=true)
  (W8:nsIn K mainGlobals "_law_three" = some (some (.ref um)))
  (W9:K.lookup um=some ⟨alh,akv,.func (fnOf "_law_three" "_law_three" (aL yq) (aK yq) (aq yq) .none ali alj alk akx abm alm),akM⟩)
  (Xa:codeIn K abm "_law_three" = true)
  (Xb:keepIn K (.ref um)=true)
  (ahl:nsIn K mainGlobals "_law_run" = some (some (.ref Fp)))
  (ahm:K.lookup Fp=some ⟨arB,arh,.func (fnOf "_law_run" "_law_run" (aL Lj) (aK Lj) (aq Lj) .none arC arD arE ari aja arF),arn⟩)
  (ahn:codeIn K aja "_law_run" = true)
  (aho:keepIn K (.ref Fp)=true)
  (acg:nsIn K mainGlobals "_law_read" = some (some (.ref yX)))
  (ach:K.lookup yX=some ⟨aoY,aof,.func (fnOf "_law_read" "_law_read" (aL DK) (aK DK) (aq DK) .none aoZ ao0 ao1 aog aep ao2),aor⟩)
  (aci:codeIn K aep "_law_read" = true)
  (acj:keepIn K (.ref yX)=true)
  (K1:nsIn K mainGlobals "_law_kept_of" = some (some (.ref mG)))
  (K3:K.lookup mG=some ⟨ag1,afJ,.func (fnOf "_law_kept_of" "_law_kept_of" (aL qg) (aK qg) (aq qg) .none ag2 ag3 ag4 afK Tw ag5),af0⟩)
  (K4:codeIn K Tw "_law_kept_of" = true)
  (K5:keepIn K (.ref mG)=true)
  (Cw:nsIn K mainGlobals "_law_ending_of" = some (some (.ref iV)))
  (Cy:K.lookup iV=some ⟨abn,aaX,.func (fnOf "_law_ending_of" "_law_ending_of" (aL j9) (aK j9) (aq j9) .none abo abp abq aaY JM abr),aa6⟩)
  (Cz:codeIn K JM "_law_ending_of" = true)
  (CG:keepIn K (.ref iV)=true)
  (Xc:nsIn K mainGlobals "_law_whole" = some (some (.ref uo)))
  (Xd:K.lookup uo=some ⟨aln,aky,.func (fnOf "_law_whole" "_law_whole" (aL yr) (aK yr) (aq yr) .none alo alp alq akz abt alr),akN⟩)
  (Xe:codeIn K abt "_law_whole" = true)
  (Xf:keepIn K (.ref uo)=true)
  (ack:nsIn K mainGlobals "_law_rows" = some (some (.ref yZ)))
  (acn:K.lookup yZ=some ⟨ao3,aoh,.func (fnOf "_law_rows" "_law_rows" (aL DN) (aK DN) (aq DN) .none ao4 ao5 ao6 aoi aeq ao7),aos⟩)
  (aco:codeIn K aeq "_law_rows" = true)
  (acp:keepIn K (.ref yZ)=true)
  (Xg:nsIn K mainGlobals "_law_right" = some (some (.ref uq)))
  (Xh:K.lookup uq=some ⟨als,akA,.func (fnOf "_law_right" "_law_right" (aL yt) (aK yt) (aq yt) .none alu alv alw akB abu alx),akO⟩)
  (Xi:codeIn K abu "_law_right" = true)
  (Xj:keepIn K (.ref uq)=true)
  (Xk:nsIn K mainGlobals "_law_signs" = some (some (.ref ur)))
  (Xl:K.lookup ur=some ⟨aly,akC,.func (fnOf "_law_signs" "_law_signs" (aL yu) (aK yu) (aq yu) .none alz alA alB akD abv alC),akP⟩)
  (Xm:codeIn K abv "_law_signs" = true)
  (Xn:keepIn K (.ref ur)=true)
  (acq:nsIn K mainGlobals "_law_nums" = some (some (.ref za)))
  (acr:K.lookup za=some ⟨ao8,aoj,.func (fnOf "_law_nums" "_law_nums" (aL DP) (aK DP) (aq DP) .none ao9 apa apb aok aer apc),aot⟩)
  (acs:codeIn K aer "_law_nums" = true)
  (acu:keepIn K (.ref za)=true)
  (Qs:nsIn K mainGlobals "_law_stands" = some (some (.ref pF)))
  (Qt:K.lookup pF=some ⟨ajb,aiH,.func (fnOf "_law_stands" "_law_stands" (aL tZ) (aK tZ) (aq tZ) .none ajc ajd aje aiI Yk ajf),aiN⟩)
  (Qu:codeIn K Yk "_law_stands" = true)
  (Qv:keepIn K (.ref pF)=true)
  (su:nsIn K mainGlobals "_law_changed_right" = some (some (.ref dJ)))
  (sy:K.lookup dJ=some ⟨Pn,Om,.func (fnOf "_law_changed_right" "_law_changed_right" (aL fL) (aK fL) (aq fL) .none Pq Pr Pu Oo zJ Px),Oz⟩)
  (sE:codeIn K zJ "_law_changed_right" = true)
  (sG:keepIn K (.ref dJ)=true)
  (CJ:nsIn K mainGlobals "_law_all_round" = some (some (.ref iW)))
  (CK:K.lookup iW=some ⟨abw,aaZ,.func (fnOf "_law_all_round" "_law_all_round" (aL kh) (aK kh) (aq kh) .none abx aby abz aa0 JN abA),aa7⟩)
  (CN:codeIn K JN "_law_all_round" = true)
  (CP:keepIn K (.ref iW)=true)
  (Xo:nsIn K mainGlobals "is_name" = some (some (.ref uv)))
  (Xp:K.lookup uv=some ⟨alD,akE,.func (fnOf "is_name" "is_name" (aL yw) (aK yw) (aq yw) .none alE alF alG akF abB alH),akQ⟩)
  (Xq:codeIn K abB "is_name" = true)
  (Xr:keepIn K (.ref uv)=true)
  (sH:findIn K (.ref bI) "refuse_new" = some (some (.ref cV)))
  (sI:K.lookup cV=some ⟨Py,Oq,.func (fnOf "refuse_new" "Book.refuse_new" (aL fM) (aK fM) (aq fM) .none Pz PB PJ Ot zK PK),OD⟩)
  (sJ:codeIn K zK "Book.refuse_new" = true)
  (lQ:keepIn K (.ref cV)=true)
  (pK:isFn K (.ref cV)=true)
  (CQ:findIn K (.ref bI) "put_in" = some (some (.ref gm)))
  (CT:K.lookup gm=some ⟨abC,aa1,.func (fnOf "put_in" "Book.put_in" (aL kj) (aK kj) (aq kj) .none abD abE abF aa2 JP abG),aa8⟩)
  (CW:codeIn K JP "Book.put_in" = true)
  (vG:keepIn K (.ref gm)=true)
  (zT:isFn K (.ref gm)=true)
  (uN:findIn K (.ref fc) "__init__" = some (some (.ref dq)))
  (uO:K.lookup dq=some ⟨Tz,Sd,.func (fnOf "__init__" "Voice.__init__" (aL gB) (aK gB) (aq gB) .none TF TJ TQ Sh Bl TV),Sy⟩)
  (uP:codeIn K Bl "Voice.__init__" = true)
  (uQ:keepIn K (.ref dq)=true)
  (sO:isFn K (.ref dq)=true)
  (uR:findIn K (.ref bI) "add_voice" = some (some (.ref du)))
  (uT:K.lookup du=some ⟨TX,Sq,.func (fnOf "add_voice" "Book.add_voice" (aL gC) (aK gC) (aq gC) .none TY T3 T4 Ss Bm T5),SJ⟩)
  (uU:codeIn K Bm "Book.add_voice" = true)
  (nG:keepIn K (.ref du)=true)
  (sS:isFn K (.ref du)=true)
  (uV:findIn K (.ref bI) "add_canon" = some (some (.ref dw)))
  (uW:K.lookup dw=some ⟨T6,Su,.func (fnOf "add_canon" "Book.add_canon" (aL gD) (aK gD) (aq gD) (.ref lJ) T7 T8 T9 Sv Bo Ua),SM⟩)
  (uX:codeIn K Bo "Book.add_canon" = true)
  (nH:keepIn K (.ref dw)=true)
  (sU:isFn K (.ref dw)=true)
  (lR:K.lookup lJ=some ⟨PL,Ou,.seq #[.int 0 gJ,.int 1 gK,.bool false] Qa,OJ⟩)
  (K6:nsIn K mainGlobals "_law_book_of" = some (some (.ref mH)))
  (K7:K.lookup mH=some ⟨ag6,afL,.func (fnOf "_law_book_of" "_law_book_of" (aL qi) (aK qi) (aq qi) .none ag7 ag8 ag9 afM Ub aha),af1⟩)
  (K8:codeIn K Ub "_law_book_of" = true)
  (K9:keepIn K (.ref mH)=true)
  (wQ:findIn K (.ref bI) "__init__" = some (some (.ref dU)))
  (wR:K.lookup dU=some ⟨V0,Vq,.func (fnOf "__init__" "Book.__init__" (aL gZ) (aK gZ) (aq gZ) .none V1 V2 V3 Vr Em V4),Vy⟩)
  (wU:codeIn K Em "Book.__init__" = true)
  (wV:keepIn K (.ref dU)=true)
  (uY:isFn K (.ref dU)=true)
  (amQ:nsIn K mainGlobals "law" = some (some (.ref aai)))
  (arI:K.lookup aai=some ⟨avL,avI,.func (fnOf "law" "law" (aL adV) (aK adV) (aq adV) .none avM avN avO avJ arG avP),avK⟩)
  (arJ:codeIn K arG "law" = true)
  (arK:keepIn K (.ref aai)=true)
  (arL:nsIn K mainGlobals "all" = some none)
  (arM:nsIn K mainGlobals "any" = some none)
  (alR:nsIn K mainGlobals "bool" = some none)
  (alS:nsIn K mainGlobals "dict" = some none)
  (La:nsIn K mainGlobals "enumerate" = some none)
  (arN:nsIn K mainGlobals "int" = some none)
  (Hf:nsIn K mainGlobals "isinstance" = some none)
  (arO:nsIn K mainGlobals "len" = some none)
  (alT:nsIn K mainGlobals "list" = some none)
  (arP:nsIn K mainGlobals "max" = some none)
  (arQ:nsIn K mainGlobals "min" = some none)
  (ahp:nsIn K mainGlobals "range" = some none)
  (arR:nsIn K mainGlobals "str" = some none)
  (arS:nsIn K mainGlobals "sum" = some none)
  (ahq:nsIn K mainGlobals "tuple" = some none)
  (arT:nsIn K mainGlobals "zip" = some none)
  (zU:nsIn K mainGlobals "GREAT_KINDS" = some (some (.ref gn)))
  (zV:K.lookup gn=some ⟨.type "tuple",aa3,.seq #[.str (Str.ofString "G") abH,.str (Str.ofString "D") abI,.str (Str.ofString "R") abJ] ady,aa9⟩)
  (zW:nsIn K mainGlobals "SMALL_KINDS" = some (some (.ref iY)))
  (zX:K.lookup iY=some ⟨.type "tuple",aa4,.seq #[.str (Str.ofString "s") abK,.str (Str.ofString "d") abL,.str (Str.ofString "r") abM] adz,aba⟩)
  (uZ:nsIn K mainGlobals "PARTING_KINDS" = some (some (.ref fX)))
  (vd:K.lookup fX=some ⟨.type "tuple",Vs,.seq #[.str (Str.ofString ".") V5,.str (Str.ofString "3") V6,.str (Str.ofString "2") V7] Y7,Vz⟩)
  (vf:nsIn K mainGlobals "MEASURE_KINDS" = some (some (.ref dW)))
  (vg:K.lookup dW=some ⟨.type "tuple",Vt,.seq #[.str (Str.ofString "3") V8,.str (Str.ofString "2") V9] Y8,VB⟩)
  (sV:nsIn K mainGlobals "SOUNDING_KINDS" = some (some (.ref eU)))
  (sW:K.lookup eU=some ⟨.type "tuple",Sw,.seq #[.str (Str.ofString "G") Uc,.str (Str.ofString "D") Ud,.str (Str.ofString "s") Ue,.str (Str.ofString "d") Ug] Wx,SN⟩)
  (wW:nsIn K mainGlobals "SILENT_KINDS" = some (some (.ref gM)))
  (wX:K.lookup gM=some ⟨.type "tuple",YC,.seq #[.str (Str.ofString "R") YZ,.str (Str.ofString "r") Y0,.str (Str.ofString ".") Y4,.str (Str.ofString "3") Y5,.str (Str.ofString "2") Y6] abN,YG⟩)
  (wY:nsIn K mainGlobals "HIGHEST_TONE" = some (some (.int 99 qP)))
  (wZ:nsIn K mainGlobals "TURNED_KINDS" = some (some (.ref fD)))
  (w6:K.lookup fD=some ⟨.type "dict",none,.dict #[⟨PyData.keyHash w.params (Str.ofString "3"),.str (Str.ofString "3") Wc,.str (Str.ofString "2") Wa⟩,⟨PyData.keyHash w.params (Str.ofString "2"),.str (Str.ofString "2") Wd,.str (Str.ofString "3") Wb⟩] abO,#[]⟩)
  (xf:(fD == sysModules)=false)
  (xg:nsIn K mainGlobals "PLAIN_WORTHS" = some (some (.ref fG)))
  (xj:K.lookup fG=some ⟨.type "dict",none,.dict #[⟨PyData.keyHash w.params (Str.ofString "G"),.str (Str.ofString "G") Wn,.int 3 We⟩,⟨PyData.keyHash w.params (Str.ofString "D"),.str (Str.ofString "D") Wo,.int 2 Wf⟩,⟨PyData.keyHash w.params (Str.ofString "R"),.str (Str.ofString "R") Wq,.int 3 Wg⟩,⟨PyData.keyHash w.params (Str.ofString "s"),.str (Str.ofString "s") Wr,.int 1 Wh⟩,⟨PyData.keyHash w.params (Str.ofString "d"),.str (Str.ofString "d") Ws,.int 1 Wi⟩,⟨PyData.keyHash w.params (Str.ofString "r"),.str (Str.ofString "r") Wt,.int 1 Wj⟩,⟨PyData.keyHash w.params (Str.ofString "."),.str (Str.ofString ".") Wu,.int 0 Wk⟩,⟨PyData.keyHash w.params (Str.ofString "3"),.str (Str.ofString "3") Wv,.int 0 Wl⟩,⟨PyData.keyHash w.params (Str.ofString "2"),.str (Str.ofString "2") Ww,.int 0 Wm⟩] abP,#[]⟩)
  (xm:(fG == sysModules)=false)
  (sX:nsIn K mainGlobals "TWOFOLD_WORTHS" = some (some (.ref cO)))
  (sY:K.lookup cO=some ⟨.type "dict",none,.dict #[⟨PyData.keyHash w.params (Str.ofString "G"),.str (Str.ofString "G") PX,.int 2 PN⟩,⟨PyData.keyHash w.params (Str.ofString "R"),.str (Str.ofString "R") P0,.int 2 PQ⟩] Wy,#[]⟩)
  (sZ:(cO == sysModules)=false)
  (CZ:nsIn K mainGlobals "FULL_WORTH" = some (some (.int 3 xQ)))
  (pL:nsIn K mainGlobals "SHORTENED_WORTH" = some (some (.int 2 lK)))
  (vh:nsIn K mainGlobals "DOUBLED_WORTH" = some (some (.int 2 oW)))
  (xq:nsIn K mainGlobals "DOTTED_WORTH" = some (some (.int 3 qQ)))
  (Qw:nsIn K mainGlobals "LETTERS" = some (some (.str (Str.ofString "abcdefghijklmnopqrstuvwxyz") Ln)))
  (xr:nsIn K mainGlobals "LONGEST_NAME" = some (some (.int 8 qR)))
  (zY:nsIn K mainGlobals "MOST_VOICES" = some (some (.int 12 vz)))
  (Dc:nsIn K mainGlobals "MOST_SIGNS" = some (some (.int 200 xR)))
  (Xu:nsIn K mainGlobals "LATEST" = some (some (.int 999 Rh)))
  (Qx:nsIn K mainGlobals "SLOWEST" = some (some (.int 9 Lp)))
  (Xv:makesIn K fc=true)
  (Xw:keepIn K (.ref fc)=true)
  (acv:plainGet K fc Str.empty=true)
  (acw:hasDictIn K fc=true)
  (acx:plainOver K fc=true)
  (acy:findIn K (.ref fc) "__setattr__" = some (some (.builtin "object.__setattr__")))
  (iZ:findIn K (.ref fc) "name" = some none)
  (gO:findIn K (.ref fc) "terms" = some none)
  (c7:findIn K (.ref fc) "signs" = some none)
  (acz:makesIn K bT=true)
  (acA:keepIn K (.ref bT)=true)
  (ahr:plainGet K bT Str.empty=true)
  (ahs:hasDictIn K bT=true)
  (aht:plainOver K bT=true)
  (ahu:findIn K (.ref bT) "__setattr__" = some (some (.builtin "object.__setattr__")))
  (gP:findIn K (.ref bT) "things" = some none)
  (jW:findIn K (.ref bT) "at" = some none)
  (gQ:findIn K (.ref bT) "before" = some none)
  (jb:findIn K (.ref bT) "after" = some none)
  (acB:makesIn K bI=true)
  (acC:keepIn K (.ref bI)=true)
  (ahv:plainGet K bI Str.empty=true)
  (ahw:hasDictIn K bI=true)
  (ahx:plainOver K bI=true)
  (ahy:findIn K (.ref bI) "__setattr__" = some (some (.builtin "object.__setattr__")))
  (dg:findIn K (.ref bI) "voices" = some none)
  (gb:findIn K (.ref bI) "done" = some none)
  (dM:findIn K (.ref bI) "undone" = some none) :
  ∃ fd:FuncData,(∀ (s:Shared) (v:Value),BindsTo s fd ⟨[v],[]⟩ [("_law_script",v)])/\∀ base:Heap,K.In base->base.Ns mainGlobals mg->bW l.prog w K mg base jF 13 fa fd ["_law_script"] (ZR K):=by
 have e:=hfa.symm.trans (mg_of X G amQ)
 cases e
 have bL:=bB (st:=pO) JR JS JT
 have bY:=bL.binds (ps:=["_law_script","_law_k"]) fun _ _ _ _ _ _ us hl=>match us,hl with | [_,_],_=>rfl
 have m7:=bB (st:=yh) WD WK WL
 have uz:=m7.binds (ps:=["_law_seed","_law_k"]) fun _ _ _ _ _ _ us hl=>match us,hl with | [_,_],_=>rfl
 have mJ:=bB (st:=pP) JW JX JZ
 have vN:=mJ.binds (ps:=["_law_number"]) fun _ _ _ _ _ _ us hl=>match us,hl with | [_],_=>rfl
 have vO:=bB (st:=pQ) J1 J2 J3
 have Ja:=vO.binds (ps:=["_law_script","_law_at","_law_many"]) fun _ _ _ _ _ _ us hl=>match us,hl with | [_,_,_],_=>rfl
 have Jb:=bB (st:=Du) abS abT abU
 have aaj:=Jb.binds (ps:=["_law_script","_law_at","_law_many"]) fun _ _ _ _ _ _ us hl=>match us,hl with | [_,_,_],_=>rfl
 have vP:=bB (st:=jx) J5 J6 J7
 have Jc:=vP.binds (ps:=["_law_script"]) fun _ _ _ _ _ _ us hl=>match us,hl with | [_],_=>rfl
 have Aj:=bB (st:=pR) J9 Ka Bp
 have Jd:=Aj.binds (ps:=["self"]) fun _ _ _ _ _ _ us hl=>match us,hl with | [_],_=>rfl
 have Ak:=bB (st:=pW) Ke Kf Br
 have mK:=Ak.binds (ps:=["self"]) fun _ _ _ _ _ _ us hl=>match us,hl with | [_],_=>rfl
 have Lq:=bB (st:=yj) WN WQ Lx
 have Lr:=Lq.binds (ps:=["self"]) fun _ _ _ _ _ _ us hl=>match us,hl with | [_],_=>rfl
 have Al:=bB (st:=pX) Kh Kl Bs
 have Am:=Al.binds (ps:=["self"]) fun _ _ _ _ _ _ us hl=>match us,hl with | [_],_=>rfl
 have cJ:=bB (st:=cW) lq lr lu
 have dZ:=cJ.binds (ps:=["at","last"]) fun _ _ _ _ _ _ us hl=>match us,hl with | [_,_],_=>rfl
 have aal:=bB (st:=Us) alK alL alM
 have aj0:=aal.binds (ps:=["sign"]) fun _ _ _ _ _ _ us hl=>match us,hl with | [_],_=>rfl
 have fO:=bB (st:=fH) rK rM rN
 have lL:=fO.binds (ps:=["sign"]) fun _ _ _ _ _ _ us hl=>match us,hl with | [_],_=>rfl
 have qU:=bB (st:=jo) zM zN rO
 have jr:=qU.binds (ps:=["self","deed"]) fun _ _ _ _ _ _ us hl=>match us,hl with | [_,_],_=>rfl
 have Ls:=bB (st:=Lh) ahf ahg RD
 have Zh:=Ls.binds (ps:=["sign"]) fun _ _ _ _ _ _ us hl=>match us,hl with | [_],_=>rfl
 have DW:=bB (st:=ym) WT WW WX
 have U5:=DW.binds (ps:=["line","at"]) fun _ _ _ _ _ _ us hl=>match us,hl with | [_,_],_=>rfl
 have zf:=bB (st:=tV) Qe Qf Qg
 have NK:=zf.binds (ps:=["line","first","kinds"]) fun _ _ _ _ _ _ us hl=>match us,hl with | [_,_,_],_=>rfl
 have jt:=bB (st:=jq) zP zQ zR
 have qW:=jt.binds (ps:=["sign"]) fun _ _ _ _ _ _ us hl=>match us,hl with | [_],_=>rfl
 have zg:=bB (st:=Dv) abW abX abY
 have Je:=zg.binds (ps:=["line","at","behind","changed"]) fun _ _ _ _ _ _ us hl=>match us,hl with | [_,_,_,_],_=>rfl
 have jf:=bB (st:=dN) nW nY ji
 have dO:=jf.binds (ps:=["self","name"]) fun _ _ _ _ _ _ us hl=>match us,hl with | [_,_],_=>rfl
 have jT:=bB (st:=eO) pI pJ jY
 have eV:=jT.binds (ps:=["self","name"]) fun _ _ _ _ _ _ us hl=>match us,hl with | [_,_],_=>rfl
 have oY:=bB (st:=gW) wH wI wJ
 have ie:=oY.binds (ps:=["self","things","at","before","after"]) fun _ _ _ _ _ _ us hl=>match us,hl with | [_,_,_,_,_],_=>rfl
 have An:=bB (st:=pY) Ko Kp Bt
 have Jf:=An.binds (ps:=["self","name","at","sign"]) fun _ _ _ _ _ _ us hl=>match us,hl with | [_,_,_,_],_=>rfl
 have Ft:=bB (st:=tW) Qi Qj GC
 have Fv:=Ft.binds (ps:=["self","name","at","sign"]) fun _ _ _ _ _ _ us hl=>match us,hl with | [_,_,_,_],_=>rfl
 have Fw:=bB (st:=tX) Ql Qm GD
 have NP:=Fw.binds (ps:=["self","name","at"]) fun _ _ _ _ _ _ us hl=>match us,hl with | [_,_,_],_=>rfl
 have qX:=bB (st:=mV) GJ GK GP
 have Fx:=qX.binds (ps:=["_law_script","_law_book","_law_name","_law_line_here"]) fun _ _ _ _ _ _ us hl=>match us,hl with | [_,_,_,_],_=>rfl
 have xV:=bB (st:=mW) GR GX yc
 have jU:=xV.binds (ps:=["self","name"]) fun _ _ _ _ _ _ us hl=>match us,hl with | [_,_],_=>rfl
 have vQ:=bB (st:=pZ) Ku Kv Kw
 have Jg:=vQ.binds (ps:=["book","name"]) fun _ _ _ _ _ _ us hl=>match us,hl with | [_,_],_=>rfl
 have pG:=Zb (st:=tY) Qo Qp Qq
 have Fy:Binds K _ ["line","begin"] []:=pG.binds (ds:=[]) Bu rfl fun _ _ _ _ _ _ us hl=>match us,hl with | [_,_],_=>⟨_,rfl,rfl⟩
 have XX:Binds K _ ["line","begin"] [.int 3 qK]:=pG.binds Bu rfl fun _ _ _ _ _ _ us hl=>match us,(show us.length=1 by simpa using hl) with | [_],_=>⟨_,rfl,rfl⟩
 have ig:=bB (st:=yo) W0 W2 W3
 have km:=ig.binds (ps:=["line","at"]) fun _ _ _ _ _ _ us hl=>match us,hl with | [_,_],_=>rfl
 have oN:=bB (st:=j8) Cq Cr Cu
 have Ce:=oN.binds (ps:=["kind","measure"]) fun _ _ _ _ _ _ us hl=>match us,hl with | [_,_],_=>rfl
 have d7:=bB (st:=cX) lB lC lD
 have kZ:=d7.binds (ps:=["line","begin"]) fun _ _ _ _ _ _ us hl=>match us,hl with | [_,_],_=>rfl
 have U8:=Zb (st:=Ut) alO alP alQ
 have aj2:Binds K _ ["line","begin"] []:=U8.binds (ds:=[]) Zm rfl fun _ _ _ _ _ _ us hl=>match us,hl with | [_,_],_=>⟨_,rfl,rfl⟩
 have amw:Binds K _ ["line","begin"] [.int 3 Iw]:=U8.binds Zm rfl fun _ _ _ _ _ _ us hl=>match us,(show us.length=1 by simpa using hl) with | [_],_=>⟨_,rfl,rfl⟩
 have ik:=bB (st:=gY) wL wN wO
 have oZ:=ik.binds (ps:=["line","found","first"]) fun _ _ _ _ _ _ us hl=>match us,hl with | [_,_,_],_=>rfl
 have gF:=bB (st:=gA) uK uL uM
 have m8:=gF.binds (ps:=["line","behind"]) fun _ _ _ _ _ _ us hl=>match us,hl with | [_,_],_=>rfl
 have iD:=bB (st:=fJ) rQ rR rT
 have qY:=iD.binds (ps:=["line","found","first","behind"]) fun _ _ _ _ _ _ us hl=>match us,hl with | [_,_,_,_],_=>rfl
 have iG:=bB (st:=fK) rY rZ sr
 have qZ:=iG.binds (ps:=["line","found","first","behind"]) fun _ _ _ _ _ _ us hl=>match us,hl with | [_,_,_,_],_=>rfl
 have q8:=bB (st:=mX) G3 G4 G5
 have FJ:=q8.binds (ps:=["line","found","first","behind"]) fun _ _ _ _ _ _ us hl=>match us,hl with | [_,_,_,_],_=>rfl
 have DY:=bB (st:=yp) W5 W6 W7
 have U9:=DY.binds (ps:=["line","begin"]) fun _ _ _ _ _ _ us hl=>match us,hl with | [_,_],_=>rfl
 have zj:=Zb (st:=Dw) ab0 ab1 ab2
 have Rj:Binds K _ ["line","begin"] []:=zj.binds (ds:=[]) Ly rfl fun _ _ _ _ _ _ us hl=>match us,hl with | [_,_],_=>⟨_,rfl,rfl⟩
 have adY:Binds K _ ["line","begin"] [.int 3 yS]:=zj.binds Ly rfl fun _ _ _ _ _ _ us hl=>match us,(show us.length=1 by simpa using hl) with | [_],_=>⟨_,rfl,rfl⟩
 have Ea:=bB (st:=Dy) ab4 ab5 ab6
 have Rk:=Ea.binds (ps:=["line"]) fun _ _ _ _ _ _ us hl=>match us,hl with | [_],_=>rfl
 have vR:=bB (st:=qb) Kz KC Bv
 have mO:=vR.binds (ps:=["self","name"]) fun _ _ _ _ _ _ us hl=>match us,hl with | [_,_],_=>rfl
 have Aq:=bB (st:=qd) KJ KN Bx
 have vU:=Aq.binds (ps:=["self","name"]) fun _ _ _ _ _ _ us hl=>match us,hl with | [_,_],_=>rfl
 have Jh:=bB (st:=Dz) ab8 ab9 aca
 have aan:=Jh.binds (ps:=["book","name"]) fun _ _ _ _ _ _ us hl=>match us,hl with | [_,_],_=>rfl
 have xW:=bB (st:=mY) Hc Hd yd
 have jV:=xW.binds (ps:=["self"]) fun _ _ _ _ _ _ us hl=>match us,hl with | [_],_=>rfl
 have Lw:=bB (st:=Li) ahi ahj ahk
 have Zi:=Lw.binds (ps:=["book"]) fun _ _ _ _ _ _ us hl=>match us,hl with | [_],_=>rfl
 have qp:=bB (st:=qe) KR KY KZ
 have Ar:=qp.binds (ps:=["_law_voices","_law_name"]) fun _ _ _ _ _ _ us hl=>match us,hl with | [_,_],_=>rfl
 have Ji:=bB (st:=DG) acd ace acf
 have aao:=Ji.binds (ps:=["_law_line_here","_law_begin"]) fun _ _ _ _ _ _ us hl=>match us,hl with | [_,_],_=>rfl
 have Eb:=bB (st:=yq) W9 Xa Xb
 have Va:=Eb.binds (ps:=["_law_line_here","_law_begin"]) fun _ _ _ _ _ _ us hl=>match us,hl with | [_,_],_=>rfl
 have Rn:=bB (st:=Lj) ahm ahn aho
 have aeZ:=Rn.binds (ps:=["_law_line_here","_law_told","_law_low","_law_high"]) fun _ _ _ _ _ _ us hl=>match us,hl with | [_,_,_,_],_=>rfl
 have Ec:=bB (st:=DK) ach aci acj
 have Ro:=Ec.binds (ps:=["_law_line_here","_law_begin"]) fun _ _ _ _ _ _ us hl=>match us,hl with | [_,_],_=>rfl
 have qt:=bB (st:=qg) K3 K4 K5
 have Av:=qt.binds (ps:=["_law_voices","_law_name"]) fun _ _ _ _ _ _ us hl=>match us,hl with | [_,_],_=>rfl
 have kE:=bB (st:=j9) Cy Cz CG
 have vA:=kE.binds (ps:=["_law_voices","_law_name"]) fun _ _ _ _ _ _ us hl=>match us,hl with | [_,_],_=>rfl
 have m9:=bB (st:=yr) Xd Xe Xf
 have uA:=m9.binds (ps:=["_law_found"]) fun _ _ _ _ _ _ us hl=>match us,hl with | [_],_=>rfl
 have Jk:=bB (st:=DN) acn aco acp
 have aap:=Jk.binds (ps:=["_law_found","_law_due"]) fun _ _ _ _ _ _ us hl=>match us,hl with | [_,_],_=>rfl
 have kI:=bB (st:=yt) Xh Xi Xj
 have qu:=kI.binds (ps:=["_law_script","_law_book","_law_voices"]) fun _ _ _ _ _ _ us hl=>match us,hl with | [_,_,_],_=>rfl
 have Ed:=bB (st:=yu) Xl Xm Xn
 have Vb:=Ed.binds (ps:=["_law_found","_law_due"]) fun _ _ _ _ _ _ us hl=>match us,hl with | [_,_],_=>rfl
 have Jl:=bB (st:=DP) acr acs acu
 have aaq:=Jl.binds (ps:=["_law_found","_law_due"]) fun _ _ _ _ _ _ us hl=>match us,hl with | [_,_],_=>rfl
 have mQ:=bB (st:=tZ) Qt Qu Qv
 have uC:=mQ.binds (ps:=["_law_book","_law_voices"]) fun _ _ _ _ _ _ us hl=>match us,hl with | [_,_],_=>rfl
 have iH:=bB (st:=fL) sy sE sG
 have rm:=iH.binds (ps:=["_law_script","_law_book","_law_told"]) fun _ _ _ _ _ _ us hl=>match us,hl with | [_,_,_],_=>rfl
 have oR:=bB (st:=kh) CK CN CP
 have Cg:=oR.binds (ps:=["_law_script","_law_book","_law_told"]) fun _ _ _ _ _ _ us hl=>match us,hl with | [_,_,_],_=>rfl
 have Ef:=bB (st:=yw) Xp Xq Xr
 have Vc:=Ef.binds (ps:=["name"]) fun _ _ _ _ _ _ us hl=>match us,hl with | [_],_=>rfl
 have lM:=bB (st:=fM) sI sJ lQ
 have lN:=lM.binds (ps:=["self","name"]) fun _ _ _ _ _ _ us hl=>match us,hl with | [_,_],_=>rfl
 have vB:=bB (st:=kj) CT CW vG
 have vC:=vB.binds (ps:=["self","voice"]) fun _ _ _ _ _ _ us hl=>match us,hl with | [_,_],_=>rfl
 have nj:=bB (st:=gB) uO uP uQ
 have nq:=nj.binds (ps:=["self","name","terms"]) fun _ _ _ _ _ _ us hl=>match us,hl with | [_,_,_],_=>rfl
 have nu:=bB (st:=gC) uT uU nG
 have nC:=nu.binds (ps:=["self","name"]) fun _ _ _ _ _ _ us hl=>match us,hl with | [_,_],_=>rfl
 have ju:=Zb (st:=gD) uW uX nH
 have uD:Binds K _ ["self","name","leader","later","slow","is_turned"] []:=ju.binds (ds:=[]) lR rfl fun _ _ _ _ _ _ us hl=>match us,hl with | [_,_,_,_,_,_],_=>⟨_,rfl,rfl⟩
 have Ay:Binds K _ ["self","name","leader","later","slow","is_turned"] [.int 0 gJ,.int 1 gK,.bool false]:=ju.binds lR rfl fun _ _ _ _ _ _ us hl=>match us,(show us.length=3 by simpa using hl) with | [_,_,_],_=>⟨_,rfl,rfl⟩
 have vV:=bB (st:=qi) K7 K8 K9
 have Jo:=vV.binds (ps:=["_law_book","_law_told"]) fun _ _ _ _ _ _ us hl=>match us,hl with | [_,_],_=>rfl
 have o8:=bB (st:=gZ) wR wU wV
 have wC:=o8.binds (ps:=["self"]) fun _ _ _ _ _ _ us hl=>match us,hl with | [_],_=>rfl
 have amx:=bB (st:=adV) arI arJ arK
 have at9:=amx.binds (ps:=["_law_script"]) fun _ _ _ _ _ _ us hl=>match us,hl with | [_],_=>rfl
 have T:Txt K w mg ⟨_,_,_,_,_,_,_,_,_,_,_,_,_,_,_,_,_,_,_,_,_,_,_,_,_,_,_,_,_,_,_,_,_,_,_,_,_,_,_,_,_,_,_,_,_,_,_,_,_,_,_,_,_,_,_,_,_,_,_,qK,_,_,_,_,_,_,_,_,_,Iw,_,_,_,_,_,_,_,_,_,_,_,_,_,_,_,yS,_,_,_,_,_,_,_,_,_,_,_,_,_,_,_,_,_,_,_,_,_,_,_,_,_,_,_,_,_,_,_,_,_,_,_,_,_,_,_,_,_,_,_,_,_,_,_,_,_,_,_,_,_,_,_,gJ,gK,_,_,_,_,_,_,gn,iY,fX,dW,eU,gM,qP,fD,fG,cO,xQ,lK,oW,qQ,Ln,qR,vz,xR,Rh,Lp,fc,bT,bI⟩:=⟨bL,bY,mg_of X G JQ,m7,uz,mg_of X G Wz,mJ,vN,mg_of X G JV,vO,Ja,mg_of X G J0,Jb,aaj,mg_of X G abR,vP,Jc,mg_of X G J4,Aj,Jd,⟨J8,Gw,Bp⟩,Ak,mK,⟨Kc,Gx,Br⟩,Lq,Lr,⟨WM,Qc,Lx⟩,Al,Am,⟨Kg,Gy,Bs⟩,cJ,dZ,mg_of X G lg,aal,aj0,mg_of X G alJ,fO,lL,mg_of X G rJ,qU,jr,⟨zL,wF,rO⟩,Ls,Zh,mg_of X G ahe,DW,U5,mg_of X G WR,zf,NK,mg_of X G Qd,jt,qW,mg_of X G zO,zg,Je,mg_of X G abV,jf,dO,⟨nR,mU,ji⟩,jT,eV,⟨pH,nZ,jY⟩,oY,ie,An,Jf,⟨Km,Gz,Bt⟩,Ft,Fv,⟨Qh,Kq,GC⟩,Fw,NP,⟨Qk,Kr,GD⟩,qX,Fx,mg_of X G GF,xV,jU,⟨GQ,Cm,yc⟩,vQ,Jg,mg_of X G Ks,pG,XX,Fy,mg_of X G Qn,ig,km,mg_of X G WY,oN,Ce,mg_of X G Cp,d7,kZ,mg_of X G lz,U8,amw,aj2,mg_of X G alN,ik,oZ,mg_of X G wK,gF,m8,mg_of X G uJ,iD,qY,mg_of X G rP,iG,qZ,mg_of X G rW,q8,FJ,mg_of X G GZ,DY,U9,mg_of X G W4,zj,adY,Rj,mg_of X G abZ,Ea,Rk,mg_of X G ab3,vR,mO,⟨Ky,G6,Bv⟩,Aq,vU,⟨KH,Ha,Bx⟩,Jh,aan,mg_of X G ab7,xW,jV,⟨Hb,Cv,yd⟩,Lw,Zi,mg_of X G ahh,qp,Ar,mg_of X G KQ,Ji,aao,mg_of X G acb,Eb,Va,mg_of X G W8,Rn,aeZ,mg_of X G ahl,Ec,Ro,mg_of X G acg,qt,Av,mg_of X G K1,kE,vA,mg_of X G Cw,m9,uA,mg_of X G Xc,Jk,aap,mg_of X G ack,kI,qu,mg_of X G Xg,Ed,Vb,mg_of X G Xk,Jl,aaq,mg_of X G acq,mQ,uC,mg_of X G Qs,iH,rm,mg_of X G su,oR,Cg,mg_of X G CJ,Ef,Vc,mg_of X G Xo,lM,lN,⟨sH,pK,lQ⟩,vB,vC,⟨CQ,zT,vG⟩,nj,nq,nu,nC,⟨uR,sS,nG⟩,ju,Ay,uD,⟨uV,sU,nH⟩,vV,Jo,mg_of X G K6,o8,wC,amx,at9,mg_of X G amQ,mg_none_of X G arL,mg_none_of X G arM,mg_none_of X G alR,mg_none_of X G alS,mg_none_of X G La,mg_none_of X G arN,mg_none_of X G Hf,mg_none_of X G arO,mg_none_of X G alT,mg_none_of X G arP,mg_none_of X G arQ,mg_none_of X G ahp,mg_none_of X G arR,mg_none_of X G arS,mg_none_of X G ahq,mg_none_of X G arT,mg_of X G zU,(fun H=>.inr ⟨_,_,_,zV,rfl,rfl,(by show 3 <= sizeLine;decide),(.cons ⟨_,rfl⟩ (.cons ⟨_,rfl⟩ (.cons ⟨_,rfl⟩ .nil)))⟩),mg_of X G zW,(fun H=>.inr ⟨_,_,_,zX,rfl,rfl,(by show 3 <= sizeLine;decide),(.cons ⟨_,rfl⟩ (.cons ⟨_,rfl⟩ (.cons ⟨_,rfl⟩ .nil)))⟩),mg_of X G uZ,(fun H=>.inr ⟨_,_,_,vd,rfl,rfl,(by show 3 <= sizeLine;decide),(.cons ⟨_,rfl⟩ (.cons ⟨_,rfl⟩ (.cons ⟨_,rfl⟩ .nil)))⟩),mg_of X G vf,(fun H=>.inr ⟨_,_,_,vg,rfl,rfl,(by show 2 <= sizeLine;decide),(.cons ⟨_,rfl⟩ (.cons ⟨_,rfl⟩ .nil))⟩),mg_of X G sV,(fun H=>.inr ⟨_,_,_,sW,rfl,rfl,(by show 4 <= sizeLine;decide),(.cons ⟨_,rfl⟩ (.cons ⟨_,rfl⟩ (.cons ⟨_,rfl⟩ (.cons ⟨_,rfl⟩ .nil))))⟩),mg_of X G wW,(fun H=>.inr ⟨_,_,_,wX,rfl,rfl,(by show 5 <= sizeLine;decide),(.cons ⟨_,rfl⟩ (.cons ⟨_,rfl⟩ (.cons ⟨_,rfl⟩ (.cons ⟨_,rfl⟩ (.cons ⟨_,rfl⟩ .nil)))))⟩),mg_of X G wY,mg_of X G wZ,⟨xf,_,_,w6,(.cons ⟨_,rfl⟩ (.cons ⟨_,rfl⟩ .nil)),by decide +kernel⟩,mg_of X G xg,⟨xm,_,_,xj,(.cons ⟨_,rfl⟩ (.cons ⟨_,rfl⟩ (.cons ⟨_,rfl⟩ (.cons ⟨_,rfl⟩ (.cons ⟨_,rfl⟩ (.cons ⟨_,rfl⟩ (.cons ⟨_,rfl⟩ (.cons ⟨_,rfl⟩ (.cons ⟨_,rfl⟩ .nil))))))))),by decide +kernel⟩,mg_of X G sX,⟨sZ,_,_,sY,(.cons ⟨_,rfl⟩ (.cons ⟨_,rfl⟩ .nil)),by decide +kernel⟩,mg_of X G CZ,mg_of X G pL,mg_of X G vh,mg_of X G xq,mg_of X G Qw,mg_of X G xr,mg_of X G zY,mg_of X G Dc,mg_of X G Xu,mg_of X G Qx,mg_of X G abQ,⟨Xv,uN,sO,Xw⟩,⟨acv,acw,acx,acy⟩,iZ,gO,c7,mg_of X G ahc,⟨acz,wG,uI,acA⟩,⟨ahr,ahs,aht,ahu⟩,gP,jW,gQ,jb,mg_of X G ahd,⟨acB,wQ,uY,acC⟩,⟨ahv,ahw,ahx,ahy⟩,dg,gb,dM⟩
 exact⟨_,fun s v=>.of_eq rfl,fun base _ _=>avH T⟩
theorem walk {l:OpenLaw}{q:Program}{loose:List Str}{XP:(Str->Option Value)->Heap->Prop}{YP:World->Heap->Prop}{d:DefRec}{K:Params->Frag}(hn:l.most=some 63)(hdf:d.params.defaults=[])
  (hY:∀ (w:World) (h:Heap),YP w h->(K w.params).In h)
  (F:∀ (w:World) (mg:Str->Option Value) (fa:Addr) (h:Heap),(K w.params).In h->h.Ns mainGlobals mg->mg d.name=some (.ref fa) ->
   ∃ fd:FuncData,(∀ (s:Shared) (u:Value),BindsTo s fd ⟨[u],[]⟩ [("_law_script",u)])/\∀ base:Heap,(K w.params).In base->base.Ns mainGlobals mg->bW l.prog w (K w.params) mg base jF 13 fa fd ["_law_script"] (ZR (K w.params))) :
  WalkO q loose XP YP l.row.toRowW d [] (fun f vs=>PySem.call f vs) :=
 L2.asj (n:=63) (k:=13) (x:="_law_script") (CX:=fun _=>jF) (sp:=fun w=>ZR (K w.params)) hn (by decide) hdf ⟨rfl,by decide,by decide⟩ hY F (fun _ H a ns hl hO hS=>anr hl hO hS) fun _ _ _ _ _ z=>z
end aeF
namespace PySem.W.Fast
def tw588449854961238558:=()
def tw17208520852065390012:=()
def tw5111562446207999870:=()
def tw11942111757470200360:=()
def tw11119608375349522770:=()
def tw15753331338875052603:=()
def tw3902671811368826595:=()
def tw9580229401691973248:=()
def tw9122718001915146943:=()
def tw15785765305549648179:=()
def tw8225698135240490077:=()
def tw4399922464745508023:=()
def tw12941826739528724717:=()
def tw5270330883361266867:=()
def tw11537423128258589422:=()
def tw6522589569544037071:=()
def tw9583181238264341295:=()
def tw7483496743786684047:=()
def tw3406635540773232452:=()
def tw3674867113442358540:=()
def tw8572594925760035304:=()
def tw15893032730984230460:=()
def tw11853951821522867855:=()
def tw1246411241265517455:=()
def tw9351780481203314056:=()
def tw399474006775981166:=()
def tw7647190651729331873:=()
def tw2230101875073412508:=()
def tw718000423345782277:=()
def tw14024401784302248903:=()
def tw11543627070456667135:=()
def tw2024786942295293009:=()
def tw7846003380374712622:=()
def tw6275087997342490049:=()
def tw17932425770808867237:=()
def tw9109266289392092040:=()
def tw9558374443913294117:=()
def tw11899305291896944895:=()
def tw4193545312154121982:=()
def tw1775442840962029312:=()
def tw2295474982054814161:=()
def tw9656357433433738878:=()
def tw14115543392325835824:=()
def tw11205037371749340777:=()
def tw12889106220730017889:=()
def tw4775658122269185851:=()
def tw43112713528048389:=()
def tw16517802169605370077:=()
def tw10446801271282270405:=()
def tw17222817144963843193:=()
def tw3157584724190313214:=()
def tw10543786985826289414:=()
def tw4870765941252584854:=()
def tw7598154085775607791:=()
def tw3705107630563031860:=()
def tw4221403082447291284:=()
def tw15895344260771709662:=()
def tw2724882220378558221:=()
def tw11601254245197656145:=()
def tw14501685285819226161:=()
def tw9272168243575749201:=()
def tw18407235525153924620:=()
def tw9004457045378286983:=()
def tw4017384785942204835:=()
def tw6055777791673506446:=()
def tw14365580849631523126:=()
def tw15443584459804439153:=()
def tw13392842095271535764:=()
def tw12944505078680427726:=()
def tw1186090231664487963:=()
def tw10378809711161491662:=()
def tw3075795990269315084:=()
def tw11114624556993410018:=()
def tw17865006002708577650:=()
def tw1382324585951938579:=()
def tw11467537205072126513:=()
def tw189148623752149599:=()
def tw14468575819815911631:=()
def tw114207739551821025:=()
def tw18302040992257338236:=()
def tw8144467451782930219:=()
def tw16437200410224615454:=()
def tw727487122408596663:=()
def tw10755366441109414814:=()
def tw14406768265927596755:=()
def tw12161964281876920672:=()
def tw4707450800998923199:=()
def tw10709196112120115690:=()
def tw2766757131847609010:=()
def tw16717982308148328216:=()
def tw8603385409114859639:=()
def tw17508935631435632666:=()
def tw10601864192097879747:=()
def tw11987981713296514903:=()
def tw2214357043947428359:=()
def tw2903071509898762613:=()
def tw15600717249279929445:=()
def tw10782292262870575908:=()
def tw3719118147028086241:=()
def tw1045719138833783087:=()
def tw351478041487000966:=()
def tw3976582722541827590:=()
def tw13843522545062132174:=()
def tw725272874117263939:=()
def tw5862851337642612120:=()
def tw11919871142969927367:=()
def tw12868508965852038214:=()
def tw17863163711498352542:=()
def tw2181186003645105038:=()
def tw13263117668863997474:=()
def tw6662621276166616039:=()
def tw15670825156290645713:=()
def tw13900796692137693567:=()
def tw14345635898058384029:=()
def tw9300113516019932185:=()
def tw14626599191393468577:=()
def tw877393280041367940:=()
def tw17904264120189664112:=()
def tw1228976129022030551:=()
def tw14089239916766960132:=()
def tw6248586860116747743:=()
def tw6129909799770936678:=()
def tw15277839808849915477:=()
def tw6708622555073777767:=()
def tw10261022488871756275:=()
def tw10649464124544029655:=()
def tw16365025513553097065:=()
def tw13250848676331075448:=()
def tw16788003796200403911:=()
def tw10146009889541520194:=()
def tw12198343814015701810:=()
def tw12662118575226378119:=()
def tw2806336374522805327:=()
def tw5990682264942352447:=()
def tw2612518974859542233:=()
def tw10196282495401806322:=()
def tw2907347408515148391:=()
def tw7019633897118883261:=()
def tw7478101767793609596:=()
def tw9285191261999354825:=()
def tw9519885583251707392:=()
def tw6410487369976106171:=()
def tw14037328478799920825:=()
def tw17382592974488513994:=()
def tw3854942621649439201:=()
def tw5175920208942543887:=()
def tw13518133526377888630:=()
def tw9208310960861873617:=()
def tw5590710377960306610:=()
def tw17119560438347154388:=()
def tw11929447155109279817:=()
def tw13009253839106001684:=()
def tw3202861928956034072:=()
def tw9755053367425966480:=()
def tw3923261843174821741:=()
def tw9400429745391832317:=()
def tw1095768690789284760:=()
def tw3879066983258091126:=()
def tw689369909854478579:=()
def tw18258221646590638111:=()
def tw8656792032466225989:=()
def tw3652372235484897934:=()
def tw313726764392020447:=()
def tw12885047028785117911:=()
def tw12196428171054025854:=()
def tw14815493722507850398:=()
def tw8716701838496072374:=()
def tw16578834342884163382:=()
def tw4654692474574365754:=()
def tw17178059553041892212:=()
def tw17959849910643791056:=()
def tw6057888152848379153:=()
def tw13196455980421898340:=()
def tw13226675643033255414:=()
def tw17765499800775918622:=()
def tw7656006455646451614:=()
def tw5638076789489101598:=()
def tw13170348272062736557:=()
def tw12517047525072723385:=()
def tw567503794403234626:=()
def tw2205279351001207366:=()
def tw4763931590666895316:=()
def tw10259795652895341930:=()
def tw2969925209714369802:=()
def tw17994070991849983247:=()
def tw5267413659407498424:=()
def tw18346814282298882546:=()
def tw3364699263582267394:=()
def tw12063980870042007213:=()
def tw2736552920025014092:=()
def tw4112026935218610774:=()
def tw5958315073707502698:=()
def tw7069787922323977787:=()
def tw14375593457425179295:=()
def tw5069672713550814595:=()
def tw1888056974679491815:=()
def tw6468347820856768719:=()
def tw9842555811733938267:=()
def tw11111857908557318216:=()
def tw1743166353155200190:=()
def tw9319262381383287082:=()
def tw14671840626440217151:=()
def tw5077732318119941923:=()
def tw10338678495395856350:=()
def tw17710843441794187333:=()
def tw2462316283833580172:=()
def tw12532373022472722973:=()
def tw10276835219354971532:=()
def tw9974827085291577997:=()
def tw74036323952344933:=()
def tw9264084676550216282:=()
def tw15522757486672388033:=()
def tw7096786103167027287:=()
def tw1655195220639836209:=()
def tw10762822214448266334:=()
def tw5795511036863173285:=()
def tw15093982117103327082:=()
def tw13751329138292801840:=()
def tw14961835748727500872:=()
def tw16205614852131204849:=()
def tw10885301979070286192:=()
def tw12449036246871838986:=()
def tw15417213396969742739:=()
def tw10663269810026086035:=()
def tw17149458517397404264:=()
def tw12668095120373589731:=()
def tw6910080695547242142:=()
def tw8322594494653693082:=()
def tw15351474845829383060:=()
def tw14794194247849412236:=()
def tw11045083152390619229:=()
def tw4762112154761976664:=()
def tw5759127290635594487:=()
def tw18393406226757594561:=()
def tw17809479359190998642:=()
def tw17575964044254648052:=()
def tw2650972867937740217:=()
def tw2628054177331075760:=()
def tw6947485908516165029:=()
def tw10794820676453842611:=()
def tw4736463830702455779:=()
def tw12841864349115488287:=()
def tw1503569453436690439:=()
def tw10646758879199469683:=()
def tw7932394971496229296:=()
def tw3165991479262751251:=()
def tw4123989215067935931:=()
def tw4482977069548875952:=()
def tw10509662189138654610:=()
def tw12634538914385059383:=()
def tw3134524143781843750:=()
def tw17975114536799574355:=()
def tw10122809721845943001:=()
def tw12367785330284212509:=()
def tw4792365147145420312:=()
def tw9417551474251552332:=()
def tw5701672492492308706:=()
def tw11073113476488868563:=()
def tw13978190553537175791:=()
def tw16124657784552262365:=()
def tw4431131086322502858:=()
def tw9996688265942105199:=()
def tw15125995757474889972:=()
def tw2263187250052387824:=()
def tw16367020476191513397:=()
def tw2850297702051068708:=()
def tw11039178023918496328:=()
def tw3559235482319789322:=()
def tw4415030488798447221:=()
def tw17512173322901269785:=()
def tw16115365177021402675:=()
def tw13273638464754137632:=()
def tw17332105660787770481:=()
def tw4824923525640900306:=()
def tw16792788169290457057:=()
def tw9822571469401143792:=()
def tw10109538734558167246:=()
def tw17660477262063081518:=()
def tw8393887122040239912:=()
def tw6062892717640080717:=()
def tw17254565191286219019:=()
def tw11802809549673592629:=()
def tw9282555988323246990:=()
end PySem.W.Fast
open PySem PySem.W PyProof.Rows
set_option maxRecDepth 100000 in
set_option maxHeartbeats 0 in
theorem PySem.Challenge.cw_noteworth_k44_waits_told_holds : PySem.Challenge.rw_noteworth_k44_waits_told.Holds := by
 w_on;o_law;k_head;(case hw=>w_witness2)
 k_fill
 refine aeF.walk (l:=PySem.Challenge.rw_noteworth_k44_waits_told) rfl rfl (fun w h Y=>PySem.W.kIn_of Y) ?F
 case F =>
  intro w mg fa h KX G hmg
  refine' aeF.all_mk KX G hmg ?abQ ?ahc ?ahd ?JQ ?JR ?JS ?JT ?Wz ?WD ?WK ?WL ?JV ?JW ?JX ?JZ ?J0 ?J1 ?J2 ?J3 ?abR ?abS ?abT ?abU ?J4 ?J5 ?J6 ?J7 ?J8 ?J9 ?Ka ?Bp ?Gw ?Kc ?Ke ?Kf ?Br ?Gx ?WM ?WN ?WQ ?Lx ?Qc ?Kg ?Kh ?Kl ?Bs ?Gy ?lg ?lq ?lr ?lu ?alJ ?alK ?alL ?alM ?rJ ?rK ?rM ?rN ?zL ?zM ?zN ?rO ?wF ?ahe ?ahf ?ahg ?RD ?WR ?WT ?WW ?WX ?Qd ?Qe ?Qf ?Qg ?zO ?zP ?zQ ?zR ?abV ?abW ?abX ?abY ?nR ?nW ?nY ?ji ?mU ?pH ?pI ?pJ ?jY ?nZ ?wG ?wH ?wI ?wJ ?uI ?Km ?Ko ?Kp ?Bt ?Gz ?Qh ?Qi ?Qj ?GC ?Kq ?Qk ?Ql ?Qm ?GD ?Kr ?GF ?GJ ?GK ?GP ?GQ ?GR ?GX ?yc ?Cm ?Ks ?Ku ?Kv ?Kw ?Qn ?Qo ?Qp ?Qq ?Bu ?WY ?W0 ?W2 ?W3 ?Cp ?Cq ?Cr ?Cu ?lz ?lB ?lC ?lD ?alN ?alO ?alP ?alQ ?Zm ?wK ?wL ?wN ?wO ?uJ ?uK ?uL ?uM ?rP ?rQ ?rR ?rT ?rW ?rY ?rZ ?sr ?GZ ?G3 ?G4 ?G5 ?W4 ?W5 ?W6 ?W7 ?abZ ?ab0 ?ab1 ?ab2 ?Ly ?ab3 ?ab4 ?ab5 ?ab6 ?Ky ?Kz ?KC ?Bv ?G6 ?KH ?KJ ?KN ?Bx ?Ha ?ab7 ?ab8 ?ab9 ?aca ?Hb ?Hc ?Hd ?yd ?Cv ?ahh ?ahi ?ahj ?ahk ?KQ ?KR ?KY ?KZ ?acb ?acd ?ace ?acf ?W8 ?W9 ?Xa ?Xb ?ahl ?ahm ?ahn ?aho ?acg ?ach ?aci ?acj ?K1 ?K3 ?K4 ?K5 ?Cw ?Cy ?Cz ?CG ?Xc ?Xd ?Xe ?Xf ?ack ?acn ?aco ?acp ?Xg ?Xh ?Xi ?Xj ?Xk ?Xl ?Xm ?Xn ?acq ?acr ?acs ?acu ?Qs ?Qt ?Qu ?Qv ?su ?sy ?sE ?sG ?CJ ?CK ?CN ?CP ?Xo ?Xp ?Xq ?Xr ?sH ?sI ?sJ ?lQ ?pK ?CQ ?CT ?CW ?vG ?zT ?uN ?uO ?uP ?uQ ?sO ?uR ?uT ?uU ?nG ?sS ?uV ?uW ?uX ?nH ?sU ?lR ?K6 ?K7 ?K8 ?K9 ?wQ ?wR ?wU ?wV ?uY ?amQ ?arI ?arJ ?arK ?arL ?arM ?alR ?alS ?La ?arN ?Hf ?arO ?alT ?arP ?arQ ?ahp ?arR ?arS ?ahq ?arT ?zU ?zV ?zW ?zX ?uZ ?vd ?vf ?vg ?sV ?sW ?wW ?wX ?wY ?wZ ?w6 ?xf ?xg ?xj ?xm ?sX ?sY ?sZ ?CZ ?pL ?vh ?xq ?Qw ?xr ?zY ?Dc ?Xu ?Qx ?Xv ?Xw ?acv ?acw ?acx ?acy ?iZ ?gO ?c7 ?acz ?acA ?ahr ?ahs ?aht ?ahu ?gP ?jW ?gQ ?jb ?acB ?acC ?ahv ?ahw ?ahx ?ahy ?dg ?gb ?dM
  (case abQ | ahc | ahd | JQ | JR | JS | JT | Wz | WD | WK | WL | JV | JW | JX | JZ | J0 | J1 | J2 | J3 | abR | abS | abT | abU | J4 | J5 | J6 | J7 | J8 | J9 | Ka | Bp | Gw | Kc | Ke | Kf | Br | Gx | WM | WN | WQ | Lx | Qc | Kg | Kh | Kl | Bs | Gy | lg | lq | lr | lu | alJ | alK | alL | alM | rJ | rK | rM | rN | zL | zM | zN | rO | wF | ahe | ahf | ahg | RD | WR | WT | WW | WX | Qd | Qe | Qf | Qg | zO | zP | zQ | zR | abV | abW | abX | abY | nR | nW | nY | ji | mU | pH | pI | pJ | jY | nZ | wG | wH | wI | wJ | uI | Km | Ko | Kp | Bt | Gz | Qh | Qi | Qj | GC | Kq | Qk | Ql | Qm | GD | Kr | GF | GJ | GK | GP | GQ | GR | GX | yc | Cm | Ks | Ku | Kv | Kw | Qn | Qo | Qp | Qq | Bu | WY | W0 | W2 | W3 | Cp | Cq | Cr | Cu | lz | lB | lC | lD | alN | alO | alP | alQ | Zm | wK | wL | wN | wO | uJ | uK | uL | uM | rP | rQ | rR | rT | rW | rY | rZ | sr | GZ | G3 | G4 | G5 | W4 | W5 | W6 | W7 | abZ | ab0 | ab1 | ab2 | Ly | ab3 | ab4 | ab5 | ab6 | Ky | Kz | KC | Bv | G6 | KH | KJ | KN | Bx | Ha | ab7 | ab8 | ab9 | aca | Hb | Hc | Hd | yd | Cv | ahh | ahi | ahj | ahk | KQ | KR | KY | KZ | acb | acd | ace | acf | W8 | W9 | Xa | Xb | ahl | ahm | ahn | aho | acg | ach | aci | acj | K1 | K3 | K4 | K5 | Cw | Cy | Cz | CG | Xc | Xd | Xe | Xf | ack | acn | aco | acp | Xg | Xh | Xi | Xj | Xk | Xl | Xm | Xn | acq | acr | acs | acu | Qs | Qt | Qu | Qv | su | sy | sE | sG | CJ | CK | CN | CP | Xo | Xp | Xq | Xr | sH | sI | sJ | lQ | pK | CQ | CT | CW | vG | zT | uN | uO | uP | uQ | sO | uR | uT | uU | nG | sS | uV | uW | uX | nH | sU | lR | K6 | K7 | K8 | K9 | wQ | wR | wU | wV | uY | amQ | arI | arJ | arK | arL | arM | alR | alS | La | arN | Hf | arO | alT | arP | arQ | ahp | arR | arS | ahq | arT | zU | zV | zW | zX | uZ | vd | vf | vg | sV | sW | wW | wX | wY | wZ | w6=>k_is)
  (case xf=>rfl)
  (case xg | xj=>k_is)
  (case xm=>rfl)
  (case sX | sY=>k_is)
  (case sZ=>rfl)
  (case CZ | pL | vh | xq | Qw | xr | zY | Dc | Xu | Qx | Xv | Xw | acv | acw | acx | acy | iZ | gO | c7 | acz | acA | ahr | ahs | aht | ahu | gP | jW | gQ | jb | acB | acC | ahv | ahw | ahx | ahy | dg | gb | dM=>k_is)
