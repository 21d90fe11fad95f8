import PyProof.Rows.All
import Wide.All
import OpenK.AllK
import Wide.FinOn
import Lean
import PyProof.EqAt
import PyProof.EqKinds
import PyProof.TupleCall
import PySem.Challenge.RW_noteworth_k32_whole_windows
set_option Elab.async false
set_option linter.all false
set_option maxRecDepth 100000
open PySem.W (Frag OpenLaw WalkO callWith_K callWith_K0 codeIn emptyDict excIn findIn fnOf handedIn hasDictIn instObj isFn keepIn kia_one kitOne kitx_dict kitx_list lookIn makesIn methodCall_KW methodObj mg_none_of mg_of mroIn nsIn plainGet plainGet_of plainOver specialIn takerIn)
open List (length_map length_append length_take length_drop mem_append mem_singleton mem_cons_self mem_cons_of_mem mem_append_left mem_append_right mem_of_getElem? size_toArray take_length getElem?_map map_append map_cons length_cons take_succ getElem?_eq_getElem getElem?_append_left getElem?_append_right mem_map any_eq_true getElem?_drop take_append_drop map_take append_nil nil_append getElem?_of_mem)
open PySem.F (entry_zip_next plainAttrs_list slot_dict_get slot_enumerate_next slot_zip_next)
local macro_rules | `(tactic| lk) => `(tactic| decide +kernel)
local macro_rules | `(tactic| z_go) => `(tactic| first | (exact fun _ _ _ _ _ _ us hl => match us, hl with | [_], _ => rfl) | (exact fun _ _ _ _ _ _ us hl => match us, hl with | [_, _], _ => rfl) | (exact fun _ _ _ _ _ _ us hl => match us, hl with | [_, _, _], _ => rfl) | (exact fun _ _ _ _ _ _ us hl => match us, hl with | [_, _, _, _], _ => rfl) | (exact fun _ _ _ _ _ _ us hl => match us, hl with | [_, _, _, _, _], _ => rfl) | (exact fun _ _ _ _ _ _ us hl => match us, hl with | [_, _, _, _, _, _], _ => rfl))
namespace L2
open PySem PySem.Spec PyProof.Rows
abbrev Key:=Sum Int Str
def Mo:Key->Value->Bool
 |.inl k,v=>Value.isInt k v
 |.inr x,v=>Value.isStrOf x v
def W4 (w:World):Key->Int
 |.inl k=>hashInt k
 |.inr x=>hashStr w x
theorem dq:∀{k:Key} {v:Value},Mo k v=true->(∃ i t,k=Sum.inl i/\v=Value.int i t)\/(∃ x t,k=Sum.inr x/\v=Value.str x t)
 |.inl i,v,h=>by
  obtain⟨t,e⟩:=Value.isInt_shape (k:=i) (v:=v) h;exact .inl ⟨i,t,rfl,e⟩
 |.inr x,v,h=>by
  obtain⟨t,e⟩:=Value.isStrOf_shape (x:=x) (v:=v) h;exact .inr ⟨x,t,rfl,e⟩
theorem M9 (x:Str)(t:Tok):Mo (.inr x) (.str x t)=true:=by simp[Mo,Value.isStrOf]
theorem Tq (a b:Int):decide ((Sum.inl a:Key)=Sum.inl b)=(a==b):=by
 by_cases e:a=b
 ·subst e;simp
 ·have h:¬(Sum.inl a:Key)=Sum.inl b:=fun q=>e (Sum.inl.inj q);rw[decide_eq_false h];exact(beq_eq_false_iff_ne.mpr e).symm
theorem Tr (a b:Str):decide ((Sum.inr a:Key)=Sum.inr b)=decide (a=b):=by
 by_cases e:a=b
 ·subst e;simp
 ·have h:¬(Sum.inr a:Key)=Sum.inr b:=fun q=>e (Sum.inr.inj q);rw[decide_eq_false h,decide_eq_false e]
theorem Ts (a:Int)(b:Str):decide ((Sum.inl a:Key)=Sum.inr b)=false:=decide_eq_false (fun q=>nomatch q)
theorem Tt (a:Str)(b:Int):decide ((Sum.inr a:Key)=Sum.inl b)=false:=decide_eq_false (fun q=>nomatch q)
def jG (prog:Program)(w:World):PySem.KeyKind prog w Key where
 is:=Mo
 hash:=W4 w
 inj:=fun v a b ha hb=>by
  rcases dq ha with ⟨i,t,rfl,rfl⟩|⟨x,t,rfl,rfl⟩
  ·rcases dq hb with ⟨j,u,rfl,e⟩|⟨y,u,rfl,e⟩
   ·injection e with e1 _;rw[e1]
   ·exact nomatch e
  ·rcases dq hb with ⟨j,u,rfl,e⟩|⟨y,u,rfl,e⟩
   ·exact nomatch e
   ·injection e with e1 _;rw[e1]
 byValue:=fun k v h=>by
  rcases dq h with ⟨i,t,rfl,rfl⟩|⟨x,t,rfl,rfl⟩ <;> rfl
 pyHash:=fun hv h=>by
  rcases dq hv with ⟨i,t,rfl,rfl⟩|⟨x,t,rfl,rfl⟩
  ·exact wpAny_pyHash_int h
  ·exact wpAny_pyHash_str h
 eqBool:=fun hu hv h=>by
  rcases dq hu with ⟨i,t,rfl,rfl⟩|⟨x,t,rfl,rfl⟩
  ·rcases dq hv with ⟨j,u,rfl,rfl⟩|⟨y,u,rfl,rfl⟩
   ·rw[Tq]at h;exact wpAny_eqBool_int h
   ·rw[Ts]at h;exact SeqAt.EqAt.int_str i t y u _ _ _ _ h
  ·rcases dq hv with ⟨j,u,rfl,rfl⟩|⟨y,u,rfl,rfl⟩
   ·rw[Tt]at h;exact SeqAt.EqAt.str_int x t j u _ _ _ _ h
   ·rw[Tr]at h;exact wpAny_eqBool_str h
 «strs»:=fun k x t v h=>by
  rcases dq h with ⟨i,u,rfl,e⟩|⟨y,u,rfl,e⟩
  ·exact nomatch e
  ·injection e with e1 _
   subst e1;cases v <;> rfl
theorem jT (prog:Program)(w:World)(x:Str)(t:Tok):(jG prog w).is (.inr x) (.str x t)=true:=M9 x t
end L2
namespace L2
open PySem PySem.Spec PyProof.Rows
inductive V where
 |non|bl (b:Bool)|int (i:Int)|str (x:Str)|OT (b:Array UInt8)|flt (b:UInt64)|ref (a:Addr)|ty (n:String)
 deriving DecidableEq
def RelV:V->Value->Prop
 |.non,u=>u=Value.none
 |.bl b,u=>u=Value.bool b
 |.int i,u=>∃ t,u=Value.int i t
 |.str x,u=>∃ t,u=Value.str x t
 |.OT b,u=>∃ t,u=Value.bytes b t
 |.flt b,u=>∃ t,u=Value.float b t
 |.ref a,u=>u=Value.ref a
 |.ty n,u=>u=Value.type n
abbrev Vals:List V->List Value->Prop:=Paired RelV
theorem Vals.length {xs:List V}{us:List Value}(r:Vals xs us):xs.length=us.length:=Paired.length r
theorem Vals.get:∀{xs:List V} {us:List Value} {i:Nat} {x:V},Vals xs us->xs[i]? = some x->∃ u,us[i]? = some u/\RelV x u
 |_,_,_,_,.nil,e=>by simp at e
 |_,_,0,_,.cons r _,e=>by simp at e;subst e;exact⟨_,rfl,r⟩
 |_,_,i+1,x,.cons _ t,e=>by
  obtain⟨u,h1,h2⟩:=Vals.get (i:=i) (x:=x) t (by simpa using e);exact⟨u,by simpa using h1,h2⟩
theorem Vals.set {x:V}{u:Value}(r:RelV x u):∀{xs:List V} {us:List Value} (i:Nat),Vals xs us->Vals (xs.set i x) (us.set i u)
 |_,_,_,.nil=>.nil
 |_,_,0,.cons _ t=>.cons r t
 |_,_,i+1,.cons q t=>.cons q (Vals.set r i t)
theorem Vals.append:∀{xs ys:List V} {us ws:List Value},Vals xs us->Vals ys ws->Vals (xs++ys) (us++ws)
 |_,_,_,_,.nil,s=>s
 |_,_,_,_,.cons r t,s=>.cons r (Vals.append t s)
theorem Vals.take:∀{xs:List V} {us:List Value} (n:Nat),Vals xs us->Vals (xs.take n) (us.take n)
 |_,_,0,_=>.nil
 |_,_,_+1,.nil=>.nil
 |_,_,n+1,.cons r t=>.cons r (Vals.take n t)
theorem Vals.drop:∀{xs:List V} {us:List Value} (n:Nat),Vals xs us->Vals (xs.drop n) (us.drop n)
 |_,_,0,r=>r
 |_,_,_+1,.nil=>.nil
 |_,_,n+1,.cons _ t=>Vals.drop n t
def sC:Option V->Option Value->Prop
 |some v,some u=>RelV v u
 |none,none=>True
 |_,_=>False
def KV {κ:Type}:List (κ×V)->List (κ×Value)->Prop:=Paired fun(p:κ×V)(q:κ×Value)=>p.1=q.1/\RelV p.2 q.2
def kV:Key->V
 |.inl i=>.int i
 |.inr x=>.str x
inductive HO where
 /-- a list -/
 |lst (xs:List V)
 /-- a tuple (never changes) -/
 |tup (xs:List V)
 /-- a dict whose keys are ints and texts;one whose keys are tuples of ints and texts (the empty one is both) -/
 |dK (kvs:List (Key×V))|dT (kvs:List (List Key×V))
 /-- a set of ints: its members,its size -/
 |set (S:Int->Bool) (n:Nat)
 /-- an instance of the class at C,its dict at dx,its attributes -/
 |ins (C dx:Addr) (fs:List (Str×V))
 /-- the dict of the instance at x -/
 |own (x:Addr)
 /-- the dict of an exception -/
 |xd (fs:List (Str×V))
 /-- a bound method,f of x -/
 |met (f x:Addr)
 /-- a range object lo,lo+1,.. below hi -/
 |W5 (lo hi:Int)
 /-- a thing that is known to the object (the script;a dict while a loop walks it): read,never written while it is so -/
 |Mp (o:Obj) (u:HO)
 /-- a code object's table -/
 |Tu (ps:Array Value)
 /-- any other thing,by what is true of its one object (a def of one's own: Zn a S n:=HO.ext fun h=>..) -/
 |ext (φ:Heap->Prop)
abbrev Hp:=Addr->Option HO
def upd (H:Hp)(a:Addr)(o:HO):Hp:=fun b=>if b=a then some o else H b
theorem ae {H:Hp}{a:Addr}{o:HO}:upd H a o a=some o:=by unfold upd;rw[if_pos rfl]
theorem ai {H:Hp}{a b:Addr}{o:HO}(h:b≠a):upd H a o b=H b:=by unfold upd;rw[if_neg h]
theorem dH {H:Hp}{a:Addr}{o u:HO}:upd (upd H a o) a u=upd H a u:=by
 funext b;unfold upd;split <;> rfl
theorem nN {H:Hp}{a b:Addr}{o u:HO}(h:H a=some o)(h':H b=some u)(d:o≠u):a≠b:=by
 intro e;subst e;rw[h]at h';exact d (Option.some.inj h')
theorem ak {H:Hp}{a b:Addr}{o:HO}(h:H a=some o)(h':H b=none):a≠b:=by
 intro e;subst e;rw[h]at h';cases h'
section
variable (P:Program) (w:World)
def gP (H:Hp)(h:Heap)(a:Addr):HO->Prop
 |.lst xs=>xs.length<=sizeLine/\∃(its:List Value)(n:Nat),Vals xs its/\h.get? a=some { cls:=.type "list",data:=.seq its.toArray n }
 |.tup xs=>xs.length<=sizeLine/\∃ its:List Value,Vals xs its/\IsTup h a its.toArray
 |.dK kvs=>kvs.length<=sizeLine/\(a==sysModules)=false/\∃ vs,KV kvs vs/\h.DictOf (jG P w) a vs
 |.dT kvs=>kvs.length<=sizeLine/\(a==sysModules)=false/\∃ xs:List (List Key×Addr×Value),
   Paired (fun(p:List Key×V)(q:List Key×Addr×Value)=>p.1=q.1/\H q.2.1=some (.tup (p.1.map kV))/\RelV p.2 q.2.2) kvs xs /\
   ∃ o es ep,h.get? a=some o/\o.ExactDict/\o.data=.dict es ep/\es.toList=xs.map (entryOfKey (tupleKind (jG P w)))/\(xs.map (·.1)).Nodup
 |.set S n=>h.SetOf (intKind P w) a S n
 |.ins C dx fs=>H dx=some (.own a)/\fs.length<=1000/\dx≠a/\h.get? a=some (instObj C dx) /\
   ∃ mA,h.Ns1 dx mA/\(∀ f,sC (fs.lookup f) (mA f))/\PySem.Within mA (fs.map (·.1))
 |.own _=>∃ o,h.get? a=some o
 |.xd fs=>∃ mA,h.Ns1 a mA/\∀ f,sC (fs.lookup f) (mA f)
 |.W5 lo hi=>∃ t u v,h.get? a=some { cls:=.type "range",data:=.fields #[.int lo t,.int hi u,.int 1 v] }
 |.Mp o u=>h.get? a=some o/\gP H h a u
 |.Tu ps=>h.get? a=some { cls:=.none,data:=.fields ps }
 |.met f x=>h.get? a=some (methodObj (.ref f) (.ref x))
 |.ext φ=>φ h/\(∃ o,h.get? a=some o)/\∀ h1 h2:Heap,φ h1->(∀ o,h1.get? a=some o->h2.get? a=some o)->φ h2
def zS (H:Hp)(h:Heap):Prop:=∀ a o,H a=some o->gP P w H h a o
end
section
variable {P:Program} {w:World} {H H':Hp} {h h':Heap} {a:Addr} {o:HO}
theorem gP.lt (x:gP P w H h a o):a<h.objs.size:=by
 cases o with
 |lst xs=>obtain⟨_,_,_,_,e⟩:=x;exact Heap.lt_size e
 |tup xs=>obtain⟨_,_,_,p⟩:=x;exact p.lt
 |dK kvs=>obtain⟨_,_,_,_,o,_,_,e,_⟩:=x;exact Heap.lt_size e
 |dT kvs=>obtain⟨_,_,_,_,o,_,_,e,_⟩:=x;exact Heap.lt_size e
 |set S n=>obtain⟨o,_,_,_,e,_⟩:=x;exact Heap.lt_size e
 |ins C dx fs=>obtain⟨_,_,_,e,_⟩:=x;exact Heap.lt_size e
 |own y=>obtain⟨_,e⟩:=x;exact Heap.lt_size e
 |xd fs=>obtain⟨_,⟨_,_,_,e,_⟩,_⟩:=x;exact Heap.lt_size e
 |W5 lo hi=>obtain⟨_,_,_,e⟩:=x;exact Heap.lt_size e
 |Mp ob u=>obtain⟨e,_⟩:=x;exact Heap.lt_size e
 |Tu ps=>exact Heap.lt_size (show h.get? a=some _ from x)
 |met f y=>exact Heap.lt_size (show h.get? a=some _ from x)
 |ext φ=>obtain⟨_,⟨_,e⟩,_⟩:=x;exact Heap.lt_size e
theorem Paired.Vf {α β:Type}{F G:α->β->Prop}:∀{l₁:List α} {l₂:List β},Paired F l₁ l₂->(∀ a b,F a b->G a b)->Paired G l₁ l₂
 |_,_,.nil,_=>.nil
 |_,_,.cons r t,f=>.cons (f _ _ r) (Paired.Vf t f)
theorem gP.stay (x:gP P w H h a o)(k:∀ b u,(b=a\/H b=some (.own a))->h.get? b=some u->h'.get? b=some u)
  (ho:∀ b,H b=some (.own a)->H' b=some (.own a)) (ht:∀ b xs,H b=some (.tup xs)->H' b=some (.tup xs)):gP P w H' h' a o:=by
 induction o with
 |lst xs=>obtain⟨z,its,n,r,e⟩:=x;exact⟨z,its,n,r,k _ _ (.inl rfl) e⟩
 |tup xs=>obtain⟨z,its,r,ob,e,c⟩:=x;exact⟨z,its,r,ob,k _ _ (.inl rfl) e,c⟩
 |dK kvs=>obtain⟨z,y,vs,r,ob,es,ep,e,c⟩:=x;exact⟨z,y,vs,r,ob,es,ep,k _ _ (.inl rfl) e,c⟩
 |dT kvs =>
  obtain⟨z,y,xs,r,ob,es,ep,e,c⟩:=x;exact⟨z,y,xs,Paired.Vf r fun p q z=>⟨z.1,ht _ _ z.2.1,z.2.2⟩,ob,es,ep,k _ _ (.inl rfl) e,c⟩
 |set S n=>obtain⟨ob,es,ep,t,e,c⟩:=x;exact⟨ob,es,ep,t,k _ _ (.inl rfl) e,c⟩
 |ins C dx fs =>
  obtain⟨d,z,ne,e,mA,⟨od,es,ep,e2,c⟩,r⟩:=x;exact⟨ho _ d,z,ne,k _ _ (.inl rfl) e,mA,⟨od,es,ep,k _ _ (.inr d) e2,c⟩,r⟩
 |own y=>obtain⟨ob,e⟩:=x;exact⟨ob,k _ _ (.inl rfl) e⟩
 |xd fs=>obtain⟨mA,⟨od,es,ep,e,c⟩,r⟩:=x;exact⟨mA,⟨od,es,ep,k _ _ (.inl rfl) e,c⟩,r⟩
 |W5 lo hi=>obtain⟨t,u,v,e⟩:=x;exact⟨t,u,v,k _ _ (.inl rfl) e⟩
 |Mp ob u ih=>obtain⟨e,q⟩:=x;exact⟨k _ _ (.inl rfl) e,ih q⟩
 |Tu ps =>
  have e:h.get? a=some { cls:=.none,data:=.fields ps }:=x;show h'.get? a=some { cls:=.none,data:=.fields ps };exact k a _ (.inl rfl) e
 |met f y =>
  have e:h.get? a=some (methodObj (.ref f) (.ref y)):=x;show h'.get? a=some (methodObj (.ref f) (.ref y));exact k a _ (.inl rfl) e
 |ext φ=>obtain⟨p,⟨o,e⟩,st⟩:=x;exact⟨st _ _ p fun o q=>k _ _ (.inl rfl) q,⟨o,k _ _ (.inl rfl) e⟩,st⟩
theorem zS.lt (x:zS P w H h)(e:H a=some o):a<h.objs.size:=(x a o e).lt
theorem zS.fresh (x:zS P w H h)(e:h.objs.size<=a):H a=none:=by
 cases q:H a with
 |none=>rfl
 |some u=>exact absurd (Nat.lt_of_lt_of_le (x.lt q) e) (Nat.lt_irrefl _)
theorem zS.kept (x:zS P w H h)(k:∀ b u,h.get? b=some u->h'.get? b=some u):zS P w H h':=fun a o e =>
 (x a o e).stay (fun b u _ q=>k b u q) (fun _ q=>q) fun _ _ q=>q
theorem zS.laid (x:zS P w H h)(k:∀ b u,h.get? b=some u->h'.get? b=some u)(hp:h.objs.size<=a)(new:gP P w (upd H a o) h' a o):zS P w (upd H a o) h':=fun b u e=>by
 have hn:=x.fresh hp
 by_cases hb:b=a
 ·subst hb;rw[ae]at e;cases e;exact new
 ·rw[ai hb]at e;exact(x b u e).stay (fun c v _ q=>k c v q) (fun c q=>by rw[ai (ak q hn)];exact q) fun c xs q=>by rw[ai (ak q hn)];exact q
end
def Rd (H:Hp)(a:Addr)(u:HO):Prop:=H a=some u\/∃ o,H a=some (.Mp o u)
theorem Rd.ok {P:Program}{w:World}{H:Hp}{h:Heap}{a:Addr}{u:HO}(r:Rd H a u)(x:zS P w H h):gP P w H h a u:=by
 rcases r with r|⟨o,r⟩
 ·exact x a u r
 ·obtain⟨_,q⟩:=x a _ r;exact q
def WA:Option HO->Prop
 |some (.lst _)=>True
 |some (.dK _)=>True
 |some (.dT _)=>True
 |some (.set _ _)=>True
 |some (.ins _ _ _)=>True
 |some (.ext _)=>True
 |_=>False
section
variable {P:Program} {w:World} {H:Hp} {h h':Heap} {x e:Addr} {o':HO}
theorem zS.write (ok:zS P w H h)(mu:WA (H x))(he:e=x\/H e=some (.own x))(k:∀ b u,b≠e->h.get? b=some u->h'.get? b=some u)(heo:∃ u,h'.get? e=some u)
  (new:gP P w (upd H x o') h' x o'):zS P w (upd H x o') h':=fun b u q=>by
 have Vg:∀ c y,H c=some (.own y)->c≠x:=fun c y r z=>by subst z;rw[r]at mu;exact mu
 have W6:∀ c xs,H c=some (.tup xs)->c≠x:=fun c xs r z=>by subst z;rw[r]at mu;exact mu
 by_cases hb:b=x
 ·subst hb;rw[ae]at q;cases q;exact new
 ·rw[ai hb]at q
  by_cases hbe:b=e
  ·have q':H b=some (.own x):=by
    rcases he with z|z
    ·exact absurd (hbe.trans z) hb
    ·rw[hbe];exact z
   rw[q]at q';cases q';obtain⟨v,hv⟩:=heo;exact⟨v,by rw[hbe];exact hv⟩
  ·refine(ok b u q).stay (fun c v hc r=>k c v ?_ r) (fun c r=>by rw[ai (Vg c b r)];exact r) fun c xs r=>by rw[ai (W6 c xs r)];exact r
   rcases hc with rfl|hc
   ·exact hbe
   ·rintro rfl;rcases he with z|z
    ·exact Vg c b hc z
    ·rw[hc]at z;cases z;exact hb rfl
end
structure Un (fs ex:List Addr)(H H':Hp)(h h':Heap):Prop where
 keep:∀ b o,h.get? b=some o->H b=none->b ∉ fs->b ∉ ex->h'.get? b=some o
 slot:∀ b o,h.get? b=some o->H b=none->b∈fs->b ∉ ex->∃ sl,h'.get? b=some { o with slots:=sl }
 free:∀ b o,h.get? b=some o->H b=none->b ∉ ex->H' b=none
 there:∀ b o,h.get? b=some o->b ∉ ex->∃ o',h'.get? b=some o'
 tups:∀ b xs,H b=some (.tup xs)->H' b=some (.tup xs)
 DZ:∀ b o u,H b=some (.Mp o u)->H' b=some (.Mp o u)
 FL:∀ b ps,H b=some (.Tu ps)->∃ more,H' b=some (.Tu (ps++more))
section
variable {fs fs' ex ex':List Addr} {H H1 H2:Hp} {h h1 h2 h':Heap} {a x e:Addr} {o:HO}
theorem Un.any (u:Un fs ex H H1 h h1){b:Addr}{ob:Obj}(q:h.get? b=some ob)(n:H b=none)(hx:b ∉ ex):∃ sl,h1.get? b=some { ob with slots:=sl }:=by
 by_cases hb:b∈fs
 ·exact u.slot b ob q n hb hx
 ·exact⟨ob.slots,u.keep b ob q n hb hx⟩
theorem Un.kept (k:∀ b u,h.get? b=some u->h'.get? b=some u):Un fs ex H H h h' :=
 ⟨fun b ob q _ _ _=>k b ob q,fun b ob q _ _ _=>⟨ob.slots,k b ob q⟩,fun _ _ _ n _=>n,fun b ob q _=>⟨ob,k b ob q⟩,fun _ _ q=>q,fun _ _ _ q=>q,fun _ ps q=>⟨#[],by rw[q];simp⟩⟩
theorem Un.refl:Un fs ex H H h h:=Un.kept fun _ _ q=>q
theorem Un.laid (k:∀ b u,h.get? b=some u->h'.get? b=some u)(hp:h.objs.size<=a)(hn:H a=none):Un fs ex H (upd H a o) h h' where
 keep:=fun b u q _ _ _=>k b u q
 slot:=fun b u q _ _ _=>⟨u.slots,k b u q⟩
 free:=fun b u q n _=>by rw[ai (Nat.ne_of_lt (Nat.lt_of_lt_of_le (Heap.lt_size q) hp))];exact n
 there:=fun b u q _=>⟨u,k b u q⟩
 tups:=fun b xs q=>by rw[ai (ak q hn)];exact q
 DZ:=fun b u xs q=>by rw[ai (ak q hn)];exact q
 FL:=fun b ps q=>⟨#[],by rw[ai (ak q hn),q];simp⟩
theorem Un.write (mu:WA (H x))(he:e=x\/H e=some (.own x))(k:∀ b u,b≠e->h.get? b=some u->h'.get? b=some u)(heo:∃ u,h'.get? e=some u):Un fs ex H (upd H x o) h h':=by
 have hx:∀ b,H b=none->b≠x:=fun b n z=>by subst z;rw[n]at mu;exact mu
 have hb:∀ b,H b=none->b≠e:=fun b n z=>by
  subst z;rcases he with r|r
  ·exact hx b n r
  ·rw[n]at r;cases r
 have hm:∀ b u,H b=some u->¬ WA (some u)->b≠x:=fun b u q nm z=>by subst z;rw[q]at mu;exact nm mu
 refine⟨fun b u q n _ _=>k b u (hb b n) q,fun b u q n _ _=>⟨u.slots,k b u (hb b n) q⟩,fun b u q n _=>by rw[ai (hx b n)];exact n,fun b u q _=>?_,
  fun b xs q=>by rw[ai (hm b _ q fun z=>z)];exact q,fun b u xs q=>by rw[ai (hm b _ q fun z=>z)];exact q,fun b ps q=>⟨#[],by rw[ai (hm b _ q fun z=>z),q];simp⟩⟩
 by_cases hbe:b=e
 ·subst hbe;exact heo
 ·exact⟨u,k b u hbe q⟩
end
def WB (h:Heap)(H:Hp):List Addr:=(List.range h.objs.size).filter fun a=>(H a).isSome
def FN (h:Heap)(H:Hp):Heap:=PySem.W.hideAll h (WB h H)
theorem Na (h:Heap)(H:Hp):(FN h H).objs.size=h.objs.size:=PySem.W.hideAll_size _ _
theorem OU {h:Heap}{H:Hp}{b:Addr}{o:Obj}(e:h.get? b=some o)(n:H b=none):(FN h H).get? b=some o :=
 PySem.W.hideAll_get _ e fun hm=>by
  have q:(H b).isSome=true:=(List.mem_filter.mp hm).2;rw[n]at q;simp at q
theorem Rc {h:Heap}{H:Hp}{b:Addr}{o:Obj}(e:(FN h H).get? b=some o):h.get? b=some o/\H b=none:=by
 have e':h.get? b=some o:=PySem.W.of_hideAll (WB h H) e;refine⟨e',?_⟩;cases q:H b with
 |none=>rfl
 |some x =>
  have hm:b∈WB h H:=List.mem_filter.mpr ⟨List.mem_range.mpr (Heap.lt_size e'),by simp[q]⟩;have z:(FN h H).get? b=none:=PySem.W.hideAll_none (WB h H) hm;rw[z]at e;cases e
def Rg (g h:Heap)(L:Addr):List (Addr×Obj):=(List.range h.objs.size).filterMap fun a=>if a=L\/(g.get? a).isSome=true then none else(h.get? a).map fun o=>(a,o)
def rest (g h:Heap)(L d:Addr):List (Addr×Obj):=(Rg g h L).filter fun p=>decide (p.1≠d)
end L2
namespace L2
open PySem PySem.Spec PyProof.Rows
structure Mod (K:Frag)(mg:Str->Option Value)(base:Heap):Prop where
 Vh:K.In base
 glob:base.Ns mainGlobals mg
 blt:∃ mb,base.Ns builtinsNs mb/\∀ x:Str,x ≠ "__name__"->mb x=bootBuiltins x
 nolimit:base.NoLimit
structure Cx where
 prog:Program
 w:World
 K:Frag
 mg:Str->Option Value
 base:Heap
 A:Around
 N:List Str
 s₀:Shared
 H₀:Hp
 env:Env
 outer:List Env
 stack:List Env
 ex:List Addr
 fn:Str->Bool
 calm:Bool
 pn:List (Addr×Obj)
 xe:Value->Shared->Prop
def frs (l:List Env):List Addr:=l.filterMap (·.frame)
abbrev Cx.fs (X:Cx):List Addr:=frs X.outer
def Vi (sc:Scope)(x:Str):Prop:=sc.names.lookup x=some .local\/sc.names.lookup x=some .cell\/sc.names.lookup x=some .free
def Loc (sc:Scope)(x:Str):Prop:=sc.names.lookup x=some .local\/sc.names.lookup x=some .cell
def Look (env:Env)(h:Heap)(m:Str->Option Value)(x:Str)(u:Value):Prop :=
 (env.kindOf x=some .local/\m x=some u)\/((env.kindOf x=some .cell\/env.kindOf x=some .free)/\∃ c,env.cells.lookup x=some c/\h.IsCell c (some u))
structure Cx.Ok (X:Cx):Prop where
 mod:Mod X.K X.mg X.base
 kind:X.env.scope.kind=.function
 glob:X.env.globals=mainGlobals
 blt:X.env.builtins=builtinsNs
 above:X.s₀.heap.objs.size<=X.env.locals
 inj:∀ x y c,X.env.cells.lookup x=some c->X.env.cells.lookup y=some c->x=y
 has:∀ x,(X.env.kindOf x=some .cell\/X.env.kindOf x=some .free)->∃ c,X.env.cells.lookup x=some c
 cab:∀ x c,X.fn x=true->X.env.cells.lookup x=some c->X.s₀.heap.objs.size<=c
 hd:X.calm=true->X.A.handled=none
 frames:X.A.frames=some X.stack
 WC:X.stack=X.outer\/(X.stack=X.env::X.outer/\X.env.frame=some X.env.locals)
 WD:∀ b∈X.ex,b≠X.env.locals/\∀ x c,X.env.cells.lookup x=some c->c≠b
 bs:∀ b o,X.base.get? b=some o->X.s₀.heap.get? b=some o/\X.H₀ b=none
 Q4:X.base.objs.size<=X.s₀.heap.objs.size
 OV:∀ b o,X.base.get? b=some o->b ∉ X.ex
 OW:∀ b∈X.ex,b ∉ X.fs
 Ax:X.s₀.heap.FunFrames X.base X.outer
 Tv:∀ b∈X.fs,X.H₀ b=none
structure Inv (X:Cx)(pins:List (Addr×Obj))(σ:List (Option V))(H:Hp)(s:Shared):Prop where
 ok:X.Ok
 os:s.os=X.s₀.os
 bare:AllBare s.gens
 base:Un X.fs X.ex X.H₀ H X.s₀.heap s.heap
 loc:∃ m,s.heap.Ns X.env.locals m/\∀(i:Nat)(x:Str)(v:V),X.N[i]? = some x->σ[i]? = some (some v)->Vi X.env.scope x->∃ u,RelV v u/\Look X.env s.heap m x u
 cell:∀ x c,X.env.cells.lookup x=some c->∃ v,s.heap.IsCell c v
 free:H X.env.locals=none
 sN:∀ x c,X.env.cells.lookup x=some c->H c=none
 pin:∀ p∈X.pn++pins,s.heap.get? p.1=some p.2/\H p.1=none/\p.1≠X.env.locals/\p.1 ∉ X.fs/\∀ v,p.2.data≠.cell v
 hok:zS X.prog X.w H s.heap
 len:σ.length=X.N.length
section
variable {X:Cx} {pins:List (Addr×Obj)} {σ:List (Option V)} {H H':Hp} {s:Shared} {h':Heap}
theorem Cx.Ok.W7 (ok:X.Ok){b:Addr}{o:Obj}(e:X.base.get? b=some o):b ∉ X.fs:=fun hb=>by
 have:=(ok.Ax.mem hb).1;rw[e]at this;cases this
theorem Inv.bs (I:Inv X pins σ H s):∀ b o,X.base.get? b=some o->s.heap.get? b=some o/\H b=none:=fun b o e =>
 ⟨I.base.keep b o (I.ok.bs b o e).1 (I.ok.bs b o e).2 (I.ok.W7 e) (I.ok.OV b o e),I.base.free b o (I.ok.bs b o e).1 (I.ok.bs b o e).2 (I.ok.OV b o e)⟩
theorem Inv.bk (I:Inv X pins σ H s):∀ b o,X.base.get? b=some o->s.heap.get? b=some o:=fun b o e=>(I.bs b o e).1
theorem Inv.mod (I:Inv X pins σ H s):Mod X.K X.mg X.base:=I.ok.mod
theorem Inv.vy (I:Inv X pins σ H s):X.K.In s.heap:=I.ok.mod.Vh.keeps I.bk
theorem Inv.lt (I:Inv X pins σ H s):X.env.locals<s.heap.objs.size:=let ⟨_,hn,_⟩:=I.loc;hn.lt
theorem Inv.sz (I:Inv X pins σ H s):X.s₀.heap.objs.size<=s.heap.objs.size:=Nat.le_trans I.ok.above (Nat.le_of_lt I.lt)
theorem Inv.W8 (I:Inv X pins σ H s){a:Addr}(h:s.heap.objs.size<=a):a ∉ X.fs:=fun hb=>by
 obtain⟨_,o,ho,_⟩:=I.ok.Ax.mem hb;exact absurd (Nat.lt_of_lt_of_le (Heap.lt_size ho) (Nat.le_trans I.sz h)) (Nat.lt_irrefl _)
theorem Inv.Tw (I:Inv X pins σ H s):∀ x c,X.env.cells.lookup x=some c->c≠X.env.locals:=fun x c e z=>by
 obtain⟨v,o,ho,hd⟩:=I.cell x c e;obtain⟨m,⟨o',es,ep,ho',hd',_⟩,_⟩:=I.loc;rw[z,ho']at ho;cases ho;rw[hd']at hd;cases hd
theorem Inv.Ax (I:Inv X pins σ H s):s.heap.FunFrames X.base X.outer:=by
 have all:∀(l:List Env),(∀ b∈frs l,b∈X.fs)->X.s₀.heap.FunFrames X.base l->s.heap.FunFrames X.base l:=by
  intro l
  induction l with
  |nil=>intro _ _;trivial
  |cons env r ih =>
   intro hs hl;obtain⟨hk,⟨L,o,hf,hn,ho,hd⟩,hr⟩:=hl;have hL:L∈X.fs:=hs L (by unfold frs;rw[List.filterMap_cons,hf];exact mem_cons_self);obtain⟨sl,e⟩:=I.base.slot L o ho (I.ok.Tv L hL) hL fun z=>I.ok.OW L z hL;exact⟨hk,⟨L,_,hf,hn,e,hd⟩,ih (fun b hb=>hs b (by unfold frs;rw[List.filterMap_cons,hf];exact mem_cons_of_mem _ hb)) hr⟩
 exact all X.outer (fun _ hb=>hb) I.ok.Ax
theorem Inv.stack (I:Inv X pins σ H s):s.heap.FunFrames X.base X.stack:=by
 rcases I.ok.WC with e|⟨e,hf⟩
 ·rw[e];exact I.Ax
 ·rw[e];obtain⟨m,hn,_⟩:=I.loc;refine .cons (by rw[I.ok.kind];decide) hf hn ?_ I.Ax;exact Heap.get?_none_of_le (Nat.le_trans I.ok.Q4 I.ok.above)
theorem Inv.JP (I:Inv X pins σ H s):∀ b∈frs X.stack,b∈X.env.locals::X.fs:=fun b hb=>by
 rcases I.ok.WC with e|⟨e,hf⟩
 ·rw[e]at hb;exact mem_cons_of_mem _ hb
 ·rw[e]at hb;unfold frs at hb;rw[List.filterMap_cons,hf]at hb;exact hb
theorem Inv.Mq (I:Inv X pins σ H s):∀ b∈frs X.stack,H b=none:=fun b hb=>by
 rcases List.mem_cons.mp (I.JP b hb) with e|hb
 ·rw[e];exact I.free
 ·obtain⟨_,o,ho,_⟩:=I.ok.Ax.mem hb;exact I.base.free b o ho (I.ok.Tv b hb) fun z=>I.ok.OW b z hb
theorem Inv.step {g':Array GenState}{t':Nat}{d':Drawn}{ch:List Addr}(I:Inv X pins σ H s)
  (hch:∀ b∈ch,(b∈X.ex\/X.s₀.heap.objs.size<=b)/\b≠X.env.locals/\(∀ x c,X.env.cells.lookup x=some c->c≠b)/\∀ p∈X.pn++pins,p.1≠b)
  (keep:∀ b o,b≠X.env.locals->b ∉ X.fs->b ∉ ch->s.heap.get? b=some o->H b=none->h'.get? b=some o)
  (slot:∀ b o,b≠X.env.locals->b∈X.fs->b ∉ ch->s.heap.get? b=some o->H b=none->∃ sl,h'.get? b=some { o with slots:=sl }) (free:∀ b o,b ∉ ch->s.heap.get? b=some o->H b=none->H' b=none)
  (there:∀ b o,b ∉ ch->s.heap.get? b=some o->∃ o',h'.get? b=some o')
  (tups:∀ b xs,H b=some (.tup xs)->H' b=some (.tup xs)) (DZ:∀ b o u,H b=some (.Mp o u)->H' b=some (.Mp o u)) (FL:∀ b ps,H b=some (.Tu ps)->∃ more,H' b=some (.Tu (ps++more)))
  (ns:∀ m,s.heap.Ns X.env.locals m->h'.Ns X.env.locals m) (hok:zS X.prog X.w H' h') (hg:AllBare g') :
  Inv X pins σ H' { s with heap:=h',gens:=g',drawn:=d',toks:=t' }:=by
 have Yy:∀ b o,X.s₀.heap.get? b=some o->b≠X.env.locals:=fun b o e=>Nat.ne_of_lt (Nat.lt_of_lt_of_le (Heap.lt_size e) I.ok.above);have Sv:∀ b o,X.s₀.heap.get? b=some o->b ∉ X.ex->b ∉ ch:=fun b o e hx hb=>by
  rcases (hch b hb).1 with z|z
  ·exact hx z
  ·exact absurd (Nat.lt_of_lt_of_le (Heap.lt_size e) z) (Nat.lt_irrefl _)
 have cellK:∀ x c,X.env.cells.lookup x=some c->∀ v,s.heap.IsCell c v->h'.IsCell c v:=fun x c e v ⟨o,ho,hd⟩=>by
  have Vj:c ∉ ch:=fun z=>(hch c z).2.2.1 x c e rfl
  by_cases hc:c∈X.fs
  ·obtain⟨sl,q⟩:=slot c o (I.Tw x c e) hc Vj ho (I.sN x c e);exact⟨_,q,hd⟩
  ·exact⟨o,keep c o (I.Tw x c e) hc Vj ho (I.sN x c e),hd⟩
 refine⟨I.ok,I.os,hg,⟨fun b o e n hb hx=>?_,fun b o e n hb hx=>?_,fun b o e n hx=>?_,fun b o e hx=>?_,fun b xs e=>tups b xs (I.base.tups b xs e),fun b o xs e=>DZ b o xs (I.base.DZ b o xs e),fun b ps e=>?_⟩,?_,fun x c e=>?_,?_,fun x c e=>?_,fun p hp=>?_,hok,I.len⟩
 ·exact keep b o (Yy b o e) hb (Sv b o e hx) (I.base.keep b o e n hb hx) (I.base.free b o e n hx)
 ·obtain⟨sl,e1⟩:=I.base.slot b o e n hb hx;obtain⟨sl',e2⟩:=slot b _ (Yy b o e) hb (Sv b o e hx) e1 (I.base.free b o e n hx);exact⟨sl',e2⟩
 ·obtain⟨o',e1⟩:=I.base.there b o e hx;exact free b o' (Sv b o e hx) e1 (I.base.free b o e n hx)
 ·obtain⟨o',e1⟩:=I.base.there b o e hx;exact there b o' (Sv b o e hx) e1
 ·obtain⟨m1,e1⟩:=I.base.FL b ps e;obtain⟨m2,e2⟩:=FL b _ e1;exact⟨m1++m2,by rw[e2,Array.append_assoc]⟩
 ·obtain⟨m,hn,hl⟩:=I.loc;refine⟨m,ns m hn,fun i x v e1 e2 e3=>?_⟩;obtain⟨u,r,l⟩:=hl i x v e1 e2 e3;refine⟨u,r,?_⟩;rcases l with l|⟨k,c,e,z⟩
  ·exact .inl l
  ·exact .inr ⟨k,c,e,cellK x c e _ z⟩
 ·obtain⟨v,z⟩:=I.cell x c e;exact⟨v,cellK x c e v z⟩
 ·obtain⟨m,⟨o,_,_,ho,_⟩,_⟩:=I.loc;exact free _ o (fun z=>(hch _ z).2.1 rfl) ho I.free
 ·obtain⟨v,o,ho,hd⟩:=I.cell x c e;exact free c o (fun z=>(hch c z).2.2.1 x c e rfl) ho (I.sN x c e)
 ·obtain⟨e,n,ne,nf,d⟩:=I.pin p hp;have Vj:p.1 ∉ ch:=fun z=>(hch p.1 z).2.2.2 p hp rfl;exact⟨keep p.1 p.2 ne nf Vj e n,free p.1 p.2 Vj e n,ne,nf,d⟩
theorem Inv.un {t':Nat}(I:Inv X pins σ H s)(u:Un X.fs [] H H' s.heap h')(hok:zS X.prog X.w H' h'):Inv X pins σ H' { s with heap:=h',toks:=t' }:=by
 obtain⟨m,⟨o,es,ep,ho,r⟩,_⟩:=id I.loc;obtain⟨sl,hL⟩:=u.any ho I.free (by simp);exact I.step (g':=s.gens) (d':=s.drawn) (ch:=[]) (fun _ z=>nomatch z) (fun b o _ hb _ e n=>u.keep b o e n hb (by simp)) (fun b o _ hb _ e n=>u.slot b o e n hb (by simp)) (fun b o _ e n=>u.free b o e n (by simp)) (fun b o _ e=>u.there b o e (by simp)) u.tups u.DZ u.FL (fun m' hm=>by
  obtain⟨o',es',ep',ho',r'⟩:=hm;rw[ho]at ho';cases ho';exact⟨_,es',ep',hL,r'⟩) hok I.bare
theorem Inv.call {g':Array GenState}{t':Nat}{d':Drawn}{ch:List Addr}(I:Inv X pins σ H s)(u:Un (frs X.stack) ch H H' s.heap h')(hok:zS X.prog X.w H' h')(hg:AllBare g')
  (hch:∀ b∈ch,(b∈X.ex\/X.s₀.heap.objs.size<=b)/\b≠X.env.locals/\(∀ x c,X.env.cells.lookup x=some c->c≠b)/\∀ p∈X.pn++pins,p.1≠b) :
  Inv X pins σ H' { s with heap:=h',gens:=g',drawn:=d',toks:=t' }:=by
 obtain⟨m,⟨o,es,ep,ho,r⟩,_⟩:=id I.loc;obtain⟨sl,hL⟩:=u.any ho I.free fun z=>(hch _ z).2.1 rfl;exact I.step (ch:=ch) hch (fun b o hL hb hc e n=>u.keep b o e n (fun z=>(List.mem_cons.mp (I.JP b z)).elim hL hb) hc) (fun b o _ _ hc e n=>u.any e n hc) (fun b o hc e n=>u.free b o e n hc) (fun b o hc e=>u.there b o e hc) u.tups u.DZ u.FL (fun m' hm=>by
  obtain⟨o',es',ep',ho',r'⟩:=hm;rw[ho]at ho';cases ho';exact⟨_,es',ep',hL,r'⟩) hok hg
theorem Inv.turned {t':Nat}{it:Addr}(I:Inv X pins σ H s)(k:∀ b o,b≠it->s.heap.get? b=some o->h'.get? b=some o)(hn:H it=none)(hL:it≠X.env.locals)
  (h1:it∈X.ex\/X.s₀.heap.objs.size<=it) (h2:∀ x c,X.env.cells.lookup x=some c->c≠it) (h3:∀ p∈X.pn++pins,p.1≠it):Inv X pins σ H { s with heap:=h',toks:=t' }:=by
 have Yz:∀ b u,H b=some u->b≠it:=fun b u e z=>by rw[z,hn]at e;cases e
 refine I.step (g':=s.gens) (d':=s.drawn) (ch:=[it]) (fun b hb=>?_) (fun b o _ _ hc e _=>k b o (fun z=>hc (by simp[z])) e) (fun b o _ _ hc e _=>⟨o.slots,k b o (fun z=>hc (by simp[z])) e⟩) (fun _ _ _ _ n=>n)
  (fun b o hc e=>⟨o,k b o (fun z=>hc (by simp[z])) e⟩) (fun _ _ e=>e) (fun _ _ _ e=>e) (fun b ps e=>⟨#[],by rw[e];simp⟩) (fun m hm=>?_) (fun b u e=>?_) I.bare
 ·have e:b=it:=by simpa using hb
  subst e;exact⟨h1,hL,h2,h3⟩
 ·obtain⟨o,es,ep,ho,r⟩:=hm;exact⟨o,es,ep,k _ o (Ne.symm hL) ho,r⟩
 ·refine(I.hok b u e).stay (fun c v hc q=>k c v ?_ q) (fun _ q=>q) fun _ _ q=>q;rcases hc with z|z
  ·rw[z];exact Yz b u e
  ·exact Yz c _ z
theorem Inv.tok (I:Inv X pins σ H s)(t:Nat):Inv X pins σ H { s with toks:=t }:=I.un (h':=s.heap) (t':=t) Un.refl I.hok
theorem Inv.kept {t':Nat}(I:Inv X pins σ H s)(k:∀ b u,s.heap.get? b=some u->h'.get? b=some u):Inv X pins σ H { s with heap:=h',toks:=t' }:=I.un (Un.kept k) (I.hok.kept k)
theorem Inv.laid {a:Addr}{o:HO}{t':Nat}(I:Inv X pins σ H s)(k:∀ b u,s.heap.get? b=some u->h'.get? b=some u)(hp:s.heap.objs.size<=a)(new:gP X.prog X.w (upd H a o) h' a o) :
  Inv X pins σ (upd H a o) { s with heap:=h',toks:=t' }:=I.un (Un.laid k hp (I.hok.fresh hp)) (I.hok.laid k hp new)
theorem Inv.write {x e:Addr}{o:HO}{t':Nat}(I:Inv X pins σ H s)(mu:WA (H x))(he:e=x\/H e=some (.own x))(k:∀ b u,b≠e->s.heap.get? b=some u->h'.get? b=some u)(heo:∃ u,h'.get? e=some u)
  (new:gP X.prog X.w (upd H x o) h' x o):Inv X pins σ (upd H x o) { s with heap:=h',toks:=t' }:=I.un (Un.write mu he k heo) (I.hok.write mu he k heo new)
theorem Inv.Mr {OX:List (Addr×Obj)}(I:Inv X pins σ H s)(h:∀ p∈OX,s.heap.get? p.1=some p.2/\H p.1=none/\p.1≠X.env.locals/\p.1 ∉ X.fs/\∀ v,p.2.data≠.cell v):Inv X OX σ H s :=
 ⟨I.ok,I.os,I.bare,I.base,I.loc,I.cell,I.free,I.sN,fun p hp=>(mem_append.mp hp).elim (fun z=>I.pin p (mem_append_left _ z)) (h p),I.hok,I.len⟩
theorem HL {N:List Str}(hN:N.Nodup){i j:Nat}{x:Str}(a:N[i]? = some x)(b:N[j]? = some x):i=j:=by
 obtain⟨h1,e1⟩:=List.getElem?_eq_some_iff.mp a;obtain⟨h2,e2⟩:=List.getElem?_eq_some_iff.mp b;exact(List.getElem_inj hN).mp (e1.trans e2.symm)
theorem EU {M:Model}{A:Around}{E:Value->Shared->Prop}{i:Nat}{x:Str}{v:V}{u:Value}{Q:Unit->Shared->Prop}(I:Inv X pins σ H s)(hN:X.N.Nodup)(hi:X.N[i]? = some x)(hx:Loc X.env.scope x)(r:RelV v u)
  (h:∀ s',Inv X pins (σ.set i (some v)) H s'->(∃ a,Heap.SameBut a s.heap s'.heap/\(a=X.env.locals\/X.env.cells.lookup x=some a))->Q () s') (hf:X.fn x=true\/X.env.scope.names.lookup x=some .local:=by first|exact .inl rfl|exact .inr rfl|assumption):wpAny M A (storeName X.env x u) Q E s:=by
 obtain⟨m,hn,hl⟩:=id I.loc;have hcls:(X.env.scope.kind == .class||(X.env.scope.kind == .module&&X.env.locals != X.env.globals))=false:=by rw[I.ok.kind];rfl
 have YA:i<σ.length:=by rw[I.len];exact(List.getElem?_eq_some_iff.mp hi).1
 have Tw:=I.Tw;have tracked:∀{a:Addr} {h':Heap},(∃ o,s.heap.get? a=some o/\H a=none)->Heap.SameBut a s.heap h'->zS X.prog X.w H h':=fun {a h'} ha hs b ob e=>by
  obtain⟨_,_,hfree⟩:=ha;refine(I.hok b ob e).stay (fun c w' hc q=>(hs.2 c ?_).trans q) (fun _ q=>q) fun _ _ q=>q;rintro rfl;rcases hc with rfl|hc
  ·rw[hfree]at e;cases e
  ·rw[hfree]at hc;cases hc
 rcases hx with hk|hk
 ·refine wpAny_storeName_local hk hn (fun h' hn' hs=>?_) hcls;obtain⟨oL,_,_,hoL,_⟩:=id hn;refine h _ ⟨I.ok,I.os,I.bare,⟨fun b o e n hb hx=>?_,fun b o e n hb hx=>?_,I.base.free,fun b o e hx=>?_,I.base.tups,I.base.DZ,I.base.FL⟩,⟨_,hn',fun j y v' e1 e2 e3=>?_⟩,fun y c e=>?_,I.free,I.sN,fun p hp=>?_,tracked ⟨oL,hoL,I.free⟩ hs,by simpa using I.len⟩ ⟨_,hs,.inl rfl⟩
  ·exact(hs.2 b (Nat.ne_of_lt (Nat.lt_of_lt_of_le (Heap.lt_size e) I.ok.above))).trans (I.base.keep b o e n hb hx)
  ·obtain⟨sl,e1⟩:=I.base.slot b o e n hb hx;exact⟨sl,(hs.2 b (Nat.ne_of_lt (Nat.lt_of_lt_of_le (Heap.lt_size e) I.ok.above))).trans e1⟩
  ·obtain⟨o',e1⟩:=I.base.there b o e hx;exact⟨o',(hs.2 b (Nat.ne_of_lt (Nat.lt_of_lt_of_le (Heap.lt_size e) I.ok.above))).trans e1⟩
  ·by_cases hj:j=i
   ·subst hj;rw[hi]at e1;cases e1;rw[List.getElem?_set_self YA]at e2;cases e2;exact⟨u,r,.inl ⟨hk,by simp⟩⟩
   ·rw[List.getElem?_set_ne (Ne.symm hj)]at e2;obtain⟨u',r',q⟩:=hl j y v' e1 e2 e3;refine⟨u',r',?_⟩;rcases q with ⟨k,e⟩|⟨k,c,e,z⟩
    ·refine .inl ⟨k,?_⟩;have:y≠x:=fun e=>hj (HL hN e1 (e ▸ hi));simp[this,e]
    ·exact .inr ⟨k,c,e,z.sameBut hs (Tw y c e)⟩
  ·obtain⟨w',z⟩:=I.cell y c e;exact⟨w',z.sameBut hs (Tw y c e)⟩
  ·obtain⟨e,n,ne,nf,d⟩:=I.pin p hp;exact⟨(hs.2 p.1 ne).trans e,n,ne,nf,d⟩
 ·have hfn:X.fn x=true:=by
   rcases hf with z|z
   ·exact z
   ·rw[z]at hk;cases hk
  obtain⟨c,hc⟩:=I.ok.has x (.inl hk);obtain⟨w',z⟩:=I.cell x c hc;refine wpAny_storeName_cell I.ok.kind hk hc z (fun h' hc' hs=>?_);obtain⟨oc,hoc,W9⟩:=id z;refine h { s with heap:=h' } ⟨I.ok,I.os,I.bare,⟨fun b o e n hb hx=>?_,fun b o e n hb hx=>?_,I.base.free,fun b o e hx=>?_,I.base.tups,I.base.DZ,I.base.FL⟩,⟨m,hn.sameBut hs (Ne.symm (Tw x c hc)),fun j y v' e1 e2 e3=>?_⟩,fun y c' e=>?_,I.free,I.sN,fun p hp=>?_,tracked ⟨oc,hoc,I.sN x c hc⟩ hs,by simpa using I.len⟩ ⟨c,hs,.inr hc⟩
  ·exact(hs.2 b (Nat.ne_of_lt (Nat.lt_of_lt_of_le (Heap.lt_size e) (I.ok.cab x c hfn hc)))).trans (I.base.keep b o e n hb hx)
  ·obtain⟨sl,e1⟩:=I.base.slot b o e n hb hx;exact⟨sl,(hs.2 b (Nat.ne_of_lt (Nat.lt_of_lt_of_le (Heap.lt_size e) (I.ok.cab x c hfn hc)))).trans e1⟩
  ·obtain⟨o',e1⟩:=I.base.there b o e hx;exact⟨o',(hs.2 b (Nat.ne_of_lt (Nat.lt_of_lt_of_le (Heap.lt_size e) (I.ok.cab x c hfn hc)))).trans e1⟩
  ·by_cases hj:j=i
   ·subst hj;rw[hi]at e1;cases e1;rw[List.getElem?_set_self YA]at e2;cases e2;exact⟨u,r,.inr ⟨.inl hk,c,hc,hc'⟩⟩
   ·rw[List.getElem?_set_ne (Ne.symm hj)]at e2;obtain⟨u',r',q⟩:=hl j y v' e1 e2 e3;refine⟨u',r',?_⟩;rcases q with q|⟨k,c',e,z'⟩
    ·exact .inl q
    ·refine .inr ⟨k,c',e,z'.sameBut hs ?_⟩;rintro rfl;exact hj (HL hN e1 (I.ok.inj _ _ _ e hc ▸ hi))
  ·by_cases hcc:c'=c
   ·subst hcc;exact⟨_,hc'⟩
   ·obtain⟨w2,z2⟩:=I.cell y c' e;exact⟨w2,z2.sameBut hs hcc⟩
  ·obtain⟨e,n,ne,nf,d⟩:=I.pin p hp;refine⟨(hs.2 p.1 ?_).trans e,n,ne,nf,d⟩;intro q;rw[q,hoc]at e;have q':oc=p.2:=Option.some.inj e;exact d w' (by rw[<-q'];exact W9)
theorem Bs {M:Model}{A:Around}{E:Value->Shared->Prop}{i:Nat}{x:Str}{v:V}{u:Value}{Q:Unit->Shared->Prop}(I:Inv X pins σ H s)(hN:X.N.Nodup)(hi:X.N[i]? = some x)(hx:Loc X.env.scope x)(r:RelV v u)
  (h:∀ s',Inv X pins (σ.set i (some v)) H s'->Q () s') (hf:X.fn x=true\/X.env.scope.names.lookup x=some .local:=by first|exact .inl rfl|exact .inr rfl|assumption):wpAny M A (storeName X.env x u) Q E s :=
 EU I hN hi hx r (fun s' I' _=>h s' I') hf
theorem Inv.call' {s':Shared}{ch:List Addr}(I:Inv X pins σ H s)(ho:s'.os=s.os)(u:Un (frs X.stack) ch H H' s.heap s'.heap)(hok:zS X.prog X.w H' s'.heap)(hg:AllBare s'.gens)
  (hch:∀ b∈ch,(b∈X.ex\/X.s₀.heap.objs.size<=b)/\b≠X.env.locals/\(∀ x c,X.env.cells.lookup x=some c->c≠b)/\∀ p∈X.pn++pins,p.1≠b):Inv X pins σ H' s':=by
 obtain⟨h',g',d',t',o'⟩:=s';have e:o'=s.os:=ho;subst e;exact I.call (g':=g') (t':=t') (d':=d') u hok hg hch
end
abbrev XK:=Value->Option Addr->Hp->Prop
abbrev St:=List (Option V)
abbrev VK:=V->Hp->Prop
abbrev TE:=St->Hp->VK->Prop
abbrev TT:=St->Hp->(Bool->Hp->Prop)->Prop
abbrev TA:=St->Hp->(List V->Hp->Prop)->Prop
structure Ends where
 nx:St->Hp->Prop
 rt:VK
 bk:St->Hp->Prop:=fun _ _=>False
 ct:St->Hp->Prop:=fun _ _=>False
abbrev TS:=Ends->St->Hp->Prop
def EP (X:Cx)(pins:List (Addr×Obj))(σ:St)(Q:VK)(u:Value)(s':Shared):Prop:=∃ v H',Inv X pins σ H' s'/\RelV v u/\Q v H'
def TP (X:Cx)(pins:List (Addr×Obj))(σ:St)(Q:Bool->Hp->Prop)(b:Bool)(s':Shared):Prop:=∃ H',Inv X pins σ H' s'/\Q b H'
def AP (X:Cx)(pins:List (Addr×Obj))(σ:St)(Q:List V->Hp->Prop)(us:List Value)(s':Shared):Prop:=∃ vs H',Inv X pins σ H' s'/\Vals vs us/\Q vs H'
def SP (X:Cx)(pins:List (Addr×Obj))(D:Ends)(f:Flow)(s':Shared):Prop :=
 match f with
 |.next=>∃ σ' H',Inv X pins σ' H' s'/\D.nx σ' H'
 |.brk=>∃ σ' H',Inv X pins σ' H' s'/\D.bk σ' H'
 |.cont=>∃ σ' H',Inv X pins σ' H' s'/\D.ct σ' H'
 |.ret u=>∃ v σ' H',Inv X pins σ' H' s'/\RelV v u/\D.rt v H'
def PE (X:Cx)(e:Expr)(t:TE):Prop :=
 ∀(pins:List (Addr×Obj)) (s:Shared) (σ:St) (H:Hp) (Q:VK),Inv X pins σ H s->t σ H Q->wpAny (model X.prog X.w) X.A (eval e X.env) (EP X pins σ Q) X.xe s
def PT (X:Cx)(e:Expr)(t:TT):Prop :=
 ∀(pins:List (Addr×Obj)) (s:Shared) (σ:St) (H:Hp) (Q:Bool->Hp->Prop),Inv X pins σ H s->t σ H Q->wpAny (model X.prog X.w) X.A (isTrue e X.env (eval e X.env)) (TP X pins σ Q) X.xe s
def PW (X:Cx)(e:Expr)(t:TT):Prop :=
 ∀(whole:Sem Value)(pins:List (Addr×Obj)) (s:Shared) (σ:St) (H:Hp) (Q:Bool->Hp->Prop),Inv X pins σ H s->t σ H Q->wpAny (model X.prog X.w) X.A (isTrue e X.env whole) (TP X pins σ Q) X.xe s
theorem PW.pt {X:Cx}{e:Expr}{t:TT}(h:PW X e t):PT X e t:=h _
def PA (X:Cx)(es:List Expr)(t:TA):Prop :=
 ∀(pos:Pos)(pins:List (Addr×Obj)) (s:Shared) (σ:St) (H:Hp) (Q:List V->Hp->Prop),Inv X pins σ H s->t σ H Q->wpAny (model X.prog X.w) X.A (spliced (backTo pos (starEach es X.env))) (AP X pins σ Q) X.xe s
def PS (X:Cx)(st:Stmt)(t:TS):Prop :=
 ∀(pins:List (Addr×Obj)) (s:Shared) (σ:St) (H:Hp) (D:Ends),Inv X pins σ H s->t D σ H->wpAny (model X.prog X.w) X.A (exec st X.env) (SP X pins D) X.xe s
def HM (X:Cx)(st:List Stmt)(t:TS):Prop :=
 ∀(pins:List (Addr×Obj)) (s:Shared) (σ:St) (H:Hp) (D:Ends),Inv X pins σ H s->t D σ H->wpAny (model X.prog X.w) X.A (execs st X.env) (SP X pins D) X.xe s
theorem cH {α:Type}{t:Sem α}{Q Q':α->Shared->Prop}{M:Model}{A:Around}{E:Value->Shared->Prop}{s:Shared}(h:wpAny M A t Q E s)(hQ:∀ a s,Q a s->Q' a s):wpAny M A t Q' E s:=wpAny_mono h hQ fun _ _ x=>x
end L2
namespace L2
open PySem PySem.Spec PyProof.Rows
section
variable {X:Cx}
inductive Sw (i:Nat)(σ:St)(H:Hp)(Q:VK):Prop
 |mk (v:_) (ey:σ[i]? = some (some v)) (eA:Q v H):Sw i σ H Q
def Vk (i:Nat):TE:=fun σ H Q=>Sw i σ H Q
def tC (v:V):TE:=fun _ H Q=>Q v H
theorem Tx {i:Nat}{x:Str}{pos:Pos}(hN:X.N[i]? = some x)(hv:Vi X.env.scope x)(hd:(x==("__debug__":Str))=false:=by decide)(hcd:(x==("__classdict__":Str))=false:=by decide):PE X (.Name x pos) (Vk i):=by
 intro pins s σ H Q I h;obtain⟨v,e,h⟩:=h;obtain⟨m,hn,hl⟩:=I.loc;obtain⟨u,r,l⟩:=hl i x v hN e hv;have fin:EP X pins σ Q u s:=⟨v,H,I,r,h⟩;rcases l with ⟨hk,hm⟩|⟨hk,c,hc,hcell⟩
 ·exact wpAny_Name (wpAny_loadName_local I.ok.kind hk hn hm fin) hd
 ·rcases hk with hk|hk
  ·exact wpAny_Name (wpAny_loadName_cell I.ok.kind hk hc hcell fin) hd
  ·exact wpAny_Name (wpAny_loadName_free I.ok.kind hk hc hcell fin hcd) hd
theorem ao {i j pos}:PE X (.Constant (.int i) j pos) (tC (.int i)):=fun _ _ _ H _ I h=>wpAny_Constant_int ⟨.int i,H,I.tok _,⟨_,rfl⟩,h⟩
theorem qp {b j pos}:PE X (.Constant (.bool b) j pos) (tC (.bl b)):=fun _ _ _ H _ I h=>Constant_bool ⟨.bl b,H,I,rfl,h⟩
theorem Bt {j pos}:PE X (.Constant .none j pos) (tC .non):=fun _ _ _ H _ I h=>Constant_none ⟨.non,H,I,rfl,h⟩
theorem a9 {x j pos}:PE X (.Constant (.str x) j pos) (tC (.str x)):=fun _ _ _ H _ I h=>Calls.Constant_str ⟨.str x,H,I.tok _,⟨_,rfl⟩,h⟩
def Gl (X:Cx)(x:Str):Prop:=X.env.kindOf x=some .globalImplicit
theorem Bb {E:Value->Shared->Prop}{pins:List (Addr×Obj)}{s:Shared}{σ:St}{H:Hp}{x:Str}{u:Value}{pos:Pos}{Q:Value->Shared->Prop}(I:Inv X pins σ H s)(hg:Gl X x)(hm:X.mg x=some u)(h:Q u s)
  (hd:(x==("__debug__":Str))=false:=by decide):wpAny (model X.prog X.w) X.A (eval (.Name x pos) X.env) Q E s :=
 Calls.Name_function_global I.ok.kind hg (Calls.loadGlobal_global (by rw[I.ok.glob];exact I.mod.glob.keeps I.bk) hm h) hd
theorem ox {E:Value->Shared->Prop}{pins:List (Addr×Obj)}{s:Shared}{σ:St}{H:Hp}{x:Str}{u:Value}{pos:Pos}{Q:Value->Shared->Prop}(I:Inv X pins σ H s)(hg:Gl X x)(hm:X.mg x=none)(hv:bootBuiltins x=some u)(h:Q u s)
  (hn:x ≠ "__name__":=by decide) (hd:(x==("__debug__":Str))=false:=by decide):wpAny (model X.prog X.w) X.A (eval (.Name x pos) X.env) Q E s:=by
 obtain⟨mb,h1,h2⟩:=I.mod.blt;exact Calls.Name_function_global I.ok.kind hg (Calls.loadGlobal_builtin (by rw[I.ok.glob];exact I.mod.glob.keeps I.bk) hm (by rw[I.ok.blt];exact h1.keeps I.bk) ((h2 x hn).trans hv) h) hd
theorem bF {x:Str}{v:V}{u:Value}{pos:Pos}(hg:Gl X x)(hm:X.mg x=some u)(r:RelV v u)(hd:(x==("__debug__":Str))=false:=by decide):PE X (.Name x pos) (tC v) :=
 fun _ _ _ H _ I h=>Bb I hg hm ⟨v,H,I,r,h⟩ hd
theorem Bc {x:Str}{v:V}{u:Value}{pos:Pos}(hg:Gl X x)(hm:X.mg x=none)(hv:bootBuiltins x=some u)(r:RelV v u)(hn:x ≠ "__name__":=by decide)(hd:(x==("__debug__":Str))=false:=by decide):PE X (.Name x pos) (tC v) :=
 fun _ _ _ H _ I h=>ox I hg hm hv ⟨v,H,I,r,h⟩ hn hd
def Zo (ta tb:TE)(k:Int->Int->Hp->Prop):St->Hp->Prop:=fun σ H=>ta σ H fun x H1=>tb σ H1 fun y H2=>∃ i j,x=.int i/\y=.int j/\k i j H2
variable {a b:Expr} {ta tb:TE} {pos:Pos}
def Nb (p:Int->Int->Bool)(ta tb:TE):TE:=fun σ H Q=>Zo ta tb (fun i j H2=>Q (.bl (p i j)) H2) σ H
abbrev tLt:TE->TE->TE:=Nb fun i j=>decide (i<j)
abbrev tLe:TE->TE->TE:=Nb fun i j=>decide (i<=j)
abbrev tGt:TE->TE->TE:=Nb fun i j=>decide (j<i)
abbrev tGe:TE->TE->TE:=Nb fun i j=>decide (j<=i)
abbrev Zp:TE->TE->TE:=Nb fun i j=>decide (i=j)
abbrev Zq:TE->TE->TE:=Nb fun i j=>!decide (i=j)
def tB (t:TE):TT:=fun σ H Q=>t σ H fun x H1=>∃ c,x=.bl c/\Q c H1
theorem d8 {e:Expr}{t:TE}(h:PE X e t)(he:∀ whole,isTrue e X.env whole=(do let v <-whole;standAt e.pos;holding [v] (truthy v)):=by intro _;rfl):PT X e (tB t):=by
 intro pins s σ H Q I hw;refine isTrue_plain (cH (h pins s σ H _ I hw) fun v s1 ⟨x,H1,I1,r1,q1⟩=>?_) (he _);obtain⟨d,rfl,q⟩:=q1;cases r1;exact wpAny_truthy_bool ⟨H1,I1,q⟩
variable {tA WE:TT} {rest:List Expr}
def Xa (t u:TT):TT:=fun σ H Q=>t σ H fun c H1=>if c=true then u σ H1 Q else Q false H1
def Zr (t u:TT):TT:=fun σ H Q=>t σ H fun c H1=>if c=true then Q true H1 else u σ H1 Q
def Xb (t:TT):TT:=fun σ H Q=>t σ H fun c H1=>Q (!c) H1
theorem vA (ha:PT X a tA):PW X (.BoolOp .And [a] pos) tA:=by
 intro wh pins s σ H Q I h;refine isTrue_and (cH (ha pins s σ H Q I h) fun c s1 e=>?_);cases c with
 |true=>exact isTrue_and_nil e
 |false=>exact e
theorem JQ (ha:PT X a tA):PW X (.BoolOp .Or [a] pos) tA:=by
 intro wh pins s σ H Q I h;refine isTrue_or (cH (ha pins s σ H Q I h) fun c s1 e=>?_);cases c with
 |false=>exact isTrue_or_nil e
 |true=>exact e
theorem xq (ha:PT X a tA)(hb:PW X (.BoolOp .And (b::rest) pos) WE):PW X (.BoolOp .And (a::b::rest) pos) (Xa tA WE):=by
 intro wh pins s σ H Q I h;refine isTrue_and (cH (ha pins s σ H _ I h) fun c s1 ⟨H1,I1,q1⟩=>?_);cases c with
 |true=>exact hb wh pins s1 σ H1 Q I1 q1
 |false=>exact⟨H1,I1,q1⟩
theorem Mt (ha:PT X a tA)(hb:PW X (.BoolOp .Or (b::rest) pos) WE):PW X (.BoolOp .Or (a::b::rest) pos) (Zr tA WE):=by
 intro wh pins s σ H Q I h;refine isTrue_or (cH (ha pins s σ H _ I h) fun c s1 ⟨H1,I1,q1⟩=>?_);cases c with
 |true=>exact⟨H1,I1,q1⟩
 |false=>exact hb wh pins s1 σ H1 Q I1 q1
theorem mX (ha:PT X a tA):PT X (.UnaryOp .Not a pos) (Xb tA):=by
 intro pins s σ H Q I h;exact isTrue_not (ha pins s σ H (fun c H1=>Q (!c) H1) I h)
def Vl (ta tb:TE):TE:=fun σ H Q=>ta σ H fun x H1=>∃ c,x=.bl c/\if c=true then tb σ H1 Q else Q (.bl false) H1
def Xc (ta tb:TE):TE:=fun σ H Q=>ta σ H fun x H1=>∃ c,x=.bl c/\if c=true then Q (.bl true) H1 else tb σ H1 Q
def Vm (ta:TE):TE:=fun σ H Q=>ta σ H fun x H1=>∃ c,x=.bl c/\Q (.bl (!c)) H1
theorem oy {op}{t:TE}(h:PE X a t):PE X (.BoolOp op [a] pos) t:=fun pins s σ H Q I hw=>BoolOp_one (h pins s σ H Q I hw)
theorem oz (ha:PE X a ta)(hb:PE X (.BoolOp .And (b::rest) pos) tb):PE X (.BoolOp .And (a::b::rest) pos) (Vl ta tb):=by
 intro pins s σ H Q I h;refine BoolOp_and (cH (ha pins s σ H _ I h) fun v s1 ⟨x,H1,I1,r1,q1⟩=>?_);obtain⟨c,rfl,q1⟩:=q1;cases r1;refine wpAny_truthy_bool ?_;cases c with
 |true=>exact hb pins s1 σ H1 Q I1 q1
 |false=>exact⟨.bl false,H1,I1,rfl,q1⟩
theorem Vn (ha:PE X a ta)(hb:PE X (.BoolOp .Or (b::rest) pos) tb):PE X (.BoolOp .Or (a::b::rest) pos) (Xc ta tb):=by
 intro pins s σ H Q I h;refine BoolOp_or (cH (ha pins s σ H _ I h) fun v s1 ⟨x,H1,I1,r1,q1⟩=>?_);obtain⟨c,rfl,q1⟩:=q1;cases r1;refine wpAny_truthy_bool ?_;cases c with
 |false=>exact hb pins s1 σ H1 Q I1 q1
 |true=>exact⟨.bl true,H1,I1,rfl,q1⟩
theorem Tz (ha:PE X a ta):PE X (.UnaryOp .Not a pos) (Vm ta):=by
 intro pins s σ H Q I h;refine UnaryOp_ (cH (ha pins s σ H _ I h) fun v s1 ⟨x,H1,I1,r1,q1⟩=>?_);obtain⟨c,rfl,q1⟩:=q1;cases r1;exact not_of (wpAny_truthy_bool ⟨.bl (!c),H1,I1,rfl,q1⟩)
def Zs (t:TT)(ta tb:TE):TE:=fun σ H Q=>t σ H fun c H1=>if c=true then ta σ H1 Q else tb σ H1 Q
theorem lC {c:Expr}(hc:PT X c tA)(ha:PE X a ta)(hb:PE X b tb):PE X (.IfExp c a b pos) (Zs tA ta tb):=by
 intro pins s σ H Q I h;refine wpAny_IfExp (cH (hc pins s σ H _ I h) fun d s1 ⟨H1,I1,q1⟩=>?_);cases d with
 |true=>exact ha pins s1 σ H1 Q I1 q1
 |false=>exact hb pins s1 σ H1 Q I1 q1
end
end L2
namespace L2
open PySem PySem.Spec PyProof.Rows
def aQ (K:Frag)(H:Hp)(a:Addr)(xs:List V):Prop :=
 Rd H a (.lst xs) \/
  ∃(o:Obj)(its:Array Value)(n:Nat),K.lookup a=some o/\o.cls=.type "list"/\o.dict=none/\o.data=.seq its n/\its.size<=sizeLine/\Vals xs its.toList
def qk (K:Frag)(H:Hp)(a:Addr)(xs:List V):Prop :=
 Rd H a (.tup xs) \/
  ∃(o:Obj)(its:Array Value)(n:Nat),K.lookup a=some o/\o.cls=.type "tuple"/\o.data=.seq its n/\its.size<=sizeLine/\Vals xs its.toList
def Xd:Value->Option V
 |.none=>some .non
 |.bool b=>some (.bl b)
 |.int i _=>some (.int i)
 |.str x _=>some (.str x)
 |.bytes b _=>some (.OT b)
 |.float b _=>some (.flt b)
 |.ref a=>some (.ref a)
 |.type n=>some (.ty n)
 |_=>none
theorem RelV.abs {x:V}{u:Value}(r:RelV x u):Xd u=some x:=by
 cases x with
 |non=>cases r;rfl
 |bl _=>cases r;rfl
 |int _=>obtain⟨t,rfl⟩:=r;rfl
 |str _=>obtain⟨t,rfl⟩:=r;rfl
 |OT _=>obtain⟨t,rfl⟩:=r;rfl
 |flt _=>obtain⟨t,rfl⟩:=r;rfl
 |ref _=>cases r;rfl
 |ty _=>cases r;rfl
theorem RelV.inj {x y:V}{u:Value}(r:RelV x u)(q:RelV y u):x=y:=Option.some.inj (r.abs.symm.trans q.abs)
theorem Vals.inj:∀{xs ys:List V} {us:List Value},Vals xs us->Vals ys us->xs=ys
 |_,_,_,.nil,.nil=>rfl
 |_,_,_,.cons r t,.cons r' t'=>by rw[r.inj r',Vals.inj t t']
section
variable {X:Cx} {pins:List (Addr×Obj)} {σ:St} {H:Hp} {s:Shared} {a:Addr} {xs ys:List V}
theorem aQ.of {K:Frag}(h:H a=some (.lst xs)):aQ K H a xs:=.inl (.inl h)
theorem qk.of {K:Frag}(h:H a=some (.tup xs)):qk K H a xs:=.inl (.inl h)
theorem Inv.list (I:Inv X pins σ H s)(h:aQ X.K H a xs):∃ its:List Value,Vals xs its/\PlainL s.heap a its.toArray/\xs.length<=sizeLine:=by
 rcases h with h|⟨o,its,n,hk,hc,hd,hs,hz,r⟩
 ·obtain⟨z,its,n,r,e⟩:=h.ok I.hok;exact⟨its,r,⟨_,n,e,rfl,rfl,rfl⟩,z⟩
 ·refine⟨its.toList,r,⟨o,n,I.vy a o hk,hc,hd,by simpa using hs⟩,?_⟩;have e:=r.length;simp only [Array.length_toList]at e;omega
theorem Inv.tuple (I:Inv X pins σ H s)(h:qk X.K H a xs):∃ its:List Value,Vals xs its/\IsTup s.heap a its.toArray/\xs.length<=sizeLine:=by
 rcases h with h|⟨o,its,n,hk,hc,hs,hz,r⟩
 ·obtain⟨z,its,r,p⟩:=h.ok I.hok;exact⟨its,r,p,z⟩
 ·refine⟨its.toList,r,⟨o,I.vy a o hk,hc,n,by simpa using hs⟩,?_⟩;have e:=r.length;simp only [Array.length_toList]at e;omega
theorem Inv.HN (I:Inv X pins σ H s)(h:aQ X.K H a xs)(h':aQ X.K H a ys):xs=ys:=by
 obtain⟨its,r,⟨o,n,e,_,_,d⟩,_⟩:=I.list h;obtain⟨its',r',⟨o',n',e',_,_,d'⟩,_⟩:=I.list h';rw[e]at e';cases e';rw[d]at d'
 injection d' with d1 _
 have:its=its':=by simpa using congrArg Array.toList d1
 subst this;exact r.inj r'
end
abbrev Cx.wish (X:Cx)(E:Value->Shared->Prop):Cx:={ X with xe:=E }
abbrev Cx.U1 (X:Cx):Cx:=X.wish fun _ _=>False
theorem Cx.Ok.wish {X:Cx}(ok:X.Ok)(E:Value->Shared->Prop):(X.wish E).Ok :=
 ⟨ok.mod,ok.kind,ok.glob,ok.blt,ok.above,ok.inj,ok.has,ok.cab,ok.hd,ok.frames,ok.WC,ok.WD,ok.bs,ok.Q4,ok.OV,ok.OW,ok.Ax,ok.Tv⟩
theorem Cx.Ok.qq {X:Cx}{E:Value->Shared->Prop}(ok:(X.wish E).Ok):X.Ok :=
 ⟨ok.mod,ok.kind,ok.glob,ok.blt,ok.above,ok.inj,ok.has,ok.cab,ok.hd,ok.frames,ok.WC,ok.WD,ok.bs,ok.Q4,ok.OV,ok.OW,ok.Ax,ok.Tv⟩
section
variable {X:Cx} {pins:List (Addr×Obj)} {σ:St} {H:Hp} {s:Shared} {E:Value->Shared->Prop}
theorem Inv.wish (I:Inv X pins σ H s)(E:Value->Shared->Prop):Inv (X.wish E) pins σ H s:=⟨I.ok.wish E,I.os,I.bare,I.base,I.loc,I.cell,I.free,I.sN,I.pin,I.hok,I.len⟩
theorem Inv.qq (I:Inv (X.wish E) pins σ H s):Inv X pins σ H s:=⟨I.ok.qq,I.os,I.bare,I.base,I.loc,I.cell,I.free,I.sN,I.pin,I.hok,I.len⟩
theorem SP.qq {D:Ends}{f:Flow}{s':Shared}(h:SP (X.wish E) pins D f s'):SP X pins D f s':=by
 cases f with
 |next=>obtain⟨σ',H',I,q⟩:=h;exact⟨σ',H',I.qq,q⟩
 |brk=>obtain⟨σ',H',I,q⟩:=h;exact⟨σ',H',I.qq,q⟩
 |cont=>obtain⟨σ',H',I,q⟩:=h;exact⟨σ',H',I.qq,q⟩
 |ret u=>obtain⟨v,σ',H',I,r,q⟩:=h;exact⟨v,σ',H',I.qq,r,q⟩
theorem HM.U1 {st:List Stmt}{t:TS}(h:HM X.U1 st t):HM X st t:=fun pins s σ H D I hw =>
 wpAny_mono (h pins s σ H D (I.wish _) hw) (fun _ _ q=>q.qq) fun _ _ z=>False.elim z
end
section
variable {X:Cx} {st:Stmt} {rest:List Stmt} {t u:TS} {e:Expr} {te:TE} {pos:Pos}
def Vo:TS:=fun D σ H=>D.nx σ H
def Rh (t u:TS):TS:=fun D σ H=>t { D with nx:=u D } σ H
theorem aN:HM X [] Vo:=fun _ _ σ H _ I h=>wpAny_execs_nil ⟨σ,H,I,h⟩
theorem ag (h1:PS X st t)(h2:HM X rest u):HM X (st::rest) (Rh t u):=by
 intro pins s σ H D I h;refine wpAny_execs_cons (cH (h1 pins s σ H { D with nx:=u D } I h) fun f s1 q=>?_);cases f with
 |next =>
  obtain⟨σ',H',I',q⟩:=q;exact h2 pins s1 σ' H' D I' q
 |ret v=>exact q
 |brk=>exact q
 |cont=>exact q
theorem aj (h1:PS X st t):HM X [st] t:=by
 intro pins s σ H D I h;refine wpAny_execs_cons (cH (h1 pins s σ H D I h) fun f s1 q=>?_);cases f with
 |next=>exact wpAny_execs_nil q
 |ret v=>exact q
 |brk=>exact q
 |cont=>exact q
theorem Inv.quiet {pins:List (Addr×Obj)}{σ:St}{H:Hp}{s:Shared}(I:Inv X pins σ H s):interactive X.env=false:=by simp[interactive,I.ok.kind]
def Vp (te:TE):TS:=fun D σ H=>te σ H fun _ H1=>D.nx σ H1
theorem bV (he:PE X e te)(hs:swapsWith e none pos.line X.env=pure false:=by rfl):PS X (.Expr e pos) (Vp te):=by
 intro pins s σ H D I h;exact wpAny_Expr_any (cH (he pins s σ H _ I h) fun v s1 ⟨x,H1,I1,r1,q1⟩=>⟨σ,H1,I1,q1⟩) I.quiet hs
def Xe (te:TE):TS:=fun D σ H=>te σ H D.rt
theorem aC (he:PE X e te):PS X (.Return (some e) pos) (Xe te):=by
 intro pins s σ H D I h;exact wpAny_Return_some (cH (he pins s σ H _ I h) fun v s1 ⟨x,H1,I1,r1,q1⟩=>⟨x,σ,H1,I1,r1,q1⟩)
def Xf (c:TT)(t u:TS):TS:=fun D σ H=>c σ H fun b H1=>if b=true then t D σ H1 else u D σ H1
theorem bM {c:Expr}{a b:List Stmt}{tc:TT}(hc:PT X c tc)(ha:HM X a t)(hb:HM X b u):PS X (.If c a b pos) (Xf tc t u):=by
 intro pins s σ H D I h;refine wpAny_If (cH (hc pins s σ H _ I h) fun d s1 ⟨H1,I1,q1⟩=>?_);cases d with
 |true=>exact ha pins s1 σ H1 D I1 q1
 |false=>exact hb pins s1 σ H1 D I1 q1
def TB:TS:=fun _ _ _=>False
theorem jU:PS X st TB:=fun _ _ _ _ _ _ h=>h.elim
end
abbrev TG:=V->St->Hp->(St->Hp->Prop)->Prop
abbrev Ri:=List V->St->Hp->(St->Hp->Prop)->Prop
def PG (X:Cx)(target:Expr)(t:TG):Prop :=
 ∀(pins:List (Addr×Obj)) (s:Shared) (σ:St) (H:Hp) (v:V) (u:Value) (Q:St->Hp->Prop),Inv X pins σ H s->RelV v u->t v σ H Q ->
  wpAny (model X.prog X.w) X.A (assign target X.env u) (fun _ s'=>∃ σ' H',Inv X pins σ' H' s'/\Q σ' H') X.xe s
def WG (X:Cx)(ts:List Expr)(t:Ri):Prop :=
 ∀(pins:List (Addr×Obj)) (s:Shared) (σ:St) (H:Hp) (vs:List V) (us:List Value) (Q:St->Hp->Prop),Inv X pins σ H s->Vals vs us->t vs σ H Q ->
  wpAny (model X.prog X.w) X.A (assignInOrder ((assignEach ts X.env).map (·.2)) us) (fun _ s'=>∃ σ' H',Inv X pins σ' H' s'/\Q σ' H') X.xe s
abbrev TC:=V->V->V->Hp->(Hp->Prop)->Prop
def Vq (X:Cx)(t:TC):Prop :=
 ∀(pins:List (Addr×Obj)) (s:Shared) (σ:St) (H:Hp) (o i v:V) (ov iv u:Value) (Q:Hp->Prop),Inv X pins σ H s->RelV o ov->RelV i iv->RelV v u->t o i v H Q ->
  wpAny (model X.prog X.w) X.A (setItem ov iv u) (fun _ s'=>∃ H',Inv X pins σ H' s'/\Q H') X.xe s
abbrev WH:=V->V->Hp->VK->Prop
def YB (X:Cx)(op:Operator)(t:WH):Prop :=
 ∀(pins:List (Addr×Obj)) (s:Shared) (σ:St) (H:Hp) (x y:V) (v u:Value) (Q:VK),Inv X pins σ H s->RelV x v->RelV y u->t x y H Q ->
  wpAny (model X.prog X.w) X.A (inplaceOp op v u) (EP X pins σ Q) X.xe s
section
variable {X:Cx} {pos:Pos}
def HP (i:Nat):TG:=fun v σ H Q=>Q (σ.set i (some v)) H
theorem aK {i:Nat}{x:Str}(hN:X.N.Nodup)(hi:X.N[i]? = some x)(hx:Loc X.env.scope x)(hf:X.fn x=true\/X.env.scope.names.lookup x=some .local:=by first|exact .inl rfl|exact .inr rfl|assumption):PG X (.Name x pos) (HP i):=by
 intro pins s σ H v u Q I r h;exact wpAny_assign_Name (Bs I hN hi hx r (fun s' I'=>⟨_,H,I',h⟩) hf)
def Xg:Ri:=fun vs σ H Q=>vs=[]/\Q σ H
inductive OY (t:TG)(u:Ri)(vs:List V)(σ:St)(H:Hp)(Q:(St->Hp->Prop)):Prop
 |mk (v:_) (r:_) (ey:vs=v::r) (eA:t v σ H fun σ' H'=>u r σ' H' Q):OY t u vs σ H Q
def Vr (t:TG)(u:Ri):Ri:=fun vs σ H Q=>OY t u vs σ H Q
theorem jH:WG X [] Xg:=by
 intro pins s σ H vs us Q I r h;obtain⟨e,h⟩:=h;subst e;cases r;exact assignInOrder_nil ⟨σ,H,I,h⟩
theorem aU {e:Expr}{es:List Expr}{t:TG}{u:Ri}(h1:PG X e t)(h2:WG X es u)
  (hs:(assignEach (e::es) X.env).map (·.2)=assign e X.env::(assignEach es X.env).map (·.2):=by rfl):WG X (e::es) (Vr t u):=by
 intro pins s σ H vs us Q I r h;obtain⟨v,vr,e1,h⟩:=h;subst e1;cases r with
 |cons r rr =>
  rw[hs];refine assignInOrder_cons (cH (h1 pins s σ H _ _ _ I r h) fun _ s1 ⟨σ1,H1,I1,q1⟩=>?_);exact h2 pins s1 σ1 H1 _ _ Q I1 rr q1
inductive Sx (K:Frag)(n:Nat)(t:Ri)(v:V)(σ:St)(H:Hp)(Q:(St->Hp->Prop)):Prop
 |mk (a:_) (xs:_) (ey:v=.ref a) (eA:qk K H a xs) (gn:xs.length=n) (my:t xs σ H Q):Sx K n t v σ H Q
def Xh (K:Frag)(n:Nat)(t:Ri):TG:=fun v σ H Q=>Sx K n t v σ H Q
theorem mY {es:List Expr}{k:Nat}{t:Ri}{n:Nat}(hc:X.calm=true)(h:WG X es t)
  (hn:(assignEach es X.env).length=n:=by rfl) (hst:(assignEach es X.env).findIdx? (·.1)=none:=by rfl):PG X (.Tuple es k pos) (Xh X.K n t):=by
 intro pins s σ H v u Q I r hw;obtain⟨a,xs,e1,hq,hl,hw⟩:=hw;subst e1;cases r;obtain⟨its,rv,ht,hz⟩:=I.tuple hq;refine assign_Tuple_tuple (I.ok.hd hc) ht (by simp[hn,<-hl,rv.length]) hst fun h' hx=>?_;have I1:Inv X pins σ H { s with heap:=h' }:=I.kept (t':=s.toks) fun b o e=>hx b o (Nat.ne_of_lt (Heap.lt_size e)) e;exact h pins _ σ H xs _ Q I1 (by simpa using rv) hw
def Xi (to ti:TE)(t:TC):TG:=fun v σ H Q=>to σ H fun o H1=>ti σ H1 fun i H2=>t o i v H2 fun H3=>Q σ H3
theorem Bu {o i:Expr}{to ti:TE}{t:TC}(ho:PE X o to)(hi:PE X i ti)(hs:Vq X t)
  (ha:∀ v,assign (.Subscript o i pos) X.env v=(do
   let ov <-holding [v] (eval o X.env)
   let iv <-holding [v,ov] (eval i X.env)
   standAt pos
   holding [v,ov,iv] (setItem ov iv v)
   release [v,ov,iv] []):=by intro _;rfl):PG X (.Subscript o i pos) (Xi to ti t):=by
 intro pins s σ H v u Q I r h;rw[ha];refine wpAny_bind (wpAny_holding (cH (ho pins s σ H _ I h) fun ov s1 ⟨x,H1,I1,r1,q1⟩=>?_));refine wpAny_bind (wpAny_holding (cH (hi pins s1 σ H1 _ I1 q1) fun iv s2 ⟨y,H2,I2,r2,q2⟩=>?_));refine wpAny_bind (wpAny_standAt (wpAny_bind (wpAny_holding (cH (hs pins s2 σ H2 x y v ov iv u _ I2 r1 r2 r q2) fun _ s3 ⟨H3,I3,q3⟩=>?_))));exact wpAny_release ⟨σ,H3,I3,q3⟩
def TF (te:TE)(g:TG):TS:=fun D σ H=>te σ H fun x H1=>g x σ H1 D.nx
theorem mZ {tg e:Expr}{te:TE}{g:TG}(he:PE X e te)(hg:PG X tg g)(hs:swapsWithSole [tg] e pos.line X.env=pure false:=by rfl)(hw:swappedStores [tg] e X.env=pure none:=by rfl)
  (h1:(assignEach [tg] X.env).map (·.2)=[assign tg X.env]:=by rfl):PS X (.Assign [tg] e pos) (TF te g):=by
 intro pins s σ H D I h;refine wpAny_Assign_stores (cH (he pins s σ H _ I h) fun v s1 ⟨x,H1,I1,r1,q1⟩=>?_) hs hw;rw[h1];exact cH (hg pins s1 σ H1 x v _ I1 r1 q1) fun _ s2 q=>q
theorem aD {i:Nat}{x:Str}{e:Expr}{te:TE}{pos':Pos}(hN:X.N.Nodup)(hi:X.N[i]? = some x)(hx:Loc X.env.scope x)(he:PE X e te)(hs:swapsWith e (some (.Name x pos')) pos.line X.env=pure false:=by rfl)(hf:X.fn x=true\/X.env.scope.names.lookup x=some .local:=by first|exact .inl rfl|exact .inr rfl|assumption) :
  PS X (.Assign [.Name x pos'] e pos) (TF te (HP i)):=by
 intro pins s σ H D I h;refine wpAny_Assign_Name (cH (he pins s σ H _ I h) fun v s1 ⟨y,H1,I1,r1,q1⟩=>?_) hs;exact Bs I1 hN hi hx r1 (fun s2 I2=>⟨_,H1,I2,q1⟩) hf
def Xj (i:Nat)(te:TE)(ti:WH):TS:=fun D σ H=>∃ x,σ[i]? = some (some x)/\te σ H fun y H1=>ti x y H1 fun z H2=>D.nx (σ.set i (some z)) H2
theorem TJ {i:Nat}{x:Str}{e:Expr}{te:TE}{op:Operator}{ti:WH}{pos':Pos}(hN:X.N.Nodup)(hi:X.N[i]? = some x)(hx:Loc X.env.scope x)(he:PE X e te)(ho:YB X op ti)(hf:X.fn x=true\/X.env.scope.names.lookup x=some .local:=by first|exact .inl rfl|exact .inr rfl|assumption) :
  PS X (.AugAssign (.Name x pos') op e pos) (Xj i te ti):=by
 intro pins s σ H D I h;obtain⟨v,e1,h⟩:=h;obtain⟨m,hn,hl⟩:=I.loc;have Xk:Vi X.env.scope x:=by rcases hx with k|k;exact .inl k;exact .inr (.inl k)
 obtain⟨u,r,l⟩:=hl i x v hi e1 Xk;refine wpAny_AugAssign_Name ?_;have go:wpAny (model X.prog X.w) X.A (eval e X.env) (fun w s₂=>wpAny (model X.prog X.w) X.A (inplaceOp op u w) (fun r s₃=>wpAny (model X.prog X.w) X.A (storeName X.env x r) (fun _=>SP X pins D .next) X.xe s₃) X.xe s₂) X.xe s:=by
  refine cH (he pins s σ H _ I h) fun w s1 ⟨y,H1,I1,r1,q1⟩=>?_;refine cH (ho pins s1 σ H1 v y u w _ I1 r r1 q1) fun z s2 ⟨zv,H2,I2,r2,q2⟩=>?_;exact Bs I2 hN hi hx r2 (fun s3 I3=>⟨_,H2,I3,q2⟩) hf
 rcases l with ⟨hk,hm⟩|⟨hk,c,hc,hcell⟩
 ·exact wpAny_loadName_local I.ok.kind hk hn hm go
 ·rcases hk with hk|hk
  ·exact wpAny_loadName_cell I.ok.kind hk hc hcell go
  ·rcases hx with k|k
   ·have:X.env.scope.names.lookup x=some .free:=hk;rw[k]at this;cases this
   ·have:X.env.scope.names.lookup x=some .free:=hk;rw[k]at this;cases this
def Zt (f:Int->Int->Int):WH:=fun x y H Q=>∃ i j,x=.int i/\y=.int j/\Q (.int (f i j)) H
theorem TK:YB X .Add (Zt fun i j=>i+j):=by
 intro pins s σ H x y v u Q I r1 r2 h;obtain⟨i,j,e1,e2,q⟩:=h;subst e1;subst e2;obtain⟨t,rfl⟩:=r1;obtain⟨t',rfl⟩:=r2;exact iadd_int ⟨.int _,H,I.tok _,⟨_,rfl⟩,q⟩
end
section
variable {X:Cx} {pos:Pos}
def TL (c:TT)(tb:TS):TS:=fun D σ H=>∃ W:Nat->St->Hp->Prop,(∃ m,W m σ H)/\∀ m σ H,W m σ H ->
 c σ H fun b H1=>if b=true then ∃ N:St->Hp->Prop,(∀ σ' H',N σ' H'->∃ m',m'<m/\W m' σ' H')/\tb { D with nx:=N,ct:=N,bk:=D.nx } σ H1 else D.nx σ H1
theorem OZ {c:Expr}{body:List Stmt}{tc:TT}{tb:TS}(hp:PassesOwn (model X.prog X.w) X.A X.env X.xe)(hc:PT X c tc)(hb:HM X body tb):PS X (.While c body [] pos) (TL tc tb):=by
 intro pins s σ H D I h;obtain⟨W,⟨m0,w0⟩,turn⟩:=h;refine wpAny_While (codeAny_whileLoop (fun n s'=>∃ σ' H',Inv X pins σ' H' s'/\W n σ' H') ?_ m0 ⟨σ,H,I,w0⟩);rintro n s1 ⟨σ1,H1,I1,w1⟩;refine wpAny_passesOwn hp (cH (hc pins s1 σ1 H1 _ I1 (turn n σ1 H1 w1)) fun b s2 ⟨H2,I2,q2⟩=>?_);cases b with
 |true =>
  obtain⟨N,hN,q2⟩:=q2;rw[if_pos rfl];refine wpAny_passesOwn hp (cH (hb pins s2 σ1 H2 _ I2 q2) fun f s3 q3=>?_);cases f with
  |next =>
   obtain⟨σ3,H3,I3,n3⟩:=q3;obtain⟨m',hm,w3⟩:=hN σ3 H3 n3;exact⟨m',hm,σ3,H3,I3,w3⟩
  |cont =>
   obtain⟨σ3,H3,I3,n3⟩:=q3;obtain⟨m',hm,w3⟩:=hN σ3 H3 n3;exact⟨m',hm,σ3,H3,I3,w3⟩
  |brk=>exact q3
  |ret v=>exact q3
 |false =>
  rw[if_neg Bool.false_ne_true];exact wpAny_execs_nil ⟨σ1,H2,I2,q2⟩
end
structure It where
 go:Nat->Hp->Prop
 O0:Nat->Hp->V->Hp->Prop
 stop:Nat->Hp->Prop
def lD (X:Cx)(pins:List (Addr×Obj))(H:Hp)(b:Addr):Prop :=
 H b=none/\b≠X.env.locals/\b ∉ X.fs/\(b∈X.ex\/X.s₀.heap.objs.size<=b)/\(∀ x c,X.env.cells.lookup x=some c->c≠b)/\∀ p∈X.pn++pins,p.1≠b
theorem Inv.HQ {X:Cx}{pins:List (Addr×Obj)}{σ:St}{H H':Hp}{s:Shared}{b:Addr}(I:Inv X pins σ H s)(hb:s.heap.objs.size<=b)(hn:H' b=none):lD X pins H' b:=by
 refine⟨hn,Nat.ne_of_gt (Nat.lt_of_lt_of_le I.lt hb),I.W8 hb,.inr (Nat.le_trans I.sz hb),fun x c e z=>?_,fun p hp z=>?_⟩
 ·obtain⟨v,q⟩:=I.cell x c e;exact absurd (Nat.lt_of_lt_of_le q.lt (by rw[z];exact hb)) (Nat.lt_irrefl _)
 ·exact absurd (Nat.lt_of_lt_of_le (Heap.lt_size (I.pin p hp).1) (by rw[z];exact hb)) (Nat.lt_irrefl _)
structure Turn (P:Program)(w:World)(K:Frag)(tg:Expr)(J:It)(fp:List Addr)(it:Addr)(tn:Nat->Heap->Prop):Prop where
 mem:it∈fp
 obj:∀ i h,tn i h->∀ b∈fp,∃ o,h.get? b=some o/\∀ v,o.data≠.cell v
 keep:∀ i h h',tn i h->(∀ b∈fp,∀ o,h.get? b=some o->h'.get? b=some o)->tn i h'
 item:∀(X:Cx),X.prog=P->X.w=w->X.K=K->X.calm=true->∀(i:Nat)(pins:List (Addr×Obj)) (s:Shared) (σ:St) (H:Hp) (E:Value->Shared->Prop),Inv X pins σ H s->(∀ b∈fp,lD X pins H b)->tn i s.heap->J.go i H ->
  wpAny (model P w) X.A (pyNext (.ref it)) (fun r s1=>∃ u,r=some u /\
   wpAny (model P w) X.A (letOwnedTupleGo tg (.ref it) u) (fun _ s2=>∃ x H',Inv X pins σ H' s2/\RelV x u/\J.O0 i H x H'/\tn (i+1) s2.heap/\∀ b∈fp,H' b=none) E s1) E s
 done:∀(X:Cx),X.prog=P->X.w=w->X.K=K->X.calm=true->∀(i:Nat)(pins:List (Addr×Obj)) (s:Shared) (σ:St) (H:Hp) (E:Value->Shared->Prop),Inv X pins σ H s->(∀ b∈fp,lD X pins H b)->tn i s.heap->J.stop i H ->
  wpAny (model P w) X.A (pyNext (.ref it)) (fun r s1=>r=none/\Inv X pins σ H s1) E s
 self:∀(A:Around)(i:Nat)(s:Shared)(Q:Value->Shared->Prop)(E:Value->Shared->Prop),tn i s.heap->Q (.ref it) s->wpAny (model P w) A (pyIter (.ref it)) Q E s
abbrev TI:=St->Hp->(It->Hp->Prop)->Prop
def PIE (X:Cx)(pins:List (Addr×Obj))(σ:St)(tg:Expr)(R:It->Hp->Prop)(itv:Value)(s2:Shared):Prop :=
 ∃(it:Addr)(fp:List Addr)(tn:Nat->Heap->Prop)(J:It)(H':Hp),itv=.ref it/\Inv X pins σ H' s2/\Turn X.prog X.w X.K tg J fp it tn/\tn 0 s2.heap/\(∀ b∈fp,lD X pins H' b)/\R J H'
def PI (X:Cx)(tg iter:Expr)(wi:TI):Prop :=
 ∀(pins:List (Addr×Obj)) (s:Shared) (σ:St) (H:Hp) (R:It->Hp->Prop),Inv X pins σ H s->wi σ H R ->
  wpAny (model X.prog X.w) X.A (eval iter X.env) (fun v s1=>wpAny (model X.prog X.w) X.A (pyIter v) (PIE X pins σ tg R) X.xe s1) X.xe s
theorem Mu {M:Model}{A:Around}{E:Value->Shared->Prop}{s:Shared}{tg:Expr}{it:Addr}{u:Value}{o:Obj}{n:String}{vs:Array Value}{Q:Unit->Shared->Prop}(ho:s.heap.get? it=some o)(hc:o.cls=.type n)(hd:o.data=.fields vs)
  (hn:["enumerate","zip","dict_itemiterator","dict_reverseitemiterator","odict_iterator","itertools.zip_longest","itertools.pairwise"].contains n=false) (hQ:Q () s):wpAny M A (letOwnedTupleGo tg (.ref it) u) Q E s:=by
 unfold letOwnedTupleGo;cases tg <;> first
  |exact wpAny_pure hQ
  |(cases u <;> first
    |exact wpAny_pure hQ
    |(refine wpAny_bind (wpAny_load ho ?_);rw[hc,hd];show wpAny M A (if(["enumerate","zip","dict_itemiterator","dict_reverseitemiterator","odict_iterator","itertools.zip_longest","itertools.pairwise"].contains n&&vs[0]? == some (rawInt _))=true then _ else _) Q E s;rw[if_neg (by intro h;rw[hn,Bool.false_and]at h;cases h)];exact wpAny_pure hQ))
def U2 (K:Frag)(a:Addr):It :=
 ⟨fun i H=>∃ xs x,aQ K H a xs/\xs[i]? = some x,fun i H x H'=>H'=H/\∀ xs,aQ K H a xs->xs[i]? = some x,fun i H=>∃ xs,aQ K H a xs/\xs.length<=i⟩
def Zu (K:Frag)(a:Addr):It :=
 ⟨fun i H=>∃ xs x,qk K H a xs/\xs[i]? = some x,fun i H x H'=>H'=H/\∀ xs,qk K H a xs->xs[i]? = some x,fun i H=>∃ xs,qk K H a xs/\xs.length<=i⟩
def Sy (lo:Int)(n:Nat):It:=⟨fun i _=>i<n,fun i H x H'=>H'=H/\x=.int (lo+i),fun i _=>n<=i⟩
theorem Nc {P:Program}{w:World}{K:Frag}{tg:Expr}(a it:Addr):Turn P w K tg (U2 K a) [it] it (fun i h=>h.IsListIter it a i) where
 mem:=by simp
 obj:=fun i h st b hb=>by
  have e:b=it:=by simpa using hb
  subst e;obtain⟨o,e,c,d⟩:=st;exact⟨o,e,fun v z=>by rw[d]at z;cases z⟩
 keep:=fun i h h' st k=>st.at fun o e=>k it (by simp) o e
 item:=by
  intro X hP hw hK hc i pins s σ H E I hf st hg;subst hP hw hK;obtain⟨xs,x,hq,hx⟩:=hg;obtain⟨its,rv,p,hz⟩:=I.list hq;obtain⟨u,hu,ru⟩:=rv.get hx;obtain⟨f0,f1,f2,f3,f4,f5⟩:=hf it (by simp);refine wpAny_pyNext_list_item st p.isList (x:=u) (by simpa using hu) fun h' st' sb=>?_;have I1:Inv X pins σ H { s with heap:=h' }:=I.turned (t':=s.toks) (fun b o hb e=>(sb.2 b hb).trans e) f0 f1 f3 f4 f5;obtain⟨o,e,c,d⟩:=id st';exact⟨u,rfl,Mu (s:={ s with heap:=h' }) e c d (by decide) ⟨x,H,I1,ru,⟨rfl,fun ys hy=>by rw[I.HN hy hq];exact hx⟩,st',fun b hb=>(hf b hb).1⟩⟩
 done:=by
  intro X hP hw hK hc i pins s σ H E I hf st hg;subst hP hw hK;obtain⟨xs,hq,hx⟩:=hg;obtain⟨its,rv,p,hz⟩:=I.list hq;obtain⟨f0,f1,f2,f3,f4,f5⟩:=hf it (by simp);have hl:=rv.length;exact wpAny_pyNext_list_end (I.ok.hd hc) st p.isList (by simp;omega) fun h' eb=>⟨rfl,I.turned (t':=s.toks) (fun b o hb e=>eb b o hb e) f0 f1 f3 f4 f5⟩
 self:=fun _ _ _ _ _ st h=>wpAny_pyIter_listiter st h
theorem JR {P:Program}{w:World}{K:Frag}{tg:Expr}(it:Addr)(lo:Int)(n:Nat):Turn P w K tg (Sy lo n) [it] it (fun i h=>IsRangeIter h it (lo+(i:Nat) * 1) ((n:Int)-(i:Nat)) 1) where
 mem:=by simp
 obj:=fun i h st b hb=>by
  have e:b=it:=by simpa using hb
  subst e;exact⟨_,st,fun v z=>by
   have z':Data.fields _=Data.cell v:=z;cases z'⟩
 keep:=fun i h h' st k=>k it (by simp) _ st
 item:=by
  intro X hP hw hK hc i pins s σ H E I hf st hg;subst hP hw hK;obtain⟨f0,f1,f2,f3,f4,f5⟩:=hf it (by simp);have W:=Walks.range (prog:=X.prog) (w:=X.w) (I.ok.hd hc) it lo 1 n;refine W.item i s _ _ hg st fun v h' tk hv st' kk=>?_;obtain⟨t,rfl⟩:=hv;have I1:Inv X pins σ H { s with heap:=h',toks:=tk }:=I.turned (fun b o hb e=>kk b o (by simpa using hb) e) f0 f1 f3 f4 f5;refine⟨_,rfl,Mu (s:={ s with heap:=h',toks:=tk }) (n:="range_iterator") st' rfl rfl (by decide) ⟨.int (lo+i),H,I1,⟨t,?_⟩,⟨rfl,rfl⟩,st',fun b hb=>(hf b hb).1⟩⟩;rw[Int.mul_one]
 done:=by
  intro X hP hw hK hc i pins s σ H E I hf st hg;subst hP hw hK;obtain⟨f0,f1,f2,f3,f4,f5⟩:=hf it (by simp);exact wpAny_pyNext_range_end (I.ok.hd hc) st (by have:n<=i:=hg;omega) fun h' eb=>⟨rfl,I.turned (t':=s.toks) (fun b o hb e=>eb b o hb e) f0 f1 f3 f4 f5⟩
 self:=fun _ _ _ _ _ st h=>wpAny_pyIter_rangeiter st h
end L2
namespace L2
open PySem PySem.Spec PyProof.Rows
section
variable {X:Cx} {tg:Expr}
inductive O1 (K:Frag)(R:(It->Hp->Prop))(x:V)(H1:Hp):Prop
 |mk (a:_) (ey:x=.ref a) (eA:(∃ xs,aQ K H1 a xs)/\R (U2 K a) H1):O1 K R x H1
def Vs (K:Frag)(tl:TE):TI:=fun σ H R=>tl σ H fun x H1=>O1 K R x H1
inductive Vt (K:Frag)(R:(It->Hp->Prop))(x:V)(H1:Hp):Prop
 |mk (a:_) (ey:x=.ref a) (eA:(∃ xs,qk K H1 a xs)/\R (Zu K a) H1):Vt K R x H1
theorem mz {l:Expr}{tl:TE}(hl:PE X l tl):PI X tg l (Vs X.K tl):=by
 intro pins s σ H R I h;refine cH (hl pins s σ H _ I h) fun v s1 ⟨x,H1,I1,r1,q1⟩=>?_;obtain⟨a,e,⟨xs,hq⟩,q⟩:=q1;subst e;cases r1;obtain⟨its,rv,p,hz⟩:=I1.list hq;refine wpAny_pyIter_list p.isList ?_;refine⟨s1.heap.objs.size,[s1.heap.objs.size],_,_,H1,rfl,I1.kept (t':=s1.toks) fun b o e=>Heap.get?_push_of_some _ e,Nc a _,⟨_,Heap.get?_push_size _ rfl,rfl,rfl⟩,fun b hb=>?_,q⟩;have e:b=s1.heap.objs.size:=by simpa using hb
 subst e;exact I1.HQ (Nat.le_refl _) (I1.hok.fresh (Nat.le_refl _))
theorem HR {pins:List (Addr×Obj)}{σ:St}{H:Hp}{s:Shared}{R:It->Hp->Prop}{E:Value->Shared->Prop}{lo hi:Int}{t u v:Tok}{tk:Nat}(I:Inv X pins σ H s)(h1:-(2 ^ 62)<=lo)(h2:lo<2 ^ 62)(h3:-(2 ^ 62)<=hi)(h4:hi<2 ^ 62)
  (q:R (Sy lo (hi-lo).toNat) H):wpAny (model X.prog X.w) X.A (pyIter (.ref s.heap.objs.size)) (PIE X pins σ tg R) E { s with heap:=s.heap.push { cls:=.type "range",data:=.fields #[.int lo t,.int hi u,.int 1 v] },toks:=tk }:=by
 refine wpAny_pyIter_range (IsRange.new ..) (small_one h1 h2 h3 h4) ?_;have I1:Inv X pins σ H { s with heap:=s.heap.push { cls:=.type "range",data:=.fields #[.int lo t,.int hi u,.int 1 v] },toks:=tk }:=I.kept fun b o e=>Heap.get?_push_of_some _ e;refine⟨(s.heap.push { cls:=.type "range",data:=.fields #[.int lo t,.int hi u,.int 1 v] }).objs.size,[(s.heap.push { cls:=.type "range",data:=.fields #[.int lo t,.int hi u,.int 1 v] }).objs.size],_,_,H,rfl,
  I1.kept (t':=tk) fun b o e=>Heap.get?_push_of_some _ e,JR _ lo (hi-lo).toNat,?_,fun b hb=>?_,q⟩
 ·have e1:lo+((0:Nat):Int) * 1=lo:=by simp
  have e2:(((hi-lo).toNat:Nat):Int)-((0:Nat):Int)=Builtin.Range.rangeSize lo hi 1:=by rw[rangeSize_one];split <;> omega
  show IsRangeIter _ _ (lo+((0:Nat):Int) * 1) ((((hi-lo).toNat:Nat):Int)-((0:Nat):Int)) 1;rw[e1,e2];exact Heap.get?_push_size _ rfl
 ·have e:b=(s.heap.push { cls:=.type "range",data:=.fields #[.int lo t,.int hi u,.int 1 v] }).objs.size:=by simpa using hb
  subst e;exact I1.HQ (Nat.le_refl _) (I1.hok.fresh (Nat.le_refl _))
inductive O2 (R:(It->Hp->Prop))(vs:List V)(H1:Hp):Prop
 |mk (j:Int) (ey:vs=[.int j]) (eA:-(2 ^ 62)<=j/\j<2 ^ 62/\R (Sy 0 j.toNat) H1):O2 R vs H1
def Vu (ta:TA):TI:=fun σ H R=>ta σ H fun vs H1=>O2 R vs H1
inductive O3 (R:(It->Hp->Prop))(vs:List V)(H1:Hp):Prop
 |mk (i j:Int) (ey:vs=[.int i,.int j]) (eA:(-(2 ^ 62)<=i/\i<2 ^ 62/\-(2 ^ 62)<=j/\j<2 ^ 62)) (gn:R (Sy i (j-i).toNat) H1):O3 R vs H1
def Vv (ta:TA):TI:=fun σ H R=>ta σ H fun vs H1=>O3 R vs H1
theorem EV {a:Expr}{ta:TA}{p pos:Pos}(hg:Gl X "range")(hm:X.mg "range"=none)(ha:PA X [a] ta)(hs:starEach [a] X.env=[(false,eval a X.env)]:=by rfl):PI X tg (.Call (.Name "range" p) [a] [] pos) (Vu ta):=by
 intro pins s σ H R I h;refine Call_ (ox I hg hm boot_range (PyProof.Rows.callWith_type1 (cH (ha pos pins s σ H _ I h) fun us s1 ⟨vs,H1,I1,r1,q1⟩=>?_) hs rfl));obtain⟨j,e,q1,q2,q⟩:=q1;subst e;cases r1 with
 |cons r rr =>
  cases rr;obtain⟨t,rfl⟩:=r;exact call_range_1 (HR I1 (by omega) (by omega) q1 q2 (by simpa using q))
theorem EW {a b:Expr}{ta:TA}{p pos:Pos}(hg:Gl X "range")(hm:X.mg "range"=none)(ha:PA X [a,b] ta)(hs:starEach [a,b] X.env=[(false,eval a X.env),(false,eval b X.env)]:=by rfl)(hs2:starEach [b] X.env=[(false,eval b X.env)]:=by rfl) :
  PI X tg (.Call (.Name "range" p) [a,b] [] pos) (Vv ta):=by
 intro pins s σ H R I h;refine Call_ (ox I hg hm boot_range (PyProof.Rows.callWith_type1 (cH (ha pos pins s σ H _ I h) fun us s1 ⟨vs,H1,I1,r1,q1⟩=>?_) (by rw[hs,hs2]) (by rw[hs2];rfl)));obtain⟨i,j,e,⟨q1,q2,q3,q4⟩,q⟩:=q1;subst e;cases r1 with
 |cons r rr =>
  cases rr with
  |cons r' rr =>
   cases rr;obtain⟨t,rfl⟩:=r;obtain⟨t',rfl⟩:=r';exact call_range_2 (HR I1 q1 q2 q3 q4 q)
def Xl (wi:TI)(g:TG)(tb:TS):TS:=fun D σ H=>wi σ H fun J H1=>∃ W:Nat->Nat->St->Hp->Prop,(∃ m,W 0 m σ H1)/\∀ i m σ H,W i m σ H ->
 (J.stop i H/\D.nx σ H)\/(J.go i H/\∃ N:St->Hp->Prop,(∀ σ' H',N σ' H'->∃ m',m'<m/\W (i+1) m' σ' H')/\∀ x H',J.O0 i H x H'->g x σ H' fun σ2 H2=>tb { D with nx:=N,ct:=N,bk:=D.nx } σ2 H2)
def Bv (fp:List Addr)(h:Heap):List (Addr×Obj):=fp.filterMap fun b=>(h.get? b).map fun o=>(b,o)
theorem oB {fp:List Addr}{h:Heap}{b:Addr}{o:Obj}(hb:b∈fp)(e:h.get? b=some o):(b,o)∈Bv fp h:=List.mem_filterMap.mpr ⟨b,hb,by rw[e];rfl⟩
theorem Nd {fp:List Addr}{h:Heap}{p:Addr×Obj}(hp:p∈Bv fp h):p.1∈fp/\h.get? p.1=some p.2:=by
 obtain⟨b,hb,e⟩:=List.mem_filterMap.mp hp;cases q:h.get? b with
 |none=>rw[q]at e;cases e
 |some o =>
  rw[q]at e;have e':(b,o)=p:=Option.some.inj e;subst e';exact⟨hb,q⟩
theorem Inv.pinned {pins:List (Addr×Obj)}{σ:St}{H:Hp}{s:Shared}{fp:List Addr}(I:Inv X pins σ H s)(hf:∀ b∈fp,lD X pins H b)(ho:∀ b∈fp,∃ o,s.heap.get? b=some o/\∀ v,o.data≠.cell v):Inv X (pins++Bv fp s.heap) σ H s :=
 I.Mr fun p hp=>(mem_append.mp hp).elim (fun z=>I.pin p (mem_append_right _ z)) fun z=>by
  obtain⟨hb,e⟩:=Nd z;obtain⟨f0,f1,f2,_⟩:=hf p.1 hb;obtain⟨o,e',d⟩:=ho p.1 hb;rw[e]at e';cases e';exact⟨e,f0,f1,f2,d⟩
theorem Inv.qr {pins pl:List (Addr×Obj)}{σ:St}{H:Hp}{s:Shared}(I:Inv X (pins++pl) σ H s):Inv X pins σ H s:=I.Mr fun p hp=>I.pin p (mem_append_right _ (mem_append_left _ hp))
theorem qt {iter:Expr}{body:List Stmt}{wi:TI}{g:TG}{tb:TS}{pos:Pos}(hp:PassesOwn (model X.prog X.w) X.A X.env X.xe)(hc:X.calm=true)(hi:PI X tg iter wi)(hg:PG X tg g)(hb:HM X body tb)
  (hs:∀ x,foldedSetIterable iter X.env x=pure x:=by intro _;rfl):PS X (.For tg iter body [] pos) (Xl wi g tb):=by
 intro pins s σ H D I h;refine wpAny_For (cH (hi pins s σ H _ I h) fun v s1 h1=>cH h1 fun itv s2 h2=>?_) hs;obtain⟨it,fp,tn,J,H2,e,I2,T,st2,f2,W,⟨m0,w0⟩,turn⟩:=h2;subst e;have stat:∀{H':Hp},(∀ b∈fp,H' b=none)->∀ b∈fp,lD X pins H' b:=fun hn b hb=>⟨hn b hb,(f2 b hb).2⟩;refine codeAny_forLoop_any (fun n s'=>∃ i σ' H',Inv X pins σ' H' s'/\tn i s'.heap/\(∀ b∈fp,H' b=none)/\W i n σ' H') ?_ m0 ⟨0,σ,H2,I2,st2,fun b hb=>(f2 b hb).1,w0⟩;rintro n s3 ⟨i,σ3,H3,I3,st3,YC,w3⟩;rcases turn i n σ3 H3 w3 with ⟨stop,qn⟩|⟨go,N,hN,step⟩
 ·refine wpAny_passesOwn hp (cH (T.done X rfl rfl rfl hc i pins s3 σ3 H3 X.xe I3 (stat YC) st3 stop) fun r s4 ⟨hr,I4⟩=>?_);subst hr;exact wpAny_execs_nil ⟨σ3,H3,I4,qn⟩
 ·refine wpAny_passesOwn hp (cH (T.item X rfl rfl rfl hc i pins s3 σ3 H3 X.xe I3 (stat YC) st3 go) fun r s4 ⟨u,hr,h4⟩=>?_);subst hr;refine wpAny_passesOwn hp (cH h4 fun _ s5 ⟨x,H5,I5,r5,y5,TM,U3⟩=>?_);have Xm:=I5.pinned (stat U3) (T.obj _ _ TM);refine wpAny_passesOwn hp (cH (hg _ s5 σ3 H5 x u _ Xm r5 (step x H5 y5)) fun _ s6 ⟨σ6,H6,I6,q6⟩=>?_);refine wpAny_passesOwn hp (cH (hb _ s6 σ6 H6 _ I6 q6) fun f s7 q7=>?_);have again:∀{σ7:St} {H7:Hp},Inv X (pins++Bv fp s5.heap) σ7 H7 s7->N σ7 H7->∃ m,m<n/\∃ i σ' H',Inv X pins σ' H' s7/\tn i s7.heap/\(∀ b∈fp,H' b=none)/\W i m σ' H':=fun {σ7 H7} I7 n7=>by
   obtain⟨m',hm,w7⟩:=hN σ7 H7 n7;refine⟨m',hm,i+1,σ7,H7,I7.qr,T.keep _ _ _ TM fun b hb o e=>(I7.pin (b,o) (mem_append_right _ (mem_append_right _ (oB hb e)))).1,fun b hb=>?_,w7⟩;obtain⟨o,e,d⟩:=T.obj _ _ TM b hb;exact(I7.pin (b,o) (mem_append_right _ (mem_append_right _ (oB hb e)))).2.1
  cases f with
  |next=>obtain⟨σ7,H7,I7,n7⟩:=q7;exact again I7 n7
  |cont=>obtain⟨σ7,H7,I7,n7⟩:=q7;exact again I7 n7
  |brk=>obtain⟨σ7,H7,I7,q7⟩:=q7;exact⟨σ7,H7,I7.qr,q7⟩
  |ret v=>obtain⟨x7,σ7,H7,I7,r7,q7⟩:=q7;exact⟨x7,σ7,H7,I7.qr,r7,q7⟩
end
theorem Bx {K:Frag}{a:Addr}{xs:List V}{g:TG}{tb:TS}{D:Ends}{σ:St}{H:Hp}(Pv:Nat->St->Hp->Prop)(h0:Pv 0 σ H)(hl:∀ i σ H,i<=xs.length->Pv i σ H->aQ K H a xs)
  (hs:∀ i x σ H,xs[i]? = some x->Pv i σ H->g x σ H fun σ2 H2=>tb { D with nx:=Pv (i+1),ct:=Pv (i+1),bk:=D.nx } σ2 H2) (hd:∀ σ H,Pv xs.length σ H->D.nx σ H) :
  ∃ W:Nat->Nat->St->Hp->Prop,(∃ m,W 0 m σ H)/\∀ i m σ H,W i m σ H ->
   ((U2 K a).stop i H/\D.nx σ H)\/((U2 K a).go i H/\∃ N:St->Hp->Prop,(∀ σ' H',N σ' H'->∃ m',m'<m/\W (i+1) m' σ' H')/\∀ x H',(U2 K a).O0 i H x H'->g x σ H' fun σ2 H2=>tb { D with nx:=N,ct:=N,bk:=D.nx } σ2 H2):=by
 refine⟨fun i m σ H=>m=xs.length-i/\i<=xs.length/\Pv i σ H,⟨xs.length,by simp,Nat.zero_le _,h0⟩,?_⟩;rintro i m σ H ⟨rfl,hi,p⟩;have q:=hl i σ H hi p
 by_cases hlt:i<xs.length
 ·refine .inr ⟨⟨xs,xs[i],q,by simp[hlt]⟩,Pv (i+1),fun σ' H' p'=>⟨xs.length-(i+1),by omega,rfl,hlt,p'⟩,fun x H' y=>?_⟩;obtain⟨e,y⟩:=y;subst e;exact hs i x σ _ (y xs q) p
 ·have e:i=xs.length:=by omega
  subst e;exact .inl ⟨⟨xs,q,Nat.le_refl _⟩,hd σ H p⟩
theorem Nf {lo:Int}{n:Nat}{g:TG}{tb:TS}{D:Ends}{σ:St}{H:Hp}(Pv:Nat->St->Hp->Prop)(h0:Pv 0 σ H)
  (hs:∀ i σ H,i<n->Pv i σ H->g (.int (lo+i)) σ H fun σ2 H2=>tb { D with nx:=Pv (i+1),ct:=Pv (i+1),bk:=D.nx } σ2 H2) (hd:∀ σ H,Pv n σ H->D.nx σ H) :
  ∃ W:Nat->Nat->St->Hp->Prop,(∃ m,W 0 m σ H)/\∀ i m σ H,W i m σ H ->
   ((Sy lo n).stop i H/\D.nx σ H)\/((Sy lo n).go i H/\∃ N:St->Hp->Prop,(∀ σ' H',N σ' H'->∃ m',m'<m/\W (i+1) m' σ' H')/\∀ x H',(Sy lo n).O0 i H x H'->g x σ H' fun σ2 H2=>tb { D with nx:=N,ct:=N,bk:=D.nx } σ2 H2):=by
 refine⟨fun i m σ H=>m=n-i/\i<=n/\Pv i σ H,⟨n,by simp,Nat.zero_le _,h0⟩,?_⟩;rintro i m σ H ⟨rfl,hi,p⟩
 by_cases hlt:i<n
 ·refine .inr ⟨hlt,Pv (i+1),fun σ' H' p'=>⟨n-(i+1),by omega,rfl,hlt,p'⟩,fun x H' y=>?_⟩;obtain⟨e,y⟩:=y;subst e y;exact hs i σ _ hlt p
 ·have e:i=n:=by omega
  subst e;exact .inl ⟨Nat.le_refl _,hd σ H p⟩
end L2
namespace L2
open PySem PySem.Spec PyProof.Rows
abbrev R2:=V->V->Hp->VK->Prop
def oC (X:Cx)(f:Value->Value->Sem Value)(r:R2):Prop :=
 ∀(pins:List (Addr×Obj)) (s:Shared) (σ:St) (H:Hp) (x y:V) (v u:Value) (Q:VK),Inv X pins σ H s->RelV x v->RelV y u->r x y H Q ->
  wpAny (model X.prog X.w) X.A (f v u) (EP X pins σ Q) X.xe s
def Xn (X:Cx)(f:Value->Sem Value)(r:V->Hp->VK->Prop):Prop :=
 ∀(pins:List (Addr×Obj)) (s:Shared) (σ:St) (H:Hp) (x:V) (v:Value) (Q:VK),Inv X pins σ H s->RelV x v->r x H Q ->
  wpAny (model X.prog X.w) X.A (f v) (EP X pins σ Q) X.xe s
def lE (X:Cx)(f:Value)(r:List V->Hp->VK->Prop):Prop :=
 ∀(pins:List (Addr×Obj)) (s:Shared) (σ:St) (H:Hp) (xs:List V) (us:List Value) (Q:VK),Inv X pins σ H s->Vals xs us->r xs H Q ->
  wpAny (model X.prog X.w) X.A (call f us) (EP X pins σ Q) X.xe s
def WI (r:R2)(ta tb:TE):TE:=fun σ H Q=>ta σ H fun x H1=>tb σ H1 fun y H2=>r x y H2 Q
def Zv (r:V->Hp->VK->Prop)(ta:TE):TE:=fun σ H Q=>ta σ H fun x H1=>r x H1 Q
inductive YD (C:Int->Int->Prop)(g:Int->Int->V)(x:V)(y:V)(H:Hp)(Q:VK):Prop
 |mk (i:_) (j:_) (ey:x=.int i) (eA:y=.int j) (gn:C i j/\Q (g i j) H):YD C g x y H Q
def rI (C:Int->Int->Prop)(g:Int->Int->V):R2:=fun x y H Q=>YD C g x y H Q
inductive Vy (g:Int->Int->V)(x:V)(y:V)(H:Hp)(Q:VK):Prop
 |mk (i:_) (j:_) (ey:x=.int i) (eA:y=.int j) (gn:Q (g i j) H):Vy g x y H Q
def Sz (g:Int->Int->V):R2:=fun x y H Q=>Vy g x y H Q
def rU (g:Int->V):V->Hp->VK->Prop:=fun x H Q=>∃ i,x=.int i/\Q (g i) H
section
variable {X:Cx} {a b c:Expr} {ta tb tc:TE} {pos:Pos}
theorem TN (ha:PE X a ta)(hb:PE X b tb){pins:List (Addr×Obj)}{s:Shared}{σ:St}{H:Hp}{R:V->V->Hp->Prop}(I:Inv X pins σ H s)
  (h:ta σ H fun x H1=>tb σ H1 fun y H2=>R x y H2) {Q:Value->Shared->Prop} {f:Value->Value->Sem Value}
  (hf:∀ v u s2 x y H2,Inv X pins σ H2 s2->RelV x v->RelV y u->R x y H2->wpAny (model X.prog X.w) X.A (f v u) Q X.xe s2) :
  wpAny (model X.prog X.w) X.A (eval a X.env) (fun v s₁=>wpAny (model X.prog X.w) X.A (eval b X.env) (fun u s₂=>wpAny (model X.prog X.w) X.A (f v u) Q X.xe s₂) X.xe s₁) X.xe s:=by
 refine cH (ha pins s σ H _ I h) fun v s1 ⟨x,H1,I1,r1,q1⟩=>?_;refine cH (hb pins s1 σ H1 _ I1 q1) fun u s2 ⟨y,H2,I2,r2,q2⟩=>?_;exact hf v u s2 x y H2 I2 r1 r2 q2
theorem aE {op:Operator}{r:R2}(ho:oC X (binaryOp op) r)(ha:PE X a ta)(hb:PE X b tb):PE X (.BinOp a op b pos) (WI r ta tb):=by
 intro pins s σ H Q I h;exact wpAny_BinOp (TN ha hb I h fun v u s2 x y H2 I2 rx ry q=>ho pins s2 σ H2 x y v u Q I2 rx ry q)
theorem O4 {op:UnaryOp}{r:V->Hp->VK->Prop}(ho:Xn X (unaryOp op) r)(ha:PE X a ta):PE X (.UnaryOp op a pos) (Zv r ta):=by
 intro pins s σ H Q I h;exact UnaryOp_ (cH (ha pins s σ H _ I h) fun v s1 ⟨x,H1,I1,r1,q1⟩=>ho pins s1 σ H1 x v Q I1 r1 q1)
theorem WJ {f:Value->Value->Sem Value}{C:Int->Int->Prop}{g:Int->Int->Int}
  (rule:∀(i j:Int)(t u:Tok)(s:Shared)(Q:Value->Shared->Prop)(E:Value->Shared->Prop),C i j->Q (.int (g i j) s.toks) { s with toks:=s.toks+1 }->wpAny (model X.prog X.w) X.A (f (.int i t) (.int j u)) Q E s) :
  oC X f (rI C fun i j=>.int (g i j)):=by
 intro pins s σ H x y v u Q I rx ry h;obtain⟨i,j,rfl,rfl,hc,q⟩:=h;obtain⟨t,rfl⟩:=rx;obtain⟨t',rfl⟩:=ry;exact rule i j t t' s _ _ hc ⟨.int (g i j),H,I.tok _,⟨_,rfl⟩,q⟩
theorem Vz {f:Value->Value->Sem Value}{g:Int->Int->Int}
  (rule:∀(i j:Int)(t u:Tok)(s:Shared)(Q:Value->Shared->Prop)(E:Value->Shared->Prop),Q (.int (g i j) s.toks) { s with toks:=s.toks+1 }->wpAny (model X.prog X.w) X.A (f (.int i t) (.int j u)) Q E s) :
  oC X f (Sz fun i j=>.int (g i j)):=by
 intro pins s σ H x y v u Q I rx ry h;obtain⟨i,j,rfl,rfl,q⟩:=h;obtain⟨t,rfl⟩:=rx;obtain⟨t',rfl⟩:=ry;exact rule i j t t' s _ _ ⟨.int (g i j),H,I.tok _,⟨_,rfl⟩,q⟩
theorem Rj {f:Value->Value->Sem Value}{g:Int->Int->Bool}
  (rule:∀(i j:Int)(t u:Tok)(s:Shared)(Q:Value->Shared->Prop)(E:Value->Shared->Prop),Q (.bool (g i j)) s->wpAny (model X.prog X.w) X.A (f (.int i t) (.int j u)) Q E s) :
  oC X f (Sz fun i j=>.bl (g i j)):=by
 intro pins s σ H x y v u Q I rx ry h;obtain⟨i,j,rfl,rfl,q⟩:=h;obtain⟨t,rfl⟩:=rx;obtain⟨t',rfl⟩:=ry;exact rule i j t t' s _ _ ⟨.bl (g i j),H,I,rfl,q⟩
def Xo (i j:Int):Prop:=0<j/\j<1073741824
def Xp (i j:Int):Prop:=0<=j/\j<=1000000/\i.natAbs<2 ^ 64
def TQ (i j:Int):Prop:=(-(2 ^ 64)<i/\i<2 ^ 64)\/(-(2 ^ 64)<j/\j<2 ^ 64)
theorem TQ.ok {i j:Int}(h:TQ i j):IntMulOk i j:=by
 rcases h with ⟨h1,h2⟩|⟨h1,h2⟩
 ·exact .of_left (intBits_le_64 h1 h2)
 ·exact .of_right (intBits_le_64 h1 h2)
theorem cU:oC X (binaryOp .Add) (Sz fun i j=>.int (i+j)):=Vz fun _ _ _ _ _ _ _ q=>add_int q
theorem iX:oC X (binaryOp .Sub) (Sz fun i j=>.int (i-j)):=Vz fun _ _ _ _ _ _ _ q=>sub_int q
theorem qu:oC X (binaryOp .Mult) (rI TQ fun i j=>.int (i * j)):=WJ fun _ _ _ _ _ _ _ hc q=>mul_int q hc.ok
theorem r9:oC X (binaryOp .FloorDiv) (rI Xo fun i j=>.int (i / j)):=WJ fun i j _ _ _ _ _ hc q=>by
 have h1:(0:Int)<j:=hc.1;have h2:j<1073741824:=hc.2;exact floordiv_int (by omega) (by rw[Int.fdiv_eq_ediv_of_nonneg i (by omega)];exact q) (.inl (PyProof.noPylong_small (by omega)))
theorem gQ:oC X (binaryOp .Mod) (rI (fun _ j=>0<j) fun i j=>.int (i % j)):=WJ fun i j _ _ _ _ _ hc q=>by
 have h1:(0:Int)<j:=hc;exact mod_int' (by omega) (by rw[Int.fmod_eq_emod_of_nonneg i (by omega)];exact q)
theorem O5:oC X (binaryOp .Pow) (rI Xp fun i j=>.int (i ^ j.toNat)):=WJ fun _ _ _ _ _ _ _ hc q=>pow_int_small hc.1 hc.2.1 hc.2.2 q
theorem Zw {f:Value->Sem Value}{g:Int->Int}
  (rule:∀(i:Int)(t:Tok)(s:Shared)(Q:Value->Shared->Prop)(E:Value->Shared->Prop),Q (.int (g i) s.toks) { s with toks:=s.toks+1 }->wpAny (model X.prog X.w) X.A (f (.int i t)) Q E s) :
  Xn X f (rU fun i=>.int (g i)):=by
 intro pins s σ H x v Q I rx h;obtain⟨i,rfl,q⟩:=h;obtain⟨t,rfl⟩:=rx;exact rule i t s _ _ ⟨.int (g i),H,I.tok _,⟨_,rfl⟩,q⟩
theorem JS:Xn X (unaryOp .USub) (rU fun i=>.int (-i)):=Zw fun _ _ _ _ _ q=>neg_int q
end
def VA:V->V->Bool
 |.non,.non=>true|.non,.int _=>true|.int _,.non=>true|.non,.bl _=>true|.bl _,.non=>true|.non,.str _=>true|.str _,.non=>true
 |.int _,.int _=>true|.bl _,.bl _=>true|.str _,.str _=>true|.OT _,.OT _=>true
 |.int _,.str _=>true|.str _,.int _=>true|.bl _,.str _=>true|.str _,.bl _=>true
 |_,_=>false
def Zx:R2:=fun x y H Q=>VA x y=true/\Q (.bl (decide (x=y))) H
def Zy:R2:=fun x y H Q=>VA x y=true/\Q (.bl (!decide (x=y))) H
theorem Mv {i j:Int}:decide (V.int i=V.int j)=(i==j):=by
 rw[Bool.eq_iff_iff];simp
theorem O6 {i j:Bool}:decide (V.bl i=V.bl j)=(i==j):=by
 rw[Bool.eq_iff_iff];simp
theorem Mw {i j:Str}:decide (V.str i=V.str j)=(i==j):=by
 rw[Bool.eq_iff_iff];simp
theorem Mx {i j:Array UInt8}:decide (V.OT i=V.OT j)=(i.toList==j.toList):=by
 rw[Bool.eq_iff_iff];cases i;cases j;simp
section
variable {X:Cx} {a b c:Expr} {ta tb tc:TE} {pos:Pos}
theorem bg {pins:List (Addr×Obj)}{σ:St}{H:Hp}{s:Shared}{Q:VK}{k k':Bool}(I:Inv X pins σ H s)(q:Q (.bl k) H)(e:k=k'):EP X pins σ Q (.bool k') s:=by
 subst e;exact⟨.bl k,H,I,rfl,q⟩
theorem ff:oC X (compareOp .Eq) Zx:=by
 intro pins s σ H x y v u Q I rx ry h;obtain⟨hs,q⟩:=h;cases x with
 |non =>
  cases rx;cases y with
  |non=>cases ry;exact PySem.EqNone.eq_none_none (bg I q (by simp))
  |bl j=>cases ry;exact PySem.EqNone.eq_none_bool (bg I q (by simp))
  |int j=>obtain⟨t',rfl⟩:=ry;exact PySem.EqNone.eq_none_int (bg I q (by simp))
  |str j=>obtain⟨t',rfl⟩:=ry;exact PySem.EqNone.eq_none_str (bg I q (by simp))
  |_=>exact absurd (show false=true from hs) Bool.false_ne_true
 |bl i =>
  cases rx;cases y with
  |non=>cases ry;exact PySem.EqNone.eq_bool_none (bg I q (by simp))
  |bl j=>cases ry;exact eq_bool (bg I q O6)
  |str j=>obtain⟨t',rfl⟩:=ry;exact PySem.EqMixed.eq_bool_str (bg I q (by simp))
  |_=>exact absurd (show false=true from hs) Bool.false_ne_true
 |int i =>
  obtain⟨t,rfl⟩:=rx;cases y with
  |non=>cases ry;exact PySem.EqNone.eq_int_none (bg I q (by simp))
  |int j=>obtain⟨t',rfl⟩:=ry;exact eq_int (bg I q Mv)
  |str j=>obtain⟨t',rfl⟩:=ry;exact PySem.EqMixed.eq_int_str (bg I q (by simp))
  |_=>exact absurd (show false=true from hs) Bool.false_ne_true
 |str i =>
  obtain⟨t,rfl⟩:=rx;cases y with
  |non=>cases ry;exact PySem.EqNone.eq_str_none (bg I q (by simp))
  |bl j=>cases ry;exact PySem.EqMixed.eq_str_bool (bg I q (by simp))
  |int j=>obtain⟨t',rfl⟩:=ry;exact PySem.EqMixed.eq_str_int (bg I q (by simp))
  |str j=>obtain⟨t',rfl⟩:=ry;exact eq_str (bg I q Mw)
  |_=>exact absurd (show false=true from hs) Bool.false_ne_true
 |OT i =>
  obtain⟨t,rfl⟩:=rx;cases y with
  |OT j=>obtain⟨t',rfl⟩:=ry;exact PySem.W.eq_bytes (bg I q Mx)
  |_=>exact absurd (show false=true from hs) Bool.false_ne_true
 |_=>cases y <;> exact absurd (show false=true from hs) Bool.false_ne_true
theorem HS:oC X (compareOp .NotEq) Zy:=by
 intro pins s σ H x y v u Q I rx ry h;obtain⟨hs,q⟩:=h;cases x with
 |non =>
  cases rx;cases y with
  |non=>cases ry;exact PySem.EqNone.ne_none_none (bg I q (by simp))
  |bl j=>cases ry;exact PySem.EqNone.ne_none_bool (bg I q (by simp))
  |int j=>obtain⟨t',rfl⟩:=ry;exact PySem.EqNone.ne_none_int (bg I q (by simp))
  |str j=>obtain⟨t',rfl⟩:=ry;exact PySem.EqNone.ne_none_str (bg I q (by simp))
  |_=>exact absurd (show false=true from hs) Bool.false_ne_true
 |bl i =>
  cases rx;cases y with
  |non=>cases ry;exact PySem.EqNone.ne_bool_none (bg I q (by simp))
  |bl j=>cases ry;exact ne_bool (bg I q (congrArg not O6))
  |str j=>obtain⟨t',rfl⟩:=ry;exact PySem.EqMixed.ne_bool_str (bg I q (by simp))
  |_=>exact absurd (show false=true from hs) Bool.false_ne_true
 |int i =>
  obtain⟨t,rfl⟩:=rx;cases y with
  |non=>cases ry;exact PySem.EqNone.ne_int_none (bg I q (by simp))
  |int j=>obtain⟨t',rfl⟩:=ry;exact ne_int (bg I q (congrArg not Mv))
  |str j=>obtain⟨t',rfl⟩:=ry;exact PySem.EqMixed.ne_int_str (bg I q (by simp))
  |_=>exact absurd (show false=true from hs) Bool.false_ne_true
 |str i =>
  obtain⟨t,rfl⟩:=rx;cases y with
  |non=>cases ry;exact PySem.EqNone.ne_str_none (bg I q (by simp))
  |bl j=>cases ry;exact PySem.EqMixed.ne_str_bool (bg I q (by simp))
  |int j=>obtain⟨t',rfl⟩:=ry;exact PySem.EqMixed.ne_str_int (bg I q (by simp))
  |str j=>obtain⟨t',rfl⟩:=ry;exact ne_str (bg I q (congrArg not Mw))
  |_=>exact absurd (show false=true from hs) Bool.false_ne_true
 |OT i =>
  obtain⟨t,rfl⟩:=rx;cases y with
  |OT j=>obtain⟨t',rfl⟩:=ry;exact PySem.W.ne_bytes (bg I q (congrArg not Mx))
  |_=>exact absurd (show false=true from hs) Bool.false_ne_true
 |_=>cases y <;> exact absurd (show false=true from hs) Bool.false_ne_true
theorem EX:oC X (compareOp .Lt) (Sz fun i j=>.bl (decide (i<j))):=Rj fun _ _ _ _ _ _ _ q=>lt_int q
theorem By:oC X (compareOp .LtE) (Sz fun i j=>.bl (decide (i<=j))):=Rj fun _ _ _ _ _ _ _ q=>le_int q
theorem SA:oC X (compareOp .Gt) (Sz fun i j=>.bl (decide (j<i))):=Rj fun _ _ _ _ _ _ _ q=>gt_int q
theorem SD:oC X (compareOp .GtE) (Sz fun i j=>.bl (decide (j<=i))):=Rj fun _ _ _ _ _ _ _ q=>ge_int q
theorem dc:oC X (compareOp .In) (fun x y H Q=>∃ i j,x=.str i/\y=.str j/\Q (.bl (!(Builtin.Str.occurrences j i 0 j.length 1).isEmpty)) H):=by
 intro pins s σ H x y v u Q I rx ry h;obtain⟨i,j,rfl,rfl,q⟩:=h;obtain⟨t,rfl⟩:=rx;obtain⟨t',rfl⟩:=ry;exact in_str (bg I q rfl)
theorem JT:oC X (compareOp .Is) (fun x y H Q=>y=.non/\Q (.bl (decide (x=.non))) H):=by
 intro pins s σ H x y v u Q I rx ry h;obtain⟨rfl,q⟩:=h;cases ry;refine is_none_gen (bg I q ?_);cases x <;> first
  |(cases rx;rfl)
  |(obtain⟨t,rfl⟩:=rx;rfl)
theorem Rk:oC X (compareOp .IsNot) (fun x y H Q=>y=.non/\Q (.bl (!decide (x=.non))) H):=by
 intro pins s σ H x y v u Q I rx ry h;obtain⟨rfl,q⟩:=h;cases ry;refine isnot_none_gen (bg I q ?_);cases x <;> first
  |(cases rx;rfl)
  |(obtain⟨t,rfl⟩:=rx;rfl)
theorem oC.or {f:Value->Value->Sem Value}{r r':R2}(h:oC X f r)(h':oC X f r'):oC X f (fun x y H Q=>r x y H Q\/r' x y H Q):=by
 intro pins s σ H x y v u Q I rx ry q;rcases q with q|q
 ·exact h pins s σ H x y v u Q I rx ry q
 ·exact h' pins s σ H x y v u Q I rx ry q
theorem aR (b:Expr){op:CmpOp}(h:op≠.In:=by decide)(h2:op≠.NotIn:=by decide):behindInMarks op b=false:=by
 have e1:(op==CmpOp.In)=false:=by cases op <;> first|rfl|exact absurd rfl h
 have e2:(op==CmpOp.NotIn)=false:=by cases op <;> first|rfl|exact absurd rfl h2
 cases b <;> simp[behindInMarks,e1,e2]
theorem cq {op:CmpOp}{r:R2}(ho:oC X (compareOp op) r)(ha:PE X a ta)(hb:PE X b tb)(hm:behindInMarks op b=false):PE X (.Compare a [op] [b] pos) (WI r ta tb):=by
 intro pins s σ H Q I h;exact wpAny_Compare1 (TN ha hb I h fun v u s2 x y H2 I2 rx ry q=>ho pins s2 σ H2 x y v u Q I2 rx ry q) hm
inductive O7 (Q:(Bool->Hp->Prop))(x:V)(H':Hp):Prop
 |mk (k:_) (ey:x=.bl k) (eA:Q k H'):O7 Q x H'
def SE (t:TE):TT:=fun σ H Q=>t σ H fun x H'=>O7 Q x H'
theorem aH {op:CmpOp}{r:R2}(ho:oC X (compareOp op) r)(ha:PE X a ta)(hb:PE X b tb)(hm:behindInMarks op b=false):PT X (.Compare a [op] [b] pos) (SE (WI r ta tb)):=by
 intro pins s σ H Q I h;refine wpAny_isTrue_Compare1 (cH (ha pins s σ H _ I h) fun v s1 ⟨x,H1,I1,r1,q1⟩=>cH (hb pins s1 σ H1 _ I1 q1) fun u s2 ⟨y,H2,I2,r2,q2⟩ =>
  cH (ho pins s2 σ H2 x y v u _ I2 r1 r2 q2) fun c s3 ⟨z,H3,I3,r3,k,e,q3⟩=>?_) hm
 subst e;cases r3;exact wpAny_truthy_bool ⟨H3,I3,q3⟩
def O8 (r r':R2)(ta tb tc:TE):TE:=fun σ H Q=>ta σ H fun x H1=>tb σ H1 fun y H2=>r x y H2 fun z H3=>∃ k,z=.bl k /\
 (if k=true then tc σ H3 fun w' H4=>r' y w' H4 Q else Q (.bl false) H3)
theorem HU {op op':CmpOp}{r r':R2}(ho:oC X (compareOp op) r)(ho':oC X (compareOp op') r')(ha:PE X a ta)(hb:PE X b tb)(hc:PE X c tc)
  (hm:lastMarks [op,op'] [b,c]=false:=by with_unfolding_all rfl):PE X (.Compare a [op,op'] [b,c] pos) (O8 r r' ta tb tc):=by
 intro pins s σ H Q I h;refine Compare_chain (cH (ha pins s σ H _ I h) fun v s1 ⟨x,H1,I1,r1,q1⟩=>chain_link (cH (hb pins s1 σ H1 _ I1 q1) fun u s2 ⟨y,H2,I2,r2,q2⟩ =>
  cH (ho pins s2 σ H2 x y v u _ I2 r1 r2 q2) fun d s3 ⟨z,H3,I3,r3,k,e,q3⟩=>?_)) hm
 subst e;cases r3;refine wpAny_truthy_bool ?_;cases k with
 |false=>exact ite_ff ⟨.bl false,H3,I3,rfl,q3⟩
 |true=>exact ite_tt (chain_last (cH (hc pins s3 σ H3 _ I3 q3) fun w' s4 ⟨z',H4,I4,r4,q4⟩=>ho' pins s4 σ H4 y z' u w' Q I4 r2 r4 q4))
theorem HV {op op':CmpOp}{r r':R2}(ho:oC X (compareOp op) r)(ho':oC X (compareOp op') r')(ha:PE X a ta)(hb:PE X b tb)(hc:PE X c tc)
  (hm:lastMarks [op,op'] [b,c]=false:=by with_unfolding_all rfl):PT X (.Compare a [op,op'] [b,c] pos) (SE (O8 r r' ta tb tc)):=by
 intro pins s σ H Q I h;refine isTrue_chain (cH (ha pins s σ H _ I h) fun v s1 ⟨x,H1,I1,r1,q1⟩=>test_link (cH (hb pins s1 σ H1 _ I1 q1) fun u s2 ⟨y,H2,I2,r2,q2⟩ =>
  cH (ho pins s2 σ H2 x y v u _ I2 r1 r2 q2) fun d s3 ⟨z,H3,I3,r3,k,e,q3⟩=>?_)) hm
 subst e;cases r3;refine wpAny_truthy_bool ?_;cases k with
 |false =>
  obtain⟨k',e',q'⟩:=q3;cases e';exact ite_ff ⟨H3,I3,q'⟩
 |true =>
  refine ite_tt (test_last (cH (hc pins s3 σ H3 _ I3 q3) fun w' s4 ⟨z',H4,I4,r4,q4⟩=>cH (ho' pins s4 σ H4 y z' u w' _ I4 r2 r4 q4) fun d' s5 ⟨z2,H5,I5,r5,k2,e2,q5⟩=>?_));subst e2;cases r5;exact wpAny_truthy_bool ⟨H5,I5,q5⟩
theorem xr:(sizeLine:Nat)<2 ^ 63:=by rw[sizeLine_eq];decide
theorem aI:oC X (binaryOp .Add) (fun x y H Q=>∃ i j,x=.str i/\y=.str j/\i.length+j.length<=sizeLine/\Q (.str (i++j)) H):=by
 intro pins s σ H x y v u Q I rx ry h;obtain⟨i,j,rfl,rfl,hz,q⟩:=h;obtain⟨t,rfl⟩:=rx;obtain⟨t',rfl⟩:=ry;exact add_str (fun t' tk=>⟨.str (i++j),H,I.tok _,⟨_,rfl⟩,q⟩) hz
theorem vals1 {x:V}{us:List Value}(r:Vals [x] us):∃ u,us=[u]/\RelV x u:=by
 cases r with
 |cons r1 r2=>cases r2;exact⟨_,rfl,r1⟩
theorem vals2 {x y:V}{us:List Value}(r:Vals [x,y] us):∃ u w',us=[u,w']/\RelV x u/\RelV y w':=by
 cases r with
 |cons r1 r2 =>
  cases r2 with
  |cons r3 r4=>cases r4;exact⟨_,_,rfl,r1,r3⟩
theorem Ng (hc:X.calm=true):lE X (.builtin "min") (fun xs H Q=>∃ i j,xs=[.int i,.int j]/\Q (.int (if j<i then j else i)) H):=by
 intro pins s σ H xs us Q I r h;obtain⟨i,j,rfl,q⟩:=h;obtain⟨u,w',rfl,⟨t,rfl⟩,⟨t',rfl⟩⟩:=vals2 r;refine min_two_ints (I.ok.hd hc) fun h' tk k=>⟨_,H,I.kept k,?_,q⟩
 by_cases hj:j<i
 ·rw[if_pos hj,if_pos hj];exact⟨_,rfl⟩
 ·rw[if_neg hj,if_neg hj];exact⟨_,rfl⟩
theorem lh:lE X (.type "int") (fun xs H Q=>(∃ i,xs=[.int i]/\Q (.int i) H)\/∃ k,xs=[.bl k]/\Q (.int (if k then 1 else 0)) H):=by
 intro pins s σ H xs us Q I r h;rcases h with ⟨i,rfl,q⟩|⟨k,rfl,q⟩
 ·obtain⟨u,rfl,t,rfl⟩:=vals1 r;exact call_int_int ⟨.int i,H,I,⟨_,rfl⟩,q⟩
 ·obtain⟨u,rfl,r1⟩:=vals1 r;cases r1;exact call_int_bool ⟨.int (if k then 1 else 0),H,I.tok _,⟨_,rfl⟩,q⟩
end
end L2
namespace L2
open PySem PySem.Spec PyProof.Rows
structure JU (h:Heap)(x dx C:Addr)(mA:Str->Option Value):Prop where
 obj:h.get? x=some (instObj C dx)
 ns:h.Ns1 dx mA
 ne:dx≠x
theorem Nh {h:Heap}{dx:Addr}{mA:Str->Option Value}(n:h.Ns1 dx mA):∃ od,h.get? dx=some od/\∀ name,lookIn name od=some (mA name):=by
 obtain⟨o,es,ep,ho,hd,hk,_,hm⟩:=n;refine⟨o,ho,fun name=>?_⟩;have e:=hm name;unfold nsFind findBy at e;rw[<-Array.find?_toList]at e;unfold lookIn;rw[hd];dsimp only;split
 ·rename_i y q
  rw[q]at e;exact congrArg some e
 ·rename_i q
  rw[q]at e;have a:es.toList.any (·.refKey)=false:=by
   rw[List.any_eq_false];intro y hy;obtain⟨z,t,hkey⟩:=hk y (Array.mem_toList_iff.mp hy);simp[DictEntry.refKey,hkey]
  have a':¬ es.toList.any (·.refKey)=true:=by rw[a];exact Bool.false_ne_true
  rw[if_neg a'];exact congrArg some e
theorem JU.look {h:Heap}{x dx C:Addr}{mA:Str->Option Value}(I:JU h x dx C mA):∃ od,PySem.W.InstAt h x (instObj C dx) C (some od)/\∀ name,lookIn name od=some (mA name) :=
 let ⟨od,ho,hl⟩:=Nh I.ns
 ⟨od,⟨I.obj,rfl,rfl,ho⟩,hl⟩
section
variable {prog:Program} {w:World} {A:Around} {E:Value->Shared->Prop} {s:Shared} {K:Frag} {x dx C f:Addr} {mA:Str->Option Value} {name:Str} {v:Value}
theorem get_map {expr:Bool}{Q:Value->Shared->Prop}(X:K.In s.heap)(I:JU s.heap x dx C mA)(hg:plainGet K C name=true)(hh:hasDictIn K C=true)
  (ha:findIn K (.ref C) name=some none) (hv:mA name=some v) (hv':handedIn v=true) (h:Q v { s with toks:=s.toks+1 }) :
  wpAny (model prog w) A (getAttr (.ref x) name expr) Q E s:=by
 obtain⟨od,J,hl⟩:=I.look;exact PySem.W.get_value X J (plainGet_of hg).1 (PySem.W.findObj_own hh ha rfl (by rw[hl,hv])) hv' h
theorem O9 {pl:Sem Bool}{Q:Value×List Value->Shared->Prop}(X:K.In s.heap)(I:JU s.heap x dx C mA)(hg:plainGet K C name=true)
  (hf:findIn K (.ref C) name=some (some (.ref f))) (ht:isFn K (.ref f)=true) (hv:mA name=none) (h:Q (.ref f,[.ref x]) s) :
  wpAny (model prog w) A (getMethod (.ref x) name pl) Q E s:=by
 obtain⟨od,J,hl⟩:=I.look;exact PySem.W.method_fn X J (plainGet_of hg).1 (plainGet_of hg).2 hf (beq_iff_eq.mp ht) (by show(lookIn name od).map (·.isSome)=some false;rw[hl,hv];rfl) h
theorem oE {ns:List Str}{Q:Unit->Shared->Prop}(X:K.In s.heap)(I:JU s.heap x dx C mA)
  (hs:findIn K (.ref C) "__setattr__"=some (some (.builtin "object.__setattr__"))) (hp:plainOver K C=true) (ht:takerIn K C name=some none) (hh:hasDictIn K C=true)
  (hw:PySem.Within mA ns) (hsz:ns.length<=sizeLine)
  (h:∀ h',JU h' x dx C (fun y=>if y=name then some v else mA y)->Heap.SameBut dx s.heap h'->Q () { s with heap:=h',toks:=s.toks+2 }) :
  wpAny (model prog w) A (setAttr (.ref x) name v) Q E s:=by
 obtain⟨od,J,hl⟩:=I.look;refine PySem.W.set_plain X J hs (PySem.W.osa_open (s:={ s with toks:=s.toks+1 }) (r:=none) X J hp ht fun b=>?_);obtain⟨cd,hc,hd'⟩:=PySem.W.any_some hh;have hx:s.heap.get? x=some ⟨.ref C,some dx,.plain,#[]⟩:=I.obj;refine wpAny_bind (wpAny_pure (wpAny_bind (wpAny_bind (wpAny_loadPart hx (wpAny_bind (PySem.W.Looks.here (s:={ s with toks:=s.toks+1 }) (PySem.W.looks_clsIn X hc) ?_))))));rw[hd'];refine wpAny_pure (a:=some dx) (wpAny_bind (wpAny_pure (wpAny_bind ?_)));refine wpAny_nsSet1 (s:={ s with toks:=s.toks+1 }) I.ns fun h' hn2 hs2=>?_;obtain⟨oD,esD,epD,hoD,hdD,hcD⟩:=hn2.count (PySem.Within.cons name v hw);refine wpAny_bind (wpAny_lookBehind hoD (by rw[hdD];exact pastItsLine_dict (Nat.le_trans hcD (by rw[length_cons];omega))) ?_);exact wpAny_pure (h _ ⟨(hs2.2 _ (Ne.symm I.ne)).trans I.obj,hn2,I.ne⟩ hs2)
theorem Pa {R:Result->Shared->Prop}{vs:List Value}{kw:List (Str×Value)}(X:K.In s.heap)(hm:makesIn K C=true)
  (hi:findIn K (.ref C) "__init__"=some (some (.ref f))) (hf:PySem.W.typeIn K (.ref f)=some (.type "function"))
  (h:codeAny (model prog w) (A.under (.builtin "type.__call__" ⟨.ref C::vs,kw⟩)) (.call (.ref f) ⟨.ref (s.heap.objs.size+1)::vs,kw⟩) (PySem.W.InitBack (s.heap.objs.size+1) R)
   { s with heap:=(s.heap.push emptyDict).push (instObj C s.heap.objs.size) }) :
  codeAny (model prog w) A (.call (.ref C) ⟨vs,kw⟩) R s:=by
 obtain⟨hh,g,d,t,os⟩:=s;exact PySem.W.make_core (PySem.W.makes_of X hm) (PySem.W.looks_findIn X hi) (fun self=>PySem.W.bind_fn X self hf) (.inl rfl) h
end
def iR (f:Str)(v:V):List (Str×V)->List (Str×V)
 |[]=>[(f,v)]
 |(g,x)::r=>if g=f then(g,v)::r else(g,x)::iR f v r
theorem zT (f g:Str)(v:V):∀ fs:List (Str×V),(iR f v fs).lookup g=if g=f then some v else fs.lookup g
 |[]=>by
  show List.lookup g [(f,v)]=_
  by_cases h:g=f
  ·have hb:(g==f)=true:=beq_iff_eq.mpr h;simp only [List.lookup,hb,if_pos h]
  ·have hb:(g==f)=false:=beq_eq_false_iff_ne.mpr h;simp only [List.lookup,hb,if_neg h]
 |(k,x)::r=>by
  have ih:=zT f g v r;rw[show iR f v ((k,x)::r)=(if k=f then(k,v)::r else(k,x)::iR f v r) from rfl]
  by_cases hk:k=f
  ·rw[if_pos hk]
   by_cases h:g=k
   ·have hb:(g==k)=true:=beq_iff_eq.mpr h;simp only [List.lookup,hb,if_pos (h.trans hk)]
   ·have hb:(g==k)=false:=beq_eq_false_iff_ne.mpr h;simp only [List.lookup,hb,if_neg (fun e:g=f=>h (e.trans hk.symm))]
  ·rw[if_neg hk]
   by_cases h:g=k
   ·have hb:(g==k)=true:=beq_iff_eq.mpr h;simp only [List.lookup,hb,if_neg (fun e:g=f=>hk (h.symm.trans e))]
   ·have hb:(g==k)=false:=beq_eq_false_iff_ne.mpr h;simp only [List.lookup,hb];exact ih
theorem xt (f:Str)(v:V):∀ fs:List (Str×V),f∈(iR f v fs).map (·.1)/\∀ g,g∈fs.map (·.1)->g∈(iR f v fs).map (·.1)
 |[]=>⟨by simp[iR],fun g h=>by simp at h⟩
 |(k,x)::r=>by
  obtain⟨i1,i2⟩:=xt f v r;rw[show iR f v ((k,x)::r)=(if k=f then(k,v)::r else(k,x)::iR f v r) from rfl]
  by_cases hk:k=f
  ·rw[if_pos hk];subst hk;exact⟨by simp,fun g h=>by simpa using h⟩
  ·rw[if_neg hk];refine⟨?_,fun g h=>?_⟩
   ·rw[map_cons];exact mem_cons_of_mem _ i1
   ·rw[map_cons]at h ⊢;rcases List.mem_cons.mp h with e|e
    ·exact List.mem_cons.mpr (.inl e)
    ·exact mem_cons_of_mem _ (i2 g e)
theorem zU (f:Str)(v:V):∀ fs:List (Str×V),(iR f v fs).length<=fs.length+1
 |[]=>by simp[iR]
 |(k,x)::r=>by
  have ih:=zU f v r;rw[show iR f v ((k,x)::r)=(if k=f then(k,v)::r else(k,x)::iR f v r) from rfl]
  by_cases hk:k=f
  ·rw[if_pos hk,length_cons,length_cons];omega
  ·rw[if_neg hk,length_cons,length_cons];omega
theorem sC.some_of {v:V}{o:Option Value}(r:sC (some v) o):∃ u,o=some u/\RelV v u:=by
 cases o with
 |none=>exact(show False from r).elim
 |some u=>exact⟨u,rfl,r⟩
theorem sC.none_of {o:Option Value}(r:sC none o):o=none:=by
 cases o with
 |none=>rfl
 |some u=>exact(show False from r).elim
theorem Ni {v:V}{u:Value}(r:RelV v u):handedIn u=true:=by
 cases v with
 |non=>cases (show u=Value.none from r);rfl
 |bl b=>cases (show u=Value.bool b from r);rfl
 |int i=>obtain⟨t,e⟩:=(show ∃ t,u=Value.int i t from r);cases e;rfl
 |str x=>obtain⟨t,e⟩:=(show ∃ t,u=Value.str x t from r);cases e;rfl
 |OT b=>obtain⟨t,e⟩:=(show ∃ t,u=Value.bytes b t from r);cases e;rfl
 |flt b=>obtain⟨t,e⟩:=(show ∃ t,u=Value.float b t from r);cases e;rfl
 |ref a=>cases (show u=Value.ref a from r);rfl
 |ty n=>cases (show u=Value.type n from r);rfl
section
variable {P:Program} {w:World} {H H':Hp} {h h':Heap} {a C dx:Addr} {fs fs':List (Str×V)}
theorem Be (hok:zS P w H h)(e:H a=some (.ins C dx fs)):∃ mA,JU h a dx C mA/\(∀ f,sC (fs.lookup f) (mA f))/\PySem.Within mA (fs.map (·.1))/\fs.length<=1000/\H dx=some (.own a):=by
 obtain⟨d,z,ne,ob,mA,n,r,q⟩:=(show gP P w H h a (.ins C dx fs) from hok a _ e);exact⟨mA,⟨ob,n,ne⟩,r,q,z,d⟩
end
structure Nj (K:Frag)(C:Addr):Prop where
 pg:plainGet K C Str.empty=true
 hd:hasDictIn K C=true
 po:plainOver K C=true
 sa:findIn K (.ref C) "__setattr__"=some (some (.builtin "object.__setattr__"))
theorem Nj.get {K:Frag}{C:Addr}(c:Nj K C)(f:Str):plainGet K C f=true:=c.pg
def fN (K:Frag)(C:Addr)(f:Str):Prop:=findIn K (.ref C) f=some none
theorem fN.taker {K:Frag}{C:Addr}{f:Str}(n:fN K C f):takerIn K C f=some none:=by
 unfold takerIn;rw[show findIn K (.ref C) f=some none from n];rfl
structure Con (K:Frag)(C:Addr)(f:Str)(v:V)(u:Value):Prop where
 at_:findIn K (.ref C) f=some (some u)
 rel:RelV v u
 get:specialIn K u "__get__"=some none
 cp:PySem.W.copiedNames.contains f=false
structure Meth (K:Frag)(C:Addr)(m:Str)(f:Addr):Prop where
 at_:findIn K (.ref C) m=some (some (.ref f))
 fn:isFn K (.ref f)=true
 kp:keepIn K (.ref f)=true
section
variable {X:Cx} {pins:List (Addr×Obj)} {σ:St} {H:Hp} {s:Shared} {a C dx:Addr} {fs:List (Str×V)} {f:Str} {v:V} {A:Around} {E:Value->Shared->Prop}
theorem JV {b:Bool}{Q:Value->Shared->Prop}(I:Inv X pins σ H s)(e:H a=some (.ins C dx fs))(c:Nj X.K C)(n:fN X.K C f)(l:fs.lookup f=some v)
  (h:∀ u s',Inv X pins σ H s'->RelV v u->Q u s'):wpAny (model X.prog X.w) A (getAttr (.ref a) f b) Q E s:=by
 obtain⟨mA,O,r,_,_,_⟩:=Be I.hok e;obtain⟨u,hu,ru⟩:=sC.some_of (v:=v) (o:=mA f) (by rw[<-l];exact r f);exact get_map I.vy O (c.get f) c.hd n hu (Ni ru) (h u _ (I.tok _) ru)
theorem Bz {m:Str}{g:Addr}{pl:Sem Bool}{Q:Value×List Value->Shared->Prop}(I:Inv X pins σ H s)(e:H a=some (.ins C dx fs))(c:Nj X.K C)(k:Meth X.K C m g)(l:fs.lookup m=none)
  (h:Q (.ref g,[.ref a]) s):wpAny (model X.prog X.w) A (getMethod (.ref a) m pl) Q E s:=by
 obtain⟨mA,O,r,_,_,_⟩:=Be I.hok e;have hn:mA m=none:=sC.none_of (by rw[<-l];exact r m);exact O9 I.vy O (c.get m) k.at_ k.fn hn h
theorem JW {y:V}{u:Value}{Q:Unit->Shared->Prop}(I:Inv X pins σ H s)(e:H a=some (.ins C dx fs))(c:Nj X.K C)(n:fN X.K C f)(hl:fs.length<1000)(ry:RelV y u)
  (h:∀ s',Inv X pins σ (upd H a (.ins C dx (iR f y fs))) s'->Q () s'):wpAny (model X.prog X.w) A (setAttr (.ref a) f u) Q E s:=by
 obtain⟨mA,O,r,wi,_,ho⟩:=Be I.hok e;have hz:(fs.map (·.1)).length<=sizeLine:=by rw[length_map,sizeLine_eq];omega
 refine oE I.vy O c.sa c.po n.taker c.hd wi hz fun h' O' sb=>h _ ?_;have hd:∃ o,h'.get? dx=some o:=let ⟨o,_,_,e',_⟩:=O'.ns;⟨o,e'⟩;refine I.write (x:=a) (e:=dx) (by rw[e];exact True.intro) (.inr ho) (fun b q hb z=>(sb.2 b hb).trans z) hd ?_;refine⟨by rw[ai O.ne];exact ho,?_,O.ne,O'.obj,_,O'.ns,fun g=>?_,fun g hg=>?_⟩
 ·have:=zU f y fs;omega
 ·show sC ((iR f y fs).lookup g) (if g=f then some u else mA g);rw[zT]
  by_cases q:g=f
  ·rw[if_pos q,if_pos q];exact ry
  ·rw[if_neg q,if_neg q];exact r g
 ·by_cases q:g=f
  ·rw[q];exact(xt f y fs).1
  ·refine(xt f y fs).2 g (wi g fun z=>hg ?_);show(if g=f then some u else mA g)=none;rw[if_neg q];exact z
theorem Inv.made (I:Inv X pins σ H s):Inv X pins σ (upd (upd H s.heap.objs.size (.own (s.heap.objs.size+1))) (s.heap.objs.size+1) (.ins C s.heap.objs.size []))
  { s with heap:=(s.heap.push emptyDict).push (instObj C s.heap.objs.size) }:=by
 have e1:(s.heap.push emptyDict).get? s.heap.objs.size=some emptyDict:=Heap.get?_push_size s.heap rfl;have e2:((s.heap.push emptyDict).push (instObj C s.heap.objs.size)).get? (s.heap.objs.size+1)=some (instObj C s.heap.objs.size):=by
  have:=Heap.get?_push_size (s.heap.push emptyDict) (o:=instObj C s.heap.objs.size) rfl
  rwa [Heap.size_push]at this
 have e3:(s.heap.push emptyDict).Ns s.heap.objs.size (fun _=>none):=⟨emptyDict,#[],_,e1,rfl,(fun e he=>absurd he (by simp)),fun _=>rfl⟩;have I1:=I.laid (a:=s.heap.objs.size) (o:=.own (s.heap.objs.size+1)) (h':=s.heap.push emptyDict) (t':=s.toks) (fun b u q=>Heap.get?_push_of_some _ q) (Nat.le_refl _) ⟨_,e1⟩;refine I1.laid (a:=s.heap.objs.size+1) (o:=.ins C s.heap.objs.size []) (t':=s.toks) (fun b u q=>Heap.get?_push_of_some _ q) (Nat.le_of_eq (Heap.size_push _ _)) ?_;have ne:s.heap.objs.size≠s.heap.objs.size+1:=Nat.ne_of_lt (Nat.lt_succ_self _);refine⟨by rw[ai ne,ae],Nat.zero_le _,ne,e2,fun _=>none,(Heap.Ns1.of_empty e3).at fun o q=>Heap.get?_push_of_some _ q,fun _=>True.intro,fun y hy=>absurd rfl hy⟩
theorem Rl {prog:Program}{w:World}{env:Env}{e:Expr}{f:Str}{pos:Pos}{s:Shared}{Q:Value->Shared->Prop}(hb:attributeBase e f env (eval e env)=eval e env)
  (h:wpAny (model prog w) A (eval e env) (fun o s₁=>wpAny (model prog w) A (getAttr o f true) Q E s₁) E s):wpAny (model prog w) A (eval (.Attribute e f pos) env) Q E s :=
 Attribute_any_ h (by rw[arm_eval_Attribute,hb])
end
inductive SF (K:Frag)(f:Str)(Q:VK)(x:V)(H1:Hp):Prop
 |mk (a:_) (C:_) (dx:_) (fs:_) (v:_) (ey:x=.ref a) (eA:H1 a=some (.ins C dx fs)) (gn:Nj K C) (my:fN K C f) (tq:fs.lookup f=some v) (Q5:Q v H1):SF K f Q x H1
def Xq (K:Frag)(ta:TE)(f:Str):TE:=fun σ H Q=>ta σ H fun x H1=>SF K f Q x H1
inductive SG (K:Frag)(f:Str)(D:Ends)(σ:St)(y:V)(x:V)(H2:Hp):Prop
 |mk (a:_) (C:_) (dx:_) (fs:_) (ey:x=.ref a) (eA:H2 a=some (.ins C dx fs)) (gn:Nj K C) (my:fN K C f) (tq:fs.length<1000) (Q5:D.nx σ (upd H2 a (.ins C dx (iR f y fs)))):SG K f D σ y x H2
def Xr (K:Frag)(ta tv:TE)(f:Str):TS:=fun D σ H=>tv σ H fun y H1=>ta σ H1 fun x H2=>SG K f D σ y x H2
section
variable {X:Cx} {o e value:Expr} {f:Str} {pos pos' tpos:Pos} {ta tv:TE}
theorem dC (he:PE X e ta)(hb:attributeBase e f X.env (eval e X.env)=eval e X.env):PE X (.Attribute e f pos) (Xq X.K ta f):=by
 intro pins s σ H Q I h;refine Rl hb (cH (he pins s σ H _ I h) fun u s1 ⟨x,H1,I1,rx,a,C,dx,fs,v,ex,ea,c,n,l,q⟩=>?_);subst ex;obtain rfl:u=Value.ref a:=rx;exact JV I1 ea c n l fun u' s2 I2 ru=>⟨v,H1,I2,ru,q⟩
theorem m6 (ha:PE X o ta)(hv:PE X value tv)(hs:swapsWith value (some (.Attribute o f pos')) pos.line X.env=pure false):PS X (.Assign [.Attribute o f pos'] value pos) (Xr X.K ta tv f):=by
 intro pins s σ H D I h;refine plainObj_wpAny_Assign_Attribute (cH (hv pins s σ H _ I h) fun u s1 ⟨y,H1,I1,ry,q⟩=>cH (ha pins s1 σ H1 _ I1 q) fun ov s2 ⟨x,H2,I2,rx,a,C,dx,fs,ex,ea,c,n,l,q2⟩=>?_) hs;subst ex;obtain rfl:ov=Value.ref a:=rx;exact JW I2 ea c n l ry fun s3 I3=>⟨σ,_,I3,q2⟩
end
section
variable {X:Cx} {pins:List (Addr×Obj)} {σ:St} {H:Hp} {s:Shared} {A:Around} {E:Value->Shared->Prop} {Q:Value->Shared->Prop} {c:Value} {b:Bool}
inductive qv (K:Frag)(H:Hp):V->Value->Prop where
 |non:qv K H .non (.type "NoneType")
 |bl (x:Bool):qv K H (.bl x) (.type "bool")
 |int (i:Int):qv K H (.int i) (.type "int")
 |str (x:Str):qv K H (.str x) (.type "str")
 |flt (x:UInt64):qv K H (.flt x) (.type "float")
 |lst {a:Addr} {xs:List V} (e:H a=some (.lst xs)):qv K H (.ref a) (.type "list")
 |Mp {a:Addr} {o:Obj} {xs:List V} (e:H a=some (.Mp o (.lst xs))):qv K H (.ref a) (.type "list")
 |tup {a:Addr} {xs:List V} (e:H a=some (.tup xs)):qv K H (.ref a) (.type "tuple")
 |dK {a:Addr} {kvs:List (Key×V)} (e:H a=some (.dK kvs)):qv K H (.ref a) (.type "dict")
 |dT {a:Addr} {kvs:List (List Key×V)} (e:H a=some (.dT kvs)):qv K H (.ref a) (.type "dict")
 |ins {a C dx:Addr} {fs:List (Str×V)} (e:H a=some (.ins C dx fs)) (cl:Nj K C) (ha:findIn K (.ref C) "__class__"=some (some (.builtin "object.__class__")))
   (hn:specialIn K (.builtin "object.__class__") "__get__"=some (some (.builtin "getset_descriptor.__get__"))) (htk:PySem.W.takesIn K (.builtin "object.__class__")=some true)
   (hm:mroIn K C (.type "object")=some true):qv K H (.ref a) (.ref C)
theorem Nk {x:V}{u t:Value}(I:Inv X pins σ H s)(rx:RelV x u)(ty:qv X.K H x t)(e:kitOne X.K t c=some b)(h:∀ tk,Q (.bool b) { s with toks:=tk }) :
  wpAny (model X.prog X.w) A (call (.builtin "isinstance") [u,c]) Q E s:=by
 cases ty with
 |non=>cases (show u=Value.none from rx);exact kia_one PySem.W.kitx_none I.vy True.intro e (fun z=>nomatch z) h
 |bl y=>cases (show u=Value.bool y from rx);exact kia_one PySem.W.kitx_bool I.vy True.intro e (fun z=>nomatch z) h
 |int i=>obtain⟨t,q⟩:=(show ∃ t,u=Value.int i t from rx);cases q;exact kia_one PySem.W.kitx_int I.vy True.intro e (fun z=>nomatch z) h
 |str y=>obtain⟨t,q⟩:=(show ∃ t,u=Value.str y t from rx);cases q;exact kia_one PySem.W.kitx_str I.vy True.intro e (fun z=>nomatch z) h
 |flt y=>obtain⟨t,q⟩:=(show ∃ t,u=Value.float y t from rx);cases q;exact kia_one PySem.W.kitx_float I.vy True.intro e (fun z=>nomatch z) h
 | @lst a xs ea =>
  cases (show u=Value.ref a from rx);obtain⟨_,_,n,_,h1⟩:=(show gP X.prog X.w H s.heap a (.lst xs) from I.hok a _ ea);exact kia_one kitx_list I.vy ⟨_,h1,rfl⟩ e (fun z=>nomatch z) h
 | @Mp a ob xs ea =>
  cases (show u=Value.ref a from rx);obtain⟨_,_,_,n,_,h1⟩:=(show gP X.prog X.w H s.heap a (.Mp ob (.lst xs)) from I.hok a _ ea);exact kia_one kitx_list I.vy ⟨_,h1,rfl⟩ e (fun z=>nomatch z) h
 | @tup a xs ea =>
  cases (show u=Value.ref a from rx);obtain⟨_,_,_,p⟩:=(show gP X.prog X.w H s.heap a (.tup xs) from I.hok a _ ea);obtain⟨o,h1,h2,_⟩:=p;exact kia_one PySem.W.kitx_tuple I.vy ⟨o,h1,h2⟩ e (fun z=>nomatch z) h
 | @dK a kvs ea =>
  cases (show u=Value.ref a from rx);obtain⟨_,_,vs,_,p⟩:=(show gP X.prog X.w H s.heap a (.dK kvs) from I.hok a _ ea);obtain⟨o,es,ep,h1,h2,_⟩:=p;exact kia_one kitx_dict I.vy ⟨o,h1,h2.1⟩ e (fun z=>nomatch z) h
 | @dT a kvs ea =>
  cases (show u=Value.ref a from rx);obtain⟨_,_,xs,_,o,es,ep,h1,h2,_⟩:=(show gP X.prog X.w H s.heap a (.dT kvs) from I.hok a _ ea);exact kia_one kitx_dict I.vy ⟨o,h1,h2.1⟩ e (fun z=>nomatch z) h
 | @ins a C dx fs ea cl ha hn htk hm =>
  cases (show u=Value.ref a from rx);obtain⟨mA,O,_⟩:=Be I.hok ea;obtain⟨od,J,_⟩:=O.look;exact kia_one (PySem.W.kitx_own (cl.get _) cl.hd ha hn htk hm) I.vy J e (fun z=>nomatch z) h
end
end L2
namespace L2
open PySem PySem.Spec PyProof.Rows
structure iY (k:Nat)(A:Around):Prop where
 hd:A.handled=none
 dp:A.depth+3 * k+5<recursionLimit
 un:A.units+16 * k+200<cLine
theorem iY.mono {j k:Nat}{A:Around}(r:iY k A)(h:j<=k):iY j A:=⟨r.hd,by have:=r.dp;omega,by have:=r.un;omega⟩
theorem iY.deeper {k:Nat}{A:Around}(r:iY (k+1) A)(env:Env):iY k (A.deeper env) :=
 ⟨r.hd,by have:=r.dp;show A.depth+1+3 * k+5<_;omega,by have:=r.un;show A.units+3+16 * k+200<_;omega⟩
theorem JX {A:Around}{C:Addr}{us:List Value}{kw:List (Str×Value)}:(A.under (.builtin "type.__call__" ⟨.ref C::us,kw⟩)).depth=A.depth+1:=by
 first|rfl|simp[Around.under,Code.weight,Code.isCreation,Code.isGuard,Code.isCaller,Code.frames,Code.isFrame,guardIds]
theorem JY {A:Around}{C:Addr}{us:List Value}{kw:List (Str×Value)}:(A.under (.builtin "type.__call__" ⟨.ref C::us,kw⟩)).units=A.units+1:=by
 first|rfl|simp[Around.under,Code.cUnits,Code.frames,Code.isFrame]
theorem iY.make {k:Nat}{A:Around}(r:iY (k+1) A)(C:Addr)(us:List Value)(kw:List (Str×Value)):iY k (A.under (.builtin "type.__call__" ⟨.ref C::us,kw⟩)) :=
 ⟨r.hd,by have:=r.dp;rw[JX];omega,by have:=r.un;rw[JY];omega⟩
theorem iY.depth {k:Nat}{A:Around}(r:iY k A):A.depth<recursionLimit:=by have:=r.dp;omega
theorem iY.units {k:Nat}{A:Around}(r:iY k A):A.units+64<cLine:=by have:=r.un;omega
def TR:TA:=fun _ H Q=>Q [] H
def VB (ta:TE)(tr:TA):TA:=fun σ H Q=>ta σ H fun x H1=>tr σ H1 fun xs H2=>Q (x::xs) H2
section
variable {X:Cx} {e:Expr} {es:List Expr} {te:TE} {t:TA} {pos:Pos}
theorem af:PA X [] TR:=fun _ _ _ _ H Q I h=>Calls.spliced_nil ⟨[],H,I,.nil,h⟩
theorem aa (ha:PE X e te)(hr:PA X es t)(hs:starEach (e::es) X.env=(false,eval e X.env)::starEach es X.env:=by rfl):PA X (e::es) (VB te t):=by
 intro pos pins s σ H Q I h;rw[hs];show wpAny _ _ (spliced ((false,eval e X.env)::backTo pos (starEach es X.env))) _ _ s;refine Calls.spliced_cons (cH (ha pins s σ H _ I h) fun u s1 ⟨x,H1,I1,r1,q1⟩=>?_);exact cH (hr pos pins s1 σ H1 _ I1 q1) fun us s2 ⟨xs,H2,I2,r2,q2⟩=>⟨x::xs,H2,I2,.cons r1 r2,q2⟩
def Xs (t:TA):TE:=fun σ H Q=>t σ H fun xs H1=>xs.length<=sizeLine/\∀ p,H1 p=none->Q (.ref p) (upd H1 p (.tup xs))
def Xt (t:TA):TE:=fun σ H Q=>t σ H fun xs H1=>xs.length<=sizeLine/\∀ p,H1 p=none->Q (.ref p) (upd H1 p (.lst xs))
theorem lF {x1}(h:PA X es t):PE X (.Tuple es x1 pos) (Xs t):=by
 intro pins s σ H Q I hq;refine wpAny_Tuple_spliced (cH (h pos pins s σ H _ I hq) fun us s1 ⟨xs,H1,I1,r,z,q⟩=>⟨by rw[<-r.length];exact z,?_⟩);have hf:H1 s1.heap.objs.size=none:=I1.hok.fresh (Nat.le_refl _);refine⟨.ref s1.heap.objs.size,upd H1 s1.heap.objs.size (.tup xs),I1.laid (t':=s1.toks) (fun b u e=>Heap.get?_push_of_some _ e) (Nat.le_refl _) ?_,rfl,q _ hf⟩;exact⟨z,us,r,⟨_,Heap.get?_push_size _ rfl,rfl,_,rfl⟩⟩
theorem cC (h:PA X es t):PE X (.List es pos) (Xt t):=by
 intro pins s σ H Q I hq;refine wpAny_List_spliced (cH (h pos pins s σ H _ I hq) fun us s1 ⟨xs,H1,I1,r,z,q⟩=>⟨by rw[<-r.length];exact z,?_⟩);have hf:H1 s1.heap.objs.size=none:=I1.hok.fresh (Nat.le_refl _);refine⟨.ref s1.heap.objs.size,upd H1 s1.heap.objs.size (.lst xs),I1.laid (t':=s1.toks) (fun b u e=>Heap.get?_push_of_some _ e) (Nat.le_refl _) ?_,rfl,q _ hf⟩;exact⟨z,us,0,r,Heap.get?_push_size _ rfl⟩
end
abbrev Sp:=List V->Hp->VK->XK->Prop
abbrev Pb:=List Env->Hp->Shared->XK->Value->Shared->Prop
structure JZ (P:Program)(w:World)(K:Frag)(mg:Str->Option Value)(base:Heap)(A:Around)(outer:List Env)(s:Shared)(H:Hp):Prop where
 frames:A.frames=some outer
 mod:Mod K mg base
 bs:∀ b o,base.get? b=some o->s.heap.get? b=some o/\H b=none
 Q4:base.objs.size<=s.heap.objs.size
 Ax:s.heap.FunFrames base outer
 Tv:∀ b∈frs outer,H b=none
 hok:zS P w H s.heap
 bare:AllBare s.gens
def CE (outer:List Env)(P:Program)(w:World)(H:Hp)(s:Shared)(Q:VK)(u:Value)(s':Shared):Prop :=
 ∃ v H',s'.os=s.os/\AllBare s'.gens/\Un (frs outer) [] H H' s.heap s'.heap/\zS P w H' s'.heap/\RelV v u/\Q v H'
def CR (CX:Pb)(outer:List Env)(P:Program)(w:World)(H:Hp)(s:Shared)(Q:VK)(E:XK)(r:Result)(s':Shared):Prop :=
 match r with
 |.ok (.ret u)=>CE outer P w H s Q u s'
 |.ok _=>False
 |.error e=>CX outer H s E e s'
structure bB (P:Program)(w:World)(K:Frag)(mg:Str->Option Value)(base:Heap)(CX:Pb)(k:Nat)(f:Addr)(fd:FuncData)(ps:List Str)(sp:Sp):Prop where
 len:∀ vs H Q E,sp vs H Q E->vs.length=ps.length
 run:∀(A:Around)(outer:List Env)(s:Shared)(H:Hp)(args:Args)(us:List Value)(vs:List V)(Q:VK)(E:XK),iY k A->JZ P w K mg base A outer s H->BindsTo s fd args (ps.zip us)->Vals vs us->sp vs H Q E ->
  codeAny (model P w) A (.call (.ref f) args) (CR CX outer P w H s Q E) s
theorem JZ.make {P:Program}{w:World}{K:Frag}{mg:Str->Option Value}{base:Heap}{A:Around}{outer:List Env}{s:Shared}{H:Hp}(e:JZ P w K mg base A outer s H)(C:Addr)(us:List Value)(kw:List (Str×Value)) :
  JZ P w K mg base (A.under (.builtin "type.__call__" ⟨.ref C::us,kw⟩)) outer s H:=⟨by first|exact e.frames|(simpa [Around.under,Code.envs,Code.isFrame,pushEnvs] using e.frames),e.mod,e.bs,e.Q4,e.Ax,e.Tv,e.hok,e.bare⟩
section
variable {X:Cx} {pins:List (Addr×Obj)} {σ:St} {H:Hp} {s s':Shared}
theorem Inv.env0 (I:Inv X pins σ H s):JZ X.prog X.w X.K X.mg X.base X.A X.stack s H :=
 ⟨I.ok.frames,I.ok.mod,I.bs,Nat.le_trans I.ok.Q4 I.sz,I.stack,I.Mq,I.hok,I.bare⟩
theorem Inv.after {Q:VK}{u:Value}(I:Inv X pins σ H s)(h:CE X.stack X.prog X.w H s Q u s'):EP X pins σ Q u s':=by
 obtain⟨v,H',os,bare,un,hok,r,q⟩:=h;obtain⟨hh,g,d,t,os'⟩:=s';obtain rfl:os'=s.os:=os;exact⟨v,H',I.call (h':=hh) (g':=g) (d':=d) (t':=t) (ch:=[]) un hok bare (fun b z=>absurd z (by simp)),r,q⟩
end
def VC (sp:Sp)(vz:List V)(E:XK)(t:TA):TE:=fun σ H Q=>t σ H fun vs H1=>sp (vs++vz) H1 Q E
inductive Pc (C:Addr)(m:Str)(sp:Sp)(vz:List V)(E:XK)(t:TA)(σ:St)(Q:VK)(x:V)(H1:Hp):Prop
 |mk (a:_) (dx:_) (fs:_) (ey:x=.ref a) (eA:H1 a=some (.ins C dx fs)) (gn:fs.lookup m=none) (my:t σ H1 fun vs H2=>sp (x::(vs++vz)) H2 Q E):Pc C m sp vz E t σ Q x H1
def SH (C:Addr)(m:Str)(sp:Sp)(vz:List V)(E:XK)(ta:TE)(t:TA):TE:=fun σ H Q=>ta σ H fun x H1=>Pc C m sp vz E t σ Q x H1
def SI (C:Addr)(sp:Sp)(vz:List V)(E:XK)(t:TA):TE:=fun σ H Q=>t σ H fun vs H1=>∀ x dx,H1 x=none->H1 dx=none->dx≠x ->
 sp (.ref x::(vs++vz)) (upd (upd H1 dx (.own x)) x (.ins C dx [])) (fun v H2=>v=.non/\Q (.ref x) H2) E
def Binds (K:Frag)(fd:FuncData)(ps:List Str)(ds:List Value):Prop :=
 ∀(s:Shared)(us:List Value),K.In s.heap->(us++ds).length=ps.length->BindsTo s fd ⟨us,[]⟩ (ps.zip (us++ds))
theorem Binds.all {K:Frag}{fd:FuncData}{ps:List Str}(h:∀ us:List Value,us.length=ps.length->bindArgs fd ⟨us,[]⟩=pure (ps.zip us)):Binds K fd ps []:=fun s us _ hl=>by
 rw[append_nil]at hl ⊢;exact .of_eq (h us hl)
def Passes (CX:Pb)(X:Cx)(E:XK):Prop:=∀(pins:List (Addr×Obj)) (σ:St) (H:Hp) (s:Shared) (e:Value) (s':Shared),Inv X pins σ H s->CX X.stack H s E e s'->X.xe e s'
section
variable {X:Cx} {CX:Pb} {k:Nat} {f C:Addr} {fd:FuncData} {ps:List Str} {sp:Sp} {vz:List V} {ds:List Value} {E:XK} {x m:Str} {p pos apos:Pos} {e o:Expr} {es:List Expr} {ta:TE} {t:TA}
theorem J0 {pins:List (Addr×Obj)}{σ:St}{H:Hp}{s:Shared}{Q:VK}{us:List Value}{vs:List V}(F:bB X.prog X.w X.K X.mg X.base CX k f fd ps sp)(hr:iY k X.A)(hb:Binds X.K fd ps ds)(hd:Vals vz ds)(hx:Passes CX X E)
  (I:Inv X pins σ H s) (r:Vals vs us) (h:sp (vs++vz) H Q E):wpAny (model X.prog X.w) X.A (call (.ref f) us) (EP X pins σ Q) X.xe s:=by
 have r2:Vals (vs++vz) (us++ds):=r.append hd;have hl:(us++ds).length=ps.length:=by rw[<-r2.length];exact F.len _ _ _ _ h
 refine wpAny_call (codeAny_mono (F.run X.A X.stack s H ⟨us,[]⟩ (us++ds) (vs++vz) Q E hr I.env0 (hb s us I.vy hl) r2 h) fun r s' hq=>?_);cases r with
 |error e=>exact hx pins σ H s e s' I hq
 |ok fl =>
  cases fl with
  |ret u=>exact I.after hq
  |next=>exact False.elim hq
  |brk=>exact False.elim hq
  |cont=>exact False.elim hq
theorem ar (F:bB X.prog X.w X.K X.mg X.base CX k f fd ps sp)(hr:iY k X.A)(hg:Gl X x)(hm:X.mg x=some (.ref f))(hk:keepIn X.K (.ref f)=true)(hb:Binds X.K fd ps ds)(hd:Vals vz ds)(hx:Passes CX X E)
  (ha:PA X (e::es) t) (hdb:(x==("__debug__":Str))=false:=by decide) (he:starEach (e::es) X.env=(false,eval e X.env)::starEach es X.env:=by rfl) (hpl:(backTo pos (starEach es X.env)).any (·.1)=false:=by rfl) :
  PE X (.Call (.Name x p) (e::es) [] pos) (VC sp vz E t):=by
 intro pins s σ H Q I h;refine wpAny_Call_Name_kw (Bb I hg hm ?_ hdb);refine callWith_K (h₀:=X.base) I.ok.mod.Vh hk (cH (ha pos pins s σ H _ I h) fun us s1 ⟨vs,H1,I1,r,q⟩=>⟨I1.vy,?_⟩) he hpl;exact J0 F hr hb hd hx I1 r q
theorem bo {pl:Sem Bool}(he:PE X o ta)(c:Nj X.K C)(hm:Meth X.K C m f)(F:bB X.prog X.w X.K X.mg X.base CX k f fd ps sp)(hr:iY k X.A)(hb:Binds X.K fd ps ds)(hd:Vals vz ds)(hx:Passes CX X E)(ha:PA X (e::es) t)
  (hst:starEach (e::es) X.env=(false,eval e X.env)::starEach es X.env:=by rfl) (hpl:(backTo pos (starEach es X.env)).any (·.1)=false:=by rfl)
  (ht:eval (.Call (.Attribute o m apos) (e::es) [] pos) X.env=(do
   let ov <-eval o X.env
   standAt apos.atName
   let (f,first) <-holding [ov] (getMethod ov m pl)
   callWith pos f first (backTo pos (starEach (e::es) X.env)) (backToKw pos (keywordEach [] X.env))):=by rfl) :
  PE X (.Call (.Attribute o m apos) (e::es) [] pos) (SH C m sp vz E ta t):=by
 intro pins s σ H Q I h;refine methodCall_KW (pl:=pl) (cH (he pins s σ H _ I h) fun u s1 ⟨x,H1,I1,rx,a,dx,fs,ex,ea,l,q⟩=>?_) ht;subst ex;obtain rfl:u=Value.ref a:=rx;refine Bz I1 ea c hm l ?_;refine callWith_K (first:=[.ref a]) (h₀:=X.base) I.ok.mod.Vh hm.kp (cH (ha pos pins s1 σ H1 _ I1 q) fun us s2 ⟨vs,H2,I2,r,q2⟩=>⟨I2.vy,?_⟩) hst hpl;exact J0 (us:=.ref a::us) (vs:=.ref a::vs) F hr hb hd hx I2 (.cons rfl r) q2
theorem HW {pl:Sem Bool}(he:PE X o ta)(c:Nj X.K C)(hm:Meth X.K C m f)(F:bB X.prog X.w X.K X.mg X.base CX k f fd ps sp)(hr:iY k X.A)(hb:Binds X.K fd ps ds)(hd:Vals vz ds)(hx:Passes CX X E)
  (ht:eval (.Call (.Attribute o m apos) [] [] pos) X.env=(do
   let ov <-eval o X.env
   standAt apos.atName
   let (f,first) <-holding [ov] (getMethod ov m pl)
   callWith pos f first (backTo pos (starEach [] X.env)) (backToKw pos (keywordEach [] X.env))):=by rfl) :
  PE X (.Call (.Attribute o m apos) [] [] pos) (SH C m sp vz E ta TR):=by
 intro pins s σ H Q I h;refine methodCall_KW (pl:=pl) (cH (he pins s σ H _ I h) fun u s1 ⟨x,H1,I1,rx,a,dx,fs,ex,ea,l,q⟩=>?_) ht;subst ex;obtain rfl:u=Value.ref a:=rx;refine Bz I1 ea c hm l ?_;exact callWith_K0 (first:=[.ref a]) I1.vy hm.kp (J0 (us:=[.ref a]) (vs:=[.ref a]) F hr hb hd hx I1 (.cons rfl .nil) q)
structure Mk (K:Frag)(C f:Addr):Prop where
 makes:makesIn K C=true
 init:findIn K (.ref C) "__init__"=some (some (.ref f))
 fn:isFn K (.ref f)=true
 kp:keepIn K (.ref C)=true
theorem HX {pins:List (Addr×Obj)}{σ:St}{H:Hp}{s:Shared}{Q:VK}{us:List Value}{vs:List V}(M:Mk X.K C f)(F:bB X.prog X.w X.K X.mg X.base CX k f fd ps sp)(hr:iY (k+1) X.A)(hb:Binds X.K fd ps ds)(hd:Vals vz ds)
  (hx:Passes CX X E) (I:Inv X pins σ H s) (r:Vals vs us)
  (h:∀ x dx,H x=none->H dx=none->dx≠x->sp (.ref x::(vs++vz)) (upd (upd H dx (.own x)) x (.ins C dx [])) (fun v H2=>v=.non/\Q (.ref x) H2) E) :
  wpAny (model X.prog X.w) X.A (call (.ref C) us) (EP X pins σ Q) X.xe s:=by
 have hq:=h (s.heap.objs.size+1) s.heap.objs.size (I.hok.fresh (Nat.le_succ _)) (I.hok.fresh (Nat.le_refl _)) (Nat.ne_of_lt (Nat.lt_succ_self _));have I2:=Inv.made (C:=C) I;have r2:Vals (V.ref (s.heap.objs.size+1)::(vs++vz)) (Value.ref (s.heap.objs.size+1)::(us++ds)):=.cons rfl (r.append hd);have hl:(Value.ref (s.heap.objs.size+1)::us++ds).length=ps.length:=by
  have e:=r2.length;rw[F.len _ _ _ _ hq]at e;exact e.symm
 refine wpAny_call (Pa (f:=f) I.vy M.makes M.init (beq_iff_eq.mp M.fn) (codeAny_mono (F.run _ X.stack _ _ ⟨Value.ref (s.heap.objs.size+1)::us,[]⟩ (Value.ref (s.heap.objs.size+1)::(us++ds)) _ _ E (hr.make C us [])
  (I2.env0.make C us []) (hb _ (Value.ref (s.heap.objs.size+1)::us) I2.vy hl) r2 hq) fun r s' hq'=>?_))
 cases r with
 |error e=>exact hx pins σ _ _ e s' I2 hq'
 |ok fl =>
  cases fl with
  |ret u =>
   obtain⟨v,H',I3,rv,ev,q3⟩:=I2.after hq';subst ev;exact⟨rv,⟨V.ref (s.heap.objs.size+1),H',I3,rfl,q3⟩⟩
  |next=>exact False.elim hq'
  |brk=>exact False.elim hq'
  |cont=>exact False.elim hq'
theorem vB (M:Mk X.K C f)(F:bB X.prog X.w X.K X.mg X.base CX k f fd ps sp)(hr:iY (k+1) X.A)(hg:Gl X x)(hm:X.mg x=some (.ref C))(hb:Binds X.K fd ps ds)(hd:Vals vz ds)(hx:Passes CX X E)
  (ha:PA X (e::es) t) (hdb:(x==("__debug__":Str))=false:=by decide) (he:starEach (e::es) X.env=(false,eval e X.env)::starEach es X.env:=by rfl) (hpl:(backTo pos (starEach es X.env)).any (·.1)=false:=by rfl) :
  PE X (.Call (.Name x p) (e::es) [] pos) (SI C sp vz E t):=by
 intro pins s σ H Q I h;refine wpAny_Call_Name_kw (Bb I hg hm ?_ hdb);refine callWith_K (h₀:=X.base) I.ok.mod.Vh M.kp (cH (ha pos pins s σ H _ I h) fun us s1 ⟨vs,H1,I1,r,q⟩=>⟨I1.vy,?_⟩) he hpl;exact HX M F hr hb hd hx I1 r q
theorem Pd (M:Mk X.K C f)(F:bB X.prog X.w X.K X.mg X.base CX k f fd ps sp)(hr:iY (k+1) X.A)(hg:Gl X x)(hm:X.mg x=some (.ref C))(hb:Binds X.K fd ps ds)(hd:Vals vz ds)(hx:Passes CX X E)
  (hdb:(x==("__debug__":Str))=false:=by decide):PE X (.Call (.Name x p) [] [] pos) (SI C sp vz E TR):=by
 intro pins s σ H Q I h;refine wpAny_Call_Name_kw (Bb I hg hm ?_ hdb);exact callWith_K0 I.vy M.kp (HX (us:=[]) M F hr hb hd hx I .nil h)
end
section
variable {X:Cx} {CX:Pb} {k:Nat} {f C:Addr} {fd:FuncData} {ps ks:List Str} {sp:Sp} {E:XK} {x m:Str} {p pos apos Zz:Pos} {e o:Expr} {es:List Expr} {kws:List Keyword} {te ta:TE} {t tk:TA} {nm:Option Str}
structure Xu (K:Frag)(fd:FuncData)(ps ks:List Str)(g:List Value->List Value->List Value)(gV:List V->List V->List V):Prop where
 to:∀(s:Shared)(us ws:List Value),K.In s.heap->(g us ws).length=ps.length->BindsTo s fd ⟨us,ks.zip ws⟩ (ps.zip (g us ws))
 rel:∀{vs:List V} {us:List Value} {zs:List V} {ws:List Value},Vals vs us->Vals zs ws->Vals (gV vs zs) (g us ws)
variable {g:List Value->List Value->List Value} {gV:List V->List V->List V}
end
structure az (N P:List Str)(sc:Scope):Prop where
 kind:sc.kind=.function
 co:sc.isCoroutine=false
 gen:sc.isGenerator=false
 nd:N.Nodup
 pre:N.take P.length=P
 par:∀ x∈P,sc.names.lookup x=some .local\/sc.names.lookup x=some .cell
 TV:∀ y∈sc.names,y.2≠.free
theorem EY {kindOf:Str->Option NameKind}{x:Str}:∀{binds:List (Str×Value)} {m:Str->Option Value},(∀ v,(x,v) ∉ binds)->bindL kindOf binds m x=m x
 |[],_,_=>rfl
 |(n,v)::r,m,h=>by
  unfold bindL;rw[EY fun w hw=>h w (mem_cons_of_mem _ hw)];split
  ·have:x≠n:=by rintro rfl;exact h v mem_cons_self
   simp[this]
  ·rfl
theorem EZ {kindOf:Str->Option NameKind}{x:Str}:∀{binds:List (Str×Value)} {m:Str->Option Value},(∀ v,(x,v) ∉ binds)->bindC kindOf binds m x=m x
 |[],_,_=>rfl
 |(n,v)::r,m,h=>by
  unfold bindC;rw[EZ fun w hw=>h w (mem_cons_of_mem _ hw)];split
  ·rfl
  ·have:x≠n:=by rintro rfl;exact h v mem_cons_self
   simp[this]
theorem E1 {kindOf:Str->Option NameKind}{x:Str}{v:Value}:∀{P:List Str} {vs:List Value} {i:Nat} {m:Str->Option Value},P.Nodup->P[i]? = some x->vs[i]? = some v->kindOf x=some .local ->
  bindL kindOf (P.zip vs) m x=some v
 |[],_,_,_,_,h,_,_=>by simp at h
 |_::_,[],_,_,_,_,h,_=>by simp at h
 |p::P,w::vs,0,m,nd,h1,h2,hk=>by
  simp at h1 h2;subst h1;subst h2;show bindL kindOf ((p,w)::P.zip vs) m p=_;unfold bindL;rw[EY fun v hv=>(List.nodup_cons.mp nd).1 (List.of_mem_zip hv).1,if_pos hk];simp
 |p::P,w::vs,i+1,m,nd,h1,h2,hk=>by
  show bindL kindOf ((p,w)::P.zip vs) m x=_;unfold bindL;exact E1 (i:=i) (List.nodup_cons.mp nd).2 (by simpa using h1) (by simpa using h2) hk
theorem E2 {kindOf:Str->Option NameKind}{x:Str}{v:Value}:∀{P:List Str} {vs:List Value} {i:Nat} {m:Str->Option Value},P.Nodup->P[i]? = some x->vs[i]? = some v->kindOf x≠some .local ->
  bindC kindOf (P.zip vs) m x=some v
 |[],_,_,_,_,h,_,_=>by simp at h
 |_::_,[],_,_,_,_,h,_=>by simp at h
 |p::P,w::vs,0,m,nd,h1,h2,hk=>by
  simp at h1 h2;subst h1;subst h2;show bindC kindOf ((p,w)::P.zip vs) m p=_;unfold bindC;rw[EZ fun v hv=>(List.nodup_cons.mp nd).1 (List.of_mem_zip hv).1,if_neg hk];simp
 |p::P,w::vs,i+1,m,nd,h1,h2,hk=>by
  show bindC kindOf ((p,w)::P.zip vs) m x=_;unfold bindC;exact E2 (i:=i) (List.nodup_cons.mp nd).2 (by simpa using h1) (by simpa using h2) hk
def start (N:List Str)(vs:List V):St:=vs.map some++List.replicate (N.length-vs.length) none
def J1 (CX:Pb)(P:Program)(w:World)(K:Frag)(mg:Str->Option Value)(base:Heap)(N:List Str)(qual:Str)(scope:Scope)(f:Addr)(cd:Value)(A:Around)(outer:List Env)(s:Shared)(H:Hp)(E:XK):Cx where
 prog:=P
 w:=w
 K:=K
 mg:=mg
 base:=base
 A:=A.deeper (envOfC qual scope s.heap.objs.size f cd)
 N:=N
 s₀:=s
 H₀:=H
 env:=envOfC qual scope s.heap.objs.size f cd
 outer:=outer
 stack:=envOfC qual scope s.heap.objs.size f cd::outer
 ex:=[]
 calm:=true
 fn:=fun _=>true
 pn:=[]
 xe:=fun e s'=>wpAny (model P w) (A.deeper (envOfC qual scope s.heap.objs.size f cd)) (leaving (envOfC qual scope s.heap.objs.size f cd) e) (fun _ s''=>CX outer H s E e s'') (fun e' s''=>CX outer H s E e' s'') s'
theorem HY {sc:Scope}{n:Nat}{x:Str}(h:sc.names.lookup x=some .cell):∃ c,(cellsFrom n sc.names []).lookup x=some c:=by
 have q:=PySem.W.cellsFrom_some sc.names n [] (.inl h);exact Option.isSome_iff_exists.mp q
theorem Nl {CX:Pb}{P:Program}{w:World}{K:Frag}{mg:Str->Option Value}{base:Heap}{N ps:List Str}{qual:Str}{scope:Scope}{f:Addr}{cd:Value}{A:Around}{outer:List Env}{s s1:Shared}{H:Hp}{E:XK}{us:List Value}{vs:List V}
  (S:az N ps scope) (hd:A.handled=none) (e0:JZ P w K mg base A outer s H) (hl:vs.length=ps.length) (r:Vals vs us)
  (x:InCallC s s.heap.objs.size (bindL (envOfC qual scope s.heap.objs.size f cd).kindOf (ps.zip us) fun _=>none) (cellsFrom (s.heap.objs.size+1) scope.names []) (bindC (envOfC qual scope s.heap.objs.size f cd).kindOf (ps.zip us) fun _=>none) s1) :
  Inv (J1 CX P w K mg base N qual scope f cd A outer s H E) [] (start N vs) H s1:=by
 have hpl:ps.length<=N.length:=by have:=congrArg List.length S.pre;rw[length_take]at this;omega
 obtain⟨h1,tk,rfl,hk⟩:=x.done;have VD:∀ b:Addr,b ∉ (J1 CX P w K mg base N qual scope f cd A outer s H E).ex:=fun b z=>absurd (show b∈([]:List Addr) from z) (by simp);refine⟨⟨e0.mod,S.kind,rfl,rfl,Nat.le_refl _,fun y z c h1 h2=>?_,fun y hy=>?_,fun y c _ h=>?_,fun _=>hd,Around.frames_deeper e0.frames,.inr ⟨rfl,rfl⟩,fun b z=>absurd z (VD b),e0.bs,e0.Q4,fun b _ _=>VD b,fun b z=>absurd z (VD b),e0.Ax,e0.Tv⟩,
  rfl,e0.bare,Un.kept hk,⟨_,x.toInCall.ns,fun i y v h1 h2 h3=>?_⟩,fun y c h=>⟨_,x.cell y c h⟩,e0.hok.fresh (Nat.le_refl _),fun y c h=>?_,fun p hp=>absurd (show p∈([]:List (Addr×Obj)) from hp) (by simp),e0.hok.kept hk,?_⟩
 ·exact name_of_addr x.apart (PySem.mem_of_lookup h1) (PySem.mem_of_lookup h2)
 ·have hy:scope.names.lookup y=some .cell\/scope.names.lookup y=some .free:=hy;rcases hy with hy|hy
  ·exact HY hy
  ·exact absurd rfl (S.TV _ (PySem.mem_of_lookup hy))
 ·exact Nat.le_of_lt (x.above y c (PySem.mem_of_lookup h))
 ·have hi:i<vs.length:=by
   unfold start at h2
   by_cases hi:i<vs.length
   ·exact hi
   ·rw[getElem?_append_right (by simpa using hi)]at h2;rw[List.getElem?_replicate]at h2;split at h2 <;> cases h2
  have ha:vs[i]? = some v:=by
   unfold start at h2;rw[getElem?_append_left (by simpa using hi),getElem?_map]at h2;cases e:vs[i]? with
   |none=>rw[e]at h2;cases h2
   |some a=>rw[e]at h2;cases h2;rfl
  obtain⟨u,hu,rv⟩:=r.get ha;have hp:ps[i]? = some y:=by
   rw[<-S.pre,List.getElem?_take_of_lt (by omega)];exact h1
  have YE:ps.Nodup:=by rw[<-S.pre];exact S.nd.sublist (List.take_sublist _ _)
  refine⟨u,rv,?_⟩;rcases S.par y (mem_of_getElem? hp) with k|k
  ·exact .inl ⟨k,E1 YE hp hu k⟩
  ·obtain⟨c,e⟩:=HY (n:=s.heap.objs.size+1) k;refine .inr ⟨.inl k,c,e,?_⟩;have q:=x.cell y c e;rw[E2 YE hp hu (by show scope.names.lookup y≠_;rw[k];decide)]at q;exact q
 ·exact e0.hok.fresh (Nat.le_of_lt (x.above y c (PySem.mem_of_lookup h)))
 ·unfold start;show _=N.length;rw[length_append,length_map,List.length_replicate];omega
theorem SJ {CX:Pb}{P:Program}{w:World}{K:Frag}{mg:Str->Option Value}{base:Heap}{k:Nat}{f:Addr}{name qual:Str}{params:Arguments}{body:List Stmt}{scope:Scope}{dV kV doc pm cdv ct oc:Value}{an od:Option Addr}
  {osl:Array (Option Value)} {N ps:List Str} {sp:Sp} (lk:K.lookup f=some ⟨oc,od,.func (fnOf name qual params body scope dV kV doc pm an cdv ct),osl⟩) (hcd:codeIn K cdv qual=true) (S:az N ps scope)
  (len:∀ vs H Q E,sp vs H Q E->vs.length=ps.length)
  (hbody:∀(A:Around)(outer:List Env)(s:Shared)(H:Hp)(vs:List V)(Q:VK)(E:XK),iY k (A.deeper (envOfC qual scope s.heap.objs.size f cdv))->sp vs H Q E ->
   ∃ t,HM (J1 CX P w K mg base N qual scope f cdv A outer s H E) body t/\t { nx:=fun _ H'=>Q .non H',rt:=Q } (start N vs) H) :
  bB P w K mg base CX (k+1) f (fnOf name qual params body scope dV kV doc pm an cdv ct) ps sp:=by
 refine⟨len,fun A outer s H args us vs Q E hr e0 hb r hsp=>?_⟩;have hl:=len _ _ _ _ hsp;have KX:K.In s.heap:=e0.mod.Vh.keeps fun b o e=>(e0.bs b o e).1;have lim:s.heap.NoLimit:=e0.mod.nolimit.keeps fun b o e=>(e0.bs b o e).1;have hkind:∀ y∈ps.zip us,scope.names.lookup y.1=some .local\/(scope.names.lookup y.1=some .cell/\((cellsFrom (s.heap.objs.size+1) scope.names []).lookup y.1).isSome=true):=fun⟨n,v⟩ hy=>by
  rcases S.par n (List.of_mem_zip hy).1 with q|q
  ·exact .inl q
  ·exact .inr ⟨q,PySem.W.cellsFrom_some _ _ _ (.inl q)⟩
 refine codeAny_call_function hr.depth (KX _ _ lk) rfl S.co S.gen rfl (PySem.W.codeRec_of KX hcd) (hb _ _ _ _ ?_);refine wpAny_newFunctionEnv_cells S.kind hkind fun env he s1 x=>?_;subst he;refine⟨lim.keeps x.toInCall.keep,codeAny_func ?_⟩;obtain⟨t,ht,hq⟩:=hbody A outer s H vs Q E (hr.deeper _) hsp;have I:Inv (J1 CX P w K mg base N qual scope f cdv A outer s H E) [] (start N vs) H s1:=Nl S hr.hd e0 hl r x;refine wpAny_mono (ht [] s1 (start N vs) H _ I hq) (fun fl s' hs=>?_) fun e s' hs=>hs;have fin:∀{σ':St} {H':Hp} {v:V} {u:Value},Inv (J1 CX P w K mg base N qual scope f cdv A outer s H E) [] σ' H' s'->RelV v u->Q v H'->CE outer P w H s Q u s' :=
  fun {σ' H' v u} J rv q=>⟨v,H',J.os,J.bare,J.base,J.hok,rv,q⟩
 cases fl with
 |ret u =>
  obtain⟨v,σ',H',J,rv,q⟩:=hs;exact fin J rv q
 |next =>
  obtain⟨σ',H',J,q⟩:=hs;exact fin (v:=V.non) (u:=Value.none) J rfl q
 |brk =>
  obtain⟨_,_,_,q⟩:=hs;exact False.elim q
 |cont =>
  obtain⟨_,_,_,q⟩:=hs;exact False.elim q
end L2
namespace L2
open PySem PySem.Spec PyProof.Rows
section
variable {X:Cx} {x:Str} {p pos:Pos} {e:Expr} {es:List Expr} {t:TA} {id T:String} {r:List V->Hp->VK->Prop}
def YF (r:List V->Hp->VK->Prop)(t:TA):TE:=fun σ H Q=>t σ H fun vs H1=>r vs H1 Q
theorem aJ (hc:lE X (.builtin id) r)(hg:Gl X x)(hm:X.mg x=none)(hv:bootBuiltins x=some (.builtin id))(ha:PA X (e::es) t)(hn:x ≠ "__name__":=by decide)(hdb:(x==("__debug__":Str))=false:=by decide)
  (he:starEach (e::es) X.env=(false,eval e X.env)::starEach es X.env:=by rfl) (hpl:(backTo pos (starEach es X.env)).any (·.1)=false:=by rfl):PE X (.Call (.Name x p) (e::es) [] pos) (YF r t):=by
 intro pins s σ H Q I h;refine wpAny_Call_Name_kw (ox I hg hm hv ?_ hn hdb);exact PyProof.Rows.callWith_builtin1 (cH (ha pos pins s σ H _ I h) fun us s1 ⟨vs,H1,I1,r1,q1⟩=>hc pins s1 σ H1 vs us Q I1 r1 q1) he hpl
theorem gG (hc:lE X (.type T) r)(hg:Gl X x)(hm:X.mg x=none)(hv:bootBuiltins x=some (.type T))(ha:PA X (e::es) t)(hn:x ≠ "__name__":=by decide)(hdb:(x==("__debug__":Str))=false:=by decide)
  (he:starEach (e::es) X.env=(false,eval e X.env)::starEach es X.env:=by rfl) (hpl:(backTo pos (starEach es X.env)).any (·.1)=false:=by rfl):PE X (.Call (.Name x p) (e::es) [] pos) (YF r t):=by
 intro pins s σ H Q I h;refine wpAny_Call_Name_kw (ox I hg hm hv ?_ hn hdb);exact PyProof.Rows.callWith_type1 (cH (ha pos pins s σ H _ I h) fun us s1 ⟨vs,H1,I1,r1,q1⟩=>hc pins s1 σ H1 vs us Q I1 r1 q1) he hpl
end
end L2
namespace HT
open PySem PyProof.Rows
section
open PySem.SeqAt
open PySem.AutoSeq1 (wpAny_loadPart')
open PySem.MeetsSeq PySem.MeetsSeq2 PySem.MeetsSeq3
end
section
variable {prog:Program} {w:World} {A:Around} {E:Value->Shared->Prop} {s:Shared}
def iT (n d:Nat):Option Int->Nat
 |none=>d
 |some v=>if v<0 then(v+(n:Int)).toNat else min v.toNat n
theorem BA (n d:Nat):iT n d none=d:=rfl
theorem FO (n d k:Nat):iT n d (some (k:Int))=min k n:=by
 show(if(k:Int)<0 then((k:Int)+(n:Int)).toNat else min (k:Int).toNat n)=min k n;rw[if_neg (by omega),Int.toNat_natCast]
theorem TX (n d:Nat)(hd:d<=n)(o:Option Int):iT n d o<=n:=by
 cases o with
 |none=>exact hd
 |some v =>
  show(if v<0 then(v+(n:Int)).toNat else min v.toNat n)<=n
  by_cases hv:v<0
  ·rw[if_pos hv];omega
  ·rw[if_neg hv];exact Nat.min_le_right _ _
theorem My (v:Int)(n d:Nat):(if v<0 then max (v+(n:Int)) 0 else min v (n:Int))=((iT n d (some v):Nat):Int):=by
 show(if v<0 then max (v+(n:Int)) 0 else min v (n:Int))=(((if v<0 then(v+(n:Int)).toNat else min v.toNat n):Nat):Int)
 by_cases hv:v<0
 ·simp only [if_pos hv];omega
 ·simp only [if_neg hv];omega
theorem J2 (lo hi:Option Int)(n:Nat):Builtin.Slice.sliceAdjust lo hi 1 (n:Int)=(((iT n 0 lo:Nat):Int),((iT n n hi:Nat):Int)):=by
 have h1:¬((1:Int)<0):=by omega
 unfold Builtin.Slice.sliceAdjust;simp only [h1,if_false];refine Prod.ext ?_ ?_
 ·cases lo with
  |none=>rfl
  |some v=>exact My v n 0
 ·cases hi with
  |none=>rfl
  |some v=>exact My v n n
theorem J3 (i j:Nat):Builtin.Slice.slicePlaces (i:Int) (j:Int) 1=j-i:=by
 unfold Builtin.Slice.slicePlaces;have h1:(1:Int) > 0:=by omega
 simp only [h1,if_true,Int.ediv_one];split <;> omega
theorem BB {v:Value}{o:Option Int}{Q:Option Int->Shared->Prop}(p:IsPart v o)(h:Q o s):wpAny (model prog w) A (Builtin.Slice.slicePartIndex v) Q E s:=by
 cases p with
 |none=>exact slicePart_none h
 |int i t=>exact slicePart_int h
theorem xu {sl:Addr}{vl vu:Value}{lo hi:Option Int}{n:Nat}{Q:Int×Int×Nat->Shared->Prop}(hs:s.heap.IsSliceOf sl vl vu .none)(pl:IsPart vl lo)(pu:IsPart vu hi)
  (h:Q (((iT n 0 lo:Nat):Int),1,iT n n hi-iT n 0 lo) s):wpAny (model prog w) A (Builtin.Slice.sliceApplied (.ref sl) (pure (n:Int))) Q E s:=by
 obtain⟨os,hos,hcs,hds⟩:=id hs;unfold Builtin.Slice.sliceApplied Builtin.Slice.sliceFields;refine wpAny_bind (wpAny_bind (wpAny_field hos hds (x:=vl) rfl (wpAny_bind (wpAny_field hos hds (x:=vu) rfl (wpAny_bind (wpAny_field hos hds (x:=.none) rfl (wpAny_pure ?_)))))));refine wpAny_bind (slicePart_none ?_);show wpAny _ _ (if((1:Int)==0)=true then _ else _) _ _ s;rw[if_neg (by decide)];refine wpAny_bind (BB pl (wpAny_bind (BB pu (wpAny_bind (wpAny_pure ?_)))));show wpAny _ _ (match Builtin.Slice.sliceAdjust lo hi 1 (n:Int) with|(lo,hi)=>pure (lo,(1:Int),Builtin.Slice.slicePlaces lo hi 1)) _ _ s;rw[J2 lo hi n];show wpAny _ _ (pure (((iT n 0 lo:Nat):Int),(1:Int),Builtin.Slice.slicePlaces ((iT n 0 lo:Nat):Int) ((iT n n hi:Nat):Int) 1)) _ _ s;rw[J3];exact wpAny_pure h
theorem Pe (xs:Array Value)(i k:Nat):((List.range k).filterMap fun(m:Nat)=>xs[((i:Int)+(m:Int) * 1).toNat]?).toArray=((xs.toList.drop i).take k).toArray:=by
 have e:(fun(m:Nat)=>xs[((i:Int)+(m:Int) * 1).toNat]?)=fun m=>xs[i+m]?:=by
  funext m
  have:((i:Int)+(m:Int) * 1).toNat=i+m:=by omega
  rw[this]
 rw[e];have:=pick_run xs i k;rw[List.filterMap_map]at this;have e2:((fun x=>xs[x]?) ∘ fun x=>i+x)=fun m=>xs[i+m]?:=rfl;rw[e2]at this;rw[this]
theorem vC {t sl:Addr}{items:Array Value}{vl vu:Value}{lo hi:Option Int}{Q:Value->Shared->Prop}(ht:IsTup s.heap t items)(hs:s.heap.IsSliceOf sl vl vu .none)(pl:IsPart vl lo)(pu:IsPart vu hi)
  (hw:¬(iT items.size 0 lo=0/\iT items.size items.size hi=items.size))
  (h:Q (.ref s.heap.objs.size) { s with heap:=s.heap.push { cls:=.type "tuple",data:=.seq ((items.toList.drop (iT items.size 0 lo)).take (iT items.size items.size hi-iT items.size 0 lo)).toArray } })
  (hsz:items.size<=sizeLine):wpAny (model prog w) A (getItem (.ref t) (.ref sl)) Q E s:=by
 have Mz:sizeOk (.seq ((items.toList.drop (iT items.size 0 lo)).take (iT items.size items.size hi-iT items.size 0 lo)).toArray):=by
  show((items.toList.drop (iT items.size 0 lo)).take (iT items.size items.size hi-iT items.size 0 lo)).toArray.size<=sizeLine;rw[size_toArray,length_take,length_drop,Array.length_toList];omega
 have hj:iT items.size items.size hi<=items.size:=TX _ _ (Nat.le_refl _) hi;obtain⟨os,hos,hcs,hds⟩:=id hs;have hTs:s.TypeIs (.ref sl) "slice":=⟨os,hos,hcs⟩;unfold getItem
 try with_reducible refine wpAny_holding ?_
 first|refine wpAny_bind (wpAny_pure ?_)|skip
 refine wpAny_bind (wpAny_sequenceKey ht.typeIs (by decide) ?_);refine wpAny_bind (wpAny_callSpecial?_slot (name:=Str.ofString "__getitem__") ht.typeIs PyProof.Rows.slot_tuple_getitem
  (wpAny_call_entry PyProof.Rows.slot_tuple_getitem ht.typeIs entry_tuple_getitem ?_ (args_tuple_getitem _ _)))
 show wpAny _ _ (Builtin.Tuple.tupleItemsOf (.ref t) >>= _) _ _ s;refine wpAny_bind (tupleItemsOf_ ht ?_);refine wpAny_bind (wpAny_typeOf hTs ?_);rw[if_pos (by decide)];refine wpAny_bind (xu hs pl pu ?_);have hno:¬((((iT items.size 0 lo:Nat):Int)==0&&(1:Int)==1&&(iT items.size items.size hi-iT items.size 0 lo)==items.size)=true):=by
  intro q;rw[Bool.and_eq_true,Bool.and_eq_true]at q;have q1:((iT items.size 0 lo:Nat):Int)=0:=eq_of_beq q.1.1;have q2:iT items.size items.size hi-iT items.size 0 lo=items.size:=eq_of_beq q.2;exact hw ⟨by omega,by omega⟩
 show wpAny _ _ (if(((iT items.size 0 lo:Nat):Int)==0&&(1:Int)==1&&(iT items.size items.size hi-iT items.size 0 lo)==items.size)=true then _ else _) _ _ s;rw[if_neg hno,Pe]
 first
  |exact wpAny_bind (m:=Builtin.Tuple.tupleExact _) (wpAny_newObj_type (wpAny_pure ⟨_,rfl,wpAny_pure h⟩) Mz)
  |exact wpAny_bind (m:=Builtin.Tuple.tupleExact _) (wpAny_newObj_type (wpAny_bind (wpAny_pure (wpAny_pure ⟨_,rfl,wpAny_pure h⟩))) Mz)
  |exact wpAny_bind (wpAny_bind (m:=Builtin.Tuple.tupleExact _) (wpAny_newObj_type (wpAny_pure (wpAny_pure ⟨_,rfl,wpAny_pure h⟩)) Mz))
  |exact wpAny_bind (wpAny_bind (m:=Builtin.Tuple.tupleExact _) (wpAny_newObj_type (wpAny_pure ⟨_,rfl,wpAny_pure h⟩) Mz))
end
end HT
namespace L2
open PySem PySem.Spec PyProof.Rows
abbrev TO:=St->Hp->(Option Int->Hp->Prop)->Prop
def PO (X:Cx)(e:Option Expr)(t:TO):Prop :=
 ∀(pins:List (Addr×Obj)) (s:Shared) (σ:St) (H:Hp) (Q:Option Int->Hp->Prop),Inv X pins σ H s->t σ H Q ->
  wpAny (model X.prog X.w) X.A (evalPart e X.env) (fun u s'=>∃ o H',Inv X pins σ H' s'/\IsPart u o/\Q o H') X.xe s
def Rm:TO:=fun _ H Q=>Q none H
inductive Pf (Q:(Option Int->Hp->Prop))(x:V)(H1:Hp):Prop
 |mk (i:_) (ey:x=.int i) (eA:Q (some i) H1):Pf Q x H1
def VE (t:TE):TO:=fun σ H Q=>t σ H fun x H1=>Pf Q x H1
section
variable {X:Cx} {e:Expr} {te:TE} {lo hi:Option Expr} {tl th:TO} {pos p2:Pos}
theorem jI:PO X none Rm:=by
 intro pins s σ H Q I h;rw[evalPart_none];exact wpAny_pure ⟨none,H,I,.none,h⟩
theorem fZ (h:PE X e te):PO X (some e) (VE te):=by
 intro pins s σ H Q I hw;rw[evalPart_some];refine cH (h pins s σ H _ I hw) fun u s1 ⟨x,H1,I1,r1,q1⟩=>?_;obtain⟨i,rfl,q⟩:=q1;obtain⟨t,rfl⟩:=r1;exact⟨some i,H1,I1,.int i t,q⟩
def SK (X:Cx)(r:V->Option Int->Option Int->Hp->VK->Prop):Prop :=
 ∀(pins:List (Addr×Obj)) (s:Shared) (σ:St) (H:Hp) (x:V) (v vl vu:Value) (lo hi:Option Int) (sl:Addr) (Q:VK),Inv X pins σ H s->RelV x v->s.heap.IsSliceOf sl vl vu .none->IsPart vl lo->IsPart vu hi->r x lo hi H Q ->
  ∃ T id,typeLookup (.type T) "__getitem__"=pure (some (.builtin id))/\s.TypeIs v T/\wpAny (model X.prog X.w) X.A (getItem v (.ref sl)) (EP X pins σ Q) X.xe s
theorem SK.or {r r':V->Option Int->Option Int->Hp->VK->Prop}(h:SK X r)(h':SK X r'):SK X (fun x lo hi H Q=>r x lo hi H Q\/r' x lo hi H Q):=by
 intro pins s σ H x v vl vu lo hi sl Q I rx hs pl pu q;rcases q with q|q
 ·exact h pins s σ H x v vl vu lo hi sl Q I rx hs pl pu q
 ·exact h' pins s σ H x v vl vu lo hi sl Q I rx hs pl pu q
def ZA (r:V->Option Int->Option Int->Hp->VK->Prop)(te:TE)(tl th:TO):TE:=fun σ H Q=>te σ H fun x H1=>tl σ H1 fun l H2=>th σ H2 fun u H3=>r x l u H3 Q
theorem fX {r:V->Option Int->Option Int->Hp->VK->Prop}(hr:SK X r)(he:PE X e te)(hl:PO X lo tl)(hu:PO X hi th):PE X (.Subscript e (.Slice lo hi none p2) pos) (ZA r te tl th):=by
 intro pins s σ H Q I h;refine Subscript_ (cH (he pins s σ H _ I h) fun v s1 ⟨x,H1,I1,r1,q1⟩=>?_);refine wpAny_Slice (cH (hl pins s1 σ H1 _ I1 q1) fun vl s2 ⟨l,H2,I2,pl,q2⟩=>cH (hu pins s2 σ H2 _ I2 q2) fun vu s3 ⟨u,H3,I3,pu,q3⟩=>?_);rw[evalPart_none];refine wpAny_pure ?_;have I4:Inv X pins σ H3 { s3 with heap:=s3.heap.push { cls:=.type "slice",data:=.fields #[vl,vu,.none] } }:=I3.kept (t':=s3.toks) fun b ob q=>Heap.get?_push_of_some _ q;obtain⟨T,id,hT,ht,hg⟩:=hr pins { s3 with heap:=s3.heap.push { cls:=.type "slice",data:=.fields #[vl,vu,.none] } } σ H3 x v vl vu l u s3.heap.objs.size Q I4 r1 (Heap.IsSliceOf.new ..) pl pu q3;show wpAny (model X.prog X.w) X.A (subscriptTail e (.Slice lo hi none p2) v (.ref s3.heap.objs.size)) (EP X pins σ Q) X.xe { s3 with heap:=s3.heap.push { cls:=.type "slice",data:=.fields #[vl,vu,.none] } };exact tail_any (ops:=[.ref s3.heap.objs.size,v]) ht hT hg (by with_unfolding_all rfl)
def tw (xs:List V)(lo hi:Option Int):List V:=(xs.drop (HT.iT xs.length 0 lo)).take (HT.iT xs.length xs.length hi-HT.iT xs.length 0 lo)
theorem zV (xs:List V)(lo hi:Option Int):(tw xs lo hi).length<=xs.length:=by
 unfold tw;rw[length_take,length_drop];omega
inductive SM (K:Frag)(x:V)(lo:Option Int)(hi:Option Int)(H:Hp)(Q:VK):Prop
 |mk (a:_) (xs:_) (ey:x=.ref a) (eA:qk K H a xs) (gn:¬(HT.iT xs.length 0 lo=0/\HT.iT xs.length xs.length hi=xs.length)) (my:∀ p,H p=none->Q (.ref p) (upd H p (.tup (tw xs lo hi)))):SM K x lo hi H Q
def Xv (K:Frag):V->Option Int->Option Int->Hp->VK->Prop:=fun x lo hi H Q=>SM K x lo hi H Q
theorem m7:SK X (Xv X.K):=by
 intro pins s σ H x v vl vu lo hi sl Q I rx hs pl pu h;obtain⟨a,xs,rfl,hx,hw,q⟩:=h;cases rx;obtain⟨its,r,ht,hz⟩:=I.tuple hx;have hlen:its.toArray.size=xs.length:=by rw[size_toArray];exact r.length.symm
 refine⟨"tuple",_,PyProof.Rows.slot_tuple_getitem.lookup,ht.typeIs,?_⟩;refine HT.vC ht hs pl pu (by rw[hlen];exact hw) ?_ (by rw[hlen];exact hz);rw[hlen];refine⟨.ref s.heap.objs.size,_,I.laid (t':=s.toks) (o:=.tup (tw xs lo hi)) (fun b ob q=>Heap.get?_push_of_some _ q) (Nat.le_refl _) ?_,rfl,q _ (I.hok.fresh (Nat.le_refl _))⟩;exact⟨Nat.le_trans (zV xs lo hi) hz,_,(r.drop (HT.iT xs.length 0 lo)).take (HT.iT xs.length xs.length hi-HT.iT xs.length 0 lo),IsTup.new _ _⟩
end
end L2
namespace L2
open PySem PySem.Spec PyProof.Rows
def Pg (n:Nat)(i:Int):Option Nat:=if 0<=i then(if i<n then some i.toNat else none) else if -(n:Int)<=i then some (i+n).toNat else none
def Q6 {α:Type}(xs:List α)(i:Int):Option α:=(Pg xs.length i).bind fun j=>xs[j]?
theorem MA {n:Nat}{i:Int}{j:Nat}(h:Pg n i=some j):seqIndex? i n=some j/\j<n/\-(n:Int)<=i/\i<n:=by
 unfold Pg at h
 by_cases h0:0<=i
 ·rw[if_pos h0]at h
  by_cases h1:i<n
  ·rw[if_pos h1]at h;have e:i.toNat=j:=Option.some.inj h;exact⟨by rw[seqIndex_of h0 h1,e],by omega,by omega,h1⟩
  ·rw[if_neg h1]at h;cases h
 ·rw[if_neg h0]at h
  by_cases h1:-(n:Int)<=i
  ·rw[if_pos h1]at h;have e:(i+n).toNat=j:=Option.some.inj h;exact⟨by rw[seqIndex_neg (by omega) h1,e],by omega,h1,by omega⟩
  ·rw[if_neg h1]at h;cases h
theorem FP {α:Type}{xs:List α}{i:Int}{v:α}(h:Q6 xs i=some v):∃ j,seqIndex? i xs.length=some j/\xs[j]? = some v/\j<xs.length/\-(xs.length:Int)<=i/\i<xs.length:=by
 unfold Q6 at h;cases e:Pg xs.length i with
 |none=>rw[e]at h;cases h
 |some j =>
  rw[e]at h;obtain⟨h1,h2,h3,h4⟩:=MA e;exact⟨j,h1,h,h2,h3,h4⟩
theorem Bf {α:Type}{xs:List α}{j:Nat}{v:α}(h:xs[j]? = some v):Q6 xs (j:Int)=some v:=by
 have hj:j<xs.length:=(List.getElem?_eq_some_iff.mp h).1;have e:Pg xs.length (j:Int)=some j:=by
  unfold Pg;rw[if_pos (by omega),if_pos (by omega)];simp
 unfold Q6;rw[e];exact h
def Rn (b:Expr):Prop:=∀ o i,subscripted b false o i=operate [o,i] (getItem o i)
def Q7 (X:Cx)(r:R2):Prop :=
 ∀(value slice:Expr)(pins:List (Addr×Obj)) (s:Shared) (σ:St) (H:Hp) (x y:V) (v u:Value) (Q:VK),Inv X pins σ H s->RelV x v->RelV y u->r x y H Q ->
  subscripted slice false v u=operate [v,u] (getItem v u)->wpAny (model X.prog X.w) X.A (subscriptTail value slice v u) (EP X pins σ Q) X.xe s
def YG (X:Cx)(id:String)(r:V->List V->Hp->VK->Prop):Prop :=
 ∀(pins:List (Addr×Obj)) (s:Shared) (σ:St) (H:Hp) (x:V) (xs:List V) (v:Value) (us:List Value) (Q:VK),Inv X pins σ H s->RelV x v->Vals xs us->r x xs H Q ->
  wpAny (model X.prog X.w) X.A (call (.builtin id) (v::us)) (EP X pins σ Q) X.xe s
section
variable {X:Cx} {a b:Expr} {ta tb:TE} {pos:Pos}
theorem Q7.or {r r':R2}(h:Q7 X r)(h':Q7 X r'):Q7 X (fun x y H Q=>r x y H Q\/r' x y H Q):=by
 intro value slice pins s σ H x y v u Q I rx ry q hs;rcases q with q|q
 ·exact h value slice pins s σ H x y v u Q I rx ry q hs
 ·exact h' value slice pins s σ H x y v u Q I rx ry q hs
theorem bH {r:R2}(hr:Q7 X r)(ha:PE X a ta)(hb:PE X b tb)(hs:Rn b):PE X (.Subscript a b pos) (WI r ta tb):=by
 intro pins s σ H Q I h;exact Subscript_ (TN ha hb I h fun v u s2 x y H2 I2 rx ry q=>hr a b pins s2 σ H2 x y v u Q I2 rx ry q (hs _ _))
inductive SN (K:Frag)(x:V)(y:V)(H:Hp)(Q:VK):Prop
 |mk (p:_) (xs:_) (i:_) (v:_) (ey:x=.ref p) (eA:y=.int i) (gn:aQ K H p xs) (my:Q6 xs i=some v) (tq:Q v H):SN K x y H Q
def J4 (K:Frag):R2:=fun x y H Q=>SN K x y H Q
inductive SO (K:Frag)(x:V)(y:V)(H:Hp)(Q:VK):Prop
 |mk (p:_) (xs:_) (i:_) (v:_) (ey:x=.ref p) (eA:y=.int i) (gn:qk K H p xs) (my:Q6 xs i=some v) (tq:Q v H):SO K x y H Q
def J5 (K:Frag):R2:=fun x y H Q=>SO K x y H Q
inductive SQ (x:V)(y:V)(H:Hp)(Q:VK):Prop
 |mk (z:_) (i:_) (c:_) (ey:x=.str z) (eA:y=.int i) (gn:z.length<=sizeLine) (my:Q6 z.cps.toList i=some c) (tq:Q (.str ⟨#[c]⟩) H):SQ x y H Q
def J6 :R2:=fun x y H Q=>SQ x y H Q
theorem Ro:Q7 X (J4 X.K):=by
 intro value slice pins s σ H x y v u Q I rx ry h hs;obtain⟨p,xs,i,z,rfl,rfl,hq,he,q⟩:=h;cases rx;obtain⟨t,rfl⟩:=ry;obtain⟨its,r,pl,hz⟩:=I.list hq;obtain⟨j,h1,h2,h3,h4,h5⟩:=FP he;obtain⟨w,ew,Xw⟩:=r.get h2;have hl:=r.length;have hn:=xr;have fin:EP X pins σ Q w s:=⟨z,H,I,Xw,q⟩
 by_cases h0:0<=i
 ·have hj:i.toNat=j:=by
   rw[seqIndex_of h0 h5]at h1;exact Option.some.inj h1
  exact item_listR pl.isList h0 (by omega) (by rw[hj];simpa using ew) fin hs
 ·have hj:(i+(its.toArray.size:Int)).toNat=j:=by
   rw[seqIndex_neg (by omega) h4]at h1;rw[size_toArray,<-hl];exact Option.some.inj h1
  exact subscriptTail_builtinR (x:=w) pl.isList.typeIs slot_list_getitem.lookup
   (wpAny_getItem_list_neg (Q:=fun r s'=>r=w/\EP X pins σ Q r s') pl.isList (by omega) (by rw[size_toArray] <;> omega) (by omega) (by rw[hj];simpa using ew) ⟨rfl,fin⟩) hs
theorem TY:Q7 X (J5 X.K):=by
 intro value slice pins s σ H x y v u Q I rx ry h hs;obtain⟨p,xs,i,z,rfl,rfl,hq,he,q⟩:=h;cases rx;obtain⟨t,rfl⟩:=ry;obtain⟨its,r,pl,hz⟩:=I.tuple hq;obtain⟨j,h1,h2,h3,h4,h5⟩:=FP he;obtain⟨w,ew,Xw⟩:=r.get h2;have hl:=r.length;have hn:=xr;have fin:EP X pins σ Q w s:=⟨z,H,I,Xw,q⟩;exact subscriptTail_builtinR (x:=w) pl.typeIs slot_tuple_getitem.lookup
  (getItem_tuple (j:=j) (Q:=fun r s'=>r=w/\EP X pins σ Q r s') pl (by omega) (by omega) (by rw[size_toArray,<-hl];exact h1) (by simpa using ew) ⟨rfl,fin⟩) hs
theorem TZ:Q7 X J6:=by
 intro value slice pins s σ H x y v u Q I rx ry h hs;obtain⟨z,i,c,rfl,rfl,hz,he,q⟩:=h;obtain⟨t,rfl⟩:=rx;obtain⟨t',rfl⟩:=ry;obtain⟨j,h1,h2,h3,h4,h5⟩:=FP he;have hl:z.cps.toList.length=z.length:=by simp[Str.length]
 rw[hl]at h1 h4 h5;have hn:=xr;exact tail_any (typeIs_str s z t) slot_str_getitem.lookup (getItem_str (c:=c) (by
  have e1:decide (i < -(2 ^ 63:Int))=false:=decide_eq_false (by omega);have e2:decide (i ≥ 2 ^ 63)=false:=decide_eq_false (by omega);rw[e1,e2,Bool.or_false]) (by rw[h1];simpa using h2) ⟨.str ⟨#[c]⟩,H,I.tok _,⟨_,rfl⟩,q⟩) hs
def ZC (K:Frag):R2:=fun x y H Q=>J4 K x y H Q\/J5 K x y H Q\/J6 x y H Q
theorem aW:Q7 X (ZC X.K):=Ro.or (TY.or TZ)
theorem J7 (its:List Value)(n j:Nat)(u:Value):Obj.mapSeq (·.setIfInBounds j u) { cls:=.type "list",data:=.seq its.toArray n } = { cls:=.type "list",data:=.seq (its.set j u).toArray n }:=by
 simp[Obj.mapSeq]
theorem Inv.lst {pins:List (Addr×Obj)}{σ:St}{H:Hp}{s:Shared}{p:Addr}{xs:List V}(I:Inv X pins σ H s)(h:H p=some (.lst xs)) :
  ∃(its:List Value)(n:Nat),Vals xs its/\s.heap.get? p=some { cls:=.type "list",data:=.seq its.toArray n }/\xs.length<=sizeLine:=by
 obtain⟨z,its,n,r,e⟩:=I.hok p _ h;exact⟨its,n,r,e,z⟩
theorem Inv.T1 {pins:List (Addr×Obj)}{σ:St}{H:Hp}{s:Shared}{p:Addr}{xs ys:List V}{its its':List Value}{n n':Nat}{f:Obj->Obj}(I:Inv X pins σ H s)(h:H p=some (.lst xs))
  (ho:s.heap.get? p=some { cls:=.type "list",data:=.seq its.toArray n }) (hf:f { cls:=.type "list",data:=.seq its.toArray n } = { cls:=.type "list",data:=.seq its'.toArray n' }) (r:Vals ys its') (hz:ys.length<=sizeLine) (t:Nat) :
  Inv X pins σ (upd H p (.lst ys)) { s with heap:=s.heap.update p f,toks:=t }:=by
 have e:(s.heap.update p f).get? p=some { cls:=.type "list",data:=.seq its'.toArray n' }:=by
  rw[Heap.get?_update_self f ho (by rw[hf] <;> rfl),hf]
 refine I.write (x:=p) (e:=p) (by rw[h];trivial) (.inl rfl) (fun b u hb q=>(Heap.get?_update_other _ _ (Ne.symm hb)).trans q) ⟨_,e⟩ ?_;exact⟨hz,its',n',r,e⟩
inductive Ph (o:V)(i:V)(v:V)(H:Hp)(Q:(Hp->Prop)):Prop
 |mk (p:_) (xs:_) (k:_) (j:_) (ey:o=.ref p) (eA:i=.int k) (gn:H p=some (.lst xs)) (my:Pg xs.length k=some j) (tq:Q (upd H p (.lst (xs.set j v)))):Ph o i v H Q
def VF :V->V->V->Hp->(Hp->Prop)->Prop:=fun o i v H Q=>Ph o i v H Q
theorem set_list:Vq X VF:=by
 intro pins s σ H o i v ov iv u Q I ro ri rv h;obtain⟨p,xs,k,j,rfl,rfl,hp,hj,q⟩:=h;cases ro;obtain⟨t,rfl⟩:=ri;obtain⟨its,n,r,ho,hz⟩:=I.lst hp;obtain⟨h1,h2,h3,h4⟩:=MA hj;have hl:=r.length;have hn:=xr;have I':Inv X pins σ (upd H p (.lst (xs.set j v))) { s with heap:=s.heap.update p (Obj.mapSeq (·.setIfInBounds j u)) } :=
  I.T1 hp ho (J7 its n j u) (r.set rv j) (by rw[List.length_set];exact hz) s.toks
 by_cases h0:0<=k
 ·have hk:k.toNat=j:=by
   rw[seqIndex_of h0 h4]at h1;exact Option.some.inj h1
  exact PySem.W.ki_setAt ho h0 (by omega) (by rw[size_toArray,<-hl];exact h4) (by rw[hk];exact⟨_,I',q⟩)
 ·have hk:(k+(its.toArray.size:Int)).toNat=j:=by
   rw[seqIndex_neg (by omega) h3]at h1;rw[size_toArray,<-hl];exact Option.some.inj h1
  exact PySem.W.ki_setBack ho (by omega) (by rw[size_toArray,<-hl];exact h3) (by omega) (by rw[hk];exact⟨_,I',q⟩)
theorem FQ (lo hi:Option Int)(n:Nat):(sliceBounds lo hi none n).1=((HT.iT n 0 lo:Nat):Int)/\(sliceBounds lo hi none n).2.1=((HT.iT n n hi:Nat):Int)/\(sliceBounds lo hi none n).2.2=1:=by
 refine⟨?_,?_,rfl⟩
 ·cases lo with
  |none=>simp[sliceBounds,HT.iT]
  |some i =>
   simp only [sliceBounds,HT.iT,Option.getD_none,show(1:Int) > 0 by decide,if_true]
   by_cases h:i<0
   ·simp only [h,if_true] <;> omega
   ·simp only [h,if_false] <;> omega
 ·cases hi with
  |none=>simp[sliceBounds,HT.iT]
  |some i =>
   simp only [sliceBounds,HT.iT,Option.getD_none,show(1:Int) > 0 by decide,if_true]
   by_cases h:i<0
   ·simp only [h,if_true] <;> omega
   ·simp only [h,if_false] <;> omega
theorem D0 (its:List Value)(lo hi:Option Int):slicePick its.toArray lo hi none=((its.drop (HT.iT its.length 0 lo)).take (HT.iT its.length its.length hi-HT.iT its.length 0 lo)).toArray:=by
 obtain⟨h1,h2,h3⟩:=FQ lo hi its.toArray.size;unfold slicePick;rw[h1,h2,h3];simp only [sliceRange_one,pick_run,size_toArray] <;> rfl
inductive SR (K:Frag)(x:V)(lo:Option Int)(hi:Option Int)(H:Hp)(Q:VK):Prop
 |mk (a:_) (xs:_) (ey:x=.ref a) (eA:aQ K H a xs) (gn:∀ p,H p=none->Q (.ref p) (upd H p (.lst (tw xs lo hi)))):SR K x lo hi H Q
def Xx (K:Frag):V->Option Int->Option Int->Hp->VK->Prop:=fun x lo hi H Q=>SR K x lo hi H Q
theorem jJ:SK X (Xx X.K):=by
 intro pins s σ H x v vl vu lo hi sl Q I rx hs pl pu h;obtain⟨a,xs,rfl,hx,q⟩:=h;cases rx;obtain⟨its,r,ht,hz⟩:=I.list hx;have hlen:=r.length;refine⟨"list",_,slot_list_getitem.lookup,ht.isList.typeIs,?_⟩;refine wpAny_getItem_list_slice ht.isList hs pl pu .none (by simp) ?_ (by rw[size_toArray] <;> omega);rw[D0,<-hlen];refine⟨.ref s.heap.objs.size,_,I.laid (t':=s.toks) (o:=.lst (tw xs lo hi)) (fun b ob q=>Heap.get?_push_of_some _ q) (Nat.le_refl _) ?_,rfl,q _ (I.hok.fresh (Nat.le_refl _))⟩;exact⟨Nat.le_trans (zV xs lo hi) hz,_,0,(r.drop (HT.iT xs.length 0 lo)).take (HT.iT xs.length xs.length hi-HT.iT xs.length 0 lo),Heap.get?_push_size _ rfl⟩
def sO:V->Bool
 |.non=>true
 |.bl _=>true
 |.int _=>true
 |.str _=>true
 |_=>false
def MB:V->V->Bool
 |.non,.non=>true
 |.bl a,.bl b=>a==b
 |.bl a,.int b=>(if a then 1 else 0)==b
 |.int a,.bl b=>a==(if b then 1 else 0)
 |.int a,.int b=>a==b
 |.str a,.str b=>a==b
 |_,_=>false
theorem Pj {A:Around}{s:Shared}{y x:V}{u v:Value}(ry:RelV y u)(rx:RelV x v)(fy:sO y=true)(fx:sO x=true):SeqAt.EqAt A s u v (MB y x):=by
 cases y with
 |non =>
  cases ry;cases x with
  |non=>cases rx;exact SeqAt.EqAt.same _
  |bl b=>cases rx;exact SeqAt.EqAt.none_bool b
  |int b=>obtain⟨t,rfl⟩:=rx;exact SeqAt.EqAt.none_int b t
  |str b=>obtain⟨t,rfl⟩:=rx;exact SeqAt.EqAt.none_str b t
  |_=>exact absurd (show false=true from fx) Bool.false_ne_true
 |bl a =>
  cases ry;cases x with
  |non=>cases rx;exact SeqAt.EqAt.bool_none a
  |bl b=>cases rx;exact SeqAt.EqAt.bool_bool a b
  |int b=>obtain⟨t,rfl⟩:=rx;exact SeqAt.EqAt.bool_int a b t
  |str b=>obtain⟨t,rfl⟩:=rx;exact SeqAt.EqAt.bool_str a b t
  |_=>exact absurd (show false=true from fx) Bool.false_ne_true
 |int a =>
  obtain⟨t',rfl⟩:=ry;cases x with
  |non=>cases rx;exact SeqAt.EqAt.int_none a t'
  |bl b=>cases rx;exact SeqAt.EqAt.int_bool a t' b
  |int b=>obtain⟨t,rfl⟩:=rx;exact SeqAt.EqAt.int_int a t' b t
  |str b=>obtain⟨t,rfl⟩:=rx;exact SeqAt.EqAt.int_str a t' b t
  |_=>exact absurd (show false=true from fx) Bool.false_ne_true
 |str a =>
  obtain⟨t',rfl⟩:=ry;cases x with
  |non=>cases rx;exact SeqAt.EqAt.str_none a t'
  |bl b=>cases rx;exact SeqAt.EqAt.str_bool a t' b
  |int b=>obtain⟨t,rfl⟩:=rx;exact SeqAt.EqAt.str_int a t' b t
  |str b=>obtain⟨t,rfl⟩:=rx;exact SeqAt.EqAt.str_str a t' b t
  |_=>exact absurd (show false=true from fx) Bool.false_ne_true
 |_=>exact absurd (show false=true from fy) Bool.false_ne_true
def J8 (x:V)(u:Value):Bool:=match u with
 |.none=>MB .non x
 |.bool b=>MB (.bl b) x
 |.int i _=>MB (.int i) x
 |.str z _=>MB (.str z) x
 |_=>false
theorem Pk {x y:V}{u:Value}(r:RelV y u)(f:sO y=true):J8 x u=MB y x:=by
 cases y with
 |non=>cases r;rfl
 |bl b=>cases r;rfl
 |int i=>obtain⟨t,rfl⟩:=r;rfl
 |str z=>obtain⟨t,rfl⟩:=r;rfl
 |_=>exact absurd (show false=true from f) Bool.false_ne_true
theorem vD {x:V}:∀{xs:List V} {us:List Value},Vals xs us->xs.all sO=true->us.any (J8 x)=xs.any fun y=>MB y x
 |_,_,.nil,_=>rfl
 |y::xs,u::us,.cons r t,f=>by
  rw[List.all_cons,Bool.and_eq_true]at f;rw[List.any_cons,List.any_cons,Pk r f.1,vD t f.2]
theorem qw {A:Around}{s:Shared}{x:V}{v:Value}(rx:RelV x v)(fx:sO x=true):∀{xs:List V} {us:List Value},Vals xs us->xs.all sO=true->∀ u∈us,SeqAt.EqAt A s u v (J8 x u)
 |_,_,.nil,_=>fun u hu=>by cases hu
 |y::xs,u::us,.cons r t,f=>fun u' hu=>by
  rw[List.all_cons,Bool.and_eq_true]at f;rcases List.mem_cons.mp hu with rfl|hu
  ·rw[Pk r f.1];exact Pj r rx f.1 fx
  ·exact qw rx fx t f.2 u' hu
def inV (x:V)(xs:List V):Bool:=xs.any fun y=>MB y x
inductive VG (K:Frag)(neg:Bool)(x:V)(y:V)(H:Hp)(Q:VK):Prop
 |mk (p:_) (xs:_) (ey:y=.ref p) (eA:(aQ K H p xs\/qk K H p xs)) (gn:sO x=true) (my:xs.all sO=true) (tq:Q (.bl (if neg then !inV x xs else inV x xs)) H):VG K neg x y H Q
def YH (K:Frag)(neg:Bool):R2:=fun x y H Q=>VG K neg x y H Q
theorem df:oC X (compareOp .In) (YH X.K false):=by
 intro pins s σ H x y v u Q I rx ry h;obtain⟨p,xs,rfl,hq,fx,fs,q⟩:=h;cases ry;rcases hq with hq|hq
 ·obtain⟨its,r,pl,hz⟩:=I.list hq;refine SeqAt.in_listAt (J8 x) pl.isList (fun w hw=>qw rx fx r fs w (by simpa using hw)) ⟨.bl _,H,I,rfl,?_⟩;rw[show its.toArray.any (J8 x)=its.any (J8 x) by simp,vD r fs];exact q
 ·obtain⟨its,r,pl,hz⟩:=I.tuple hq;refine SeqAt.in_tupleAt (J8 x) pl (fun w hw=>qw rx fx r fs w (by simpa using hw)) ⟨.bl _,H,I,rfl,?_⟩;rw[show its.toArray.any (J8 x)=its.any (J8 x) by simp,vD r fs];exact q
theorem vE:oC X (compareOp .NotIn) (YH X.K true):=by
 intro pins s σ H x y v u Q I rx ry h;obtain⟨p,xs,rfl,hq,fx,fs,q⟩:=h;cases ry;rcases hq with hq|hq
 ·obtain⟨its,r,pl,hz⟩:=I.list hq;refine SeqAt.notIn_listAt (J8 x) pl.isList (fun w hw=>qw rx fx r fs w (by simpa using hw)) ⟨.bl _,H,I,rfl,?_⟩;rw[show its.toArray.any (J8 x)=its.any (J8 x) by simp,vD r fs];exact q
 ·obtain⟨its,r,pl,hz⟩:=I.tuple hq;refine SeqAt.notIn_tupleAt (J8 x) pl (fun w hw=>qw rx fx r fs w (by simpa using hw)) ⟨.bl _,H,I,rfl,?_⟩;rw[show its.toArray.any (J8 x)=its.any (J8 x) by simp,vD r fs];exact q
theorem vF:oC X (compareOp .NotIn) (fun x y H Q=>∃ i j,x=.str i/\y=.str j/\Q (.bl (!(!(Builtin.Str.occurrences j i 0 j.length 1).isEmpty))) H):=by
 intro pins s σ H x y v u Q I rx ry h;obtain⟨i,j,rfl,rfl,q⟩:=h;obtain⟨t,rfl⟩:=rx;obtain⟨t',rfl⟩:=ry;exact notIn_str ⟨.bl _,H,I,rfl,q⟩
theorem aA:lE X (.builtin "len") (fun xs H Q=>∃ p ys,xs=[.ref p]/\(aQ X.K H p ys\/qk X.K H p ys)/\Q (.int ys.length) H):=by
 intro pins s σ H xs us Q I r h;obtain⟨p,ys,rfl,hq,q⟩:=h;obtain⟨u,rfl,rx⟩:=vals1 r;cases rx;have hn:=xr;rcases hq with hq|hq
 ·obtain⟨its,r',pl,hz⟩:=I.list hq;have hlen:=r'.length;exact Calls.call_len_list pl.isList (by simp only [size_toArray] <;> omega) ⟨.int ys.length,H,I.tok _,⟨s.toks+1,by rw[size_toArray,hlen]⟩,q⟩
 ·obtain⟨its,r',pl,hz⟩:=I.tuple hq;have hlen:=r'.length;exact len_tuple pl (by simp only [size_toArray] <;> omega) ⟨.int ys.length,H,I.tok _,⟨s.toks+1,by rw[size_toArray,hlen]⟩,q⟩
theorem aB:lE X (.builtin "len") (fun xs H Q=>∃ z,xs=[.str z]/\z.length<=sizeLine/\Q (.int z.length) H):=by
 intro pins s σ H xs us Q I r h;obtain⟨z,rfl,hz,q⟩:=h;obtain⟨u,rfl,t,rfl⟩:=vals1 r;have hn:=xr;exact len_str (by omega) ⟨.int z.length,H,I.tok _,⟨_,rfl⟩,q⟩
theorem lE.or {f:Value}{r r':List V->Hp->VK->Prop}(h:lE X f r)(h':lE X f r'):lE X f (fun xs H Q=>r xs H Q\/r' xs H Q):=by
 intro pins s σ H xs us Q I rs q;rcases q with q|q
 ·exact h pins s σ H xs us Q I rs q
 ·exact h' pins s σ H xs us Q I rs q
theorem vG:lE X (.type "list") (fun xs H Q=>∃ p ys,xs=[.ref p]/\(aQ X.K H p ys\/qk X.K H p ys)/\∀ l,H l=none->Q (.ref l) (upd H l (.lst ys))):=by
 intro pins s σ H xs us Q I r h;obtain⟨p,ys,rfl,hq,q⟩:=h;obtain⟨u,rfl,rx⟩:=vals1 r;cases rx;have fin:∀(its:List Value),Vals ys its->ys.length<=sizeLine->∀(h':Heap)(c':Nat),(∀ b o',s.heap.get? b=some o'->h'.get? b=some o') ->
   h'.get? s.heap.objs.size=some { cls:=.type "list",dict:=none,data:=.seq its.toArray c',slots:=#[] }->EP X pins σ Q (.ref s.heap.objs.size) { s with heap:=h' }:=fun its r' hz h' c' kp e =>
  ⟨.ref s.heap.objs.size,_,I.laid (t':=s.toks) kp (Nat.le_refl _) (show gP X.prog X.w _ h' _ (.lst ys) from⟨hz,its,c',r',e⟩),rfl,q _ (I.hok.fresh (Nat.le_refl _))⟩
 rcases hq with hq|hq
 ·obtain⟨its,r',pl,hz⟩:=I.list hq;have hlen:=r'.length;obtain⟨o,ho,hc,n,hd⟩:=pl.isList;exact call_list_seq p (.inl rfl) ho hc hd (fun h' c' kp e=>fin its r' hz h' c' kp e) (by simp only [size_toArray] <;> omega)
 ·obtain⟨its,r',pl,hz⟩:=I.tuple hq;have hlen:=r'.length;obtain⟨o,ho,hc,n,hd⟩:=pl;exact call_list_seq p (.inr rfl) ho hc hd (fun h' c' kp e=>fin its r' hz h' c' kp e) (by simp only [size_toArray] <;> omega)
def Xy (K:Frag)(T:String)(x:V)(H:Hp):Prop:=match x with
 |.str _=>T = "str"
 |.int _=>T = "int"
 |.ref p=>(T = "list"/\∃ xs,aQ K H p xs)\/(T = "tuple"/\∃ o,K.lookup p=some o/\o.cls=.type "tuple"/\o.dict=none) \/
   (T = "dict"/\((∃ kvs,H p=some (.dK kvs))\/∃ kvs,H p=some (.dT kvs)))\/(T = "set"/\∃ S n,H p=some (.set S n))
 |_=>False
theorem Pl {pins:List (Addr×Obj)}{σ:St}{H:Hp}{s:Shared}{T:String}{x:V}{v:Value}(I:Inv X pins σ H s)(r:RelV x v)(ty:Xy X.K T x H) :
  s.TypeIs v T/\∀ a,v=.ref a->∃ ob,s.heap.get? a=some ob/\ob.dict=none:=by
 cases x with
 |str z =>
  obtain⟨t,rfl⟩:=r;cases (show T = "str" from ty);exact⟨typeIs_str s z t,fun _ e=>nomatch e⟩
 |int i =>
  obtain⟨t,rfl⟩:=r;cases (show T = "int" from ty);exact⟨typeIs_int s i t,fun _ e=>nomatch e⟩
 |ref p =>
  cases r;rcases ty with ⟨rfl,xs,hq⟩|⟨rfl,o,hk,hc,hd⟩|⟨rfl,hk⟩|⟨rfl,S,n,hk⟩
  ·obtain⟨its,_,pl,_⟩:=I.list hq;refine⟨pl.isList.typeIs,fun a e=>?_⟩;cases e;obtain⟨o,n,e,c,hd,_⟩:=pl;exact⟨o,e,hd⟩
  ·refine⟨⟨o,I.vy p o hk,hc⟩,fun a e=>?_⟩;cases e;exact⟨o,I.vy _ o hk,hd⟩
  ·have z:∃ o,s.heap.get? p=some o/\o.ExactDict:=by
    rcases hk with ⟨kvs,hk⟩|⟨kvs,hk⟩
    ·obtain⟨_,_,_,_,o,_,_,e,ex,_⟩:=I.hok p _ hk;exact⟨o,e,ex⟩
    ·obtain⟨_,_,_,_,o,_,_,e,ex,_⟩:=I.hok p _ hk;exact⟨o,e,ex⟩
   obtain⟨o,e,ex⟩:=z;refine⟨⟨o,e,ex.1⟩,fun a e2=>?_⟩;cases e2;exact⟨o,e,ex.2.1⟩
  ·obtain⟨o,_,_,_,e,ex,_⟩:=I.hok p _ hk;refine⟨⟨o,e,ex.1⟩,fun a e2=>?_⟩;cases e2;exact⟨o,e,ex.2.1⟩
 |_=>exact False.elim ty
def Xz (K:Frag)(T:String)(r:V->List V->Hp->VK->Prop)(to:TE):TE:=fun σ H Q=>to σ H fun x H1=>Xy K T x H1/\r x [] H1 Q
def ZD (K:Frag)(T:String)(r:V->List V->Hp->VK->Prop)(to:TE)(t:TA):TE:=fun σ H Q=>to σ H fun x H1=>Xy K T x H1/\t σ H1 fun xs H2=>r x xs H2 Q
variable {o e:Expr} {es:List Expr} {to:TE} {t:TA} {name:Str} {apos cpos:Pos} {T id:String} {r:V->List V->Hp->VK->Prop}
theorem T2 (pa:PlainAttrs T)(slot:Slot T name id)(hty:typeOf (.builtin id)=pure (.type "method_descriptor"))(hm:YG X id r)(ho:PE X o to)
  (hbase:attributeBase o name X.env (eval o X.env)=eval o X.env:=by rfl) (hline:(apos.endLine==cpos.line)=true:=by rfl):PE X (.Call (.Attribute o name apos) [] [] cpos) (Xz X.K T r to):=by
 intro pins s σ H Q I h;refine wpAny_Call_method0_late hbase hline (cH (ho pins s σ H _ I h) fun v s1 ⟨x,H1,I1,r1,ty,q1⟩=>?_);obtain⟨h1,h2⟩:=Pl I1 r1 ty;exact⟨T,id,pa,slot,hty,h1,h2,Calls.callWith_builtin rfl (PySem.evalArgs_none (hm pins s1 σ H1 x [] v [] Q I1 r1 .nil q1))⟩
theorem zW (pa:PlainAttrs T)(slot:Slot T name id)(hty:typeOf (.builtin id)=pure (.type "method_descriptor"))(hm:YG X id r)(ho:PE X o to)(ha:PA X (e::es) t)
  (hbase:attributeBase o name X.env (eval o X.env)=eval o X.env:=by rfl)
  (hfew:((backTo cpos (starEach (e::es) X.env)).all (fun x=>!x.1)&&(backToKw cpos (keywordEach [] X.env)).all (fun x=>x.1.isSome)
   && decide ((e::es).length+([]:List Keyword).length+(if([]:List Keyword).isEmpty then 0 else 1)<30))=true:=by rfl)
  (hline:(apos.endLine==cpos.line)=true:=by rfl) (hs:starEach (e::es) X.env=(false,eval e X.env)::starEach es X.env:=by rfl) (hplain:(backTo cpos (starEach es X.env)).any (·.1)=false:=by rfl) :
  PE X (.Call (.Attribute o name apos) (e::es) [] cpos) (ZD X.K T r to t):=by
 intro pins s σ H Q I h;refine wpAny_Call_method_late hbase hfew hline rfl (cH (ho pins s σ H _ I h) fun v s1 ⟨x,H1,I1,r1,ty,q1⟩=>?_);obtain⟨h1,h2⟩:=Pl I1 r1 ty;refine⟨T,id,pa,slot,hty,h1,h2,?_⟩;have hA:=ha cpos pins s1 σ H1 _ I1 q1;rw[hs]at hA ⊢;refine Calls.callWith_builtin (by show(false||(backTo cpos (starEach es X.env)).any (·.1))=false;rw[hplain] <;> rfl) (Calls.evalArgs_plain ?_);exact cH hA fun us s2 ⟨vs,H2,I2,r2,q2⟩=>hm pins s2 σ H2 x vs v us Q I2 r1 r2 q2
end
end L2
namespace L2
open PySem PySem.Spec PyProof.Rows
def YI (X:Cx)(id:String)(r:V->List V->Hp->VK->Prop):Prop :=
 ∀(pins:List (Addr×Obj)) (s:Shared) (σ:St) (H:Hp) (x:V) (xs:List V) (v:Value) (us:List Value) (Q:VK),Inv X pins σ H s->RelV x v->Vals xs us->r x xs H Q ->
  wpAny (model X.prog X.w) X.A (call (.builtin id) (v::us)) (EP X pins σ Q) X.xe s
theorem Vals.one:∀{x:V} {us:List Value},Vals [x] us->∃ u,us=[u]/\RelV x u
 |_,_,.cons r .nil=>⟨_,rfl,r⟩
theorem Vals.two:∀{x y:V} {us:List Value},Vals [x,y] us->∃ u v,us=[u,v]/\RelV x u/\RelV y v
 |_,_,_,.cons r (.cons q .nil)=>⟨_,_,rfl,r,q⟩
theorem Vals.zero:∀{us:List Value},Vals [] us->us=[]
 |_,.nil=>rfl
theorem Vals.rep {xs:List V}{us:List Value}(h:Vals xs us):∀ k:Nat,Vals (List.replicate k xs).flatten (List.replicate k us).flatten
 |0=>.nil
 |k+1=>by
  rw[List.replicate_succ,List.replicate_succ,List.flatten_cons,List.flatten_cons];exact Vals.append h (Vals.rep h k)
theorem foldl_rep (its:List Value):∀(k:Nat)(acc:List Value),
  List.foldl (fun x1 x2=>x1++x2) acc.toArray (List.replicate k its.toArray)=(acc++(List.replicate k its).flatten).toArray
 |0,acc=>by simp
 |k+1,acc=>by
  have e:acc.toArray++its.toArray=(acc++its).toArray:=by simp
  have e2:(acc++its)++(List.replicate k its).flatten=acc++(List.replicate (k+1) its).flatten:=by
   rw[List.replicate_succ,List.flatten_cons,List.append_assoc]
  rw[<-e2,<-foldl_rep its k (acc++its),<-e,List.replicate_succ,List.foldl_cons]
section
variable {X:Cx} {pins:List (Addr×Obj)} {σ:St} {H:Hp} {s:Shared} {l b:Addr} {xs ys zs:List V}
theorem Inv.T3 {its its':List Value}{n:Nat}{f:Array Value->Array Value}{t':Nat}(I:Inv X pins σ H s)(hH:H l=some (.lst xs))
  (e:s.heap.get? l=some { cls:=.type "list",data:=.seq its.toArray n }) (hf:f its.toArray=its'.toArray) (hv:Vals ys its') (hz:ys.length<=sizeLine) :
  Inv X pins σ (upd H l (.lst ys)) { s with heap:=s.heap.update l (Obj.mapSeq f),toks:=t' }:=by
 have q:=PySem.IsL.update e f;rw[hf]at q;refine I.write (x:=l) (e:=l) (by rw[hH];exact trivial) (.inl rfl) (fun b' u hb hu=>(Heap.get?_update_other s.heap (Obj.mapSeq f) (Ne.symm hb)).trans hu) ⟨_,q⟩ ?_;exact⟨hz,its',_,hv,q⟩
theorem Inv.VH {its:List Value}{t':Nat}(I:Inv X pins σ H s)(hv:Vals ys its)(hz:ys.length<=sizeLine) :
  Inv X pins σ (upd H s.heap.objs.size (.lst ys)) { s with heap:=s.heap.push { cls:=.type "list",data:=.seq its.toArray },toks:=t' } :=
 I.laid (fun _ _ q=>Heap.get?_push_of_some _ q) (Nat.le_refl _) ⟨hz,its,0,hv,Heap.get?_push_size _ rfl⟩
theorem Inv.fresh (I:Inv X pins σ H s):H s.heap.objs.size=none:=I.hok.fresh (Nat.le_refl _)
theorem Inv.J9 (I:Inv X pins σ H s)(hH:H l=some (.lst xs)):xs.length<=sizeLine/\∃(its:List Value)(n:Nat),Vals xs its/\xs.length=its.length/\s.heap.get? l=some { cls:=.type "list",data:=.seq its.toArray n }:=by
 obtain⟨z,its,n,r,e⟩:=I.hok l _ hH;exact⟨z,its,n,r,r.length,e⟩
theorem BC {n:Nat}(h:n<=sizeLine):Builtin.List.listTooLong n=false:=by
 unfold Builtin.List.listTooLong;exact decide_eq_false (by omega)
end
section
variable {X:Cx}
inductive HZ (x:V)(vs:List V)(H:Hp)(Q:VK):Prop
 |mk (l:_) (xs:_) (y:_) (ey:x=.ref l) (eA:vs=[y]) (gn:H l=some (.lst xs)) (my:xs.length<sizeLine) (tq:Q .non (upd H l (.lst (xs++[y])))):HZ x vs H Q
def Rp :V->List V->Hp->VK->Prop:=fun x vs H Q=>HZ x vs H Q
theorem fB:YI X "list.append" Rp:=by
 intro pins s σ H x vs v us Q I rx rv h;obtain⟨l,xs,y,rfl,rfl,hH,hz,q⟩:=h;cases rx;obtain⟨u,rfl,ru⟩:=rv.one;obtain⟨z,its,n,r,hl,e⟩:=I.J9 hH;refine call_meets F.slot_list_append ⟨_,e,rfl⟩ F.entry_list_append (F.args_list_append_2 _ _) (PySem.list_append l its.toArray n u (by rw[size_toArray];omega)) ⟨e,?_⟩;refine⟨.non,_,I.T3 (its':=its++[u]) hH e (by simp) (r.append (.cons ru .nil)) ?_,rfl,q⟩;rw[length_append,List.length_singleton];omega
inductive VI (x:V)(vs:List V)(H:Hp)(Q:VK):Prop
 |mk (l:_) (xs:_) (y:_) (ey:x=.ref l) (eA:vs=[]) (gn:H l=some (.lst xs)) (my:xs[xs.length-1]? = some y) (tq:Q y (upd H l (.lst xs.dropLast))):VI x vs H Q
inductive Nm (x:V)(vs:List V)(H:Hp)(Q:VK):Prop
 |mk (l:_) (xs:_) (ey:x=.ref l) (eA:vs=[]) (gn:H l=some (.lst xs)) (my:Q .non (upd H l (.lst xs.reverse))):Nm x vs H Q
inductive MC (x:V)(vs:List V)(H:Hp)(Q:VK):Prop
 |mk (l:_) (xs:_) (ey:x=.ref l) (eA:vs=[]) (gn:H l=some (.lst xs)) (my:Q .non (upd H l (.lst []))):MC x vs H Q
def T4 :V->List V->Hp->VK->Prop:=fun x vs H Q=>MC x vs H Q
theorem Pm:YI X "list.clear" T4:=by
 intro pins s σ H x vs v us Q I rx rv h;obtain⟨l,xs,rfl,rfl,hH,q⟩:=h;cases rx;have hus:=rv.zero;subst hus;obtain⟨z,its,n,r,hl,e⟩:=I.J9 hH;refine call_meets F.slot_list_clear ⟨_,e,rfl⟩ F.entry_list_clear (F.args_list_clear_1 _) (AutoSeq1.list_clear_list_0 l its.toArray n (by rw[size_toArray];omega)) ⟨e,?_⟩;exact⟨.non,_,I.T3 (its':=[]) (ys:=[]) hH e rfl .nil (Nat.zero_le _),rfl,q⟩
inductive SU (x:V)(y:V)(H:Hp)(Q:VK):Prop
 |mk (l:_) (b:_) (xs:_) (zs:_) (ey:x=.ref l) (eA:y=.ref b) (gn:H l=some (.lst xs)) (my:H b=some (.lst zs)) (tq:xs.length+zs.length<=sizeLine) (Q5:∀ p,H p=none->Q (.ref p) (upd H p (.lst (xs++zs)))):SU x y H Q
def XA :R2:=fun x y H Q=>SU x y H Q
theorem cV:oC X (binaryOp .Add) XA:=by
 intro pins s σ H x y v u Q I rx ry h;obtain⟨l,b,xs,zs,rfl,rfl,hH,hB,hz,q⟩:=h;cases rx;cases ry;obtain⟨z,its,n,r,hl,e⟩:=I.J9 hH;obtain⟨z2,its2,n2,r2,hl2,e2⟩:=I.J9 hB;refine PySem.P.add_list e e2 ?_ (by rw[size_toArray,size_toArray];omega);have ea:its.toArray++its2.toArray=(its++its2).toArray:=by simp
 rw[ea];exact⟨.ref _,_,I.VH (t':=s.toks) (r.append r2) (by rw[length_append];omega),rfl,q _ I.fresh⟩
def XB:R2:=fun x y H Q=>∃ l k xs,x=.ref l/\y=.int k/\H l=some (.lst xs)/\-(2 ^ 63)<=k/\k<2 ^ 63/\xs.length * k.toNat<=sizeLine /\
 ∀ p,H p=none->Q (.ref p) (upd H p (.lst (List.replicate k.toNat xs).flatten))
theorem len_rep {α:Type}(xs:List α)(k:Nat):(List.replicate k xs).flatten.length=k * xs.length:=by
 induction k with
 |zero=>simp
 |succ k ih=>rw[List.replicate_succ,List.flatten_cons,length_append,ih,Nat.succ_mul,Nat.add_comm]
theorem qx:oC X (binaryOp .Mult) XB:=by
 intro pins s σ H x y v u Q I rx ry h;obtain⟨l,k,xs,rfl,rfl,hH,h1,h2,hz,q⟩:=h;cases rx;obtain⟨t,rfl⟩:=ry;obtain⟨z,its,n,r,hl,e⟩:=I.J9 hH;have hlen:its.toArray.size * k.toNat<=sizeLine:=by rw[size_toArray,<-hl];exact hz
 have XC:¬ its.toArray.size * k.toNat > (2 ^ 63-1) / 8:=by
  have:(sizeLine:Nat)<=(2 ^ 63-1) / 8:=by decide
  omega
 have hfit:¬(!Builtin.List.listFitsIndex k)=true:=by
  rw[fitsIndex_both h1 h2];exact Bool.false_ne_true
 have VJ:¬ Builtin.List.listTooLong (its.toArray.size * k.toNat)=true:=by
  rw[BC hlen];exact Bool.false_ne_true
 have hnew:List.foldl (fun x1 x2=>x1++x2) #[] (List.replicate (if its.toArray.isEmpty=true then 0 else k.toNat) its.toArray)=(List.replicate k.toNat its).flatten.toArray:=by
  have f0:∀ m:Nat,List.foldl (fun x1 x2=>x1++x2) #[] (List.replicate m its.toArray)=(List.replicate m its).flatten.toArray:=fun m=>by
   have:=foldl_rep its m [];rw[nil_append]at this;exact this
  rw[f0];cases its with
  |nil=>simp
  |cons a r'=>rw[if_neg (by simp)]
 refine wpAny_binaryOp_repeat_ref (T:="list") (U:="int") (by decide) ⟨_,e,rfl⟩ (fun s'=>typeIs_int s' k t) noFill_list_mul F.fills_int_mul F.slot_int_rmul repeat_list F.slot_int_index.lookup
  (call_meets F.slot_int_rmul (typeIs_int s k t) F.entry_int_rmul (F.args_int_rmul_2 _ _) (int___rmul___int_list k t l its.toArray n)
   ⟨e,rfl,⟨_,e,rfl⟩,call_meets F.slot_list_mul ⟨_,e,rfl⟩ F.entry_list_mul (F.args_list_mul_2 _ _) (AutoListH.list___mul___list_int_3 l its.toArray n k t hfit XC VJ) ⟨e,?_⟩⟩)
 rw[hnew];exact⟨.ref _,_,I.VH (t':=s.toks) (r.rep k.toNat) (by rw[len_rep,Nat.mul_comm];exact hz),rfl,q _ I.fresh⟩
end
section
variable {prog:Program} {w:World} {A:Around} {E:Value->Shared->Prop} {s:Shared}
theorem Nn (its its2:List Value)(a c:Nat):its.toArray.extract 0 a++its2.toArray++its.toArray.extract c its.toArray.size=(its.take a++its2++its.drop c).toArray:=by
 apply Array.toList_inj.mp
 first
  |(simp;exact List.take_of_length_le (by simp))
  |simp[List.take_of_length_le]
  |simp
theorem Ka {a c n:Nat}(hac:a<=c)(hc:c<=n):sliceBounds (some (a:Int)) (some (c:Int)) none n=((a:Int),(c:Int),1):=by
 simp only [sliceBounds,Option.getD_none];have h1:¬((a:Int)<0):=by omega
 have h2:¬((c:Int)<0):=by omega
 simp only [h1,h2,if_false,show(1:Int) > 0 by decide,if_true]
 congr 1
 ·omega
 ·congr 1;omega
set_option maxRecDepth 100000 in
theorem D5 {l b sl:Addr}{items new:Array Value}{n n2:Nat}{vl vu:Value}{a c:Nat}{Q:Unit->Shared->Prop}
  (e:s.heap.get? l=some { cls:=.type "list",data:=.seq items n }) (e2:s.heap.get? b=some { cls:=.type "list",data:=.seq new n2 }) (hne:l≠b)
  (hs:s.heap.IsSliceOf sl vl vu .none) (pl:IsPart vl (some (a:Int))) (pu:IsPart vu (some (c:Int))) (hac:a<=c) (hc:c<=items.size)
  (hsz:items.size+new.size<=sizeLine) (h:Q () { s with heap:=s.heap.update l (Obj.mapSeq fun xs=>xs.extract 0 a++new++xs.extract c xs.size) }) :
  wpAny (model prog w) A (setItem (.ref l) (.ref sl) (.ref b)) Q E s:=by
 have hl:s.heap.IsList l items:=PySem.IsL.isList e;have hb:s.heap.IsList b new:=PySem.IsL.isList e2;obtain⟨os,hos,hcs,hds⟩:=id hs;have hTs:s.TypeIs (.ref sl) "slice":=⟨os,hos,hcs⟩;have hstep:¬((rawPart none==rawInt 0)=true):=Bool.false_ne_true;have hsame:Builtin.List.listSameRef (.ref l) (.ref b)=false:=by
  unfold Builtin.List.listSameRef;exact beq_eq_false_iff_ne.mpr hne
 have XD:(max (a:Int) (c:Int)).toNat=c:=by omega
 have hz':((fun xs:Array Value=>xs.extract 0 a++new++xs.extract c xs.size) items).size<=sizeLine+1:=by
  simp only [Array.size_append,Array.size_extract];omega
 unfold setItem
 try with_reducible refine wpAny_holding ?_
 first|refine wpAny_bind (wpAny_pure ?_)|skip
 refine wpAny_bind (wpAny_sequenceKey hl.typeIs (by decide) ?_);refine wpAny_bind (wpAny_callSpecial?_slot (name:=Str.ofString "__setitem__") hl.typeIs slot_list_setitem
  (wpAny_call_entry slot_list_setitem hl.typeIs entry_list_setitem ?_ (args_list_setitem _ _ _)))
 show wpAny _ _ (Builtin.List.listSubscript? (.ref sl) >>= _) _ _ s;refine wpAny_bind ?_;unfold Builtin.List.listSubscript?;refine wpAny_bind (wpAny_specialOf hTs slice_no_index ?_);simp only [Option.isNone_none,if_true];refine wpAny_pure ?_;show wpAny _ _ (typeOf (.ref sl) >>= _) _ _ s;refine wpAny_bind (wpAny_typeOf hTs ?_)
 first
  |rw[if_neg (by decide)]
  |refine PySem.W.KFB.if_not (by decide) ?_
 rw[listSliceParts_eq];refine wpAny_bind (wpAny_bind (wpAny_field hos hds (x:=.none) rfl (wpAny_bind (wpAny_listPart .none ?_))));rw[if_neg hstep];refine wpAny_bind (wpAny_field hos hds (x:=vl) rfl (wpAny_bind (wpAny_listPart pl ?_)));refine wpAny_bind (wpAny_field hos hds (x:=vu) rfl (wpAny_bind (wpAny_listPart pu (wpAny_pure ?_))))
 first
  |simp only [hsame,Bool.false_eq_true,if_false]
  |refine PySem.W.KFB.if_not hsame ?_
  |(dsimp only;rw[if_neg (by rw[hsame];exact Bool.false_ne_true)])
 refine wpAny_bind (m:=Builtin.List.listAllItems (.ref b) "must assign iterable to extended slice") ?_;unfold Builtin.List.listAllItems;refine wpAny_bind (wpAny_typeOf hb.typeIs ?_)
 first
  |refine PySem.W.KFB.if_so (by decide) ?_
  |rw[if_pos (by decide)]
  |simp only [beq_self_eq_true,Bool.true_or,if_true]
 unfold Builtin.List.listItems;refine wpAny_bind (wpAny_seqItems e2 rfl (wpAny_pure ?_));refine wpAny_bind (wpAny_bind (wpAny_seqItems e rfl (wpAny_pure ?_)));refine wpAny_bind (wpAny_of_eq ((sliceIndices_raw (some (a:Int)) (some (c:Int)) none items.size (by simp)).trans (congrArg (pure:Int×Int×Int->Sem (Int×Int×Int)) (Ka hac hc))) ?_);show wpAny _ _ (if((1:Int)==1)=true then _ else _) _ _ s;rw[if_pos (by decide)];refine wpAny_bind (wpAny_rule ?_)
 first
  |simp only [BC hsz,Bool.false_eq_true,if_false]
  |refine PySem.W.KFB.if_not (BC hsz) ?_
 first|refine wpAny_bind (wpAny_pure ?_)|skip
 show wpAny _ _ (updateSeq l (fun xs=>xs.extract 0 ((a:Int)).toNat++new++xs.extract (max (a:Int) (c:Int)).toNat xs.size) >>= _) _ _ s;rw[XD,Int.toNat_natCast];refine wpAny_bind (wpAny_updateSeq (hz:=Nat.le_trans (Nat.le_add_right _ _) hsz) (_hz':=hz') e rfl ?_);refine wpAny_bind (wpAny_letGo ?_)
 first
  |exact wpAny_bind (wpAny_pure (wpAny_pure ⟨.none,rfl,wpAny_pure h⟩))
  |exact wpAny_pure ⟨.none,rfl,wpAny_pure h⟩
end
section
variable {X:Cx}
theorem Np {pins:List (Addr×Obj)}{s:Shared}{σ:St}{H:Hp}{l b sl:Addr}{xs ys:List V}{a c:Int}{vl vu:Value}{Q:Unit->Shared->Prop}(I:Inv X pins σ H s)
  (hH:H l=some (.lst xs)) (hB:H b=some (.lst ys)) (hne:l≠b) (hs:s.heap.IsSliceOf sl vl vu .none) (ra:RelV (.int a) vl) (rc:RelV (.int c) vu) (h0:0<=a) (hac:a<=c) (hc:c<=xs.length)
  (hz:xs.length+ys.length<=sizeLine) (h:∀ s',Inv X pins σ (upd H l (.lst (xs.take a.toNat++ys++xs.drop c.toNat))) s'->Q () s') :
  wpAny (model X.prog X.w) X.A (setItem (.ref l) (.ref sl) (.ref b)) Q X.xe s:=by
 obtain⟨ta,rfl⟩:=ra;obtain⟨tc,rfl⟩:=rc;obtain⟨z,its,n,r,hl,e⟩:=I.J9 hH;obtain⟨z2,its2,n2,r2,hl2,e2⟩:=I.J9 hB;obtain⟨a',rfl⟩:=Int.eq_ofNat_of_zero_le h0;obtain⟨c',rfl⟩:=Int.eq_ofNat_of_zero_le (Int.le_trans h0 hac);simp only [Int.toNat_natCast]at h;refine D5 (a:=a') (c:=c') e e2 hne hs (.int _ _) (.int _ _) (by omega) (by rw[size_toArray];omega) (by rw[size_toArray,size_toArray];omega) (h _ ?_);refine I.T3 (its':=its.take a'++its2++its.drop c') (t':=s.toks) hH e ?_ (Vals.append (Vals.append (r.take _) r2) (r.drop _)) ?_
 ·exact Nn its its2 a' c'
 ·rw[length_append,length_append,length_take,length_drop];omega
end
end L2
namespace YJ
open PySem PySem.W PySem.Calls PyProof.Rows
theorem Ay {P:Params}{h:Heap}:∀(ns:List Int)(vs:List Value),WellAll P h vs (ns.map WData.int)->IntsAre vs ns:=by
 intro ns
 induction ns with
 |nil =>
  intro vs w;rw[List.map_nil]at w;cases w;exact .nil
 |cons n ns ih =>
  intro vs w;rw[map_cons]at w;cases w with
  |cons a b =>
   cases a;exact .cons _ _ (ih _ b)
theorem Nq {l:OpenLaw}{n:Nat}(hn:l.most=some n){P:Params}{h:Heap}{args:List WData}{vals:List Value}
  (hpre:l.row.toRowW.claim.pre args=true) (hwl:WellAll P h vals args) :
  ∃ a vs ns,vals=[Value.ref a]/\args=[WData.list (ns.map WData.int)]/\h.get? a=some { cls:=.type "list",data:=.seq vs.toArray }/\IntsAre vs ns/\ns.length<=n:=by
 have hsh:WShape.hasAll [] args [.list .int]=true:=(pre_splitW hpre).1;have hc:l.pre.holds [] { args:=args } = true:=(pre_splitW hpre).2;obtain⟨d,r,rfl,h1,h2⟩:=hasAllW_cons hsh;obtain rfl:=hasAllW_nil h2;obtain⟨xs,rfl,h3⟩:=hasW_list h1;obtain⟨ns,rfl⟩:=items_int h3;have hlen:ns.length<=n:=by
  unfold OpenLaw.pre at hc;have h4:(WTm.not (.lt (.lit (.int (n:Int))) (.len (.arg 0)))).holds [] { args:=[.list (ns.map .int)] } = true:=by
   have h4:=(holds_andW hc).1;rw[hn]at h4;exact h4
  have h5:=condW_of h4 (w_not (w_lt w_lit (w_len_list (w_arg rfl))));rw[length_map]at h5;refine Nat.le_of_not_lt fun q=>?_;have q':(n:Int)<((ns.length:Nat):Int):=by omega
  first
   |(rw[decide_eq_true q']at h5;exact absurd h5 (by decide))
   |(simp at h5;omega)
 cases hwl with
 |cons w1 w2 =>
  cases w2;cases w1 with
  |list ho hall=>exact⟨_,_,ns,rfl,rfl,ho,Ay ns _ hall,hlen⟩
theorem Nr (l:OpenLaw)(args:List WData):l.row.toRowW.claim.post args (.bool true) args=true :=
 postW_of (r:=l.row.toRowW) (X:=(true==true))
  (show WShape.has [] (.bool true) .bool=true by first|rfl|decide|simp[WShape.has,WShape.arms,WShape.armsAll])
  (show(WTm.eq .res (.lit (.bool true))).value [] { args:=args,res:=some (.bool true),after:=args } = some (.bool (true==true)) from w_eq_bool (w_res rfl) w_lit) rfl
theorem Ia {l:OpenLaw}{n:Nat}{q:Program}{loose:List Str}{XP:(Str->Option Value)->Heap->Prop}{YP:World->Heap->Prop}{d:DefRec}
  (hn:l.most=some n) (hdf:d.params.defaults=[])
  (call:∀(w:World)(s₀ s₁:Shared)(mg mb:Str->Option Value)(fa:Addr)(o:Obj)(pm cd doc:Value)(a:Addr)(vs:List Value)(ns:List Int),
   Ground q loose [] XP w s₀ mg mb s₁.heap->YP w s₁.heap ->
   s₁.heap.get? fa=some o->o.data=.func (docDef d.name d.params d.body d.scope pm cd doc)->s₁.heap.CodeRec cd d.name->mg d.name=some (.ref fa) ->
   s₁.heap.get? a=some { cls:=.type "list",data:=.seq vs.toArray }->IntsAre vs ns->ns.length<=n->s₁.gens = #[] ->
   codeAny (model l.prog w) callerA (.call (.ref fa) ⟨[.ref a],[]⟩) (fun r s'=>r=.ok (.ret (.bool true))/\OldK s₁.heap s'.heap/\s'.os=s₁.os/\AllBare s'.gens) s₁) :
  WalkO q loose XP YP l.row.toRowW d [] (fun f vs=>PySem.call f vs):=by
 intro w s₀ s₁ mg mb G Y fa o pm cd doc dV kV ho hd hcd hD hmg hg args vals as hpre hlay hrd hwl hlo;obtain rfl:dV=.none:=Dflts.none hD hdf;obtain rfl:kV=.none:=Dflts.noKw hD;obtain⟨a,vs,ns,rfl,rfl,hobj,hints,hlen⟩:=Nq hn hpre hwl;refine enter_call (codeAny_mono (call w s₀ s₁ mg mb fa o pm cd doc a vs ns G Y ho (fd_plain hd) hcd hmg hobj hints hlen hg) fun r s' hq=>?_);obtain⟨rfl,h2,h3,h4⟩:=hq;exact⟨.inl ⟨.bool true,.bool true,[],rfl,fun _=>rfl,.bool true,Nr l _,fun _=>⟨List.Pairwise.nil,fun _ hm=>(nomatch hm)⟩⟩,h2,h3,h4⟩
section
variable {prog:Program} {w:World} {A:Around} {E:Value->Shared->Prop} {s:Shared} {K:Frag}
end
end YJ
namespace L2
open PySem PySem.Spec PyProof.Rows
theorem E3:∀{vs:List Value} {ns:List Int},IntsAre vs ns->Vals (ns.map V.int) vs
 |_,_,.nil=>.nil
 |_,_,.cons n t h=>.cons ⟨t,rfl⟩ (E3 h)
def Only (H:Hp):Prop:=∀ b,H b=none\/∃ o xs,H b=some (.Mp o (.lst xs))
theorem Pn {P:Program}{w:World}{K:Frag}{mg mb:Str->Option Value}{CX:Pb}{k:Nat}{fa a:Addr}{fd:FuncData}{x:Str}{sp:Sp}{s₁:Shared}{vs:List Value}{ns:List Int}
  (KX:K.In s₁.heap) (hns:s₁.heap.Ns mainGlobals mg) (hb:s₁.heap.Ns builtinsNs mb) (hbb:∀ x:Str,x ≠ "__name__"->mb x=bootBuiltins x) (hlim:s₁.heap.NoLimit) (hg:s₁.gens = #[])
  (ha:s₁.heap.get? a=some { cls:=.type "list",data:=.seq vs.toArray }) (hi:IntsAre vs ns) (hl:ns.length<=sizeLine) (hr:iY k callerA)
  (F:∀ base:Heap,K.In base->base.Ns mainGlobals mg->bB P w K mg base CX k fa fd [x] sp) (hbind:∀(s:Shared)(u:Value),BindsTo s fd ⟨[u],[]⟩ [(x,u)])
  (hsp:∀ H:Hp,Only H->aQ K H a (ns.map V.int)->sp [.ref a] H (fun v _=>v=.bl true) fun _ _ _=>False)
  (XE:∀ H e s',CX [] H s₁ (fun _ _ _=>False) e s'->False) :
  codeAny (model P w) callerA (.call (.ref fa) ⟨[.ref a],[]⟩) (fun r s'=>r=.ok (.ret (.bool true))/\OldK s₁.heap s'.heap/\s'.os=s₁.os/\AllBare s'.gens) s₁:=by
 have rv:=E3 hi;have lenV:=hi.length;have core:∀ H:Hp,Only H->aQ K H a (ns.map V.int)->zS P w H s₁.heap->(∀ b,H b≠none->b=a)->(H a≠none->K.lookup a=none) ->
   codeAny (model P w) callerA (.call (.ref fa) ⟨[.ref a],[]⟩) (fun r s'=>r=.ok (.ret (.bool true))/\OldK s₁.heap s'.heap/\s'.os=s₁.os/\AllBare s'.gens) s₁:=by
  intro H hO hS hok hA hK;have MD:∀{b:Addr} {o:Obj},s₁.heap.get? b=some o->H b=none->(FN s₁.heap H).get? b=some o:=fun e n=>OU e n;have VD:∀{b:Addr} {o:Obj} {es:Array DictEntry} {ep:Nat},s₁.heap.get? b=some o->o.data=.dict es ep->H b=none:=fun {b o es ep} e d=>by
   cases q:H b with
   |none=>rfl
   |some u =>
    have e':b=a:=hA b (by rw[q];simp);subst e';rw[ha]at e;cases e;have d':Data.seq vs.toArray _=Data.dict es ep:=d;cases d'
  have WK:∀{b:Addr} {m:Str->Option Value},s₁.heap.Ns b m->(FN s₁.heap H).Ns b m:=fun {b m} ⟨o,es,ep,e,d,r⟩=>⟨o,es,ep,MD e (VD e d),d,r⟩;have YK:K.In (FN s₁.heap H):=fun b o e=>MD (KX b o e) (by
   cases q:H b with
   |none=>rfl
   |some u =>
    have e':b=a:=hA b (by rw[q];simp);subst e';rw[hK (by rw[q];simp)]at e;cases e)
  have hM:Mod K mg (FN s₁.heap H):=⟨YK,WK hns,⟨mb,WK hb,hbb⟩,let ⟨mc,h1,h2⟩:=hlim;⟨mc,WK h1,h2⟩⟩;have e0:JZ P w K mg (FN s₁.heap H) callerA [] s₁ H:=⟨rfl,hM,fun b o e=>Rc e,Nat.le_of_eq (Na _ _),trivial,fun b hb=>absurd (show b∈([]:List Addr) from hb) (by simp),hok,.of_eq hg⟩;refine codeAny_mono ((F _ YK (WK hns)).run callerA [] s₁ H ⟨[.ref a],[]⟩ [.ref a] [.ref a] _ _ hr e0 (hbind s₁ (.ref a)) (.cons rfl .nil) (hsp H hO hS)) fun r s' h=>?_;cases r with
  |error e=>exact(XE H e s' h).elim
  |ok fl =>
   cases fl with
   |next=>exact False.elim h
   |brk=>exact False.elim h
   |cont=>exact False.elim h
   |ret u =>
    obtain⟨v,H',os,bare,un,hok',r',q⟩:=h;have q':v=.bl true:=q;subst q';obtain rfl:u=Value.bool true:=r';refine⟨rfl,OldK.of_keep fun b o e=>?_,os,bare⟩;cases q:H b with
    |none=>exact un.keep b o e q (by intro z;exact absurd (show b∈([]:List Addr) from z) (by simp)) (by simp)
    |some u =>
     rcases hO b with z|⟨ob,xs,z⟩
     ·rw[q]at z;cases z
     ·have z2:=un.DZ b ob _ z;obtain⟨e1,_⟩:=hok b _ z;obtain⟨e2,_⟩:=hok' b _ z2;rw[e]at e1;cases e1;exact e2
 cases hk:K.lookup a with
 |some o =>
  have e:=KX a o hk;rw[ha]at e;cases e;refine core (fun _=>none) (fun _=>.inl rfl) (.inr ⟨_,vs.toArray,_,hk,rfl,rfl,rfl,by rw[size_toArray,lenV];exact hl,by simpa using rv⟩) (fun b u z=>by have z':(none:Option HO)=some u:=z;cases z') (fun b z=>absurd rfl z) fun z=>absurd rfl z
 |none =>
  refine core (fun b=>if b=a then some (.Mp { cls:=.type "list",data:=.seq vs.toArray } (.lst (ns.map V.int))) else none) (fun b=>?_) (.inl (.inr ⟨{ cls:=.type "list",data:=.seq vs.toArray },if_pos rfl⟩)) (fun b u z=>?_) (fun b z=>?_) fun _=>hk
  ·by_cases hb:b=a
   ·exact .inr ⟨_,_,if_pos hb⟩
   ·exact .inl (if_neg hb)
  ·by_cases hb:b=a
   ·have z':=(if_pos hb).symm.trans z;cases z';subst hb;exact⟨ha,by rw[length_map];exact hl,vs,_,rv,ha⟩
   ·have z':=(if_neg hb).symm.trans z;cases z'
  ·by_cases hb:b=a
   ·exact hb
   ·exact absurd (if_neg hb) z
end L2
namespace L2
open PySem PySem.Spec PyProof.Rows
abbrev KOf {K:Frag}{h:Heap}(_:K.In h):Frag:=K
theorem Rq {l:OpenLaw}{n k:Nat}{q:Program}{loose:List Str}{XP:(Str->Option Value)->Heap->Prop}{YP:World->Heap->Prop}{d:DefRec}{K:Params->Frag}{CX:World->Pb}{sp:World->Sp}{x:Str}
  (hn:l.most=some n) (hn2:n<=sizeLine) (hdf:d.params.defaults=[]) (hr:iY k callerA)
  (hY:∀(w:World)(h:Heap),YP w h->(K w.params).In h)
  (F:∀(w:World)(mg:Str->Option Value)(fa:Addr)(h:Heap),(K w.params).In h->h.Ns mainGlobals mg->mg d.name=some (.ref fa) ->
   ∃ fd:FuncData,(∀(s:Shared)(u:Value),BindsTo s fd ⟨[u],[]⟩ [(x,u)]) /\
    ∀ base:Heap,(K w.params).In base->base.Ns mainGlobals mg->bB l.prog w (K w.params) mg base (CX w) k fa fd [x] (sp w))
  (hsp:∀(w:World)(H:Hp)(a:Addr)(ns:List Int),ns.length<=n->Only H->aQ (K w.params) H a (ns.map V.int)->sp w [.ref a] H (fun v _=>v=.bl true) fun _ _ _=>False)
  (XE:∀(w:World)(H:Hp)(s:Shared)(e:Value)(s':Shared),CX w [] H s (fun _ _ _=>False) e s'->False) :
  WalkO q loose XP YP l.row.toRowW d [] (fun f vs=>PySem.call f vs):=by
 refine YJ.Ia hn hdf fun w s₀ s₁ mg mb fa o pm cd doc a vs ns G Y ho hd hcd hmg hobj hints hlen hg=>?_;have KX:=hY w _ Y;obtain⟨fd,hb,hF⟩:=F w mg fa _ KX G.T.g hmg;exact Pn KX G.T.g G.T.b G.T.builtins G.T.nolimit hg hobj hints (Nat.le_trans hlen hn2) hr hF hb (fun H hO hS=>hsp w H a ns hlen hO hS) fun H e s'=>XE w H s₁ e s'
end L2
namespace L2
open PySem PySem.Spec PyProof.Rows
def inClass (s:Stmt)(j:Nat):Stmt:=match s with
 |.ClassDef _ _ _ body _ _ _ _ _ _ _=>body.getD j (.Pass ⟨0,0,0,0⟩)
 |_=>.Pass ⟨0,0,0,0⟩
def av (s:Stmt):Arguments:=match s with
 |.FunctionDef _ a _ _ _ _ _ _ _ _=>a
 |_=>{ posonlyargs:=[],args:=[],vararg:=none,kwonlyargs:=[],kw_defaults:=[],kwarg:=none,defaults:=[] }
def au (s:Stmt):List Stmt:=match s with
 |.FunctionDef _ _ b _ _ _ _ _ _ _=>b
 |_=>[]
def ah (s:Stmt):Scope:=match s with
 |.FunctionDef _ _ _ _ _ _ sc _ _ _=>sc
 |_=>{ kind:=.function,names:=[],isGenerator:=false,isCoroutine:=false }
abbrev iS:Pb:=fun _ _ _ _ _ _=>False
abbrev E0:XK:=fun _ _ _=>False
theorem ay {X:Cx}:Passes iS X E0:=fun _ _ _ _ _ _ _ h=>h.elim
structure kJ (K:Frag)(x qual:Str)(st:Stmt)(f:Addr)(fd:FuncData):Prop where
 ex:∃(oc:Value)(od:Option Addr)(kV doc pm:Value)(an:Option Addr)(cdv ct:Value)(osl:Array (Option Value)),
  fd=fnOf x qual (av st) (au st) (ah st) .none kV doc pm an cdv ct/\K.lookup f=some ⟨oc,od,.func fd,osl⟩/\codeIn K cdv qual=true
 kp:keepIn K (.ref f)=true
section
variable {P:Program} {w:World} {K:Frag} {mg:Str->Option Value} {base:Heap}
theorem kJ.ok {x qual:Str}{st:Stmt}{f:Addr}{fd:FuncData}{N ps:List Str}{k:Nat}{sp:Sp}(F:kJ K x qual st f fd)(S:az N ps (ah st))(len:∀ vs H Q E,sp vs H Q E->vs.length=ps.length)
  (hbody:∀(cdv:Value)(A:Around)(outer:List Env)(s:Shared)(H:Hp)(vs:List V)(Q:VK)(E:XK),iY k (A.deeper (envOfC qual (ah st) s.heap.objs.size f cdv))->sp vs H Q E ->
   ∃ t,HM (J1 iS P w K mg base N qual (ah st) f cdv A outer s H E).U1 (au st) t/\t { nx:=fun _ H'=>Q .non H',rt:=Q } (start N vs) H):bB P w K mg base iS (k+1) f fd ps sp:=by
 obtain⟨oc,od,kV,doc,pm,an,cdv,ct,osl,rfl,lk,hcd⟩:=F.ex;refine SJ lk hcd S len fun A outer s H vs Q E hr hsp=>?_;obtain⟨t,h,q⟩:=hbody cdv A outer s H vs Q E hr hsp;exact⟨t,h.U1,q⟩
theorem kJ.binds {x qual:Str}{st:Stmt}{f:Addr}{fd:FuncData}{ps:List Str}(F:kJ K x qual st f fd)
  (h:∀(kV doc pm:Value)(an:Option Addr)(cdv ct:Value)(us:List Value),us.length=ps.length->bindArgs (fnOf x qual (av st) (au st) (ah st) .none kV doc pm an cdv ct) ⟨us,[]⟩=pure (ps.zip us)):Binds K fd ps []:=by
 obtain⟨oc,od,kV,doc,pm,an,cdv,ct,osl,rfl,lk,hcd⟩:=F.ex;exact .all (h kV doc pm an cdv ct)
theorem aP {x qual:Str}{st:Stmt}{f:Addr}{oc:Value}{od an:Option Addr}{osl:Array (Option Value)}{kV doc pm cdv ct:Value}(l:K.lookup f=some ⟨oc,od,.func (fnOf x qual (av st) (au st) (ah st) .none kV doc pm an cdv ct),osl⟩)
  (c:codeIn K cdv qual=true) (k:keepIn K (.ref f)=true):kJ K x qual st f (fnOf x qual (av st) (au st) (ah st) .none kV doc pm an cdv ct):=⟨⟨oc,od,kV,doc,pm,an,cdv,ct,osl,rfl,l,c⟩,k⟩
end
theorem bq {n:Nat}(h:n<=1000):n<sizeLine:=Nat.lt_of_le_of_lt h (by decide)
section
variable {X:Cx}
theorem pv (i:Nat){x:Str}{pos:Pos}(hN:X.N[i]? = some x:=by rfl)(hv:Vi X.env.scope x:=by first|exact Or.inl rfl|exact Or.inr (Or.inl rfl)|exact Or.inr (Or.inr rfl))(hd:(x==("__debug__":Str))=false:=by decide)
  (hcd:(x==("__classdict__":Str))=false:=by decide):PE X (.Name x pos) (Vk i):=Tx hN hv hd hcd
end
theorem mx {A B:Prop}(h:B):if false=true then A else B:=by
 rw[if_neg Bool.false_ne_true];exact h
theorem qm {A B:Prop}(h:A):if true=true then A else B:=by
 rw[if_pos rfl];exact h
theorem cg {c A B:Prop}[Decidable c](h1:c->A)(h2:¬ c->B):if c then A else B:=by
 by_cases h:c
 ·rw[if_pos h];exact h1 h
 ·rw[if_neg h];exact h2 h
def aq (H H':Hp):Prop:=∀ b o,H b=some o->H' b=some o
theorem aq.refl (H:Hp):aq H H:=fun _ _ h=>h
theorem aq.trans {H H1 H2:Hp}(a:aq H H1)(b:aq H1 H2):aq H H2:=fun c o h=>b c o (a c o h)
theorem aq.free {H H':Hp}(e:aq H H'){l:Addr}(h:H' l=Option.none):H l=Option.none:=by
 cases q:H l with
 |none=>rfl
 |some o =>
  rw[e l o q]at h;cases h
theorem aq.seq {K:Frag}{H H':Hp}{a:Addr}{xs:List V}(e:aq H H')(h:aQ K H a xs):aQ K H' a xs:=by
 rcases h with (h|⟨o,h⟩)|h
 ·exact .inl (.inl (e _ _ h))
 ·exact .inl (.inr ⟨o,e _ _ h⟩)
 ·exact .inr h
end L2
set_option maxHeartbeats 4000000
namespace L2
open PySem PySem.Spec PyProof.Rows
def eJ (env:Env):List (Str×NameKind)->List (Str×Addr)->List (Str×Addr)
 |[],acc=>acc
 |p::l,acc=>eJ env l (if p.2 == .free then(p.1,(env.cells.lookup p.1).getD 0)::acc else acc)
theorem ME {env:Env}{scope:Scope}(h:∀ p∈scope.names,p.2=.free->∃ c,env.cells.lookup p.1=some c):closureFor scope env=pure (eJ env scope.names []):=by
 have go:∀(l:List (Str×NameKind)) (acc:List (Str×Addr)),(∀ p∈l,p.2=.free->∃ c,env.cells.lookup p.1=some c) ->
   (forIn l acc fun(p:Str×NameKind) cs=>if(p.2==NameKind.free)=true then(cellOf env p.1 >>= fun a=>pure (ForInStep.yield ((p.1,a)::cs))) else pure (ForInStep.yield cs))=(pure (eJ env l acc):Sem (List (Str×Addr))):=by
  intro l
  induction l with
  |nil=>intro acc _;rfl
  |cons p l ih =>
   intro acc hl;rw[List.forIn_cons];have hr:=fun q hq=>hl q (mem_cons_of_mem _ hq)
   by_cases hk:p.2=.free
   ·obtain⟨c,hc⟩:=hl p mem_cons_self hk;have e1:(p.2==NameKind.free)=true:=by rw[hk];rfl
    rw[if_pos e1];have e2:cellOf env p.1=pure c:=by unfold cellOf;rw[hc]
    rw[e2,pure_bind,pure_bind];show forIn l ((p.1,c)::acc) _=_;rw[ih _ hr];show _=pure (eJ env l (if p.2 == .free then(p.1,(env.cells.lookup p.1).getD 0)::acc else acc));rw[if_pos e1,hc];rfl
   ·have e1:¬(p.2==NameKind.free)=true:=by intro z;exact hk (by simpa using z)
    rw[if_neg e1,pure_bind];show forIn l acc _=_;rw[ih _ hr];show _=pure (eJ env l (if p.2 == .free then(p.1,(env.cells.lookup p.1).getD 0)::acc else acc));rw[if_neg e1]
 have e:=go scope.names [] h;unfold closureFor;show(forIn scope.names ([]:List (Str×Addr)) _ >>= fun r=>pure r)=_;rw[bind_pure];exact e
theorem E4 {env:Env}{x:Str}:∀(l:List (Str×NameKind)) (acc:List (Str×Addr)) {c:Addr},(eJ env l acc).lookup x=some c->acc.lookup x=some c\/((x,NameKind.free)∈l/\c=(env.cells.lookup x).getD 0)
 |[],acc,c,h=>.inl h
 |p::l,acc,c,h=>by
  rcases E4 l _ h with z|⟨z,e⟩
  ·by_cases hk:(p.2==NameKind.free)=true
   ·rw[if_pos hk,List.lookup_cons]at z
    by_cases hx:(x==p.1)=true
    ·rw[hx]at z;have e:x=p.1:=by simpa using hx
     have e2:p.2=.free:=by simpa using hk
     refine .inr ⟨?_,?_⟩
     ·rw[e,<-e2];exact mem_cons_self
     ·rw[e];exact(Option.some.inj z).symm
    ·have hx':(x==p.1)=false:=by simpa using hx
     rw[hx']at z;exact .inl z
   ·rw[if_neg hk]at z;exact .inl z
  ·exact .inr ⟨mem_cons_of_mem _ z,e⟩
theorem BD {env:Env}{x:Str}:∀(l:List (Str×NameKind)) (acc:List (Str×Addr)),((acc.lookup x).isSome=true\/(x,NameKind.free)∈l)->((eJ env l acc).lookup x).isSome=true
 |[],acc,h=>by
  rcases h with h|h
  ·exact h
  ·cases h
 |p::l,acc,h=>by
  refine BD l _ ?_;rcases h with h|h
  ·left
   by_cases hk:(p.2==NameKind.free)=true
   ·rw[if_pos hk,List.lookup_cons];cases (x==p.1) with
    |true=>rfl
    |false=>exact h
   ·rw[if_neg hk];exact h
  ·rcases List.mem_cons.mp h with e|h
   ·left
    have e1:p.1=x:=by rw[<-e]
    have e2:(p.2==NameKind.free)=true:=by rw[<-e];rfl
    rw[if_pos e2,List.lookup_cons,e1];simp
   ·exact .inr h
theorem lG {env:Env}{x:Str}{k:NameKind}:∀(l:List (Str×NameKind)),
  (l.map fun(n,k)=>if(k==NameKind.free&&env.scope.kind == .function&&env.kindOf n==some .cell) then(n,NameKind.cell) else(n,k)).lookup x=some k ->
   l.lookup x=some k\/(k=.cell/\l.lookup x=some .free)
 |[],h=>by cases h
 |(n,q)::l,h=>by
  rw[map_cons]at h;cases hx:(x==n) with
  |true =>
   rw[List.lookup_cons,hx]
   by_cases hc:(q==NameKind.free&&env.scope.kind == .function&&env.kindOf n==some .cell)=true
   ·simp only [hc,if_true,List.lookup_cons,hx]at h;have e:q=.free:=by
     have:=(Bool.and_eq_true_iff.mp (Bool.and_eq_true_iff.mp hc).1).1
     simpa using this
    right
    exact⟨(Option.some.inj h).symm,by rw[e]⟩
   ·have hc':(q==NameKind.free&&env.scope.kind == .function&&env.kindOf n==some .cell)=false:=by simpa using hc
    simp only [hc',Bool.false_eq_true,if_false,List.lookup_cons,hx]at h;exact .inl h
  |false =>
   rw[List.lookup_cons,hx];refine lG (env:=env) l ?_
   by_cases hc:(q==NameKind.free&&env.scope.kind == .function&&env.kindOf n==some .cell)=true
   ·simp only [hc,if_true,List.lookup_cons,hx]at h;exact h
   ·have hc':(q==NameKind.free&&env.scope.kind == .function&&env.kindOf n==some .cell)=false:=by simpa using hc
    simp only [hc',Bool.false_eq_true,if_false,List.lookup_cons,hx]at h;exact h
structure Bk where
 C:Addr
 s₂:Shared
 aa7:Hp
 fp:List Addr
 xe:Value->Shared->Prop
def bZ (X:Cx)(cn:List Str)(scope:Scope)(b:Bk):Cx where
 prog:=X.prog
 w:=X.w
 K:=X.K
 mg:=X.mg
 base:=X.base
 A:=X.A
 N:=cn++X.N
 s₀:=b.s₂
 H₀:=b.aa7
 env:=compEnvC scope (eJ X.env scope.names []) b.C X.env
 outer:=X.stack
 stack:=X.stack
 ex:=b.fp
 fn:=fun _=>false
 calm:=X.calm
 pn:=[]
 xe:=b.xe
def Po (sc:Scope)(N:List Str)(scope:Scope):Bool :=
 (scope.kind == .function) &&
 (scope.names.all fun p=>(p.2 != .cell)&&((p.2 != .free)||(sc.names.lookup p.1==some .cell)||(sc.names.lookup p.1==some .free))&&((p.2 != .local)||(scope.names.lookup p.1==some .local))) &&
 (N.all fun x=>scope.names.lookup x != some .local)
structure dI (sc:Scope)(N:List Str)(scope:Scope):Prop where
 kind:scope.kind=.function
 Pp:∀ p∈scope.names,p.2≠.cell
 free:∀ p∈scope.names,p.2=.free->sc.names.lookup p.1=some .cell\/sc.names.lookup p.1=some .free
 loc:∀ p∈scope.names,p.2=.local->scope.names.lookup p.1=some .local
 apart:∀ x∈N,scope.names.lookup x≠some .local
theorem dI.of {sc:Scope}{N:List Str}{scope:Scope}(h:Po sc N scope=true):dI sc N scope:=by
 unfold Po at h;rw[Bool.and_eq_true,Bool.and_eq_true]at h;obtain⟨⟨h1,h2⟩,h3⟩:=h;rw[List.all_eq_true]at h2 h3;refine⟨by simpa using h1,fun p hp=>?_,fun p hp e=>?_,fun p hp e=>?_,fun x hx=>?_⟩
 ·have:=h2 p hp;rw[Bool.and_eq_true,Bool.and_eq_true]at this
  simpa using this.1.1
 ·have:=h2 p hp;rw[Bool.and_eq_true,Bool.and_eq_true]at this;have q:=this.1.2;rw[e]at q;rw[Bool.or_eq_true,Bool.or_eq_true]at q;rcases q with (q|q)|q
  ·exact absurd q (by decide)
  ·exact .inl (by simpa using q)
  ·exact .inr (by simpa using q)
 ·have:=h2 p hp;rw[Bool.and_eq_true,Bool.and_eq_true]at this;have q:=this.2;rw[e]at q;rw[Bool.or_eq_true]at q;rcases q with q|q
  ·exact absurd q (by decide)
  ·simpa using q
 ·have:=h3 x hx
  simpa using this
section
variable {X:Cx} {pins:List (Addr×Obj)} {σ:St} {H:Hp}
theorem qy {l:List (Str×NameKind)}{x:Str}{k:NameKind}(h:l.lookup x=some k):(x,k)∈l:=PySem.mem_of_lookup h
theorem Inv.block {s₂:Shared}{h₁:Heap}{tk:Nat}{cn:List Str}{scope:Scope}{fp:List Addr}{xe:Value->Shared->Prop}{C D:Addr}{m:Str->Option Value}
  (I:Inv X pins σ H s₂) (F:dI X.env.scope X.N scope) (hc:X.calm=true) (hf:∀ b∈fp,lD X pins H b) (hfl:∀ b∈fp,b<s₂.heap.objs.size)
  (hC:s₂.heap.objs.size<=C) (hD:s₂.heap.objs.size<=D) (hDC:D≠C) (hn:h₁.Ns C m) (old:∀ b o,s₂.heap.get? b=some o->h₁.get? b=some o)
  (hacc:h₁.get? D=some { cls:=.type "list",data:=.seq ([]:List Value).toArray 0 }) :
  Inv (bZ X cn scope ⟨C,s₂,H,fp,xe⟩) [] (List.replicate cn.length none++σ) (upd H D (.lst [])) { s₂ with heap:=h₁,toks:=tk }:=by
 have FR:∀ x,((bZ X cn scope ⟨C,s₂,H,fp,xe⟩).env.kindOf x=some .cell\/(bZ X cn scope ⟨C,s₂,H,fp,xe⟩).env.kindOf x=some .free)->(x,NameKind.free)∈scope.names:=by
  intro x hx;have hx':(relabel scope X.env).names.lookup x=some .cell\/(relabel scope X.env).names.lookup x=some .free:=hx;rcases hx' with z|z
  ·rcases lG scope.names z with z|⟨_,z⟩
   ·exact absurd rfl (F.Pp _ (qy z))
   ·exact qy z
  ·rcases lG scope.names z with z|⟨e,_⟩
   ·exact qy z
   ·cases e
 have MF:∀ x,(x,NameKind.free)∈scope.names->X.env.kindOf x=some .cell\/X.env.kindOf x=some .free:=fun x hx=>F.free _ hx rfl;have oF:∀ x c,(eJ X.env scope.names []).lookup x=some c->X.env.cells.lookup x=some c:=by
  intro x c e;rcases E4 _ _ e with z|⟨z,e2⟩
  ·cases z
  ·obtain⟨c',hc'⟩:=I.ok.has x (MF x z);rw[hc']at e2 ⊢;rw[e2];rfl
 have ZE:(bZ X cn scope ⟨C,s₂,H,fp,xe⟩).fs=frs X.stack:=rfl;have XF:∀ b∈fp,b ∉ frs X.stack:=by
  intro b hb z;obtain⟨_,f1,f2,_⟩:=hf b hb;rcases List.mem_cons.mp (I.JP b z) with e|e
  ·exact f1 e
  ·exact f2 e
 have T5:∀ x c,X.env.cells.lookup x=some c->c<s₂.heap.objs.size:=by
  intro x c e;obtain⟨v,o,ho,_⟩:=I.cell x c e;exact Heap.lt_size ho
 have ok:(bZ X cn scope ⟨C,s₂,H,fp,xe⟩).Ok:=by
  refine⟨I.ok.mod,?_,I.ok.glob,I.ok.blt,hC,fun x y c h1 h2=>I.ok.inj x y c (oF x c h1) (oF y c h2),fun x hx=>?_,fun x c z=>?_,fun _=>I.ok.hd hc,I.ok.frames,.inl rfl,fun b hb=>⟨?_,fun x c e=>?_⟩,
   fun b o e=>I.bs b o e,Nat.le_trans I.ok.Q4 I.sz,fun b o e hb=>?_,fun b hb=>?_,I.stack,I.Mq⟩
  ·show(relabel scope X.env).kind=.function;exact F.kind
  ·have:=BD (env:=X.env) (x:=x) scope.names [] (.inr (FR x hx));exact Option.isSome_iff_exists.mp this
  ·cases z
  ·exact Nat.ne_of_lt (Nat.lt_of_lt_of_le (hfl b hb) hC)
  ·exact(hf b hb).2.2.2.2.1 x c (oF x c e)
  ·have:X.base.objs.size<=X.s₀.heap.objs.size:=I.ok.Q4;rcases (hf b hb).2.2.2.1 with z|z
   ·exact I.ok.OV b o e z
   ·exact absurd (Nat.lt_of_lt_of_le (Heap.lt_size e) (Nat.le_trans I.ok.Q4 z)) (Nat.lt_irrefl _)
  ·exact XF b hb
 have ZF:H D=none:=I.hok.fresh hD;have XG:zS X.prog X.w (upd H D (.lst [])) h₁:=I.hok.laid old hD ⟨Nat.zero_le _,[],0,.nil,hacc⟩;refine⟨ok,rfl,I.bare,Un.laid old hD ZF,⟨m,hn,fun i x v e1 e2 e3=>?_⟩,fun x c e=>?_,?_,fun x c e=>?_,fun p hp=>absurd (show p∈([]:List (Addr×Obj)) from hp) (by simp),XG,?_⟩
 ·have hi:¬ i<cn.length:=by
   intro hi;rw[getElem?_append_left (by simpa using hi),List.getElem?_replicate]at e2;split at e2 <;> cases e2
  rw[getElem?_append_right (by simpa using hi),List.length_replicate]at e2;have e1':(cn++X.N)[i]? = some x:=e1;rw[getElem?_append_right (by omega)]at e1';obtain⟨m0,hm0,hl⟩:=I.loc;have YL:x∈X.N:=mem_of_getElem? e1';have hfr:(x,NameKind.free)∈scope.names:=by
   have e3':(relabel scope X.env).names.lookup x=some .local\/(relabel scope X.env).names.lookup x=some .cell\/(relabel scope X.env).names.lookup x=some .free:=e3;rcases e3' with z|z|z
   ·rcases lG scope.names z with z|⟨e,_⟩
    ·exact absurd z (F.apart x YL)
    ·cases e
   ·exact FR x (.inl z)
   ·exact FR x (.inr z)
  have hk:=MF x hfr;have Xk:Vi X.env.scope x:=by
   rcases hk with z|z
   ·exact .inr (.inl z)
   ·exact .inr (.inr z)
  obtain⟨u,r,lk⟩:=hl (i-cn.length) x v e1' e2 Xk;refine⟨u,r,?_⟩;rcases lk with ⟨z,_⟩|⟨_,c,ec,z⟩
  ·rcases hk with q|q
   ·rw[z]at q;cases q
   ·rw[z]at q;cases q
  ·have hcl:(eJ X.env scope.names []).lookup x=some c:=by
    obtain⟨c',e'⟩:=Option.isSome_iff_exists.mp (BD (env:=X.env) (x:=x) scope.names [] (.inr hfr));rw[e'];have:=oF x c' e';rw[ec]at this;exact this.symm
   refine .inr ⟨?_,c,hcl,?_⟩
   ·have e3':(relabel scope X.env).names.lookup x=some .local\/(relabel scope X.env).names.lookup x=some .cell\/(relabel scope X.env).names.lookup x=some .free:=e3;rcases e3' with y|y|y
    ·rcases lG scope.names y with y|⟨e,_⟩
     ·exact absurd y (F.apart x YL)
     ·cases e
    ·exact .inl y
    ·exact .inr y
   ·obtain⟨o,ho,hd⟩:=z;exact⟨o,old c o ho,hd⟩
 ·obtain⟨v,o,ho,hd⟩:=I.cell x c (oF x c e);exact⟨v,o,old c o ho,hd⟩
 ·show upd H D (.lst []) C=none;rw[ai (Ne.symm hDC)];exact I.hok.fresh hC
 ·rw[ai (Nat.ne_of_lt (Nat.lt_of_lt_of_le (T5 x c (oF x c e)) hD))];exact I.sN x c (oF x c e)
 ·show(List.replicate cn.length none++σ).length=(cn++X.N).length;rw[length_append,List.length_replicate,length_append,I.len]
theorem Inv.MG {s₂ s':Shared}{h':Heap}{cn:List Str}{scope:Scope}{fp:List Addr}{xe:Value->Shared->Prop}{C:Addr}{H':Hp}{σ':St}{pl:List (Addr×Obj)}
  (I:Inv X pins σ H s₂) (hf:∀ b∈fp,lD X pins H b) (hC:s₂.heap.objs.size<=C) (J:Inv (bZ X cn scope ⟨C,s₂,H,fp,xe⟩) pl σ' H' s') (sb:Heap.SameBut C s'.heap h') :
  Inv X pins σ H' { s' with heap:=h' }:=by
 have Sv:∀ b o,s₂.heap.get? b=some o->b≠C:=fun b o e=>Nat.ne_of_lt (Nat.lt_of_lt_of_le (Heap.lt_size e) hC);have u:Un (frs X.stack) fp H H' s₂.heap s'.heap:=J.base;have un:Un (frs X.stack) fp H H' s₂.heap h' :=
  ⟨fun b o e n hb hx=>(sb.2 b (Sv b o e)).trans (u.keep b o e n hb hx),
   fun b o e n hb hx=>by
   obtain⟨sl,q⟩:=u.slot b o e n hb hx;exact⟨sl,(sb.2 b (Sv b o e)).trans q⟩,
   u.free,fun b o e hx=>by
   obtain⟨o',q⟩:=u.there b o e hx;exact⟨o',(sb.2 b (Sv b o e)).trans q⟩,u.tups,u.DZ,u.FL⟩
 have fC:H' C=none:=J.free;have hok:zS X.prog X.w H' h':=fun b o e=>by
  refine(J.hok b o e).stay (fun c v hc q=>(sb.2 c ?_).trans q) (fun _ q=>q) fun _ _ q=>q;rintro rfl;rcases hc with z|z
  ·rw[<-z,fC]at e;cases e
  ·rw[fC]at z;cases z
 have os:s'.os=s₂.os:=J.os;refine I.call' (s':={ s' with heap:=h' }) os un hok J.bare fun b hb=>?_;obtain⟨_,f1,_,f3,f4,f5⟩:=hf b hb;exact⟨f3,f1,f4,f5⟩
end
end L2
set_option maxHeartbeats 4000000
namespace L2
open PySem PySem.Spec PyProof.Rows
theorem Nt {prog:Program}{w:World}{A:Around}{R:Result->Shared->Prop}{s:Shared}{elt tg iter:Expr}{ifs:List Expr}{scope:Scope}{pos:Pos}{it acc:Value}{env:Env}(J:Nat->Shared->Prop)
  (turn:∀ n s,J n s->wpAny (model prog w) A (pyNext it) (fun r s₁=>(r=none/\R (.ok .next) s₁)\/∃ v,r=some v /\
   wpAny (model prog w) A (letOwnedTupleGo tg it v) (fun _ s₂=>wpAny (model prog w) A (assign tg env v) (fun _ s₃ =>
    wpAny (model prog w) A (forIn ifs true fun c r=>if r=true then do let ok <-isTrue c env (eval c env);pure (ForInStep.yield ok) else pure (ForInStep.yield r)) (fun ok s₄ =>
     if ok=true then wpAny (model prog w) A (eval elt env) (fun x s₅=>wpAny (model prog w) A (call (.builtin "list.append") [acc,x]) (fun _ s₆=>∃ m,m<n/\J m s₆) (notedBy (model prog w) A env fun e s'=>R (.error e) s') s₅)
      (notedBy (model prog w) A env fun e s'=>R (.error e) s') s₄
     else ∃ m,m<n/\J m s₄) (notedBy (model prog w) A env fun e s'=>R (.error e) s') s₃) (notedBy (model prog w) A env fun e s'=>R (.error e) s') s₂) (notedBy (model prog w) A env fun e s'=>R (.error e) s') s₁)
   (notedBy (model prog w) A env fun e s'=>R (.error e) s') s)
  (n:Nat) (h:J n s):codeAny (model prog w) A (.compLoop (.ListComp elt [⟨tg,iter,ifs,0⟩] scope pos) 0 it acc env) R s:=by
 refine codeAny_loop rfl J (fun n s hJ=>?_) n h;refine wpAny_noted (A:=A) (m:=compTurn (.ListComp elt [⟨tg,iter,ifs,0⟩] scope pos) 0 it acc env) (env:=env) ?_;rw[compTurn_list];refine wpAny_bind (wpAny_standAt (wpAny_bind (cH (turn n s hJ) fun r s₁ h₁=>?_)));rcases h₁ with ⟨e,h₁⟩|⟨v,e,h₁⟩
 ·subst e;exact wpAny_pure h₁
 ·subst e;refine wpAny_bind (cH h₁ fun _ s₂ h₂=>wpAny_bind (cH h₂ fun _ s₃ h₃=>wpAny_bind (cH h₃ fun ok s₄ h₄=>?_)));cases ok with
  |false=>exact wpAny_pure ⟨rfl,h₄⟩
  |true=>exact wpAny_bind (wpAny_bind (cH h₄ fun x s₅ h₅=>wpAny_bind (cH h₅ fun _ s₆ h₆=>wpAny_pure (wpAny_pure ⟨rfl,h₆⟩))))
def PF (X:Cx)(ifs:List Expr)(t:TT):Prop :=
 ∀(pins:List (Addr×Obj)) (s:Shared) (σ:St) (H:Hp) (Q:Bool->Hp->Prop),Inv X pins σ H s->t σ H Q ->
  wpAny (model X.prog X.w) X.A (forIn ifs true fun c r=>if r=true then do let ok <-isTrue c X.env (eval c X.env);pure (ForInStep.yield ok) else pure (ForInStep.yield r)) (TP X pins σ Q) X.xe s
def T6:TT:=fun _ H Q=>Q true H
theorem tD {X:Cx}:PF X [] T6:=by
 intro pins s σ H Q I h;rw[List.forIn_nil];exact wpAny_pure ⟨H,I,h⟩
theorem Pq {X:Cx}{c:Expr}{t:TT}(hc:PT X c t):PF X [c] t:=by
 intro pins s σ H Q I h;rw[List.forIn_cons];refine wpAny_bind ?_;rw[if_pos rfl];refine wpAny_bind (cH (hc pins s σ H Q I h) fun ok s1 q=>wpAny_pure ?_);show wpAny _ _ (forIn [] ok _) _ _ _;rw[List.forIn_nil];exact wpAny_pure q
def Kb (X:Cx)(C:Addr)(e:Value)(s':Shared):Prop :=
 ∃ m,s'.heap.Ns C m/\∀ h',Heap.SameBut C s'.heap h'->∀ cenv:Env,cenv.locals=C->wpAny (model X.prog X.w) X.A (passOn "comprehension.variables-let-go" e cenv:Sem Value) (fun _ _=>False) X.xe { s' with heap:=h' }
def nP (X:Cx)(scope:Scope)(C:Addr):Value->Shared->Prop :=
 notedBy (model X.prog X.w) X.A (compEnvC scope (eJ X.env scope.names []) C X.env) (Kb X C)
def Pr (n:Nat)(wi:TI)(g:Bk->TG)(tc:Bk->TT)(te:Bk->TE):TE:=fun σ H Q=>wi σ H fun J H1=>∀(D:Addr)(b:Bk),H1 D=none->∃ W:Nat->Nat->List V->St->Hp->Prop,
 (∃ m,W 0 m [] (List.replicate n none++σ) (upd H1 D (.lst [])))/\∀ i m ys σ H,W i m ys σ H ->
  (J.stop i H/\Q (.ref D) H)\/(J.go i H/\∀ x H',J.O0 i H x H'->g b x σ H' fun σ2 H2=>tc b σ2 H2 fun ok H3 =>
   if ok=true then te b σ2 H3 fun y H4=>H4 D=some (.lst ys)/\ys.length<sizeLine/\∃ m',m'<m/\W (i+1) m' (ys++[y]) σ2 (upd H4 D (.lst (ys++[y])))
   else ∃ m',m'<m/\W (i+1) m' ys σ2 H3)
section
variable {X:Cx} {tg iter elt:Expr} {ifs:List Expr} {scope:Scope} {pos:Pos} {cn:List Str} {wi:TI} {g:Bk->TG} {tc:Bk->TT} {te:Bk->TE} {TH:Bk->Prop}
theorem Ib {pins:List (Addr×Obj)}{σ:St}{H:Hp}{s₂:Shared}{it:Addr}{fp:List Addr}{tn:Nat->Heap->Prop}{J:It}{RR:Value->Addr->Result->Shared->Prop}{QQ:Addr->Hp->Prop}{EE:Value->Shared->Prop}
  (hcalm:X.calm=true) (F:dI X.env.scope X.N scope) (hg:∀ b,TH b->PG (bZ X cn scope b) tg (g b)) (ht:∀ b,TH b->PF (bZ X cn scope b) ifs (tc b)) (he:∀ b,TH b->PE (bZ X cn scope b) elt (te b))
  (XH:∀ C,s₂.heap.objs.size<=C->TH ⟨C,s₂,H,fp,nP X scope C⟩)
  (I:Inv X pins σ H s₂) (T:Turn X.prog X.w X.K tg J fp it tn) (st:tn 0 s₂.heap) (hf:∀ b∈fp,lD X pins H b)
  (h:∀(D:Addr)(b:Bk),H D=none->∃ W:Nat->Nat->List V->St->Hp->Prop,(∃ m,W 0 m [] (List.replicate cn.length none++σ) (upd H D (.lst [])))/\∀ i m ys σ H,W i m ys σ H ->
   (J.stop i H/\QQ D H)\/(J.go i H/\∀ x H',J.O0 i H x H'->g b x σ H' fun σ2 H2=>tc b σ2 H2 fun ok H3 =>
    if ok=true then te b σ2 H3 fun y H4=>H4 D=some (.lst ys)/\ys.length<sizeLine/\∃ m',m'<m/\W (i+1) m' (ys++[y]) σ2 (upd H4 D (.lst (ys++[y])))
    else ∃ m',m'<m/\W (i+1) m' ys σ2 H3))
  (hR:∀ C D σ' H' s',s₂.heap.objs.size<=C->Inv (bZ X cn scope ⟨C,s₂,H,fp,nP X scope C⟩) [] σ' H' s'->QQ D H'->RR (.ref D) C (.ok .next) s')
  (hE:∀ C D e s',Kb X C e s'->RR (.ref D) C (.error e) s') :
  wpAny (model X.prog X.w) X.A (newList []) (fun acc s₃=>wpAny (model X.prog X.w) X.A (newFunctionEnv scope X.env.globals (eJ X.env scope.names []) [] X.env.qual none .none (some X.env)) (fun cenv s₄ =>
   codeAny (model X.prog X.w) X.A (.compStart (.ListComp elt [⟨tg,iter,ifs,0⟩] scope pos) 0 (.ref it) acc { cenv with scope:=relabel scope X.env }) (RR acc cenv.locals) s₄) EE s₃) EE s₂:=by
 refine wpAny_newObj_type (wpAny_newFunctionEnv F.Pp (by intro y hy;simp at hy) (fun h₁ hns₁ hsb₁=>?_) F.kind);dsimp only at hns₁ hsb₁ ⊢;generalize hH2:s₂.heap.push { cls:=.type "list",dict:=none,data:=.seq ([]:List Value).toArray } = H2 at hns₁ hsb₁ ⊢;have hC:H2.objs.size=s₂.heap.objs.size+1:=by rw[<-hH2,Heap.size_push]
 have hDC:s₂.heap.objs.size≠H2.objs.size:=by omega
 have hCle:s₂.heap.objs.size<=H2.objs.size:=by omega
 have hfl:∀ b∈fp,b<s₂.heap.objs.size:=fun b hb=>by
  obtain⟨o,e,_⟩:=T.obj 0 _ st b hb;exact Heap.lt_size e
 have XI:∀ b o,s₂.heap.get? b=some o->H2.get? b=some o:=fun b o e=>hH2 ▸ Heap.get?_push_of_some _ e;have old:∀ b o,s₂.heap.get? b=some o->h₁.get? b=some o:=fun b o e=>by
  have hb:=Heap.lt_size e;refine hsb₁.extBut b o (Nat.ne_of_lt (Nat.lt_of_lt_of_le hb hCle)) (Heap.get?_push_of_some _ (XI b o e))
 have hacc:h₁.get? s₂.heap.objs.size=some { cls:=.type "list",data:=.seq ([]:List Value).toArray 0 } :=
  hsb₁.extBut _ _ hDC (Heap.get?_push_of_some _ (hH2 ▸ Heap.get?_push_size _ rfl))
 have I0:=Inv.block (cn:=cn) (xe:=nP X scope H2.objs.size) (tk:=s₂.toks+([]:List (Str×Value)).length) I F hcalm hf hfl hCle (Nat.le_refl _) hDC hns₁ old hacc;have th:=XH _ hCle;obtain⟨W,⟨m0,w0⟩,turn⟩:=h s₂.heap.objs.size ⟨H2.objs.size,s₂,H,fp,nP X scope H2.objs.size⟩ (I.hok.fresh (Nat.le_refl _));have XJ:∀{H':Hp},(∀ b∈fp,H' b=none)->∀ b∈fp,lD (bZ X cn scope ⟨H2.objs.size,s₂,H,fp,nP X scope H2.objs.size⟩) [] H' b:=fun {H'} hn b hb=>by
  refine⟨hn b hb,(I0.ok.WD b hb).1,I0.ok.OW b hb,.inl hb,(I0.ok.WD b hb).2,fun p hp=>absurd (show p∈([]:List (Addr×Obj)) from hp) (by simp)⟩
 have SV:(bZ X cn scope ⟨H2.objs.size,s₂,H,fp,nP X scope H2.objs.size⟩).calm=true:=hcalm;have loop:∀ s₃:Shared,s₃ = { s₂ with heap:=h₁,toks:=s₂.toks+([]:List (Str×Value)).length } ->
   codeAny (model X.prog X.w) X.A (.compLoop (.ListComp elt [⟨tg,iter,ifs,0⟩] scope pos) 0 (.ref it) (.ref s₂.heap.objs.size) (compEnvC scope (eJ X.env scope.names []) H2.objs.size X.env))
    (RR (.ref s₂.heap.objs.size) H2.objs.size) s₃:=by
  rintro s₃ rfl;have WL:∀ e s',(bZ X cn scope ⟨H2.objs.size,s₂,H,fp,nP X scope H2.objs.size⟩).xe e s' ->
    notedBy (model X.prog X.w) X.A (compEnvC scope (eJ X.env scope.names []) H2.objs.size X.env) (fun e s'=>RR (.ref s₂.heap.objs.size) H2.objs.size (.error e) s') e s':=fun e s' z =>
   wpAny_mono (show notedBy (model X.prog X.w) X.A (compEnvC scope (eJ X.env scope.names []) H2.objs.size X.env) (Kb X H2.objs.size) e s' from z) (fun _ _ q=>hE _ _ _ _ q) fun _ _ q=>hE _ _ _ _ q
  refine Nt (env:=compEnvC scope (eJ X.env scope.names []) H2.objs.size X.env)
   (fun n s'=>∃ i ys σ' H',Inv (bZ X cn scope ⟨H2.objs.size,s₂,H,fp,nP X scope H2.objs.size⟩) [] σ' H' s'/\tn i s'.heap/\(∀ b∈fp,H' b=none)/\W i n ys σ' H') ?_ m0
   ⟨0,[],_,_,I0,T.keep _ _ _ st fun b _ o e=>old b o e,fun b hb=>?_,w0⟩
  ·rintro n s' ⟨i,ys,σ',H',I',st',fr',w'⟩;rcases turn i n ys σ' H' w' with ⟨stop,qn⟩|⟨go,step⟩
   ·refine wpAny_mono (T.done (bZ X cn scope ⟨H2.objs.size,s₂,H,fp,nP X scope H2.objs.size⟩) rfl rfl rfl SV i [] s' σ' H' (fun _ _=>False) I' (XJ fr') st' stop) (fun r s4 ⟨hr,I4⟩=>?_) fun _ _ z=>z.elim;exact .inl ⟨hr,hR _ _ _ _ _ hCle I4 qn⟩
   ·refine wpAny_mono (T.item (bZ X cn scope ⟨H2.objs.size,s₂,H,fp,nP X scope H2.objs.size⟩) rfl rfl rfl SV i [] s' σ' H' (fun _ _=>False) I' (XJ fr') st' go) (fun r s4 ⟨u,hr,h4⟩=>?_) fun _ _ z=>z.elim;refine .inr ⟨u,hr,wpAny_mono h4 (fun _ s5 ⟨x,H5,I5,r5,y5,TM,U3⟩=>?_) fun _ _ z=>z.elim⟩;have Xm:=I5.pinned (XJ U3) (T.obj _ _ TM);refine wpAny_mono (hg _ th _ s5 σ' H5 x u _ Xm r5 (step x H5 y5)) (fun _ s6 ⟨σ6,H6,I6,q6⟩=>?_) WL;refine wpAny_mono (ht _ th _ s6 σ6 H6 _ I6 q6) (fun ok s7 ⟨H7,I7,q7⟩=>?_) WL;have back:∀{σ8:St} {H8:Hp} {s8:Shared},Inv (bZ X cn scope ⟨H2.objs.size,s₂,H,fp,nP X scope H2.objs.size⟩) ([]++Bv fp s5.heap) σ8 H8 s8->tn (i+1) s8.heap/\∀ b∈fp,H8 b=none:=fun {σ8 H8 s8} I8=>by
     refine⟨T.keep _ _ _ TM fun b hb o e=>(I8.pin (b,o) (mem_append_right _ (mem_append_right _ (oB hb e)))).1,fun b hb=>?_⟩;obtain⟨o,e,d⟩:=T.obj _ _ TM b hb;exact(I8.pin (b,o) (mem_append_right _ (mem_append_right _ (oB hb e)))).2.1
    cases ok with
    |false =>
     rw[if_neg Bool.false_ne_true]at q7 ⊢;obtain⟨m',hm,w7⟩:=q7;obtain⟨t8,f8⟩:=back I7;exact⟨m',hm,i+1,ys,σ6,H7,I7.qr,t8,f8,w7⟩
    |true =>
     rw[if_pos rfl]at q7 ⊢;refine wpAny_mono (he _ th _ s7 σ6 H7 _ I7 q7) (fun v s8 ⟨y,H8,I8,r8,hl,hz,m',hm,w8⟩=>?_) WL;refine wpAny_mono (fB (X:=bZ X cn scope ⟨H2.objs.size,s₂,H,fp,nP X scope H2.objs.size⟩) _ s8 σ6 H8 (.ref s₂.heap.objs.size) [y] (.ref s₂.heap.objs.size) [v] (fun _ H9=>W (i+1) m' (ys++[y]) σ6 H9) I8 rfl (.cons r8 .nil) ⟨_,ys,y,rfl,rfl,hl,hz,w8⟩)
      (fun _ s9 ⟨_,H9,I9,_,w9⟩=>?_) WL
     obtain⟨t9,f9⟩:=back I9;exact⟨m',hm,i+1,_,σ6,H9,I9.qr,t9,f9,w9⟩
  ·rw[ai (Nat.ne_of_lt (hfl b hb))];exact(hf b hb).1
 exact codeAny_compStart_list (loop _ rfl) (T.self _ 0 _ _ _ (T.keep _ _ _ st fun b _ o e=>old b o e) (loop _ rfl))
theorem Pt (hcalm:X.calm=true)(F:dI X.env.scope X.N scope)(hi:PI X tg iter wi)(hg:∀ b,TH b->PG (bZ X cn scope b) tg (g b))(ht:∀ b,TH b->PF (bZ X cn scope b) ifs (tc b))
  (he:∀ b,TH b->PE (bZ X cn scope b) elt (te b))
  (XH:∀ pins σ H s₂ fp C,Inv X pins σ H s₂->(∀ b∈fp,lD X pins H b)->s₂.heap.objs.size<=C->TH ⟨C,s₂,H,fp,nP X scope C⟩)
  (hs:∀ x,foldedSetIterable iter X.env x=pure x:=by intro _;rfl):PE X (.ListComp elt [⟨tg,iter,ifs,0⟩] scope pos) (Pr cn.length wi g tc te):=by
 intro pins s σ H Q I h;rw[eval_ListComp];have hcl:closureFor scope X.env=pure (eJ X.env scope.names []):=ME fun p hp e=>I.ok.has p.1 (F.free p hp e);refine wpAny_comprehension_free (use:=none) rfl hs hcl F.kind F.loc (cH (hi pins s σ H _ I h) fun xv s₁ h₁=>cH h₁ fun itv s₂ h₂=>?_);obtain⟨it,fp,tn,J,H2,rfl,I2,T,st,f2,R⟩:=h₂;refine Ib (QQ:=fun D H'=>Q (.ref D) H') (RR:=fun acc C=>compPost (model X.prog X.w) X.A X.xe none (EP X pins σ Q) acc C) hcalm F hg ht he (fun C hC=>XH pins σ H2 s₂ fp C I2 f2 hC) I2 T st f2 R ?_ ?_
 ·intro C D σ' H' s' hC I' q;obtain⟨m,hm,_⟩:=I'.loc;exact⟨m,hm,fun h' sb=>⟨.ref D,H',I2.MG f2 hC I' sb,rfl,q⟩⟩
 ·intro C D e s' z;exact z
theorem oG (hcalm:X.calm=true)(F:dI X.env.scope X.N scope)(hi:PI X tg iter wi)(hg:∀ b,PG (bZ X cn scope b) tg (g b))(ht:∀ b,PF (bZ X cn scope b) ifs (tc b))(he:∀ b,PE (bZ X cn scope b) elt (te b))
  (hs:∀ x,foldedSetIterable iter X.env x=pure x:=by intro _;rfl):PE X (.ListComp elt [⟨tg,iter,ifs,0⟩] scope pos) (Pr cn.length wi g tc te) :=
 Pt (TH:=fun _=>True) hcalm F hi (fun b _=>hg b) (fun b _=>ht b) (fun b _=>he b) (fun _ _ _ _ _ _ _ _ _=>trivial) hs
end
end L2
set_option maxHeartbeats 4000000
namespace L2
open PySem PySem.Spec PyProof.Rows
section
variable {X:Cx} {e:Expr} {es:List Expr} {te:TE} {pos:Pos}
abbrev TP1:=St->Hp->(Str->Hp->Prop)->Prop
abbrev TPs:=Str->St->Hp->(Str->Hp->Prop)->Prop
theorem eB:lE X (.type "int") (fun xs H Q=>∃ z n,xs=[.str z]/\PySem.intText? z=some n/\z.length<=640/\Q (.int n) H):=by
 intro pins s σ H xs us Q I r h;obtain⟨z,n,rfl,hn,hl,q⟩:=h;obtain⟨u,rfl,t,rfl⟩:=r.one;exact PySem.W.KIN.call_text hn hl ⟨.int n,H,I.tok _,⟨_,rfl⟩,q⟩
def XM:V->Option Int->Option Int->Hp->VK->Prop:=fun x lo hi H Q=>∃ z,x=.str z/\z.length<=sizeLine/\Q (.str (Txt.slice z lo hi)) H
theorem E5 {v:Value}{o:Option Int}(p:IsPart v o):∃ l:Option (Int×Tok),v=partValue l/\l.map (·.1)=o:=by
 cases p with
 |none=>exact⟨none,rfl,rfl⟩
 |int i t=>exact⟨some (i,t),rfl,rfl⟩
theorem m8:SK X XM:=by
 intro pins s σ H x v vl vu lo hi sl Q I rx hs pl pu h;obtain⟨z,rfl,hz,q⟩:=h;obtain⟨t,rfl⟩:=rx;obtain⟨l,rfl,el⟩:=E5 pl;obtain⟨u,rfl,eu⟩:=E5 pu;subst el eu;refine⟨"str",_,F.slot_str_getitem.lookup,typeIs_str _ _ _,?_⟩;obtain⟨o,ho,hc,hd⟩:=hs;refine wpAny_getItem_str_slice (l:=l) (u:=u) (st:=none) ⟨o,ho,hc,hd⟩ rfl ?_;exact post_val_or_str ⟨Nat.le_trans (Txt.slice_le z _ _) hz,fun t' k=>⟨.str _,H,I.tok _,⟨t',rfl⟩,q⟩⟩
def XN (z:Str):It:=⟨fun i _=>i<z.cps.size,fun i H x H'=>H'=H/\∃ c,z.cps[i]? = some c/\x=.str ⟨#[c]⟩,fun i _=>z.cps.size<=i⟩
def XO (tl:TE):TI:=fun σ H R=>tl σ H fun x H1=>∃ z,x=.str z/\R (XN z) H1
theorem Ic {P:Program}{w:World}{K:Frag}{tg:Expr}{z:Str}{it:Addr}{T:String}{t:Tok}(hT:["enumerate","zip","dict_itemiterator","dict_reverseitemiterator","odict_iterator","itertools.zip_longest","itertools.pairwise"].contains T=false)
  (W:∀ A:Around,A.handled=none->Walks P w A it [it] [it] z.cps.size (SignAt z) (fun i h=>h.IsStrIter it T z t i)) 
  (S:∀(A:Around)(i:Nat)(s:Shared)(Q:Value->Shared->Prop)(E:Value->Shared->Prop),s.heap.IsStrIter it T z t i->Q (.ref it) s->wpAny (model P w) A (pyIter (.ref it)) Q E s) :
  Turn P w K tg (XN z) [it] it (fun i h=>h.IsStrIter it T z t i/\i<=z.cps.size) where
 mem:=by simp
 obj:=fun i h st b hb=>by
  have e:b=it:=by simpa using hb
  subst e;obtain⟨⟨o,e,c,d⟩,_⟩:=st;exact⟨o,e,fun v q=>by rw[d]at q;cases q⟩
 keep:=fun i h h' st k=>⟨by
  obtain⟨⟨o,e,c,d⟩,_⟩:=st;exact⟨o,k it (by simp) o e,c,d⟩,st.2⟩
 item:=by
  intro X hP hw hK hc i pins s σ H E I hf st hg;subst hP hw hK;obtain⟨f0,f1,f2,f3,f4,f5⟩:=hf it (by simp);have hgi:i<z.cps.size:=hg;refine(W X.A (I.ok.hd hc)).item i s _ _ hgi st.1 fun v h' tk hv st' kk=>?_;obtain⟨c,u,hc',rfl⟩:=hv;have I1:Inv X pins σ H { s with heap:=h',toks:=tk }:=I.turned (fun b o hb e=>kk b o (by simpa using hb) e) f0 f1 f3 f4 f5;obtain⟨o,e,cc,d⟩:=id st';exact⟨_,rfl,Mu (s:={ s with heap:=h',toks:=tk }) e cc d hT ⟨.str ⟨#[c]⟩,H,I1,⟨u,rfl⟩,⟨rfl,c,hc',rfl⟩,⟨st',hgi⟩,fun b hb=>(hf b hb).1⟩⟩
 done:=by
  intro X hP hw hK hc i pins s σ H E I hf st hg;subst hP hw hK;obtain⟨f0,f1,f2,f3,f4,f5⟩:=hf it (by simp);have hge:z.cps.size<=i:=hg;have e:i=z.cps.size:=Nat.le_antisymm st.2 hge;subst e;exact(W X.A (I.ok.hd hc)).done s _ _ st.1 fun h' tk kk=>⟨rfl,I.turned (fun b o hb e=>kk b o (by simpa using hb) e) f0 f1 f3 f4 f5⟩
 self:=fun A i s Q E st h=>S A i s Q E st.1 h
theorem T7 {tg l:Expr}{tl:TE}(hl:PE X l tl):PI X tg l (XO tl):=by
 intro pins s σ H R I h;refine cH (hl pins s σ H _ I h) fun v s1 ⟨x,H1,I1,r1,q1⟩=>?_;obtain⟨z,rfl,q⟩:=q1;obtain⟨t,rfl⟩:=r1;have fp:∀ b∈[s1.heap.objs.size],lD X pins H1 b:=fun b hb=>by
  have e:b=s1.heap.objs.size:=by simpa using hb
  subst e;exact I1.HQ (Nat.le_refl _) (I1.hok.fresh (Nat.le_refl _))
 cases ha:z.cps.all (· < 128)
 ·refine wpAny_pyIter_wide ha ?_;refine⟨s1.heap.objs.size,[s1.heap.objs.size],_,_,H1,rfl,I1.kept (t':=s1.toks) fun b o e=>Heap.get?_push_of_some _ e,Ic (T:="str_iterator") (t:=t) (by decide) (fun A hA=>Walks.strWide hA _ z t)
   (fun A i s Q E st hq=>wpAny_pyIter_striter_wide st hq),⟨⟨_,Heap.get?_push_size _ rfl,rfl,rfl⟩,Nat.zero_le _⟩,fp,q⟩
 ·refine wpAny_pyIter_ascii ha ?_;refine⟨s1.heap.objs.size,[s1.heap.objs.size],_,_,H1,rfl,I1.kept (t':=s1.toks) fun b o e=>Heap.get?_push_of_some _ e,Ic (T:="str_ascii_iterator") (t:=t) (by decide) (fun A hA=>Walks.strAscii hA _ z t)
   (fun A i s Q E st hq=>wpAny_pyIter_striter_ascii st hq),⟨⟨_,Heap.get?_push_size _ rfl,rfl,rfl⟩,Nat.zero_le _⟩,fp,q⟩
theorem any_range:∀ bs:List Bool,(List.range bs.length).any (fun i=>bs.getD i false)=bs.any id
 |[]=>rfl
 |b::bs=>by
  rw[length_cons,List.range_succ_eq_map,List.any_cons,List.any_map,List.any_cons];have:((fun i=>(b::bs).getD i false) ∘ Nat.succ)=fun i=>bs.getD i false:=by
   funext i
   rfl
  rw[this,any_range bs];rfl
theorem Pu:lE X (.builtin "any") (fun xs H Q=>X.calm=true/\∃(a:Addr)(bs:List Bool),xs=[.ref a]/\aQ X.K H a (bs.map V.bl)/\Q (.bl (bs.any id)) H):=by
 intro pins s σ H xs us Q I r h;obtain⟨hc,a,bs,rfl,hq,q⟩:=h;obtain⟨u,rfl,rfl⟩:=r.one;obtain⟨its,rv,p,hz⟩:=I.list hq;have hl:=rv.length;rw[length_map]at hl;have T8:∀(i:Nat)(v:Value),its.toArray[i]? = some v->v=Value.bool (bs.getD i false):=by
  intro i v hv;have hv':its[i]? = some v:=by simpa using hv
  have hi:i<its.length:=(List.getElem?_eq_some_iff.mp hv').1;have hb:i<bs.length:=by omega
  obtain⟨u,hu,ru⟩:=rv.get (i:=i) (x:=.bl (bs[i])) (by rw[getElem?_map,getElem?_eq_getElem hb];rfl);rw[hv']at hu;cases hu;have:v=.bool bs[i]:=ru;rw[this,List.getD_eq_getElem?_getD,getElem?_eq_getElem hb];rfl
 refine call_any_walk (wpAny_pyIter_list p.isList ?_);have XQ:a≠s.heap.objs.size:=by
  obtain⟨o,ho,_⟩:=p.isList;exact Nat.ne_of_lt (Heap.lt_size ho)
 have hd:X.A.in1.handled=none:=I.ok.hd hc;refine⟨s.heap.objs.size,_,_,_,_,_,fun i=>bs.getD i false,rfl,Walks.list hd s.heap.objs.size a XQ its.toArray,⟨⟨_,Heap.get?_push_size _ rfl,rfl,rfl⟩,p.isList.push _⟩,?_,?_⟩
 ·intro i v s' Q' E' hP hQ';rw[T8 i v hP];exact wpAny_truthy_bool hQ'
 ·intro h' tk kk;have e:(List.range its.toArray.size).any (fun i=>bs.getD i false)=bs.any id:=by
   rw[size_toArray,<-hl];exact any_range bs
  rw[e];refine⟨.bl _,H,I.kept (t':=tk) fun b o e=>kk b o (fun z=>?_) (Heap.get?_push_of_some _ e),rfl,q⟩;have:b=s.heap.objs.size:=by simpa using z
  exact absurd (Heap.lt_size e) (by rw[this];exact Nat.lt_irrefl _)
end
end L2
set_option maxHeartbeats 4000000
namespace L2
open PySem PySem.Spec PyProof.Rows PySem.SeqAt
inductive Q8 (K:Frag)(H:Hp):Nat->V->V->Prop where
 |flat {n:Nat} {x:V} (f:sO x=true):Q8 K H n x x
 |tup {n:Nat} {a b:Addr} {xs ys:List V} (ha:qk K H a xs) (hb:qk K H b ys) (hl:xs.length=ys.length) (h:∀(i:Nat) x y,xs[i]? = some x->ys[i]? = some y->Q8 K H n x y):Q8 K H (n+1) (.ref a) (.ref b)
 |lst {n:Nat} {a b:Addr} {xs ys:List V} (ha:aQ K H a xs) (hb:aQ K H b ys) (hl:xs.length=ys.length) (h:∀(i:Nat) x y,xs[i]? = some x->ys[i]? = some y->Q8 K H n x y):Q8 K H (n+1) (.ref a) (.ref b)
section
variable {X:Cx} {pins:List (Addr×Obj)} {σ:St} {H:Hp} {s:Shared}
theorem Pw:∀{x:V},sO x=true->MB x x=true:=by
 intro x f;cases x <;> first|(simp[MB];done)|(cases f)
theorem qz (n:Nat):(List.range n).all (fun _=>true)=true:=by simp
theorem Q8.at {n:Nat}{x y:V}(d:Q8 X.K H n x y)(I:Inv X pins σ H s):∀{A:Around} {u v:Value},A.units+n<cLine->RelV x u->RelV y v ->
  EqAt A s u v true/\(∀ a b,x=.ref a->y=.ref b->RcAt A s u v true/\RcNeAt A s u v false):=by
 induction d with
 | @flat n x f =>
  intro A u v hu ru rv;refine⟨?_,fun a b e _=>?_⟩
  ·have:=Pj (A:=A) (s:=s) ru rv f f;rw[Pw f]at this;exact this
  ·subst e;cases f
 | @tup n a b xs ys ha hb hl h ih =>
  intro A u v hu ru rv;cases ru;cases rv;obtain⟨its,r,p,_⟩:=I.tuple ha;obtain⟨its',r',p',_⟩:=I.tuple hb;have e1:=r.length;have e2:=r'.length;have he:∀ j (h1:j<its.toArray.size) (h2:j<its'.toArray.size),EqAt A.in1 s its.toArray[j] its'.toArray[j] true:=by
   intro j h1 h2;have h1':j<its.length:=by simpa using h1
   have h2':j<its'.length:=by simpa using h2
   have g1:xs[j]? = some xs[j]:=getElem?_eq_getElem (by omega);have g2:ys[j]? = some ys[j]:=getElem?_eq_getElem (by omega);obtain⟨u1,q1,k1⟩:=r.get g1;obtain⟨u2,q2,k2⟩:=r'.get g2;have z1:its.toArray[j]=u1:=by
    rw[getElem?_eq_getElem h1']at q1
    simpa using q1
   have z2:its'.toArray[j]=u2:=by
    rw[getElem?_eq_getElem h2']at q2
    simpa using q2
   rw[z1,z2];exact(ih j _ _ g1 g2 (by show A.units+1+n<cLine;omega) k1 k2).1
  have bt:((List.range (min its.toArray.size its'.toArray.size)).all (fun _=>true)&&its.toArray.size==its'.toArray.size)=true:=by
   rw[qz];simp;omega
  have rc:RcAt A s (.ref a) (.ref b) true:=by
   have:=RcAt.tuples (A:=A) (e:=fun _=>true) (show s.heap.IsTuple a its.toArray from p) (show s.heap.IsTuple b its'.toArray from p') (by omega) he;rw[bt]at this;exact this
  have rn:RcNeAt A s (.ref a) (.ref b) false:=by
   have:=RcNeAt.tuples (A:=A) (e:=fun _=>true) (show s.heap.IsTuple a its.toArray from p) (show s.heap.IsTuple b its'.toArray from p') (by omega) he;rw[bt]at this;exact this
  refine⟨?_,fun _ _ _ _=>⟨rc,rn⟩⟩
  by_cases e:a=b
  ·subst e;exact EqAt.same _
  ·exact EqAt.of_refs e rc
 | @lst n a b xs ys ha hb hl h ih =>
  intro A u v hu ru rv;cases ru;cases rv;obtain⟨its,r,p,_⟩:=I.list ha;obtain⟨its',r',p',_⟩:=I.list hb;have e1:=r.length;have e2:=r'.length;have he:∀ j (h1:j<its.toArray.size) (h2:j<its'.toArray.size),EqAt A.in1 s its.toArray[j] its'.toArray[j] true:=by
   intro j h1 h2;have h1':j<its.length:=by simpa using h1
   have h2':j<its'.length:=by simpa using h2
   have g1:xs[j]? = some xs[j]:=getElem?_eq_getElem (by omega);have g2:ys[j]? = some ys[j]:=getElem?_eq_getElem (by omega);obtain⟨u1,q1,k1⟩:=r.get g1;obtain⟨u2,q2,k2⟩:=r'.get g2;have z1:its.toArray[j]=u1:=by
    rw[getElem?_eq_getElem h1']at q1
    simpa using q1
   have z2:its'.toArray[j]=u2:=by
    rw[getElem?_eq_getElem h2']at q2
    simpa using q2
   rw[z1,z2];exact(ih j _ _ g1 g2 (by show A.units+1+n<cLine;omega) k1 k2).1
  have bt:(List.range its.toArray.size).all (fun _=>true)=true:=qz _;have rc:RcAt A s (.ref a) (.ref b) true:=by
   have:=RcAt.lists (A:=A) (e:=fun _=>true) p.isList p'.isList (by simp;omega) (by omega) he;rw[bt]at this;exact this
  have rn:RcNeAt A s (.ref a) (.ref b) false:=by
   have:=RcNeAt.lists (A:=A) (e:=fun _=>true) p.isList p'.isList (by simp;omega) (by omega) he;rw[bt]at this;exact this
  refine⟨?_,fun _ _ _ _=>⟨rc,rn⟩⟩
  by_cases e:a=b
  ·subst e;exact EqAt.same _
  ·exact EqAt.of_refs e rc
inductive SW (K:Frag)(b:Bool)(x:V)(y:V)(H:Hp)(Q:VK):Prop
 |mk (a:_) (c:_) (ey:x=.ref a) (eA:y=.ref c) (gn:Q8 K H 60 x y/\Q (.bl b) H):SW K b x y H Q
def VL (K:Frag)(b:Bool):R2:=fun x y H Q=>SW K b x y H Q
theorem cW (hu:X.A.units+64<cLine):oC X (compareOp .Eq) (VL X.K true):=by
 intro pins s σ H x y v u Q I r1 r2 h;obtain⟨a,c,rfl,rfl,d,q⟩:=h;exact(((d.at I (A:=X.A) (by omega) r1 r2).2 a c rfl rfl).1) X.prog X.w X.xe _ ⟨.bl true,H,I,rfl,q⟩
theorem BE (hu:X.A.units+64<cLine):oC X (compareOp .NotEq) (VL X.K false):=by
 intro pins s σ H x y v u Q I r1 r2 h;obtain⟨a,c,rfl,rfl,d,q⟩:=h;exact(((d.at I (A:=X.A) (by omega) r1 r2).2 a c rfl rfl).2) X.prog X.w X.xe _ ⟨.bl false,H,I,rfl,q⟩
theorem vH:lE X (.builtin "isinstance") (fun xs H Q=>∃ x T t b,xs=[x,.ty T]/\qv X.K H x t/\kitOne X.K t (.type T)=some b/\Q (.bl b) H):=by
 intro pins s σ H xs us Q I r h;obtain⟨x,T,t,b,rfl,ty,e,q⟩:=h;obtain⟨u,v,rfl,r1,r2⟩:=r.two;cases r2;exact Nk I r1 ty e fun tk=>⟨.bl b,H,I.tok _,rfl,q⟩
def VM (K:Frag)(a:Addr):It :=
 ⟨fun i H=>∃ xs x,aQ K H a xs/\xs[i]? = some x,fun i H x H'=>∃ y t,x=.ref t/\H t=none/\(∀ xs,aQ K H a xs->xs[i]? = some y)/\H'=upd H t (.tup [.int i,y]),fun i H=>∃ xs,aQ K H a xs/\xs.length<=i⟩
def ZG (K:Frag)(a b:Addr):It :=
 ⟨fun i H=>∃ xs ys x y,aQ K H a xs/\aQ K H b ys/\xs[i]? = some x/\ys[i]? = some y,
  fun i H p H'=>∃ x y t,p=.ref t/\H t=none/\(∀ xs,aQ K H a xs->xs[i]? = some x)/\(∀ ys,aQ K H b ys->ys[i]? = some y)/\H'=upd H t (.tup [x,y]),
  fun i H=>∃ xs ys,aQ K H a xs/\aQ K H b ys/\min xs.length ys.length=i⟩
theorem dD {a:Addr}{K:Frag}{X:Cx}{pins:List (Addr×Obj)}{σ:St}{H:Hp}{s:Shared}{xs:List V}{b:Addr}{o:Obj}(I:Inv X pins σ H s)(hq:aQ X.K H a xs)(e:s.heap.get? b=some o)(hc:o.cls≠.type "list"):a≠b:=by
 rintro rfl;obtain⟨its,_,p,_⟩:=I.list hq;obtain⟨o',e',c',_⟩:=p.isList;rw[e]at e';cases e';exact hc c'
theorem Inv.Px {tk:Nat}{h':Heap}{wr:List Addr}{T:Addr}{xs:List V}{vals:List Value}(I:Inv X pins σ H s)(hw:∀ b∈wr,lD X pins H b)(hT:s.heap.objs.size<=T)(ht:h'.IsTuple T vals.toArray)(rv:Vals xs vals)(hz:xs.length<=sizeLine)
  (kk:∀ b o,b ∉ wr->s.heap.get? b=some o->h'.get? b=some o) (there:∀ b∈wr,∃ o,h'.get? b=some o):Inv X pins σ (upd H T (.tup xs)) { s with heap:=h',toks:=tk }:=by
 have Rr:H T=none:=I.hok.fresh hT;have nT:∀ b o,s.heap.get? b=some o->b≠T:=fun b o e=>Nat.ne_of_lt (Nat.lt_of_lt_of_le (Heap.lt_size e) hT);refine I.step (g':=s.gens) (d':=s.drawn) (ch:=wr) (fun b hb=>?_) (fun b o _ _ hc e _=>kk b o hc e) (fun b o _ _ hc e _=>⟨o.slots,kk b o hc e⟩) (fun b o _ e n=>by rw[ai (nT b o e)];exact n)
  (fun b o hc e=>⟨o,kk b o hc e⟩) (fun b ys e=>by rw[ai (ak e Rr)];exact e) (fun b o u e=>by rw[ai (ak e Rr)];exact e) (fun b ps e=>⟨#[],by rw[ai (ak e Rr),e];simp⟩) (fun m hm=>?_) (fun b u e=>?_) I.bare
 ·obtain⟨_,f1,_,f3,f4,f5⟩:=hw b hb;exact⟨f3,f1,f4,f5⟩
 ·obtain⟨o,es,ep,ho,r⟩:=hm;exact⟨o,es,ep,kk _ o (fun z=>(hw _ z).2.1 rfl) ho,r⟩
 ·by_cases hb:b=T
  ·subst hb;rw[ae]at e;cases e;exact⟨hz,vals,rv,ht⟩
  ·rw[ai hb]at e;refine(I.hok b u e).stay (fun c v hc q=>kk c v (fun z=>?_) q) (fun c q=>by rw[ai (ak q Rr)];exact q) fun c ys q=>by rw[ai (ak q Rr)];exact q
   have hn:=(hw c z).1;rcases hc with hc|hc
   ·rw[hc,e]at hn;cases hn
   ·rw[hc]at hn;cases hn
theorem Inv.lH {tk:Nat}{h':Heap}{wr:List Addr}(I:Inv X pins σ H s)(hw:∀ b∈wr,lD X pins H b)(kk:∀ b o,b ∉ wr->s.heap.get? b=some o->h'.get? b=some o):Inv X pins σ H { s with heap:=h',toks:=tk }:=by
 refine I.step (g':=s.gens) (d':=s.drawn) (ch:=wr) (fun b hb=>?_) (fun b o _ _ hc e _=>kk b o hc e) (fun b o _ _ hc e _=>⟨o.slots,kk b o hc e⟩) (fun b o _ e n=>n)
  (fun b o hc e=>⟨o,kk b o hc e⟩) (fun b ys e=>e) (fun b o u e=>e) (fun b ps e=>⟨#[],by rw[e];simp⟩) (fun m hm=>?_) (fun b u e=>?_) I.bare
 ·obtain⟨_,f1,_,f3,f4,f5⟩:=hw b hb;exact⟨f3,f1,f4,f5⟩
 ·obtain⟨o,es,ep,ho,r⟩:=hm;exact⟨o,es,ep,kk _ o (fun z=>(hw _ z).2.1 rfl) ho,r⟩
 ·refine(I.hok b u e).stay (fun c v hc q=>kk c v (fun z=>?_) q) (fun c q=>q) fun c ys q=>q;have hn:=(hw c z).1;rcases hc with hc|hc
  ·rw[hc,e]at hn;cases hn
  ·rw[hc]at hn;cases hn
end
end L2
set_option maxHeartbeats 4000000
namespace L2
open PySem PySem.Spec PyProof.Rows PySem.SeqAt
section
variable {X:Cx}
theorem aY {k:Nat}{A:Around}(hr:iY k A):A.units+64<cLine:=hr.units
theorem cJ:bootBuiltins "len"=some (.builtin "len"):=by lk
theorem T9:bootBuiltins "min"=some (.builtin "min"):=by lk
theorem vI:bootBuiltins "enumerate"=some (.type "enumerate"):=by lk
theorem Ua:bootBuiltins "zip"=some (.type "zip"):=by lk
theorem jK:bootBuiltins "isinstance"=some (.builtin "isinstance"):=by lk
theorem tE:bootBuiltins "int"=some (.type "int"):=by lk
theorem Rt:bootBuiltins "bool"=some (.type "bool"):=by lk
theorem FT:bootBuiltins "list"=some (.type "list"):=by lk
theorem Py:bootBuiltins "tuple"=some (.type "tuple"):=by lk
theorem Ub:bootBuiltins "any"=some (.builtin "any"):=by lk
theorem Uc:bootBuiltins "all"=some (.builtin "all"):=by lk
end
end L2
namespace L2
open PySem PySem.Spec PyProof.Rows
end L2
namespace L2
open PySem
theorem mB {K:Frag}{H:Hp}{a l:Addr}{o:HO}{xs:List V}(h:aQ K H a xs)(hn:H l=none):aQ K (upd H l o) a xs:=by
 have ne:∀{u},H a=some u->a≠l:=fun e=>ak e hn;rcases h with (h|⟨u,h⟩)|h
 ·exact .inl (.inl (by rw[ai (ne h)];exact h))
 ·exact .inl (.inr ⟨u,by rw[ai (ne h)];exact h⟩)
 ·exact .inr h
theorem aq.upd {H:Hp}{l:Addr}{o:HO}(hn:H l=none):aq H (upd H l o):=fun b u e=>by
 rw[ai (ak e hn)];exact e
end L2
namespace L2
theorem aF {X:Cx}{b:List PySem.Stmt}{t:TS}{D:Ends}{σ:St}{H:Hp}(h:HM X b t)(q:t D σ H):∃ t,HM X b t/\t D σ H:=⟨t,h,q⟩
theorem lI (i j:Int):decide (V.int i=V.int j)=decide (i=j):=by
 by_cases h:i=j
 ·subst h;simp
 ·rw[decide_eq_false h];exact decide_eq_false fun e=>h (V.int.inj e)
end L2
namespace L2
open PySem
end L2
namespace L2
open PySem
end L2
set_option maxHeartbeats 4000000
namespace L2
open PySem PySem.Spec PyProof.Rows
section
variable {X:Cx} {tg:Expr}
theorem xw {pins:List (Addr×Obj)}{σ:St}{H:Hp}{s:Shared}{a:Addr}{xs:List V}{i:Nat}{y:V}(I:Inv X pins σ H s)(hq:aQ X.K H a xs)(hy:xs[i]? = some y):∀ ys,aQ X.K H a ys->ys[i]? = some y:=fun ys h=>by
 rw[I.HN h hq];exact hy
theorem Nu {P:Program}{w:World}{K:Frag}{es:List Expr}{k:Nat}{tp:Pos}(a e it:Addr)(hei:e≠it) :
  Turn P w K (.Tuple es k tp) (VM K a) [e,it] e (fun i h=>(∃ old,IsEnum h e it i old)/\h.IsListIter it a i) where
 mem:=by simp
 obj:=fun i h st b hb=>by
  obtain⟨⟨old,he⟩,o,e2,c,d⟩:=st;rcases List.mem_cons.mp hb with rfl|hb
  ·exact⟨_,he,fun v z=>by
    have z':Data.fields _=Data.cell v:=z;cases z'⟩
  ·have:b=it:=by simpa using hb
   subst this;exact⟨o,e2,fun v z=>by rw[d]at z;cases z⟩
 keep:=fun i h h' st kp=>by
  obtain⟨⟨old,he⟩,hit⟩:=st;exact⟨⟨old,kp e (by simp) _ he⟩,hit.at fun o x=>kp it (by simp) o x⟩
 item:=by
  intro X hP hw hK hc i pins s σ H E I hf st hg;subst hP hw hK;obtain⟨xs,x,hq,hx⟩:=hg;obtain⟨its,rv,p,hz⟩:=I.list hq;obtain⟨u,hu,ru⟩:=rv.get hx;obtain⟨⟨old,he⟩,hit⟩:=st;have hle:a≠e:=dD (K:=X.K) I hq he (by intro z;injection z with z;exact absurd z (by decide));have hli:a≠it:=by
   obtain⟨o,e2,c,_⟩:=hit;exact dD (K:=X.K) I hq e2 (by rw[c];intro z;injection z with z;exact absurd z (by decide))
  have ZH:i<its.toArray.size:=by
   have:=(List.getElem?_eq_some_iff.mp hu).1
   simpa using this
  have W:=WalksT.enumerate (prog:=X.prog) (w:=X.w) (I.ok.hd hc) e it a hei hle hli its.toArray;refine W.item i s _ _ ZH ⟨⟨old,he⟩,hit,p.isList⟩ fun T vals h' tk hv hT ht mid kk=>?_;refine⟨_,rfl,?_⟩;obtain⟨t,x',hx',rfl⟩:=hv;have ex:x'=u:=by
   have:its[i]? = some x':=by simpa using hx'
   rw[hu]at this;exact(Option.some.inj this).symm
  subst ex;have fw:∀ b∈[e,it],lD X pins H b:=hf;have I1:Inv X pins σ (upd H T (.tup [.int i,x])) { s with heap:=h',toks:=tk }:=by
   refine I.Px (vals:=[.int i t,x']) fw hT (by simpa using ht) (.cons ⟨t,rfl⟩ (.cons ru .nil)) (by show 2<=sizeLine;decide) kk fun b hb=>?_;obtain⟨⟨xx,ho⟩,⟨o,e2,_⟩,_⟩:=mid;rcases List.mem_cons.mp hb with rfl|hb
   ·exact⟨_,ho⟩
   ·have:b=it:=by simpa using hb
    subst this;exact⟨o,e2⟩
  have Rr:H T=none:=I.hok.fresh hT;have neT:∀ b∈[e,it],b≠T:=fun b hb z=>by
   subst z;exact W.apart i b _ mid hb
  refine W.go es k tp i T _ _ _ mid fun h'' st'' XR=>?_;have hf2:∀ b∈[e,it],lD X pins (upd H T (.tup [.int i,x])) b:=fun b hb=>by
   obtain⟨f0,fr⟩:=hf b hb;exact⟨by rw[ai (neT b hb)];exact f0,fr⟩
  refine⟨.ref T,upd H T (.tup [.int i,x]),I1.lH (tk:=tk) hf2 XR,rfl,⟨x,T,rfl,Rr,xw I hq hx,rfl⟩,⟨st''.1,st''.2.1⟩,fun b hb=>(hf2 b hb).1⟩
 done:=by
  intro X hP hw hK hc i pins s σ H E I hf st hg;subst hP hw hK;obtain⟨xs,hq,hx⟩:=hg;obtain⟨its,rv,p,hz⟩:=I.list hq;obtain⟨⟨old,he⟩,hit⟩:=st;have hl:=rv.length;refine wpAny_pyNext_enum_end (I.ok.hd hc) he hit p.isList (Array.getElem?_eq_none (by simp;omega)) fun h' hx'=>?_;exact⟨rfl,I.lH (tk:=s.toks) hf fun b o hb q=>hx' b o (fun z=>hb (by simp[z])) q⟩
 self:=fun _ _ _ _ _ st h=>by
  obtain⟨⟨old,he⟩,_⟩:=st;exact wpAny_pyIter_enum he h
theorem Ud {l:Expr}{tl:TE}(hl:PE X l tl)(hs:starEach [l] X.env=[(false,eval l X.env)])(pos:Pos)(pins:List (Addr×Obj))(s:Shared)(σ:St)(H:Hp){Q:VK}(I:Inv X pins σ H s)(h:tl σ H Q) :
  wpAny (model X.prog X.w) X.A (spliced (backTo pos (starEach [l] X.env))) (fun us s1=>∃ v u H1,Inv X pins σ H1 s1/\us=[u]/\RelV v u/\Q v H1) X.xe s:=by
 have ha:PA X [l] (fun σ H Q=>tl σ H fun x H1=>Q [x] H1):=aa hl af hs;have mono:wpAny (model X.prog X.w) X.A (spliced (backTo pos (starEach [l] X.env))) (AP X pins σ fun vs H1=>∃ v,vs=[v]/\Q v H1) X.xe s:=by
  have he:PE X l (fun σ' H' Q'=>σ'=σ/\H'=H/\∀ v H1,Q v H1->Q' v H1):=by
   intro pins s σ' H' Q' I' hw;obtain⟨rfl,rfl,hm⟩:=hw;exact cH (hl pins s σ' H' Q I' h) fun u s1 ⟨v,H1,I1,r,q⟩=>⟨v,H1,I1,r,hm v H1 q⟩
  exact aa he af hs pos pins s σ H _ I ⟨rfl,rfl,fun v H1 q=>⟨v,rfl,q⟩⟩
 refine cH mono fun us s1 ⟨vs,H1,I1,r,v,e,q⟩=>?_;subst e;obtain⟨u,rfl,ru⟩:=r.one;exact⟨v,u,H1,I1,rfl,ru,q⟩
inductive Pz (K:Frag)(R:(It->Hp->Prop))(x:V)(H1:Hp):Prop
 |mk (a:_) (ey:x=.ref a) (eA:(∃ xs,aQ K H1 a xs)/\R (VM K a) H1):Pz K R x H1
def VN (K:Frag)(tl:TE):TI:=fun σ H R=>tl σ H fun x H1=>Pz K R x H1
theorem MH {l:Expr}{tl:TE}{p pos tp:Pos}{es:List Expr}{k:Nat}(hg:Gl X "enumerate")(hm:X.mg "enumerate"=none)(hl:PE X l tl)(hs:starEach [l] X.env=[(false,eval l X.env)]:=by rfl) :
  PI X (.Tuple es k tp) (.Call (.Name "enumerate" p) [l] [] pos) (VN X.K tl):=by
 intro pins s σ H R I h;refine Call_ (ox I hg hm vI (PyProof.Rows.callWith_type1 (cH (Ud hl hs pos pins s σ H I h) fun us s1 ⟨v,u,H1,I1,e1,r1,q1⟩=>?_) (by rw[hs];rfl) (by rfl)))
 ·obtain⟨a,rfl,⟨xs,hq⟩,q⟩:=q1;subst e1;cases r1;obtain⟨its,rv,pl,hz⟩:=I1.list hq;refine call_enumerate_list pl.isList fun h' he hit hsz kk=>?_;have ZI:s1.heap.objs.size+1≠s1.heap.objs.size:=Nat.succ_ne_self _;refine wpAny_pyIter_enum he ?_;refine⟨s1.heap.objs.size+1,[s1.heap.objs.size+1,s1.heap.objs.size],_,_,H1,rfl,I1.kept (t':=s1.toks) kk,Nu a _ _ ZI,⟨⟨.none,he⟩,hit⟩,fun b hb=>?_,q⟩;have hb':s1.heap.objs.size<=b:=by
   rcases List.mem_cons.mp hb with rfl|hb
   ·exact Nat.le_succ _
   ·have:b=s1.heap.objs.size:=by simpa using hb
    rw[this];exact Nat.le_refl _
  exact I1.HQ hb' (I1.hok.fresh hb')
end
end L2
set_option maxHeartbeats 4000000
namespace L2
open PySem PySem.Spec PyProof.Rows
structure FU (z TI TO i1 i2:Addr):Prop where
 TIz:TI≠z
 TOz:TO≠z
 i1z:i1≠z
 i2z:i2≠z
 TITO:TI≠TO
 TIi1:TI≠i1
 TIi2:TI≠i2
 TOi1:TO≠i1
 TOi2:TO≠i2
 i12:i1≠i2
section
variable {X:Cx}
def SX (z TI TO i1 i2 a b:Addr)(i:Nat)(h:Heap):Prop:=IsZip h z TI TO .none/\IsPair h TI (.ref i1) (.ref i2)/\(∃ x y,IsPair h TO x y)/\h.IsListIter i1 a i/\h.IsListIter i2 b i
inductive VO (K:Frag)(R:(It->Hp->Prop))(x:V)(y:V)(H2:Hp):Prop
 |mk (a:_) (b:_) (ey:x=.ref a) (eA:y=.ref b) (gn:(∃ xs,aQ K H2 a xs)/\(∃ ys,aQ K H2 b ys)/\R (ZG K a b) H2):VO K R x y H2
theorem Ue {l m:Expr}{tl tm:TE}(hl:PE X l tl)(hm:PE X m tm)(hs:starEach [l,m] X.env=[(false,eval l X.env),(false,eval m X.env)])(hs2:starEach [m] X.env=[(false,eval m X.env)])(pos:Pos)(pins:List (Addr×Obj))(s:Shared)(σ:St)(H:Hp){Q:V->V->Hp->Prop}(I:Inv X pins σ H s)(h:tl σ H fun x H1=>tm σ H1 fun y H2=>Q x y H2) :
  wpAny (model X.prog X.w) X.A (spliced (backTo pos (starEach [l,m] X.env))) (fun us s1=>∃ x y u v H1,Inv X pins σ H1 s1/\us=[u,v]/\RelV x u/\RelV y v/\Q x y H1) X.xe s:=by
 have he:PE X l (fun σ' H' Q'=>σ'=σ/\H'=H/\∀ x H1,(tm σ H1 fun y H2=>Q x y H2)->Q' x H1):=by
  intro pins s σ' H' Q' I' hw;obtain⟨rfl,rfl,k⟩:=hw;exact cH (hl pins s σ' H' _ I' h) fun u s1 ⟨v,H1,I1,r,q⟩=>⟨v,H1,I1,r,k v H1 q⟩
 have hf:PE X m (fun σ' H' Q'=>∃ x,σ'=σ/\(tm σ H' fun y H2=>Q x y H2)/\∀ y H2,Q x y H2->Q' y H2):=by
  intro pins s σ' H' Q' I' hw;obtain⟨x,rfl,hh,k⟩:=hw;exact cH (hm pins s σ' H' _ I' hh) fun u s1 ⟨v,H1,I1,r,q⟩=>⟨v,H1,I1,r,k v H1 q⟩
 have main:=aa he (aa hf af hs2) (by rw[hs,hs2]) pos pins s σ H (fun vs H2=>∃ x y,vs=[x,y]/\Q x y H2) I ⟨rfl,rfl,fun x H1 q=>⟨x,rfl,q,fun y H2 q2=>⟨x,y,rfl,q2⟩⟩⟩;refine cH main fun us s1 ⟨vs,H1,I1,r,x,y,e,q⟩=>?_;subst e;obtain⟨u,v,rfl,r1,r2⟩:=r.two;exact⟨x,y,u,v,H1,I1,rfl,r1,r2,q⟩
end
end L2
set_option maxHeartbeats 4000000
namespace L2
open PySem
abbrev PB (J:It)(g:TG)(tc:TT)(te:TE)(D:Addr)(R:Hp->Prop)(σ:St)(H:Hp):Prop:=∃ W:Nat->Nat->List V->St->Hp->Prop,(∃ m,W 0 m [] σ H)/\∀ i m ys σ H,W i m ys σ H ->
  (J.stop i H/\R H)\/(J.go i H/\∀ x H',J.O0 i H x H'->g x σ H' fun σ2 H2=>tc σ2 H2 fun ok H3 =>
   if ok=true then te σ2 H3 fun y H4=>H4 D=some (.lst ys)/\ys.length<sizeLine/\∃ m',m'<m/\W (i+1) m' (ys++[y]) σ2 (upd H4 D (.lst (ys++[y])))
   else ∃ m',m'<m/\W (i+1) m' ys σ2 H3)
abbrev BF (g:TG)(tc:TT)(te:TE)(D:Addr)(ys:List V)(x:V)(σ:St)(H:Hp)(N:List V->St->Hp->Prop):Prop :=
 g x σ H fun σ2 H2=>tc σ2 H2 fun ok H3=>if ok=true then te σ2 H3 fun y H4=>H4 D=some (.lst ys)/\ys.length<sizeLine/\N (ys++[y]) σ2 (upd H4 D (.lst (ys++[y]))) else N ys σ2 H3
theorem tF {lo:Int}{n:Nat}{g:TG}{tc:TT}{te:TE}{D:Addr}{R:Hp->Prop}{σ:St}{H:Hp}(Pv:Nat->List V->St->Hp->Prop)(h0:Pv 0 [] σ H)
  (hs:∀ i ys σ H,i<n->Pv i ys σ H->∀ N:List V->St->Hp->Prop,(∀ ys σ H,Pv (i+1) ys σ H->N ys σ H)->BF g tc te D ys (.int (lo+i)) σ H N) (hd:∀ ys σ H,Pv n ys σ H->R H):PB (Sy lo n) g tc te D R σ H:=by
 refine⟨fun i m ys σ H=>m=n-i/\i<=n/\Pv i ys σ H,⟨n,by simp,Nat.zero_le _,h0⟩,?_⟩;rintro i m ys σ H ⟨rfl,hi,p⟩
 by_cases hlt:i<n
 ·refine .inr ⟨hlt,fun x H' y=>?_⟩;obtain⟨e,y⟩:=y;subst e y;exact hs i ys σ _ hlt p (fun ys' σ' H'=>∃ m',m'<n-i/\m'=n-(i+1)/\i+1<=n/\Pv (i+1) ys' σ' H') fun ys' σ' H' q=>⟨n-(i+1),by omega,rfl,hlt,q⟩
 ·have e:i=n:=by omega
  subst e;exact .inl ⟨Nat.le_refl _,hd ys σ H p⟩
theorem nQ {K:Frag}{a:Addr}{xs:List V}{g:TG}{tc:TT}{te:TE}{D:Addr}{R:Hp->Prop}{σ:St}{H:Hp}(Pv:Nat->List V->St->Hp->Prop)(h0:Pv 0 [] σ H)(hl:∀ i ys σ H,Pv i ys σ H->aQ K H a xs)
  (hs:∀ i ys x σ H,xs[i]? = some x->Pv i ys σ H->∀ N:List V->St->Hp->Prop,(∀ ys σ H,Pv (i+1) ys σ H->N ys σ H)->BF g tc te D ys x σ H N) (hd:∀ ys σ H,Pv xs.length ys σ H->R H):PB (U2 K a) g tc te D R σ H:=by
 refine⟨fun i m ys σ H=>m=xs.length-i/\i<=xs.length/\Pv i ys σ H,⟨xs.length,by simp,Nat.zero_le _,h0⟩,?_⟩;rintro i m ys σ H ⟨rfl,hi,p⟩;have q:=hl i ys σ H p
 by_cases hlt:i<xs.length
 ·refine .inr ⟨⟨xs,xs[i],q,by simp[hlt]⟩,fun x H' y=>?_⟩;obtain⟨e,y⟩:=y;subst e;exact hs i ys x σ _ (y xs q) p (fun ys' σ' H'=>∃ m',m'<xs.length-i/\m'=xs.length-(i+1)/\i+1<=xs.length/\Pv (i+1) ys' σ' H') fun ys' σ' H' q=>⟨xs.length-(i+1),by omega,rfl,hlt,q⟩
 ·have e:i=xs.length:=by omega
  subst e;exact .inl ⟨⟨xs,q,Nat.le_refl _⟩,hd ys σ H p⟩
theorem PC {z:Str}{g:TG}{tc:TT}{te:TE}{D:Addr}{R:Hp->Prop}{σ:St}{H:Hp}(Pv:Nat->List V->St->Hp->Prop)(h0:Pv 0 [] σ H)
  (hs:∀ i ys c σ H,z.cps[i]? = some c->Pv i ys σ H->∀ N:List V->St->Hp->Prop,(∀ ys σ H,Pv (i+1) ys σ H->N ys σ H)->BF g tc te D ys (.str ⟨#[c]⟩) σ H N) (hd:∀ ys σ H,Pv z.cps.size ys σ H->R H):PB (XN z) g tc te D R σ H:=by
 refine⟨fun i m ys σ H=>m=z.cps.size-i/\i<=z.cps.size/\Pv i ys σ H,⟨z.cps.size,by simp,Nat.zero_le _,h0⟩,?_⟩;rintro i m ys σ H ⟨rfl,hi,p⟩
 by_cases hlt:i<z.cps.size
 ·refine .inr ⟨hlt,fun x H' y=>?_⟩;obtain⟨e,c,hc,y⟩:=y;subst e y;exact hs i ys c σ _ hc p (fun ys' σ' H'=>∃ m',m'<z.cps.size-i/\m'=z.cps.size-(i+1)/\i+1<=z.cps.size/\Pv (i+1) ys' σ' H') fun ys' σ' H' q=>⟨z.cps.size-(i+1),by omega,rfl,hlt,q⟩
 ·have e:i=z.cps.size:=by omega
  subst e;exact .inl ⟨Nat.le_refl _,hd ys σ H p⟩
theorem Ie {K:Frag}{a:Addr}{xs:List V}{g:TG}{tb:TS}{D:Ends}{σ:St}{H:Hp}(Pv:Nat->St->Hp->Prop)(h0:Pv 0 σ H)(hl:∀ i σ H,Pv i σ H->aQ K H a xs)
  (hs:∀ i x t σ H,xs[i]? = some x->Pv i σ H->H t=none->g (.ref t) σ (upd H t (.tup [.int i,x])) fun σ2 H2=>tb { D with nx:=Pv (i+1),ct:=Pv (i+1),bk:=D.nx } σ2 H2) (hd:∀ σ H,Pv xs.length σ H->D.nx σ H) :
  ∃ W:Nat->Nat->St->Hp->Prop,(∃ m,W 0 m σ H)/\∀ i m σ H,W i m σ H ->
   ((VM K a).stop i H/\D.nx σ H)\/((VM K a).go i H/\∃ N:St->Hp->Prop,(∀ σ' H',N σ' H'->∃ m',m'<m/\W (i+1) m' σ' H')/\∀ x H',(VM K a).O0 i H x H'->g x σ H' fun σ2 H2=>tb { D with nx:=N,ct:=N,bk:=D.nx } σ2 H2):=by
 refine⟨fun i m σ H=>m=xs.length-i/\i<=xs.length/\Pv i σ H,⟨xs.length,by simp,Nat.zero_le _,h0⟩,?_⟩;rintro i m σ H ⟨rfl,hi,p⟩;have q:=hl i σ H p
 by_cases hlt:i<xs.length
 ·refine .inr ⟨⟨xs,xs[i],q,by simp[hlt]⟩,Pv (i+1),fun σ' H' p'=>⟨xs.length-(i+1),by omega,rfl,hlt,p'⟩,fun x H' y=>?_⟩;obtain⟨y0,t,rfl,hn,hy,rfl⟩:=y;exact hs i y0 t σ H (hy xs q) p hn
 ·have e:i=xs.length:=by omega
  subst e;exact .inl ⟨⟨xs,q,Nat.le_refl _⟩,hd σ H p⟩
end L2
namespace L2
open PySem
theorem iZ {j:Nat}{te:TE}{D:Addr}{ys:List V}{x:V}{σ:St}{H:Hp}{N:List V->St->Hp->Prop}
  (h:te (σ.set j (some x)) H fun y H4=>H4 D=some (.lst ys)/\ys.length<sizeLine/\N (ys++[y]) (σ.set j (some x)) (upd H4 D (.lst (ys++[y])))):BF (HP j) T6 te D ys x σ H N:=by
 unfold BF HP T6;exact(if_pos (rfl:true=true)).mpr h
end L2
set_option maxHeartbeats 4000000
namespace L2
open PySem PySem.Spec PyProof.Rows
open Sem (wp)
abbrev tG (h:Heap)(z TI TO:Addr)(f0 f1:Value):Prop :=
 h.get? z=some { cls:=.type "zip",dict:=none,data:=.fields #[f0,f1,.bool false,.ref TI,.ref TO],slots:=#[] }
def Loose (f0 f1:Value):Prop:=(f0=.none\/∃ a:Nat,f0=rawInt (a:Int))/\∃ b,f1=.bool b
section
variable {prog:Program} {w:World} {A:Around} {E:Value->Shared->Prop} {s:Shared}
theorem Nv {a:Addr}{Q:Option Obj->Shared->Prop}(h:∀ o,Q o s):wpAny (model prog w) A (loadIfAlive a) Q E s:=fun _ _ _=>h _
theorem Ig {z TI TO:Addr}{f0 f1:Value}{Q:Bool->Shared->Prop}(hz:tG s.heap z TI TO f0 f1)(hf:Loose f0 f1)
  (hQ:∀(r:Bool)(h':Heap)(g1:Value),tG h' z TI TO f0 g1->Loose f0 g1->Heap.SameBut z s.heap h'->Q r { s with heap:=h' }) :
  wpAny (model prog w) A (Builtin.SmallTypes.ownedTupleIsFree (.ref z)) Q E s:=by
 unfold Builtin.SmallTypes.ownedTupleIsFree;refine wpAny_bind (wpAny_field hz rfl (x:=f0) rfl ?_);obtain⟨ZJ,b,rfl⟩:=hf;rcases ZJ with rfl|⟨a,rfl⟩
 ·exact wpAny_pure (hQ true s.heap _ hz ⟨.inl rfl,b,rfl⟩ ⟨rfl,fun _ _=>rfl⟩)
 ·show wpAny _ _ (loadIfAlive ((a:Int).toNat) >>= _) _ _ _;refine wpAny_bind (Nv fun o=>?_);cases o with
  |none =>
   simp only [Option.isNone_none,if_true];exact wpAny_pure (hQ true s.heap _ hz ⟨.inr ⟨a,rfl⟩,b,rfl⟩ ⟨rfl,fun _ _=>rfl⟩)
  |some o =>
   simp only [Option.isNone_some,Bool.false_eq_true,if_false];refine wpAny_bind (wpAny_field hz rfl (x:=.bool b) rfl ?_);cases b with
   |true =>
    exact wpAny_pure (hQ false s.heap _ hz ⟨.inr ⟨a,rfl⟩,true,rfl⟩ ⟨rfl,fun _ _=>rfl⟩)
   |false =>
    show wpAny _ _ (setField (.ref z) 1 (.bool true) >>= _) _ _ _;refine wpAny_bind (wpAny_setField_rec hz (by simp) fun h₁ hz₁ hs₁=>?_);exact wpAny_pure (hQ false h₁ _ hz₁ ⟨.inr ⟨a,rfl⟩,true,rfl⟩ hs₁)
theorem Nw {z TI TO i1 i2 l1 l2:Addr}{k1 k2:Nat}{xs ys:Array Value}{x y a b f0 f1:Value}{Q:Value->Shared->Prop}(D:ZipApart z TI TO i1 i2 l1 l2)
  (hz:tG s.heap z TI TO f0 f1) (hf:Loose f0 f1) (hTI:IsPair s.heap TI (.ref i1) (.ref i2)) (hTO:IsPair s.heap TO a b)
  (h1:s.heap.IsListIter i1 l1 k1) (h2:s.heap.IsListIter i2 l2 k2) (hl1:s.heap.IsList l1 xs) (hl2:s.heap.IsList l2 ys) (hx:xs[k1]? = some x) (hy:ys[k2]? = some y)
  (hQ:∀ h',(∃ g0 g1,tG h' z TI TO g0 g1/\Loose g0 g1)->(∃ a b,IsPair h' TO a b)->h'.IsListIter i1 l1 (k1+1)->h'.IsListIter i2 l2 (k2+1)->IsPair h' s.heap.objs.size x y->h'.objs.size=s.heap.objs.size+1 ->
   (∀ c o,c≠z->c≠TO->c≠i1->c≠i2->s.heap.get? c=some o->h'.get? c=some o)->Q (.ref s.heap.objs.size) { s with heap:=h' }) :
  wpAny (model prog w) A (Builtin.«zip.__next__» ⟨[.ref z],[]⟩) (fun fin s'=>∃ v,fin=.done (.ret v)/\Q v s') E s:=by
 show wpAny _ _ (field (.ref z) 2 >>= _) _ _ _;refine wpAny_bind (wpAny_field hz rfl (x:=.bool false) rfl ?_);show wpAny _ _ (field (.ref z) 3 >>= _) _ _ _;refine wpAny_bind (wpAny_field hz rfl (x:=.ref TI) rfl ?_);refine wpAny_bind (wpAny_seqItems hTI rfl ?_);show wpAny _ _ (Builtin.SmallTypes.ownedTupleIsFree (.ref z) >>= _) _ _ _;refine wpAny_bind (Ig hz hf fun r h₀ g1 U5 hl₀ hs₀=>?_);cases r with
 |true =>
  simp only [if_true];refine wpAny_bind (wpAny_rule ?_);refine wpAny_bind (wpAny_field U5 rfl (x:=.ref TO) rfl ?_);refine wpAny_bind (wpAny_setField_rec U5 (by simp) fun h₁ hz₁ PD=>?_)
  replace hz₁:tG h₁ z TI TO .ellipsis g1:=hz₁
  have hs₁:Heap.SameBut z s.heap h₁:=⟨PD.1.trans hs₀.1,fun c hc=>(PD.2 c hc).trans (hs₀.2 c hc)⟩;refine wpAny_bind ?_;simp only [List.zipIdx_cons,List.zipIdx_nil,List.forIn_cons,List.forIn_nil];refine wpAny_bind (wpAny_bind (wpAny_onRaise ?_));show wpAny _ _ (Builtin.SmallTypes.nextOf (.ref i1) >>= _) _ _ _;refine wpAny_bind (wpAny_nextOf_list_item (h1.extBut hs₁.extBut D.i1z) (hl1.extBut hs₁.extBut D.l1z) hx fun h₂ h1₂ hs₂=>wpAny_pure ?_);have hTO₂:IsPair h₂ TO a b:=hs₂.extBut _ _ D.TOi1 (hs₁.extBut _ _ D.TOz hTO);refine wpAny_bind (wpAny_seqItems hTO₂ rfl ?_);refine wpAny_bind (wpAny_updateSeq_pair hTO₂ fun h₃ hTO₃ hs₃=>?_)
  replace hTO₃:IsPair h₃ TO x b:=hTO₃
  refine wpAny_bind (wpAny_letGo (wpAny_pure ?_));refine wpAny_bind (wpAny_bind (wpAny_onRaise ?_));show wpAny _ _ (Builtin.SmallTypes.nextOf (.ref i2) >>= _) _ _ _;refine wpAny_bind (wpAny_nextOf_list_item (((h2.extBut hs₁.extBut D.i2z).extBut hs₂.extBut D.i12.symm).extBut hs₃.extBut D.TOi2.symm)
   (((hl2.extBut hs₁.extBut D.l2z).extBut hs₂.extBut D.l2i1).extBut hs₃.extBut D.l2TO) hy fun h₄ h2₄ hs₄=>wpAny_pure ?_)
  have hTO₄:IsPair h₄ TO x b:=hs₄.extBut _ _ D.TOi2 hTO₃;refine wpAny_bind (wpAny_seqItems hTO₄ rfl ?_);refine wpAny_bind (wpAny_updateSeq_pair hTO₄ fun h₅ hTO₅ hs₅=>?_)
  replace hTO₅:IsPair h₅ TO x y:=hTO₅
  refine wpAny_bind (wpAny_letGo (wpAny_pure (wpAny_pure ?_)));refine wpAny_bind (wpAny_seqItems hTO₅ rfl ?_);refine wpAny_bind (wpAny_newTuple ?_);have hsz:h₅.objs.size=s.heap.objs.size:=by rw[hs₅.1,hs₄.1,hs₃.1,hs₂.1,hs₁.1]
  have hz₅:tG h₅ z TI TO .ellipsis g1:=hs₅.extBut _ _ D.TOz.symm (hs₄.extBut _ _ D.i2z.symm (hs₃.extBut _ _ D.TOz.symm (hs₂.extBut _ _ D.i1z.symm hz₁)));have hk₅:∀ c o,c≠z->c≠TO->c≠i1->c≠i2->s.heap.get? c=some o->h₅.get? c=some o:=fun c o c1 c2 c3 c4 e =>
   hs₅.extBut _ _ c2 (hs₄.extBut _ _ c4 (hs₃.extBut _ _ c2 (hs₂.extBut _ _ c3 (hs₁.extBut _ _ c1 e))))
  have h1₅:h₅.IsListIter i1 l1 (k1+1):=((h1₂.extBut hs₃.extBut D.TOi1.symm).extBut hs₄.extBut D.i12).extBut hs₅.extBut D.TOi1.symm;have h2₅:h₅.IsListIter i2 l2 (k2+1):=h2₄.extBut hs₅.extBut D.TOi2.symm;have hzlt:z<h₅.objs.size:=Heap.lt_size hz₅;show wpAny _ _ (Builtin.SmallTypes.ownedTupleHandOut (.ref z) (.ref h₅.objs.size) >>= _) _ _ _;refine wpAny_bind ?_;unfold Builtin.SmallTypes.ownedTupleHandOut;have hz₆:tG (h₅.push { cls:=.type "tuple",data:=.seq #[x,y] }) z TI TO .ellipsis g1:=Heap.get?_push_of_some _ hz₅;refine wpAny_bind (wpAny_setField_rec hz₆ (by simp) fun h₇ hz₇ hs₇=>?_)
  replace hz₇:tG h₇ z TI TO (rawInt h₅.objs.size) g1:=hz₇
  refine wpAny_setField_rec hz₇ (by simp) fun h₈ hz₈ hs₈=>?_
  replace hz₈:tG h₈ z TI TO (rawInt h₅.objs.size) (.bool false):=hz₈
  have up:∀ c o,c≠z->h₅.get? c=some o->h₈.get? c=some o:=fun c o c1 e=>hs₈.extBut _ _ c1 (hs₇.extBut _ _ c1 (Heap.get?_push_of_some _ e));have hT₈:IsPair h₈ h₅.objs.size x y:=hs₈.extBut _ _ (Nat.ne_of_gt hzlt) (hs₇.extBut _ _ (Nat.ne_of_gt hzlt) (Heap.get?_push_size _ rfl));have hz8:h₈.objs.size=h₅.objs.size+1:=by rw[hs₈.1,hs₇.1,Heap.size_push]
  have hloose:∃ g0 g1,tG h₈ z TI TO g0 g1/\Loose g0 g1:=⟨_,_,hz₈,.inr ⟨_,rfl⟩,_,rfl⟩;rw[hsz]at hT₈ hz8;refine wpAny_pure ⟨_,rfl,?_⟩;show Q (.ref h₅.objs.size) _;rw[hsz];exact hQ h₈ hloose ⟨_,_,up _ _ D.TOz hTO₅⟩ (h1₅.at fun o e=>up _ o D.i1z e) (h2₅.at fun o e=>up _ o D.i2z e) hT₈ hz8 fun c o c1 c2 c3 c4 e=>up c o c1 (hk₅ c o c1 c2 c3 c4 e)
 |false =>
  simp only [Bool.false_eq_true,if_false];have hs₁:=hs₀;refine wpAny_bind ?_;rw[<-Array.forIn_toList];simp only [List.forIn_cons,List.forIn_nil];refine wpAny_bind (wpAny_bind (wpAny_holding ?_));show wpAny _ _ (Builtin.SmallTypes.nextOf (.ref i1) >>= _) _ _ _;refine wpAny_bind (wpAny_nextOf_list_item (h1.extBut hs₁.extBut D.i1z) (hl1.extBut hs₁.extBut D.l1z) hx fun h₂ h1₂ hs₂=>wpAny_pure (wpAny_pure ?_));refine wpAny_bind (wpAny_bind (wpAny_holding ?_));show wpAny _ _ (Builtin.SmallTypes.nextOf (.ref i2) >>= _) _ _ _;refine wpAny_bind (wpAny_nextOf_list_item ((h2.extBut hs₁.extBut D.i2z).extBut hs₂.extBut D.i12.symm)
   ((hl2.extBut hs₁.extBut D.l2z).extBut hs₂.extBut D.l2i1) hy fun h₄ h2₄ hs₄=>wpAny_pure (wpAny_pure (wpAny_pure ?_)))
  have hsz:h₄.objs.size=s.heap.objs.size:=by rw[hs₄.1,hs₂.1,hs₁.1]
  refine wpAny_bind (wpAny_newTuple (hsz:=by show 2<=sizeLine;decide) ?_);have up:∀ c o,c≠z->c≠i1->c≠i2->s.heap.get? c=some o->(h₄.push { cls:=.type "tuple",data:=.seq #[x,y] }).get? c=some o:=fun c o c1 c3 c4 e =>
   Heap.get?_push_of_some _ (hs₄.extBut _ _ c4 (hs₂.extBut _ _ c3 (hs₁.extBut _ _ c1 e)))
  have hz₄:tG (h₄.push { cls:=.type "tuple",data:=.seq #[x,y] }) z TI TO f0 g1:=Heap.get?_push_of_some _ (hs₄.extBut _ _ D.i2z.symm (hs₂.extBut _ _ D.i1z.symm U5));have hT₈:IsPair (h₄.push { cls:=.type "tuple",data:=.seq #[x,y] }) h₄.objs.size x y:=Heap.get?_push_size _ rfl;have hz8:(h₄.push { cls:=.type "tuple",data:=.seq #[x,y] }).objs.size=h₄.objs.size+1:=Heap.size_push ..;refine wpAny_pure ⟨_,rfl,?_⟩;show Q (.ref h₄.objs.size) { s with heap:=h₄.push { cls:=.type "tuple",data:=.seq #[x,y] } };rw[hsz]at hT₈ hz8 ⊢;exact hQ _ ⟨_,_,hz₄,hl₀⟩ ⟨a,b,up _ _ D.TOz D.TOi1 D.TOi2 hTO⟩ ((h1₂.extBut hs₄.extBut D.i12).at fun o e=>Heap.get?_push_of_some _ e) (h2₄.at fun o e=>Heap.get?_push_of_some _ e) hT₈ hz8 fun c o c1 _ c3 c4 e=>up c o c1 c3 c4 e
theorem PJ {z TI TO i1 i2 l1 l2:Addr}{k1:Nat}{xs:Array Value}{a b f0 f1:Value}{Q:Fin->Shared->Prop}(hh:A.handled=none)(D:ZipApart z TI TO i1 i2 l1 l2)
  (hz:tG s.heap z TI TO f0 f1) (hf:Loose f0 f1) (hTI:IsPair s.heap TI (.ref i1) (.ref i2)) (hTO:IsPair s.heap TO a b)
  (h1:s.heap.IsListIter i1 l1 k1) (hl1:s.heap.IsList l1 xs) (hend:xs[k1]? = none)
  (hE:∀ h' e,(∀ c o,c≠z->c≠TO->c≠i1->c≠i2->s.heap.get? c=some o->h'.get? c=some o)->(∃ o,h'.get? e=some o/\o.cls=.type "StopIteration")->E (.ref e) { s with heap:=h' }) :
  wpAny (model prog w) A (Builtin.«zip.__next__» ⟨[.ref z],[]⟩) Q E s:=by
 show wpAny _ _ (field (.ref z) 2 >>= _) _ _ _;refine wpAny_bind (wpAny_field hz rfl (x:=.bool false) rfl ?_);show wpAny _ _ (field (.ref z) 3 >>= _) _ _ _;refine wpAny_bind (wpAny_field hz rfl (x:=.ref TI) rfl ?_);refine wpAny_bind (wpAny_seqItems hTI rfl ?_);show wpAny _ _ (Builtin.SmallTypes.ownedTupleIsFree (.ref z) >>= _) _ _ _;refine wpAny_bind (Ig hz hf fun r h₀ g1 U5 hl₀ hs₀=>?_);cases r with
 |true =>
  simp only [if_true];refine wpAny_bind (wpAny_rule ?_);refine wpAny_bind (wpAny_field U5 rfl (x:=.ref TO) rfl ?_);refine wpAny_bind (wpAny_setField_rec U5 (by simp) fun h₁ hz₁ PD=>?_)
  replace hz₁:tG h₁ z TI TO .ellipsis g1:=hz₁
  have hs₁:Heap.SameBut z s.heap h₁:=⟨PD.1.trans hs₀.1,fun c hc=>(PD.2 c hc).trans (hs₀.2 c hc)⟩;refine wpAny_bind ?_;simp only [List.zipIdx_cons,List.zipIdx_nil,List.forIn_cons,List.forIn_nil];refine wpAny_bind (wpAny_bind (wpAny_onRaise ?_));show wpAny _ _ (Builtin.SmallTypes.nextOf (.ref i1) >>= _) _ _ _;refine wpAny_bind (wpAny_nextOf_list_end hh (h1.extBut hs₁.extBut D.i1z) (hl1.extBut hs₁.extBut D.l1z) hend fun h₂ e hs₂ he=>?_);obtain⟨oe,hoe,hce⟩:=he;have hz₂:tG h₂ z TI TO .ellipsis g1:=hs₂ _ _ D.i1z.symm hz₁;have hez:e≠z:=fun x=>by subst x;rw[hz₂]at hoe;cases hoe;simp at hce
  refine wpAny_setField_rec hz₂ (by simp) fun h₃ _ hs₃=>hE h₃ e (fun c o c1 _ c3 _ x=>hs₃.extBut _ _ c1 (hs₂ _ _ c3 (hs₁.extBut _ _ c1 x))) ⟨oe,hs₃.extBut _ _ hez hoe,hce⟩
 |false =>
  simp only [Bool.false_eq_true,if_false];refine wpAny_bind ?_;rw[<-Array.forIn_toList];simp only [List.forIn_cons,List.forIn_nil];refine wpAny_bind (wpAny_bind (wpAny_holding ?_));show wpAny _ _ (Builtin.SmallTypes.nextOf (.ref i1) >>= _) _ _ _;exact wpAny_bind (wpAny_nextOf_list_end hh (h1.extBut hs₀.extBut D.i1z) (hl1.extBut hs₀.extBut D.l1z) hend fun h₂ e hs₂ he=>hE h₂ e (fun c o c1 _ c3 _ x=>hs₂ _ _ c3 (hs₀.extBut _ _ c1 x)) he)
def PK (z TI TO i1 i2 a b:Addr)(i:Nat)(h:Heap):Prop:=(∃ f0 f1,tG h z TI TO f0 f1/\Loose f0 f1)/\IsPair h TI (.ref i1) (.ref i2)/\(∃ x y,IsPair h TO x y)/\h.IsListIter i1 a i/\h.IsListIter i2 b i
theorem Ru {e z TI TO i1 i2 l1 l2:Addr}{i:Nat}{xs ys:Array Value}{x y old:Value}{Q:Option Value->Shared->Prop}(D:ZipApart z TI TO i1 i2 l1 l2)(hne:∀ c∈[z,TI,TO,i1,i2],e≠c)
  (he:IsEnum s.heap e z i old) (hst:PK z TI TO i1 i2 l1 l2 i s.heap) (hl1:s.heap.IsList l1 xs) (hl2:s.heap.IsList l2 ys) (hx:xs[i]? = some x) (hy:ys[i]? = some y)
  (hQ:∀ h' tk,IsEnumOut h' e z ((i:Int)+1) (.ref s.heap.objs.size) (s.heap.objs.size+1)->PK z TI TO i1 i2 l1 l2 (i+1) h'->IsPair h' s.heap.objs.size x y ->
   h'.get? (s.heap.objs.size+1)=some { cls:=.type "tuple",data:=.seq #[.int i tk,.ref s.heap.objs.size] } ->
   (∀ c o,c ∉ [e,z,TO,i1,i2]->s.heap.get? c=some o->h'.get? c=some o)->Q (some (.ref (s.heap.objs.size+1))) { s with heap:=h',toks:=tk+1 }) :
  wpAny (model prog w) A (pyNext (.ref e)) Q E s:=by
 have hT:s.TypeIs (.ref e) "enumerate":=⟨_,he,rfl⟩;unfold pyNext;refine wpAny_bind (wpAny_attempt (wpAny_callSpecial?_slot (name:=Str.ofString "__next__") hT slot_enumerate_next
  (wpAny_call_entry slot_enumerate_next hT PySem.F.entry_enumerate_next ?_ (PySem.F.args_enumerate_next_1 _))))
 obtain⟨hp,g,d,tk,os⟩:=s;obtain⟨⟨f0,f1,hz,hlo⟩,hTI,⟨ta,tb,hTO⟩,g1,g2⟩:=hst;have ne:=fun c hc=>(hne c hc);have ez:e≠z:=hne z (by simp);have ZK:e≠TI:=hne TI (by simp);have YM:e≠TO:=hne TO (by simp);have YN:e≠i1:=hne i1 (by simp);have YO:e≠i2:=hne i2 (by simp);show wpAny _ _ (field (.ref e) 2 >>= _) _ _ _;refine wpAny_bind (wpAny_field he rfl (x:=.ref z) rfl ?_);refine wpAny_bind ?_;have VP:Shared.TypeIs ⟨hp,g,d,tk,os⟩ (.ref z) "zip":=⟨_,hz,rfl⟩;unfold Builtin.SmallTypes.nextOf;refine wpAny_bind (wpAny_callSpecial?_slot (name:=Str.ofString "__next__") VP slot_zip_next
  (wpAny_call_entry slot_zip_next VP entry_zip_next (Nw D hz hlo hTI hTO g1 g2 hl1 hl2 hx hy fun h₁ q1 q2 q3 q4 q5 q6 q7=>wpAny_pure ?_) (PySem.F.args_zip_next_1 _)))
 replace q5:IsPair h₁ hp.objs.size x y:=q5
 replace q6:h₁.objs.size=hp.objs.size+1:=q6
 replace q7:∀ c o,c≠z->c≠TO->c≠i1->c≠i2->hp.get? c=some o->h₁.get? c=some o:=q7
 have he₁:IsEnum h₁ e z i old:=q7 e _ ez YM YN YO he;have st₁:PK z TI TO i1 i2 l1 l2 (i+1) h₁:=⟨q1,q7 TI _ D.TIz D.TITO D.TIi1 D.TIi2 hTI,q2,q3,q4⟩;show wpAny _ _ (field (.ref e) 3 >>= _) _ _ ⟨h₁,g,d,tk,os⟩;refine wpAny_bind (wpAny_field he₁ rfl (x:=rawInt i) rfl ?_);show wpAny _ _ (field (.ref e) 4 >>= _) _ _ ⟨h₁,g,d,tk,os⟩;refine wpAny_bind (wpAny_field he₁ rfl (x:=.none) rfl ?_);show wpAny _ _ (mkInt i >>= _) _ _ ⟨h₁,g,d,tk,os⟩;refine wpAny_bind (wpAny_mkInt ?_);show wpAny _ _ (setField (.ref e) 3 (rawInt ((i:Int)+1)) >>= _) _ _ ⟨h₁,g,d,tk+1,os⟩;refine wpAny_bind (wpAny_setField_rec he₁ (by simp) fun h₂ he₂ hs₂=>?_)
 replace hs₂:Heap.SameBut e h₁ h₂:=hs₂
 replace he₂:IsEnum h₂ e z ((i:Int)+1) old:=he₂
 show wpAny _ _ (setField (.ref e) 4 .none >>= _) _ _ ⟨h₂,g,d,tk+1,os⟩;refine wpAny_bind (wpAny_setField_rec he₂ (by simp) fun h₃ he₃ hs₃=>?_)
 replace hs₃:Heap.SameBut e h₂ h₃:=hs₃
 replace he₃:IsEnum h₃ e z ((i:Int)+1) old:=he₃
 show wpAny _ _ (newTuple [.int i tk,.ref hp.objs.size] >>= _) _ _ ⟨h₃,g,d,tk+1,os⟩;refine wpAny_bind (wpAny_newTuple ?_);have he₄:IsEnum (h₃.push { cls:=.type "tuple",data:=.seq #[.int i tk,.ref hp.objs.size] }) e z ((i:Int)+1) old:=Heap.get?_push_of_some _ he₃;have hsz:h₃.objs.size=hp.objs.size+1:=by rw[hs₃.1,hs₂.1,q6]
 have hel:e<hp.objs.size:=Heap.lt_size he;have ht₄:(h₃.push { cls:=.type "tuple",data:=.seq #[.int i tk,.ref hp.objs.size] }).get? (hp.objs.size+1)=some { cls:=.type "tuple",data:=.seq #[.int i tk,.ref hp.objs.size] }:=by rw[<-hsz];exact Heap.get?_push_size _ rfl
 have YQ:∀ c o,c≠e->h₁.get? c=some o->(h₃.push { cls:=.type "tuple",data:=.seq #[.int i tk,.ref hp.objs.size] }).get? c=some o:=fun c o hc q =>
  Heap.get?_push_of_some _ (hs₃.extBut c o hc (hs₂.extBut c o hc q))
 generalize h₃.push { cls:=.type "tuple",data:=.seq #[.int i tk,.ref hp.objs.size] } = h₄ at he₄ ht₄ YQ;show wpAny _ _ (Builtin.SmallTypes.ownedTupleIsFree (.ref e) >>= _) _ _ ⟨h₄,g,d,tk+1,os⟩;rw[hsz];refine wpAny_bind ?_;unfold Builtin.SmallTypes.ownedTupleIsFree;refine wpAny_bind (wpAny_field he₄ rfl (x:=.none) rfl (wpAny_pure ?_));simp only [if_true];refine wpAny_bind (wpAny_rule ?_);refine wpAny_bind (wpAny_field he₄ rfl (x:=old) rfl ?_);refine wpAny_bind (wpAny_setField_rec he₄ (by simp) fun h₅ he₅ hs₅=>?_)
 replace hs₅:Heap.SameBut e h₄ h₅:=hs₅
 replace he₅:IsEnum h₅ e z ((i:Int)+1) (.ref hp.objs.size):=he₅
 show wpAny _ _ (Builtin.SmallTypes.ownedTupleHandOut (.ref e) (.ref (hp.objs.size+1)) >>= _) _ _ ⟨h₅,g,d,tk+1,os⟩;refine wpAny_bind ?_;unfold Builtin.SmallTypes.ownedTupleHandOut;refine wpAny_bind (wpAny_setField_rec he₅ (by simp) fun h₆ he₆ hs₆=>?_)
 replace hs₆:Heap.SameBut e h₅ h₆:=hs₆
 replace he₆:IsEnumOut h₆ e z ((i:Int)+1) (.ref hp.objs.size) (hp.objs.size+1):=he₆
 refine wpAny_setField_rec he₆ (by simp) fun h₇ he₇ hs₇=>?_
 replace hs₇:Heap.SameBut e h₆ h₇:=hs₇
 replace he₇:IsEnumOut h₇ e z ((i:Int)+1) (.ref hp.objs.size) (hp.objs.size+1):=he₇
 have up:∀ c o,c≠e->h₁.get? c=some o->h₇.get? c=some o:=fun c o hc q=>hs₇.extBut c o hc (hs₆.extBut c o hc (hs₅.extBut c o hc (YQ c o hc q)));have nT:(hp.objs.size:Nat)≠e:=Nat.ne_of_gt hel;have XT:(hp.objs.size+1:Nat)≠e:=Nat.ne_of_gt (Nat.lt_succ_of_lt hel);refine wpAny_bind (wpAny_letGo (wpAny_pure ⟨_,rfl,wpAny_pure (hQ h₇ tk he₇ ?_ (up _ _ nT q5) ?_ ?_)⟩))
 ·obtain⟨⟨u0,u1,u2,u3⟩,u4,⟨u5,u6,u7⟩,u8,u9⟩:=st₁;exact⟨⟨u0,u1,up _ _ ez.symm u2,u3⟩,up _ _ ZK.symm u4,⟨u5,u6,up _ _ YM.symm u7⟩,u8.at fun o q=>up _ o YN.symm q,u9.at fun o q=>up _ o YO.symm q⟩
 ·exact hs₇.extBut _ _ XT (hs₆.extBut _ _ XT (hs₅.extBut _ _ XT ht₄))
 ·intro c o hc q;have hc':c≠e/\c≠z/\c≠TO/\c≠i1/\c≠i2:=by simpa using hc
  exact up c o hc'.1 (q7 c o hc'.2.1 hc'.2.2.1 hc'.2.2.2.1 hc'.2.2.2.2 q)
theorem Ug {e z TI TO i1 i2 l1 l2:Addr}{i:Nat}{xs:Array Value}{old:Value}{Q:Option Value->Shared->Prop}(hh:A.handled=none)(D:ZipApart z TI TO i1 i2 l1 l2)
  (he:IsEnum s.heap e z i old) (hst:PK z TI TO i1 i2 l1 l2 i s.heap) (hl1:s.heap.IsList l1 xs) (hx:xs[i]? = none)
  (hQ:∀ h',(∀ c o,c ∉ [e,z,TO,i1,i2]->s.heap.get? c=some o->h'.get? c=some o)->Q none { s with heap:=h' }):wpAny (model prog w) A (pyNext (.ref e)) Q E s:=by
 have hT:s.TypeIs (.ref e) "enumerate":=⟨_,he,rfl⟩;obtain⟨⟨f0,f1,hz,hlo⟩,hTI,⟨ta,tb,hTO⟩,g1,g2⟩:=hst;unfold pyNext;refine wpAny_bind (wpAny_attempt (wpAny_callSpecial?_slot (name:=Str.ofString "__next__") hT slot_enumerate_next
  (wpAny_call_entry slot_enumerate_next hT PySem.F.entry_enumerate_next ?_ (PySem.F.args_enumerate_next_1 _))))
 show wpAny _ _ (field (.ref e) 2 >>= _) _ _ _;refine wpAny_bind (wpAny_field he rfl (x:=.ref z) rfl ?_);refine wpAny_bind ?_;have VP:s.TypeIs (.ref z) "zip":=⟨_,hz,rfl⟩;unfold Builtin.SmallTypes.nextOf;refine wpAny_bind (wpAny_callSpecial?_slot (name:=Str.ofString "__next__") VP slot_zip_next
  (wpAny_call_entry slot_zip_next VP entry_zip_next (PJ hh D hz hlo hTI hTO g1 hl1 hx fun h' x hk hx'=>?_) (PySem.F.args_zip_next_1 _)))
 obtain⟨o,ho,hc⟩:=hx';refine wpAny_bind (wpAny_isInstance (T:="StopIteration") (b:=true) ⟨o,ho,hc⟩ isSubtype_stop ?_);refine wpAny_pure (hQ _ fun c o hc q=>?_);have hc':c≠e/\c≠z/\c≠TO/\c≠i1/\c≠i2:=by simpa using hc
 exact hk c o hc'.2.1 hc'.2.2.1 hc'.2.2.2.1 hc'.2.2.2.2 q
theorem qA (z TI TO:Addr) :
  Meets (Builtin.«enumerate.__new__» ⟨[.type "enumerate",.ref z],[]⟩) (fun _ R s=>IsZip s.heap z TI TO .none /\
   R (.ok (.ret (.ref s.heap.objs.size)))
    { s with heap:=s.heap.push { cls:=.type "enumerate",data:=.fields #[.none,.bool false,.ref z,rawInt 0,.none,.none] } }) :=
 .of_wp fun prog w A R s h=>by
  obtain⟨hp,g,d,tk,os⟩:=s;obtain⟨hl,h⟩:=h;have hsub:=sub_enumerate;have hL:IsZip (Shared.heap ⟨hp,g,d,tk,os⟩) z TI TO .none:=hl
  wp_walk using wpAny_loadPart' hl
  refine wpAny_stack_any fun st=>wpAny_pure ?_;split
  ·rename_i c _ _ _ _ _
   cases (c==Value.type "enumerate")
   ·wp_walk using wpAny_loadPart' hl,wpAny_pyIter_zip hL
    exact⟨_,rfl,h⟩
   ·wp_walk using wpAny_loadPart' hl,wpAny_pyIter_zip hL
    exact⟨_,rfl,h⟩
  ·wp_walk using wpAny_loadPart' hl,wpAny_pyIter_zip hL
   exact⟨_,rfl,h⟩
theorem tH {z TI TO:Addr}{Q:Value->Shared->Prop}(hz:IsZip s.heap z TI TO .none)
  (h:∀ h',IsEnum h' s.heap.objs.size z 0 .none->(∀ b o,s.heap.get? b=some o->h'.get? b=some o)->Q (.ref s.heap.objs.size) { s with heap:=h' }) :
  wpAny (model prog w) A (call (.type "enumerate") [.ref z]) Q E s:=by
 refine callType_new PySem.F.called_enumerate (by decide) (PySem.F.typeCall_enumerate_1 _) (PySem.F.newCall_enumerate_1 _) (fun obj=>PySem.F.args_object_init_2 obj _) PySem.F.entry_enumerate_new
  (qA z TI TO) ⟨hz,?_⟩
 show _/\_;have he:IsEnum (s.heap.push { cls:=.type "enumerate",data:=.fields #[.none,.bool false,.ref z,rawInt 0,.none,.none] }) s.heap.objs.size z 0 .none:=Heap.get?_push_size _ rfl;exact⟨⟨_,he,rfl⟩,h _ he fun b o x=>Heap.get?_push_of_some _ x⟩
end
end L2
set_option maxHeartbeats 4000000
namespace L2
open PySem PySem.Spec PyProof.Rows
section
variable {X:Cx} {pins:List (Addr×Obj)} {σ:St} {H:Hp} {s:Shared}
theorem Inv.Rv {tk:Nat}{h':Heap}{wr:List Addr}{T U:Addr}{xs ys:List V}{vals vals2:List Value}(I:Inv X pins σ H s)(hw:∀ b∈wr,lD X pins H b)(hT:s.heap.objs.size<=T)(hU:s.heap.objs.size<=U)(hTU:T≠U)
  (ht:h'.IsTuple T vals.toArray) (rv:Vals xs vals) (hz:xs.length<=sizeLine) (hu:h'.IsTuple U vals2.toArray) (WM:Vals ys vals2) (hz2:ys.length<=sizeLine)
  (kk:∀ b o,b ∉ wr->s.heap.get? b=some o->h'.get? b=some o) (there:∀ b∈wr,∃ o,h'.get? b=some o):Inv X pins σ (upd (upd H T (.tup xs)) U (.tup ys)) { s with heap:=h',toks:=tk }:=by
 have Rr:H T=none:=I.hok.fresh hT;have ZL:H U=none:=I.hok.fresh hU;have nT:∀ b o,s.heap.get? b=some o->b≠T:=fun b o e=>Nat.ne_of_lt (Nat.lt_of_lt_of_le (Heap.lt_size e) hT);have nU:∀ b o,s.heap.get? b=some o->b≠U:=fun b o e=>Nat.ne_of_lt (Nat.lt_of_lt_of_le (Heap.lt_size e) hU);have up:∀{b:Addr} {o:HO},H b=some o->upd (upd H T (.tup xs)) U (.tup ys) b=some o:=fun e=>by
  rw[ai (ak e ZL),ai (ak e Rr)];exact e
 refine I.step (g':=s.gens) (d':=s.drawn) (ch:=wr) (fun b hb=>?_) (fun b o _ _ hc e _=>kk b o hc e) (fun b o _ _ hc e _=>⟨o.slots,kk b o hc e⟩) (fun b o _ e n=>by rw[ai (nU b o e),ai (nT b o e)];exact n)
  (fun b o hc e=>⟨o,kk b o hc e⟩) (fun b ys e=>up e) (fun b o u e=>up e) (fun b ps e=>⟨#[],by rw[up e];simp⟩) (fun m hm=>?_) (fun b u e=>?_) I.bare
 ·obtain⟨_,f1,_,f3,f4,f5⟩:=hw b hb;exact⟨f3,f1,f4,f5⟩
 ·obtain⟨o,es,ep,ho,r⟩:=hm;exact⟨o,es,ep,kk _ o (fun z=>(hw _ z).2.1 rfl) ho,r⟩
 ·by_cases hb:b=U
  ·subst hb;rw[ae]at e;cases e;exact⟨hz2,vals2,WM,hu⟩
  ·rw[ai hb]at e
   by_cases hb2:b=T
   ·subst hb2;rw[ae]at e;cases e;exact⟨hz,vals,rv,ht⟩
   ·rw[ai hb2]at e;refine(I.hok b u e).stay (fun c v hc q=>kk c v (fun z=>?_) q) (fun c q=>up q) fun c ys q=>up q;have hn:=(hw c z).1;rcases hc with hc|hc
    ·rw[hc,e]at hn;cases hn
    ·rw[hc]at hn;cases hn
def Nx (K:Frag)(a b:Addr):It :=
 ⟨fun i H=>∃ xs ys x y,aQ K H a xs/\aQ K H b ys/\xs[i]? = some x/\ys[i]? = some y,
  fun i H p H'=>∃ x y t0 t1,p=.ref t1/\H t0=none/\H t1=none/\t0≠t1/\(∀ xs,aQ K H a xs->xs[i]? = some x)/\(∀ ys,aQ K H b ys->ys[i]? = some y)/\H'=upd (upd H t0 (.tup [x,y])) t1 (.tup [.int i,.ref t0]),
  fun i H=>∃ xs ys,aQ K H a xs/\aQ K H b ys/\xs.length<=i⟩
theorem Rw {P:Program}{w:World}{K:Frag}{es:List Expr}{k:Nat}{tp:Pos}{e z TI TO i1 i2:Addr}(a b:Addr)(O:FU z TI TO i1 i2)(hne:∀ c∈[z,TI,TO,i1,i2],e≠c) :
  Turn P w K (.Tuple es k tp) (Nx K a b) [e,z,TI,TO,i1,i2] e (fun i h=>(∃ old,IsEnum h e z i old)/\PK z TI TO i1 i2 a b i h) where
 mem:=by simp
 obj:=fun i h st c hc=>by
  obtain⟨⟨old,he⟩,⟨f0,f1,hz,_⟩,hTI,⟨x,y,hTO⟩,⟨o1,e1,_,d1⟩,⟨o2,e2,_,d2⟩⟩:=st;have hc':c=e\/c=z\/c=TI\/c=TO\/c=i1\/c=i2:=by simpa using hc
  rcases hc' with rfl|rfl|rfl|rfl|rfl|rfl
  ·exact⟨_,he,fun v q=>by
    have q':Data.fields _=Data.cell v:=q;cases q'⟩
  ·exact⟨_,hz,fun v q=>by
    have q':Data.fields _=Data.cell v:=q;cases q'⟩
  ·exact⟨_,hTI,fun v q=>by
    have q':Data.seq _ _=Data.cell v:=q;cases q'⟩
  ·exact⟨_,hTO,fun v q=>by
    have q':Data.seq _ _=Data.cell v:=q;cases q'⟩
  ·exact⟨o1,e1,fun v q=>by rw[d1]at q;cases q⟩
  ·exact⟨o2,e2,fun v q=>by rw[d2]at q;cases q⟩
 keep:=fun i h h' st kp=>by
  obtain⟨⟨old,he⟩,⟨f0,f1,hz,hl⟩,hTI,⟨x,y,hTO⟩,h1,h2⟩:=st;exact⟨⟨old,kp e (by simp) _ he⟩,⟨f0,f1,kp z (by simp) _ hz,hl⟩,kp TI (by simp) _ hTI,⟨x,y,kp TO (by simp) _ hTO⟩,h1.at fun o q=>kp i1 (by simp) o q,h2.at fun o q=>kp i2 (by simp) o q⟩
 item:=by
  intro X hP hw hK hc i pins s σ H E I hf st hg;subst hP hw hK;obtain⟨xs,ys,x,y,hq,hq2,hx,hy⟩:=hg;obtain⟨⟨old,he⟩,U6⟩:=st;have D:ZipApart z TI TO i1 i2 a b:=by
   obtain⟨⟨f0,f1,hz,_⟩,hTI,⟨x,y,hTO⟩,⟨o1,e1,c1,_⟩,⟨o2,e2,c2,_⟩⟩:=U6;have nz:∀{c:Addr} {zs:List V},aQ X.K H c zs->c≠z:=fun h=>dD (K:=X.K) I h hz (by intro q;injection q with q;exact absurd q (by decide));have nT:∀{c:Addr} {zs:List V},aQ X.K H c zs->c≠TO:=fun h=>dD (K:=X.K) I h hTO (by intro q;injection q with q;exact absurd q (by decide));have n1:∀{c:Addr} {zs:List V},aQ X.K H c zs->c≠i1:=fun h=>dD (K:=X.K) I h e1 (by rw[c1];intro q;injection q with q;exact absurd q (by decide));have n2:∀{c:Addr} {zs:List V},aQ X.K H c zs->c≠i2:=fun h=>dD (K:=X.K) I h e2 (by rw[c2];intro q;injection q with q;exact absurd q (by decide));exact⟨O.TIz,O.TOz,O.i1z,O.i2z,O.TITO,O.TIi1,O.TIi2,O.TOi1,O.TOi2,O.i12,nz hq,nT hq,n1 hq,n2 hq,nz hq2,nT hq2,n1 hq2,n2 hq2⟩
  obtain⟨its,rv,p,_⟩:=I.list hq;obtain⟨its2,WM,p2,_⟩:=I.list hq2;obtain⟨u,hu,ru⟩:=rv.get hx;obtain⟨u2,hu2,ZM⟩:=WM.get hy;refine Ru D hne he U6 p.isList p2.isList (x:=u) (y:=u2) (by simpa using hu) (by simpa using hu2) fun h' tk q1 q2 q3 q4 kk=>?_;refine⟨_,rfl,?_⟩;have sub:∀ c∈[e,z,TO,i1,i2],c∈[e,z,TI,TO,i1,i2]:=fun c hc=>by
   have:c=e\/c=z\/c=TO\/c=i1\/c=i2:=by simpa using hc
   simp;rcases this with r|r|r|r|r <;> simp[r]
  have fw:∀ c∈[e,z,TO,i1,i2],lD X pins H c:=fun c hc=>hf c (sub c hc);have I1:Inv X pins σ (upd (upd H s.heap.objs.size (.tup [x,y])) (s.heap.objs.size+1) (.tup [.int i,.ref s.heap.objs.size])) { s with heap:=h',toks:=tk+1 }:=by
   refine I.Rv (vals:=[u,u2]) (vals2:=[.int i tk,.ref s.heap.objs.size]) fw (Nat.le_refl _) (Nat.le_succ _) (Nat.ne_of_lt (Nat.lt_succ_self _)) ⟨_,q3,rfl,_,rfl⟩ (.cons ru (.cons ZM .nil)) (by show 2<=sizeLine;decide)
    ⟨_,q4,rfl,_,rfl⟩ (.cons ⟨tk,rfl⟩ (.cons rfl .nil)) (by show 2<=sizeLine;decide) kk fun c hc=>?_
   obtain⟨⟨f0,f1,m1,_⟩,_,⟨_,_,m2⟩,⟨o1,m3,_⟩,⟨o2,m4,_⟩⟩:=q2;have:c=e\/c=z\/c=TO\/c=i1\/c=i2:=by simpa using hc
   rcases this with rfl|rfl|rfl|rfl|rfl
   ·exact⟨_,q1⟩
   ·exact⟨_,m1⟩
   ·exact⟨_,m2⟩
   ·exact⟨_,m3⟩
   ·exact⟨_,m4⟩
  have hT0:H s.heap.objs.size=none:=I.hok.fresh (Nat.le_refl _);have hT1:H (s.heap.objs.size+1)=none:=I.hok.fresh (Nat.le_succ _);have lt:∀ c∈[e,z,TI,TO,i1,i2],c<s.heap.objs.size:=fun c hc=>by
   obtain⟨⟨f0,f1,m1,_⟩,m5,⟨_,_,m2⟩,⟨o1,m3,_⟩,⟨o2,m4,_⟩⟩:=U6;have hc':c=e\/c=z\/c=TI\/c=TO\/c=i1\/c=i2:=by simpa using hc
   rcases hc' with rfl|rfl|rfl|rfl|rfl|rfl
   ·exact Heap.lt_size he
   ·exact Heap.lt_size m1
   ·exact Heap.lt_size m5
   ·exact Heap.lt_size m2
   ·exact Heap.lt_size m3
   ·exact Heap.lt_size m4
  refine wpAny_letOwnedTupleGo_enum q1 fun h'' XU hs''=>?_;have hf2:∀ c∈[e,z,TI,TO,i1,i2],lD X pins (upd (upd H s.heap.objs.size (.tup [x,y])) (s.heap.objs.size+1) (.tup [.int i,.ref s.heap.objs.size])) c:=fun c hc=>by
   obtain⟨f0,fr⟩:=hf c hc;have l:=lt c hc;exact⟨by rw[ai (Nat.ne_of_lt (Nat.lt_succ_of_lt l)),ai (Nat.ne_of_lt l)];exact f0,fr⟩
  have ZN:∀ c o,c ∉ [e]->h'.get? c=some o->h''.get? c=some o:=fun c o hc q=>hs''.extBut c o (fun r=>hc (by simp[r])) q;have up:∀{c:Addr} {o:Obj},c∈[z,TI,TO,i1,i2]->h'.get? c=some o->h''.get? c=some o:=fun hc q=>hs''.extBut _ _ (hne _ hc).symm q;have fe:∀ c∈[e],lD X pins (upd (upd H s.heap.objs.size (.tup [x,y])) (s.heap.objs.size+1) (.tup [.int i,.ref s.heap.objs.size])) c:=fun c hc=>by
   have:c=e:=by simpa using hc
   exact hf2 c (by simp[this])
  refine⟨.ref (s.heap.objs.size+1),_,I1.lH (tk:=tk+1) (wr:=[e]) fe ZN,rfl,⟨x,y,s.heap.objs.size,s.heap.objs.size+1,rfl,hT0,hT1,Nat.ne_of_lt (Nat.lt_succ_self _),xw I hq hx,xw I hq2 hy,rfl⟩,?_,fun c hc=>(hf2 c hc).1⟩;obtain⟨⟨f0,f1,m1,m1'⟩,m5,⟨_,_,m2⟩,m3,m4⟩:=q2;exact⟨⟨_,by simpa using XU⟩,⟨f0,f1,up (by simp) m1,m1'⟩,up (by simp) m5,⟨_,_,up (by simp) m2⟩,m3.at fun o q=>up (by simp) q,m4.at fun o q=>up (by simp) q⟩
 done:=by
  intro X hP hw hK hc i pins s σ H E I hf st hg;subst hP hw hK;obtain⟨xs,ys,hq,hq2,hx⟩:=hg;obtain⟨⟨old,he⟩,U6⟩:=st;have D:ZipApart z TI TO i1 i2 a b:=by
   obtain⟨⟨f0,f1,hz,_⟩,hTI,⟨x,y,hTO⟩,⟨o1,e1,c1,_⟩,⟨o2,e2,c2,_⟩⟩:=U6;have nz:∀{c:Addr} {zs:List V},aQ X.K H c zs->c≠z:=fun h=>dD (K:=X.K) I h hz (by intro q;injection q with q;exact absurd q (by decide));have nT:∀{c:Addr} {zs:List V},aQ X.K H c zs->c≠TO:=fun h=>dD (K:=X.K) I h hTO (by intro q;injection q with q;exact absurd q (by decide));have n1:∀{c:Addr} {zs:List V},aQ X.K H c zs->c≠i1:=fun h=>dD (K:=X.K) I h e1 (by rw[c1];intro q;injection q with q;exact absurd q (by decide));have n2:∀{c:Addr} {zs:List V},aQ X.K H c zs->c≠i2:=fun h=>dD (K:=X.K) I h e2 (by rw[c2];intro q;injection q with q;exact absurd q (by decide));exact⟨O.TIz,O.TOz,O.i1z,O.i2z,O.TITO,O.TIi1,O.TIi2,O.TOi1,O.TOi2,O.i12,nz hq,nT hq,n1 hq,n2 hq,nz hq2,nT hq2,n1 hq2,n2 hq2⟩
  obtain⟨its,rv,p,_⟩:=I.list hq;have hl:=rv.length;refine Ug (I.ok.hd hc) D he U6 p.isList (Array.getElem?_eq_none (by simp;omega)) fun h' kk=>?_;refine⟨rfl,I.lH (tk:=s.toks) (wr:=[e,z,TO,i1,i2]) (fun c hc=>hf c ?_) kk⟩;have:c=e\/c=z\/c=TO\/c=i1\/c=i2:=by simpa using hc
  simp;rcases this with r|r|r|r|r <;> simp[r]
 self:=fun _ _ _ _ _ st h=>by
  obtain⟨⟨old,he⟩,_⟩:=st;exact wpAny_pyIter_enum he h
inductive VQ (K:Frag)(R:(It->Hp->Prop))(x:V)(y:V)(H2:Hp):Prop
 |mk (a:_) (b:_) (ey:x=.ref a) (eA:y=.ref b) (gn:(∃ xs,aQ K H2 a xs)/\(∃ ys,aQ K H2 b ys)/\R (Nx K a b) H2):VQ K R x y H2
def ZO (K:Frag)(tl tm:TE):TI:=fun σ H R=>tl σ H fun x H1=>tm σ H1 fun y H2=>VQ K R x y H2
theorem Rx {l m:Expr}{tl tm:TE}{p pos:Pos}(hg:Gl X "zip")(hz:X.mg "zip"=none)(hl:PE X l tl)(hm:PE X m tm)(hs:starEach [l,m] X.env=[(false,eval l X.env),(false,eval m X.env)])(hs2:starEach [m] X.env=[(false,eval m X.env)])
  {R:V->V->Hp->Prop} (I:Inv X pins σ H s) (h:tl σ H fun x H1=>tm σ H1 fun y H2=>R x y H2) (hR:∀ x y H1,R x y H1->∃ a b,x=.ref a/\y=.ref b/\(∃ xs,aQ X.K H1 a xs)/\∃ ys,aQ X.K H1 b ys) :
  wpAny (model X.prog X.w) X.A (eval (.Call (.Name "zip" p) [l,m] [] pos) X.env) (fun v s1=>∃ a b z TI TO i1 i2 H1,R (.ref a) (.ref b) H1/\v=.ref z/\Inv X pins σ H1 s1/\FU z TI TO i1 i2/\IsZip s1.heap z TI TO .none/\SX z TI TO i1 i2 a b 0 s1.heap/\∀ c∈[z,TI,TO,i1,i2],lD X pins H1 c) X.xe s:=by
 refine Call_ (ox I hg hz Ua (PyProof.Rows.callWith_type1 (cH (Ue hl hm hs hs2 pos pins s σ H I h) fun us s1 ⟨x,y,u,v,H1,I1,e1,r1,r2,q1⟩=>?_) (by rw[hs,hs2]) (by rw[hs2];rfl)));obtain⟨a,b,rfl,rfl,⟨xs,hq⟩,⟨ys,hq2⟩⟩:=hR _ _ _ q1;subst e1;cases r1;cases r2;obtain⟨its,rv,pl,_⟩:=I1.list hq;obtain⟨its2,WM,ZP,_⟩:=I1.list hq2;refine call_zip_2 pl.isList ZP.isList fun h' z1 z2 z3 z4 z5 hsz kk=>?_;have O:FU (s1.heap.objs.size+4) (s1.heap.objs.size+2) (s1.heap.objs.size+3) s1.heap.objs.size (s1.heap.objs.size+1):=by
  constructor <;> exact(by intro q;have q':(_:Nat)=_:=q;omega)
 refine⟨a,b,_,_,_,_,_,H1,q1,rfl,I1.kept (t':=s1.toks) kk,O,z1,⟨z1,z2,⟨_,_,z3⟩,z4,z5⟩,fun c hc=>?_⟩;have hc':s1.heap.objs.size<=c:=by
  have:c=s1.heap.objs.size+4\/c=s1.heap.objs.size+2\/c=s1.heap.objs.size+3\/c=s1.heap.objs.size\/c=s1.heap.objs.size+1:=by simpa using hc
  rcases this with r|r|r|r|r <;> (rw[r];first|exact Nat.le_add_right _ _|exact Nat.le_refl _)
 exact I1.HQ hc' (I1.hok.fresh hc')
theorem VR {l m:Expr}{tl tm:TE}{p p2 pos pos2 tp:Pos}{es:List Expr}{k:Nat}(hg:Gl X "zip")(hz:X.mg "zip"=none)(hg2:Gl X "enumerate")(hm2:X.mg "enumerate"=none)(hl:PE X l tl)(hm:PE X m tm)
  (hs:starEach [l,m] X.env=[(false,eval l X.env),(false,eval m X.env)]:=by rfl) (hs2:starEach [m] X.env=[(false,eval m X.env)]:=by rfl)
  (hs3:starEach [Expr.Call (.Name "zip" p) [l,m] [] pos] X.env=[(false,eval (.Call (.Name "zip" p) [l,m] [] pos) X.env)]:=by rfl) :
  PI X (.Tuple es k tp) (.Call (.Name "enumerate" p2) [.Call (.Name "zip" p) [l,m] [] pos] [] pos2) (ZO X.K tl tm):=by
 intro pins s σ H R I h;have hev:wpAny (model X.prog X.w) X.A (spliced (backTo pos2 (starEach [Expr.Call (.Name "zip" p) [l,m] [] pos] X.env))) (fun us s1=>∃ a b z TI TO i1 i2 H1,R (Nx X.K a b) H1/\us=[.ref z]/\Inv X pins σ H1 s1/\FU z TI TO i1 i2/\IsZip s1.heap z TI TO .none/\SX z TI TO i1 i2 a b 0 s1.heap/\∀ c∈[z,TI,TO,i1,i2],lD X pins H1 c) X.xe s:=by
  rw[hs3];refine Calls.spliced_cons (cH (Rx hg hz hl hm hs hs2 I h fun x y H1 ⟨a,b,e1,e2,q1,q2,_⟩=>⟨a,b,e1,e2,q1,q2⟩) fun v s1 ⟨a,b,z,TI,TO,i1,i2,H1,q,e,I1,O,g1,g2,g3⟩=>Calls.spliced_nil ?_);obtain⟨a',b',e1,e2,_,_,q⟩:=q;cases e1;cases e2;exact⟨a,b,z,TI,TO,i1,i2,H1,q,by rw[e],I1,O,g1,g2,g3⟩
 refine Call_ (ox I hg2 hm2 vI (PyProof.Rows.callWith_type1 (cH hev fun us s1 ⟨a,b,z,TI,TO,i1,i2,H1,q,e,I1,O,g1,g2,g3⟩=>?_) (by rw[hs3];rfl) (by rfl)));subst e;refine tH g1 fun h' he kk=>?_;refine wpAny_pyIter_enum he ?_;obtain⟨y1,y2,⟨y3,y4,y5⟩,y6,y7⟩:=g2;have hne:∀ c∈[z,TI,TO,i1,i2],s1.heap.objs.size≠c:=fun c hc=>by
  have hc':c=z\/c=TI\/c=TO\/c=i1\/c=i2:=by simpa using hc
  rcases hc' with rfl|rfl|rfl|rfl|rfl
  ·exact Nat.ne_of_gt (Heap.lt_size y1)
  ·exact Nat.ne_of_gt (Heap.lt_size y2)
  ·exact Nat.ne_of_gt (Heap.lt_size y5)
  ·obtain⟨_,y,_⟩:=y6;exact Nat.ne_of_gt (Heap.lt_size y)
  ·obtain⟨_,y,_⟩:=y7;exact Nat.ne_of_gt (Heap.lt_size y)
 refine⟨s1.heap.objs.size,[s1.heap.objs.size,z,TI,TO,i1,i2],_,_,H1,rfl,I1.kept (t':=s1.toks) kk,Rw a b O hne,⟨⟨.none,he⟩,⟨.none,.bool false,kk _ _ y1,.inl rfl,false,rfl⟩,kk _ _ y2,⟨y3,y4,kk _ _ y5⟩,y6.at fun o q=>kk _ _ q,y7.at fun o q=>kk _ _ q⟩,fun c hc=>?_,q⟩;rcases List.mem_cons.mp hc with rfl|hc
 ·exact I1.HQ (Nat.le_refl _) (I1.hok.fresh (Nat.le_refl _))
 ·exact g3 c hc
end
theorem Uh {K:Frag}{a b:Addr}{xs ys:List V}{g:TG}{tb:TS}{D:Ends}{σ:St}{H:Hp}(Pv:Nat->St->Hp->Prop)(he:xs.length=ys.length)(h0:Pv 0 σ H)(hl:∀ i σ H,Pv i σ H->aQ K H a xs/\aQ K H b ys)
  (hs:∀ i x y t u σ H,xs[i]? = some x->ys[i]? = some y->Pv i σ H->H t=none->H u=none->t≠u->g (.ref u) σ (upd (upd H t (.tup [x,y])) u (.tup [.int i,.ref t])) fun σ2 H2=>tb { D with nx:=Pv (i+1),ct:=Pv (i+1),bk:=D.nx } σ2 H2) (hd:∀ σ H,Pv xs.length σ H->D.nx σ H) :
  ∃ W:Nat->Nat->St->Hp->Prop,(∃ m,W 0 m σ H)/\∀ i m σ H,W i m σ H ->
   ((Nx K a b).stop i H/\D.nx σ H)\/((Nx K a b).go i H/\∃ N:St->Hp->Prop,(∀ σ' H',N σ' H'->∃ m',m'<m/\W (i+1) m' σ' H')/\∀ x H',(Nx K a b).O0 i H x H'->g x σ H' fun σ2 H2=>tb { D with nx:=N,ct:=N,bk:=D.nx } σ2 H2):=by
 refine⟨fun i m σ H=>m=xs.length-i/\i<=xs.length/\Pv i σ H,⟨xs.length,by simp,Nat.zero_le _,h0⟩,?_⟩;rintro i m σ H ⟨rfl,hi,p⟩;obtain⟨q,q2⟩:=hl i σ H p
 by_cases hlt:i<xs.length
 ·have hlt2:i<ys.length:=by omega
  refine .inr ⟨⟨xs,ys,xs[i],ys[i],q,q2,by simp[hlt],by simp[hlt2]⟩,Pv (i+1),fun σ' H' p'=>⟨xs.length-(i+1),by omega,rfl,hlt,p'⟩,fun x H' y=>?_⟩;obtain⟨x0,y0,t,u,rfl,hn,hn2,tu,hx,hy,rfl⟩:=y;exact hs i x0 y0 t u σ H (hx xs q) (hy ys q2) p hn hn2 tu
 ·have e:i=xs.length:=by omega
  subst e;exact .inl ⟨⟨xs,ys,q,q2,Nat.le_refl _⟩,hd σ H p⟩
end L2
set_option maxHeartbeats 4000000
namespace L2
open PySem PySem.Spec PyProof.Rows
structure Ih (K:Frag)(x qual:Str)(st:Stmt)(f:Addr)(fd:FuncData)(dV:Value):Prop where
 ex:∃(oc:Value)(od:Option Addr)(kV doc pm:Value)(an:Option Addr)(cdv ct:Value)(osl:Array (Option Value)),
  fd=fnOf x qual (av st) (au st) (ah st) dV kV doc pm an cdv ct/\K.lookup f=some ⟨oc,od,.func fd,osl⟩/\codeIn K cdv qual=true
 kp:keepIn K (.ref f)=true
section
variable {P:Program} {w:World} {K:Frag} {mg:Str->Option Value} {base:Heap}
theorem Ih.ok {x qual:Str}{st:Stmt}{f:Addr}{fd:FuncData}{dV:Value}{N ps:List Str}{k:Nat}{sp:Sp}(F:Ih K x qual st f fd dV)(S:az N ps (ah st))(len:∀ vs H Q E,sp vs H Q E->vs.length=ps.length)
  (hbody:∀(cdv:Value)(A:Around)(outer:List Env)(s:Shared)(H:Hp)(vs:List V)(Q:VK)(E:XK),iY k (A.deeper (envOfC qual (ah st) s.heap.objs.size f cdv))->sp vs H Q E ->
   ∃ t,HM (J1 iS P w K mg base N qual (ah st) f cdv A outer s H E).U1 (au st) t/\t { nx:=fun _ H'=>Q .non H',rt:=Q } (start N vs) H):bB P w K mg base iS (k+1) f fd ps sp:=by
 obtain⟨oc,od,kV,doc,pm,an,cdv,ct,osl,rfl,lk,hcd⟩:=F.ex;refine SJ lk hcd S len fun A outer s H vs Q E hr hsp=>?_;obtain⟨t,h,q⟩:=hbody cdv A outer s H vs Q E hr hsp;exact⟨t,h.U1,q⟩
theorem Ih.binds {x qual:Str}{st:Stmt}{f:Addr}{fd:FuncData}{T:Addr}{o:Obj}{items:Array Value}{n:Nat}{ps:List Str}{ds:List Value}(F:Ih K x qual st f fd (.ref T))(lk:K.lookup T=some o)(hs:o.data=.seq items n)
  (h:∀(kV doc pm:Value)(an:Option Addr)(cdv ct:Value)(us:List Value),(us++ds).length=ps.length->∃ k,bindArgs (fnOf x qual (av st) (au st) (ah st) (.ref T) kV doc pm an cdv ct) ⟨us,[]⟩=seqItems? (.ref T) >>= k/\k (some items)=pure (ps.zip (us++ds))):Binds K fd ps ds:=by
 obtain⟨oc,od,kV,doc,pm,an,cdv,ct,osl,rfl,lkf,hcd⟩:=F.ex;intro s us KI hl;obtain⟨k,h1,h2⟩:=h kV doc pm an cdv ct us hl;exact BindsTo.of_defaults rfl (KI _ _ lk) hs h1 h2
theorem FV {x qual:Str}{st:Stmt}{f:Addr}{oc:Value}{od an:Option Addr}{osl:Array (Option Value)}{dV kV doc pm cdv ct:Value}(l:K.lookup f=some ⟨oc,od,.func (fnOf x qual (av st) (au st) (ah st) dV kV doc pm an cdv ct),osl⟩)
  (c:codeIn K cdv qual=true) (k:keepIn K (.ref f)=true):Ih K x qual st f (fnOf x qual (av st) (au st) (ah st) dV kV doc pm an cdv ct) dV:=⟨⟨oc,od,kV,doc,pm,an,cdv,ct,osl,rfl,l,c⟩,k⟩
end
inductive Kc (w:World):List DictEntry->List (Str×V)->Prop
 |nil:Kc w [] []
 |cons {x:Str} {t:Tok} {u:Value} {v:V} {es:List DictEntry} {kvs:List (Str×V)}:RelV v u->Kc w es kvs->Kc w (⟨PyData.keyHash w.params x,.str x t,u⟩::es) ((x,v)::kvs)
structure KD (K:Frag)(w:World)(a:Addr)(kvs:List (Str×V)):Prop where
 sys:(a==sysModules)=false
 ok:∃ es n,K.lookup a=some ⟨.type "dict",none,.dict es n,#[]⟩/\Kc w es.toList kvs/\(kvs.map (·.1)).Nodup
theorem Kc.vs (P:Program){w:World}:∀{es:List DictEntry} {kvs:List (Str×V)},Kc w es kvs->∃ vs:List (Key×Value),Pairs (jG P w) es vs/\vs.map (·.1)=kvs.map (fun p=>(Sum.inr p.1:Key)) /\
  (∀ e∈es,∃ k,(jG P w).is k e.key=true/\e.hash=(jG P w).hash k)/\∀ x,sC (kvs.lookup x) (valueAt vs (Sum.inr x))
 |_,_,.nil=>⟨[],.nil,rfl,fun e h=>by simp at h,fun x=>True.intro⟩
 |_,_,.cons (x:=x) (t:=t) (u:=u) (v:=v) r q=>by
  obtain⟨vs,h1,h2,h3,h4⟩:=Kc.vs P q;refine⟨(Sum.inr x,u)::vs,.cons (jT P w x t) rfl h1,by rw[map_cons,map_cons,h2],fun e he=>?_,fun y=>?_⟩
  ·rcases List.mem_cons.mp he with rfl|he
   ·exact⟨Sum.inr x,jT P w x t,rfl⟩
   ·exact h3 e he
  ·by_cases hy:y=x
   ·subst hy;unfold valueAt;simp only [List.lookup_cons,List.find?_cons];simp;exact r
   ·unfold valueAt;have h5:=h4 y;unfold valueAt at h5;have e1:(y==x)=false:=by simpa using hy
    have e2:decide ((Sum.inr x:Key)=Sum.inr y)=false:=decide_eq_false fun e=>hy (Sum.inr.inj e).symm;simp only [List.lookup_cons,e1,List.find?_cons,e2];exact h5
theorem E6:∀{l:List Str},l.Nodup->(l.map (fun p=>(Sum.inr p:Key))).Nodup
 |[],_=>.nil
 |x::l,h=>by
  rw[map_cons,List.nodup_cons];obtain⟨h1,h2⟩:=List.nodup_cons.mp h;refine⟨fun z=>?_,E6 h2⟩;obtain⟨y,hy,e⟩:=mem_map.mp z;cases e;exact h1 hy
theorem KD.dict (P:Program){K:Frag}{w:World}{a:Addr}{kvs:List (Str×V)}{h:Heap}(d:KD K w a kvs)(hi:K.In h):∃ vs,h.DictOf (jG P w) a vs/\∀ x,sC (kvs.lookup x) (valueAt vs (Sum.inr x)):=by
 obtain⟨es,n,lk,ok,nd⟩:=d.ok;obtain⟨vs,h1,h2,h3,h4⟩:=ok.vs P;refine⟨vs,⟨_,es,n,hi _ _ lk,⟨rfl,rfl,rfl⟩,rfl,fun e he=>h3 e (by simpa using he),h1,?_⟩,h4⟩;rw[h2];have:=E6 nd;rw[List.map_map]at this;exact this
theorem sC.Ry {o:Option V}{u:Option Value}(r:sC o u):o.isSome=u.isSome:=by
 cases o <;> cases u <;> first|rfl|exact False.elim r
theorem sC.VS {o:Option V}{u:Option Value}{d:V}{d':Value}(r:sC o u)(rd:RelV d d'):RelV (o.getD d) (u.getD d'):=by
 cases o with
 |none=>cases u with
  |none=>exact rd
  |some _=>exact False.elim r
 |some v=>cases u with
  |none=>exact False.elim r
  |some _=>exact r
section
variable {X:Cx}
theorem PL:oC X (compareOp .In) (fun x y H Q=>∃ a z kvs,x=.str z/\y=.ref a/\KD X.K X.w a kvs/\Q (.bl (kvs.lookup z).isSome) H):=by
 intro pins s σ H x y v u Q I rx ry h;obtain⟨a,z,kvs,rfl,rfl,d,q⟩:=h;obtain⟨t,rfl⟩:=rx;cases ry;obtain⟨vs,dd,rel⟩:=d.dict X.prog I.vy;refine wpAny_in_of (knd:=jG X.prog X.w) (k:=Sum.inr z) (jT _ _ z t) d.sys dd.mapOf ?_;rw[<-(rel z).Ry];exact⟨.bl _,H,I.tok _,rfl,q⟩
theorem SY:Q7 X (fun x y H Q=>∃ a z kvs r,x=.ref a/\y=.str z/\KD X.K X.w a kvs/\kvs.lookup z=some r/\Q r H):=by
 intro value slice pins s σ H x y v u Q I rx ry h hs;obtain⟨a,z,kvs,r,rfl,rfl,d,l,q⟩:=h;cases rx;obtain⟨t,rfl⟩:=ry;obtain⟨vs,dd,rel⟩:=d.dict X.prog I.vy;have hr:=rel z;rw[l]at hr;cases hv:valueAt vs (Sum.inr z) with
 |none=>rw[hv]at hr;exact False.elim hr
 |some rv =>
  rw[hv]at hr;exact subscriptTail_builtinR (x:=rv) dd.typeIs PySem.F.slot_dict_getitem.lookup
   (wpAny_getItem_of (knd:=jG X.prog X.w) (k:=Sum.inr z) (jT _ _ z t) dd.mapOf hv ⟨rfl,⟨r,H,I.tok _,hr,q⟩⟩) hs
def Ui (K:Frag)(w:World)(td ty tx:TE):TE:=fun σ H Q=>td σ H fun x H1=>∃ a kvs,x=.ref a/\KD K w a kvs/\ty σ H1 fun y H2=>tx σ H2 fun z H3=>∃ k,y=.str k/\Q ((kvs.lookup k).getD z) H3
theorem PM {o e f:Expr}{apos cpos:Pos}{td ty tx:TE}(ho:PE X o td)(he:PE X e ty)(hf:PE X f tx)
  (base:attributeBase o "get" X.env (eval o X.env)=eval o X.env:=by rfl)
  (few:((backTo cpos (starEach [e,f] X.env)).all (fun x=>!x.1)&&(backToKw cpos (keywordEach [] X.env)).all (fun x=>x.1.isSome)
   && decide (([e,f]:List Expr).length+([]:List Keyword).length+(if([]:List Keyword).isEmpty then 0 else 1)<30))=true:=by rfl)
  (line:(apos.endLine==cpos.line)=true:=by rfl) (trees:backTo cpos (starEach [e,f] X.env)=[(false,eval e X.env),(false,eval f X.env)]:=by rfl) :
  PE X (.Call (.Attribute o "get" apos) [e,f] [] cpos) (Ui X.K X.w td ty tx):=by
 intro pins s σ H Q I h;refine wpAny_Call_method base few line PySem.F.plainAttrs_dict slot_dict_get PySem.F.type_dict_get (cH (ho pins s σ H _ I h) fun u s1 ⟨x,H1,I1,rx,a,kvs,ex,d,q1⟩=>?_);subst ex;obtain rfl:u=Value.ref a:=rx;obtain⟨vs,dd,rel⟩:=d.dict X.prog I1.vy;refine⟨dd.typeIs,fun b q=>?_,?_⟩
 ·cases q;obtain⟨ob,_,_,h1,h2,_⟩:=dd;exact⟨ob,h1,h2.2.1⟩
 rw[trees];refine Calls.callWith_builtin rfl (Calls.evalArgs_plain (Calls.spliced_cons (cH (he pins s1 σ H1 _ I1 q1) fun iv s2 ⟨y,H2,I2,ry,q2⟩ =>
  Calls.spliced_cons (cH (hf pins s2 σ H2 _ I2 q2) fun fv s3 ⟨z,H3,I3,rz,k,ek,q3⟩=>Calls.spliced_nil ?_))))
 subst ek;obtain⟨t,rfl⟩:=ry;obtain⟨vs3,YR,XW⟩:=d.dict X.prog I3.vy;exact call_meetsIn slot_dict_get YR.typeIs PySem.F.entry_dict_get (PySem.F.args_dict_get_3 _ _ _) (meets_dict_get_default (jG X.prog X.w) a (jT _ _ k t) d.sys fv) ⟨_,YR.mapOf,_,H3,I3.tok _,(XW k).VS rz,q3⟩
end
end L2
set_option maxHeartbeats 4000000
namespace L2
open PySem PySem.Spec PyProof.Rows
def VT (t:TE):TE:=fun σ H Q=>∃ R:V->Hp->Prop,t σ H R/\∀ v H',R v H'->Q v H'
def VU (t:TT):TT:=fun σ H Q=>∃ R:Bool->Hp->Prop,t σ H R/\∀ v H',R v H'->Q v H'
def VW (t:TS):TS:=fun D σ H=>∃ R:St->Hp->Prop,t { D with nx:=R } σ H/\∀ σ' H',R σ' H'->D.nx σ' H'
section
variable {X:Cx}
theorem fO {e:Expr}{t:TE}(h:PE X e t):PE X e (VT t):=by
 intro pins s σ H Q I ⟨R,hR,hQ⟩;exact cH (h pins s σ H R I hR) fun u s1 ⟨v,H1,I1,r,q⟩=>⟨v,H1,I1,r,hQ v H1 q⟩
theorem qB {e:Expr}{t:TT}(h:PT X e t):PT X e (VU t):=by
 intro pins s σ H Q I ⟨R,hR,hQ⟩;exact cH (h pins s σ H R I hR) fun u s1 ⟨H1,I1,q⟩=>⟨H1,I1,hQ u H1 q⟩
theorem xy {st:Stmt}{t:TS}(h:PS X st t):PS X st (VW t):=by
 intro pins s σ H D I ⟨R,hR,hQ⟩;refine cH (h pins s σ H _ I hR) fun f s1 q=>?_;cases f with
 |next=>exact let ⟨σ',H',I',q'⟩:=q;⟨σ',H',I',hQ _ _ q'⟩
 |brk=>exact q
 |cont=>exact q
 |ret u=>exact q
end
theorem Ke {t:TE}{σ:St}{H:Hp}{Q:VK}(v:V)(h:t σ H fun x H1=>x=v/\H1=H)(q:Q v H):∃ R:V->Hp->Prop,t σ H R/\∀ v H',R v H'->Q v H':=⟨_,h,by rintro _ _ ⟨rfl,rfl⟩;exact q⟩
theorem Kf {t:TT}{σ:St}{H:Hp}{Q:Bool->Hp->Prop}(b:Bool)(h:t σ H fun x H1=>x=b/\H1=H)(q:Q b H):∃ R:Bool->Hp->Prop,t σ H R/\∀ v H',R v H'->Q v H':=⟨_,h,by rintro _ _ ⟨rfl,rfl⟩;exact q⟩
theorem XX {t:TS}{σ:St}{H:Hp}{D:Ends}(σ':St)(H':Hp)(h:t { D with nx:=fun σ1 H1=>σ1=σ'/\H1=H' } σ H)(q:D.nx σ' H'):∃ R:St->Hp->Prop,t { D with nx:=R } σ H/\∀ σ' H',R σ' H'->D.nx σ' H' :=
 ⟨_,h,by rintro _ _ ⟨rfl,rfl⟩;exact q⟩
theorem PN {x v:V}{H:Hp}(e:x=v):x=v/\H=H:=⟨e,rfl⟩
theorem BG {x v:Bool}{H:Hp}(e:x=v):x=v/\H=H:=⟨e,rfl⟩
end L2
set_option maxHeartbeats 4000000
namespace L2
open PySem PySem.Spec PyProof.Rows
abbrev Cx.names (X:Cx)(N:List Str):Cx:={ X with N:=N }
section
variable {X:Cx} {pins:List (Addr×Obj)} {σ:St} {H:Hp} {s:Shared}
end
end L2
set_option maxHeartbeats 4000000
namespace L2
open PySem PySem.Spec PyProof.Rows
section
variable {X:Cx} {tg iter elt:Expr} {ifs:List Expr} {scope:Scope} {pos:Pos} {cn:List Str} {wi:TI} {g:Bk->TG} {tc:Bk->TT} {te:Bk->TE}
theorem BH {i:Nat}{x:Str}{pos' spos:Pos}(hN:X.N.Nodup)(hix:X.N[i]? = some x)(hx:X.env.scope.names.lookup x=some .local)(hcalm:X.calm=true)(F:dI X.env.scope X.N scope)(hi:PI X tg iter wi)
  (hg:∀ b,PG (bZ X cn scope b) tg (g b)) (ht:∀ b,PF (bZ X cn scope b) ifs (tc b)) (he:∀ b,PE (bZ X cn scope b) elt (te b))
  (hsw:swapsWith (.ListComp elt [⟨tg,iter,ifs,0⟩] scope pos) (some (.Name x pos')) spos.line X.env=pure true:=by rfl)
  (hs:∀ x,foldedSetIterable iter X.env x=pure x:=by intro _;rfl):PS X (.Assign [.Name x pos'] (.ListComp elt [⟨tg,iter,ifs,0⟩] scope pos) spos) (TF (Pr cn.length wi g tc te) (HP i)):=by
 intro pins s σ H D I h;rw[exec_Assign_Name_used _ _ _ _ hsw];refine wpAny_bind (wpAny_standAt (wpAny_bind ?_));rw[arm_evalThenUse_ListComp];refine wpAny_bind ?_;have hcl:closureFor scope X.env=pure (eJ X.env scope.names []):=ME fun p hp e=>I.ok.has p.1 (F.free p hp e);refine wpAny_comprehension_free (use:=some (assign (.Name x pos') X.env)) rfl hs hcl F.kind F.loc (cH (hi pins s σ H _ I h) fun xv s₁ h₁=>cH h₁ fun itv s₂ h₂=>?_);obtain⟨it,fp,tn,J,H2,rfl,I2,T,st,f2,R⟩:=h₂;refine Ib (TH:=fun _=>True) (QQ:=fun D' H'=>D.nx (σ.set i (some (.ref D'))) H') (RR:=fun acc C=>compPost (model X.prog X.w) X.A X.xe (some (assign (.Name x pos') X.env)) _ acc C) hcalm F (fun b _=>hg b) (fun b _=>ht b) (fun b _=>he b) (fun _ _=>trivial) I2 T st f2 R ?_ ?_
 ·intro C D' σ' H' s' hC I' q;obtain⟨m,hm,_⟩:=I'.loc;have ZQ:H' C=none:=I'.free;have fC:lD X pins H' C:=I2.HQ hC ZQ;have I3:Inv X pins σ H' s':=I2.MG f2 hC I' ⟨rfl,fun _ _=>rfl⟩;show wpAny (model X.prog X.w) X.A (assign (.Name x pos') X.env (.ref D')) _ X.xe s';refine wpAny_assign_Name (EU I3 hN hix (.inl hx) (v:=.ref D') rfl (fun s'' I4 ⟨a,sa,ha⟩=>?_) (.inr hx));have hne:C≠a:=by
   rcases ha with e|e
   ·rw[e];exact fC.2.1
   ·exact fun z=>fC.2.2.2.2.1 _ _ e z.symm
  obtain⟨o,es,ep,ho,r⟩:=hm;refine⟨m,⟨o,es,ep,(sa.2 C hne).trans ho,r⟩,fun h' sb=>?_⟩;refine wpAny_pure (wpAny_pure ⟨_,H',?_,q⟩);exact I4.lH (tk:=s''.toks) (wr:=[C]) (fun b hb=>by
   have:b=C:=by simpa using hb
   rw[this];exact fC) fun b o hb e=>(sb.2 b (fun z=>hb (by simp[z]))).trans e
 ·intro C D' e s' z;exact z
end
end L2
set_option maxHeartbeats 4000000
namespace L2
open PySem PySem.Spec PyProof.Rows PySem.SeqAt
section
variable {X:Cx}
inductive S0 (K:Frag)(neg:Bool)(x:V)(y:V)(H:Hp)(Q:VK):Prop
 |mk (a:_) (c:_) (xs:_) (ey:x=.ref a) (eA:y=.ref c) (gn:aQ K H a xs) (my:aQ K H c []) (tq:Q (.bl (if neg then !xs.isEmpty else xs.isEmpty)) H):S0 K neg x y H Q
def XY (K:Frag)(neg:Bool):R2:=fun x y H Q=>S0 K neg x y H Q
theorem Uj {pins:List (Addr×Obj)}{σ:St}{H:Hp}{s:Shared}{a c:Addr}{xs:List V}(hu:X.A.units+64<cLine)(I:Inv X pins σ H s)(ha:aQ X.K H a xs)(hc:aQ X.K H c []):RcAt X.A s (.ref a) (.ref c) xs.isEmpty/\RcNeAt X.A s (.ref a) (.ref c) (!xs.isEmpty):=by
 obtain⟨its,r,p,_⟩:=I.list ha;obtain⟨its',r',p',_⟩:=I.list hc;have e1:=r.length;have e2:=r'.length;simp at e2;cases xs with
 |nil =>
  simp at e1;have z1:its=[]:=by simpa using e1.symm
  have z2:its'=[]:=by simpa using e2.symm
  subst z1 z2;constructor
  ·have:=RcAt.lists (A:=X.A) (e:=fun _=>true) p.isList p'.isList rfl (by omega) (fun j h1 _=>absurd h1 (by simp))
   simpa using this
  ·have:=RcNeAt.lists (A:=X.A) (e:=fun _=>true) p.isList p'.isList rfl (by omega) (fun j h1 _=>absurd h1 (by simp))
   simpa using this
 |cons x t =>
  have hne:(its.toArray.size != its'.toArray.size)=true:=by
   simp at e1;have z2:its'=[]:=by simpa using e2.symm
   subst z2;have:its.length≠0:=by omega
   simpa using this
  exact⟨RcAt.lists_lengths p.isList p'.isList hne (by omega),RcNeAt.lists_lengths p.isList p'.isList hne (by omega)⟩
theorem PQ (hu:X.A.units+64<cLine):oC X (compareOp .NotEq) (XY X.K true):=by
 intro pins s σ H x y v u Q I r1 r2 h;obtain⟨a,c,xs,rfl,rfl,ha,hc,q⟩:=h;cases r1;cases r2;exact(Uj hu I ha hc).2 X.prog X.w X.xe _ ⟨.bl _,H,I,rfl,q⟩
end
end L2
set_option maxHeartbeats 4000000
namespace L2
open PySem PySem.Spec PyProof.Rows
structure PEw (X:Cx)(e:Expr)(t:TE):Prop where
 out:PE X e t
structure PAw (X:Cx)(es:List Expr)(t:TA):Prop where
 out:PA X es t
end L2
set_option maxHeartbeats 4000000
namespace L2
open PySem PySem.Spec PyProof.Rows
abbrev YS:=St->Value->Hp->Prop
section
variable {X:Cx} {pins:List (Addr×Obj)} {σ:St} {H H':Hp} {s s':Shared}
end
section
variable {P:Program} {w:World} {K:Frag} {mg:Str->Option Value} {base:Heap}
end
inductive Rz (C:Addr)(m:Str)(sp:Sp)(vz:List V)(XS:YS)(t:TA)(σ:St)(Q:VK)(x:V)(H1:Hp):Prop
 |mk (a:_) (dx:_) (fs:_) (ey:x=.ref a) (eA:H1 a=some (.ins C dx fs)) (gn:fs.lookup m=none) (my:t σ H1 fun vs H2=>sp (x::(vs++vz)) H2 Q fun cls _ H'=>XS σ cls H'):Rz C m sp vz XS t σ Q x H1
section
variable {X:Cx} {W:Value->Shared->Prop} {XS:YS} {k:Nat} {f C:Addr} {fd:FuncData} {ps:List Str} {sp:Sp} {vz:List V} {ds:List Value} {x m:Str} {p pos apos:Pos} {e o:Expr} {es:List Expr} {ta:TE} {t:TA}
end
abbrev VX:List Value:=[.type "ValueError",.type "Exception",.type "BaseException",.type "object"]
def ZR (K:Frag)(C:Addr):Prop:=excIn K C VX "ValueError.__new__" = true
abbrev Cx.ZS (X:Cx)(pn:List (Addr×Obj)):Cx:={ X with pn:=pn }
abbrev Cx.hand (X:Cx)(a:Addr):Cx:={ X with A:=X.A.mark (some (.ref a)),calm:=false,xe:=fun _ _=>False }
section
variable {X:Cx} {pins OX:List (Addr×Obj)} {σ:St} {H H':Hp} {s:Shared}
end
end L2
set_option maxHeartbeats 4000000
namespace L2
open PySem PySem.Spec PyProof.Rows
structure ExA (K:Frag)(C:Addr):Prop where
 exc:ZR K C
 ga:findIn K (.ref C) "__getattribute__"=some (some (.builtin "BaseException.__getattribute__"))
 ZT:findIn K (.ref C) "__getattr__"=some none
 cl:findIn K (.ref C) "__class__"=some (some (.builtin "object.__class__"))
section
variable {prog:Program} {w:World} {A:Around} {E:Value->Shared->Prop} {h:Heap} {g:Array GenState} {d:Drawn} {t:Nat} {os:OsState} {a:Addr} {o:Obj} {vs:Array Value} {K:Frag}
 {nm q:Str} {C N:Addr} {bs bm:List Value} {hdct:Bool} {sn:List Str} {sub:List Value} {ab:Bool} {col:Option Bool} {dd:Option Addr} {k0 k1 k2 k3 k5:Option Value} {newId:String}
end
section
variable {X:Cx}
end
end L2
set_option maxHeartbeats 4000000
namespace L2
open PySem PySem.Spec PyProof.Rows
section
variable {P:Program} {w:World} {K:Frag} {mg:Str->Option Value} {base:Heap}
end
section
variable {X:Cx} {tg iter elt:Expr} {ifs:List Expr} {scope:Scope} {pos:Pos} {cn:List Str} {wi:TI} {g:Bk->TG} {tc:Bk->TT} {te:Bk->TE} {TH:Bk->Prop}
end
end L2
set_option maxHeartbeats 4000000
namespace L2
open PySem PySem.Spec PyProof.Rows
def Uk (to:TE)(tl th:St->Hp->(Option Int->Hp->Prop)->Prop):TG:=fun v σ H Q=>to σ H fun x H1=>tl σ H1 fun l H2=>th σ H2 fun u H3 =>
 ∃(p b:Addr)(xs ys:List V)(a c:Int),x=.ref p/\v=.ref b/\l=some a/\u=some c/\H3 p=some (.lst xs)/\H3 b=some (.lst ys)/\p≠b/\0<=a/\a<=c/\c<=xs.length/\xs.length+ys.length<=sizeLine/\Q σ (upd H3 p (.lst (xs.take a.toNat++ys++xs.drop c.toNat)))
theorem PR {X:Cx}{o:Expr}{lo hi:Option Expr}{p2 pos:Pos}{to:TE}{tl th:St->Hp->(Option Int->Hp->Prop)->Prop}(ho:PE X o to)(hl:PO X lo tl)(hu:PO X hi th)
  (ha:∀ v,assign (.Subscript o (.Slice lo hi none p2) pos) X.env v=(do
   let ov <-holding [v] (eval o X.env)
   let iv <-holding [v,ov] (eval (.Slice lo hi none p2) X.env)
   standAt pos
   holding [v,ov,iv] (setItem ov iv v)
   release [iv,v,ov] []):=by intro _;rfl):PG X (.Subscript o (.Slice lo hi none p2) pos) (Uk to tl th):=by
 intro pins s σ H v u Q I r h;rw[ha];refine wpAny_bind (wpAny_holding (cH (ho pins s σ H _ I h) fun ov s1 ⟨x,H1,I1,r1,q1⟩=>?_));refine wpAny_bind (wpAny_holding ?_);refine wpAny_Slice (cH (hl pins s1 σ H1 _ I1 q1) fun vl s2 ⟨l,H2,I2,pl,q2⟩=>cH (hu pins s2 σ H2 _ I2 q2) fun vu s3 ⟨uu,H3,I3,pu,q3⟩=>?_);rw[evalPart_none];refine wpAny_pure ?_;have I4:Inv X pins σ H3 { s3 with heap:=s3.heap.push { cls:=.type "slice",data:=.fields #[vl,vu,.none] } }:=I3.kept (t':=s3.toks) fun b ob q=>Heap.get?_push_of_some _ q;obtain⟨p,b,xs,ys,a,c,rfl,rfl,rfl,rfl,hp,hb,hne,h0,hac,hc,hz,q4⟩:=q3;cases r1;cases r;refine wpAny_bind (wpAny_standAt (wpAny_bind (wpAny_holding ?_)));refine Np I4 hp hb hne (Heap.IsSliceOf.new ..) (by cases pl;exact⟨_,rfl⟩) (by cases pu;exact⟨_,rfl⟩) h0 hac hc hz fun s5 I5=>?_;exact wpAny_release ⟨σ,_,I5,q4⟩
end L2
namespace L2
open PySem PySem.Spec PyProof.Rows
section
variable {X:Cx}
theorem all_range:∀ bs:List Bool,(List.range bs.length).all (fun i=>bs.getD i false)=bs.all id
 |[]=>rfl
 |b::bs=>by
  rw[length_cons,List.range_succ_eq_map,List.all_cons,List.all_map,List.all_cons];have:((fun i=>(b::bs).getD i false) ∘ Nat.succ)=fun i=>bs.getD i false:=by
   funext i
   rfl
  rw[this,all_range bs];rfl
theorem PU:lE X (.builtin "all") (fun xs H Q=>X.calm=true/\∃(a:Addr)(bs:List Bool),xs=[.ref a]/\aQ X.K H a (bs.map V.bl)/\Q (.bl (bs.all id)) H):=by
 intro pins s σ H xs us Q I r h;obtain⟨hc,a,bs,rfl,hq,q⟩:=h;obtain⟨u,rfl,rfl⟩:=r.one;obtain⟨its,rv,p,hz⟩:=I.list hq;have hl:=rv.length;rw[length_map]at hl;have T8:∀(i:Nat)(v:Value),its.toArray[i]? = some v->v=Value.bool (bs.getD i false):=by
  intro i v hv;have hv':its[i]? = some v:=by simpa using hv
  have hi:i<its.length:=(List.getElem?_eq_some_iff.mp hv').1;have hb:i<bs.length:=by omega
  obtain⟨u,hu,ru⟩:=rv.get (i:=i) (x:=.bl (bs[i])) (by rw[getElem?_map,getElem?_eq_getElem hb];rfl);rw[hv']at hu;cases hu;have:v=.bool bs[i]:=ru;rw[this,List.getD_eq_getElem?_getD,getElem?_eq_getElem hb];rfl
 refine call_all_walk (wpAny_pyIter_list p.isList ?_);have XQ:a≠s.heap.objs.size:=by
  obtain⟨o,ho,_⟩:=p.isList;exact Nat.ne_of_lt (Heap.lt_size ho)
 have hd:X.A.in1.handled=none:=I.ok.hd hc;refine⟨s.heap.objs.size,_,_,_,_,_,fun i=>bs.getD i false,rfl,Walks.list hd s.heap.objs.size a XQ its.toArray,⟨⟨_,Heap.get?_push_size _ rfl,rfl,rfl⟩,p.isList.push _⟩,?_,?_⟩
 ·intro i v s' Q' E' hP hQ';rw[T8 i v hP];exact wpAny_truthy_bool hQ'
 ·intro h' tk kk;have e:(List.range its.toArray.size).all (fun i=>bs.getD i false)=bs.all id:=by
   rw[size_toArray,<-hl];exact all_range bs
  rw[e];refine⟨.bl _,H,I.kept (t':=tk) fun b o e=>kk b o (fun z=>?_) (Heap.get?_push_of_some _ e),rfl,q⟩;have:b=s.heap.objs.size:=by simpa using z
  exact absurd (Heap.lt_size e) (by rw[this];exact Nat.lt_irrefl _)
def U7 (lo:Int)(n:Nat):It:={ go:=fun i _=>i<n,O0:=fun i H x H'=>H'=H/\x=V.int (lo-(i:Int)),stop:=fun i _=>n<=i }
theorem Ny {P:Program}{w:World}{K:Frag}{tg:Expr}(it:Addr)(lo:Int)(n:Nat):Turn P w K tg (U7 lo n) [it] it (fun i h=>IsRangeIter h it (lo+(i:Nat) * (-1)) ((n:Int)-(i:Nat)) (-1)) where
 mem:=by simp
 obj:=fun i h st b hb=>by
  have e:b=it:=by simpa using hb
  subst e;exact⟨_,st,fun v z=>by
   have z':Data.fields _=Data.cell v:=z;cases z'⟩
 keep:=fun i h h' st k=>k it (by simp) _ st
 item:=by
  intro X hP hw hK hc i pins s σ H E I hf st hg;subst hP hw hK;obtain⟨f0,f1,f2,f3,f4,f5⟩:=hf it (by simp);have W:=Walks.range (prog:=X.prog) (w:=X.w) (I.ok.hd hc) it lo (-1) n;refine W.item i s _ _ hg st fun v h' tk hv st' kk=>?_;obtain⟨t,rfl⟩:=hv;have I1:Inv X pins σ H { s with heap:=h',toks:=tk }:=I.turned (fun b o hb e=>kk b o (by simpa using hb) e) f0 f1 f3 f4 f5;refine⟨_,rfl,Mu (s:={ s with heap:=h',toks:=tk }) (n:="range_iterator") st' rfl rfl (by decide) ⟨.int (lo-i),H,I1,⟨t,?_⟩,⟨rfl,rfl⟩,st',fun b hb=>(hf b hb).1⟩⟩;have:lo+(i:Int) * (-1)=lo-i:=by omega
  rw[this]
 done:=by
  intro X hP hw hK hc i pins s σ H E I hf st hg;subst hP hw hK;obtain⟨f0,f1,f2,f3,f4,f5⟩:=hf it (by simp);exact wpAny_pyNext_range_end (I.ok.hd hc) st (by have:n<=i:=hg;omega) fun h' eb=>⟨rfl,I.turned (t':=s.toks) (fun b o hb e=>eb b o hb e) f0 f1 f3 f4 f5⟩
 self:=fun _ _ _ _ _ st h=>wpAny_pyIter_rangeiter st h
theorem rangeSize_down (a b:Int):Builtin.Range.rangeSize a b (-1)=if b<a then a-b else 0:=by
 unfold Builtin.Range.rangeSize;rw[if_neg (by decide)]
 by_cases h:a > b
 ·rw[if_pos h,if_pos h];show(a-b-1) / 1+1=a-b;omega
 ·rw[if_neg h,if_neg h]
theorem small_down {a b:Int}(h1:-(2 ^ 62)<=a)(h2:a<2 ^ 62)(h3:-(2 ^ 62)<=b)(h4:b<2 ^ 62):Builtin.Range.small a b (-1)=true:=by
 unfold Builtin.Range.small;rw[rangeSize_down];have f:∀ x:Int,-(2 ^ 63)<=x->x<2 ^ 63->Builtin.Range.rangeFitsLong x=true:=fun x p q=>by
  unfold Builtin.Range.rangeFitsLong;simp;omega
 rw[f a (by omega) (by omega),f b (by omega) (by omega),f (-1) (by omega) (by omega),f _ (by split <;> omega) (by split <;> omega),if_neg (show ¬((-1:Int) > 0) by decide),f (b+(-1+1)) (by omega) (by omega)];simp
theorem RC {tg:Expr}{pins:List (Addr×Obj)}{σ:St}{H:Hp}{s:Shared}{R:It->Hp->Prop}{E:Value->Shared->Prop}{lo hi:Int}{t u v:Tok}{tk:Nat}(I:Inv X pins σ H s)(h1:-(2 ^ 62)<=lo)(h2:lo<2 ^ 62)(h3:-(2 ^ 62)<=hi)(h4:hi<2 ^ 62)
  (q:R (U7 lo (lo-hi).toNat) H):wpAny (model X.prog X.w) X.A (pyIter (.ref s.heap.objs.size)) (PIE X pins σ tg R) E { s with heap:=s.heap.push { cls:=.type "range",data:=.fields #[.int lo t,.int hi u,.int (-1) v] },toks:=tk }:=by
 refine wpAny_pyIter_range (IsRange.new ..) (small_down h1 h2 h3 h4) ?_;have I1:Inv X pins σ H { s with heap:=s.heap.push { cls:=.type "range",data:=.fields #[.int lo t,.int hi u,.int (-1) v] },toks:=tk }:=I.kept fun b o e=>Heap.get?_push_of_some _ e;refine⟨(s.heap.push { cls:=.type "range",data:=.fields #[.int lo t,.int hi u,.int (-1) v] }).objs.size,[(s.heap.push { cls:=.type "range",data:=.fields #[.int lo t,.int hi u,.int (-1) v] }).objs.size],_,_,H,rfl,
  I1.kept (t':=tk) fun b o e=>Heap.get?_push_of_some _ e,Ny _ lo (lo-hi).toNat,?_,fun b hb=>?_,q⟩
 ·have e1:lo+((0:Nat):Int) * (-1)=lo:=by simp
  have e2:(((lo-hi).toNat:Nat):Int)-((0:Nat):Int)=Builtin.Range.rangeSize lo hi (-1):=by rw[rangeSize_down];split <;> omega
  show IsRangeIter _ _ (lo+((0:Nat):Int) * (-1)) ((((lo-hi).toNat:Nat):Int)-((0:Nat):Int)) (-1);rw[e1,e2];exact Heap.get?_push_size _ rfl
 ·have e:b=(s.heap.push { cls:=.type "range",data:=.fields #[.int lo t,.int hi u,.int (-1) v] }).objs.size:=by simpa using hb
  subst e;exact I1.HQ (Nat.le_refl _) (I1.hok.fresh (Nat.le_refl _))
def VY (ta:TA):TI:=fun σ H R=>ta σ H fun vs H1=>∃ i j:Int,vs=[.int i,.int j,.int (-1)]/\(-(2 ^ 62)<=i/\i<2 ^ 62/\-(2 ^ 62)<=j/\j<2 ^ 62)/\R (U7 i (i-j).toNat) H1
theorem Nz {tg:Expr}{a b c:Expr}{ta:TA}{p pos:Pos}(hg:Gl X "range")(hm:X.mg "range"=none)(ha:PA X [a,b,c] ta)(hs:starEach [a,b,c] X.env=[(false,eval a X.env),(false,eval b X.env),(false,eval c X.env)]:=by rfl)(hs2:starEach [b,c] X.env=[(false,eval b X.env),(false,eval c X.env)]:=by rfl) :
  PI X tg (.Call (.Name "range" p) [a,b,c] [] pos) (VY ta):=by
 intro pins s σ H R I h;refine Call_ (ox I hg hm boot_range (PyProof.Rows.callWith_type1 (cH (ha pos pins s σ H _ I h) fun us s1 ⟨vs,H1,I1,r1,q1⟩=>?_) (by rw[hs,hs2]) (by rw[hs2];rfl)));obtain⟨i,j,e,⟨q1,q2,q3,q4⟩,q⟩:=q1;subst e;cases r1 with
 |cons r rr =>
  cases rr with
  |cons r' rr =>
   cases rr with
   |cons r'' rr =>
    cases rr;obtain⟨t,rfl⟩:=r;obtain⟨t',rfl⟩:=r';obtain⟨t'',rfl⟩:=r'';exact call_range_3 (by decide) (RC I1 q1 q2 q3 q4 q) (.inl rfl)
theorem PV {lo:Int}{n:Nat}{g:TG}{tb:TS}{D:Ends}{σ:St}{H:Hp}(Pv:Nat->St->Hp->Prop)(h0:Pv 0 σ H)
  (hs:∀ i σ H,i<n->Pv i σ H->g (.int (lo-i)) σ H fun σ2 H2=>tb { D with nx:=Pv (i+1),ct:=Pv (i+1),bk:=D.nx } σ2 H2) (hd:∀ σ H,Pv n σ H->D.nx σ H) :
  ∃ W:Nat->Nat->St->Hp->Prop,(∃ m,W 0 m σ H)/\∀ i m σ H,W i m σ H ->
   ((U7 lo n).stop i H/\D.nx σ H)\/((U7 lo n).go i H/\∃ N:St->Hp->Prop,(∀ σ' H',N σ' H'->∃ m',m'<m/\W (i+1) m' σ' H')/\∀ x H',(U7 lo n).O0 i H x H'->g x σ H' fun σ2 H2=>tb { D with nx:=N,ct:=N,bk:=D.nx } σ2 H2):=by
 refine⟨fun i m σ H=>m=n-i/\i<=n/\Pv i σ H,⟨n,by simp,Nat.zero_le _,h0⟩,?_⟩;rintro i m σ H ⟨rfl,hi,p⟩
 by_cases hlt:i<n
 ·refine .inr ⟨hlt,Pv (i+1),fun σ' H' p'=>⟨n-(i+1),by omega,rfl,hlt,p'⟩,fun x H' y=>?_⟩;obtain⟨e,y⟩:=y;subst e y;exact hs i σ _ hlt p
 ·have e:i=n:=by omega
  subst e;exact .inl ⟨Nat.le_refl _,hd _ _ p⟩
def RD:TE:=fun _ _ _=>False
theorem PX {e:Expr}:PE X e RD:=fun _ _ _ _ _ _ h=>h.elim
end
end L2
namespace L2
open PySem PySem.Spec PyProof.Rows
section
variable {κ:Type} [DecidableEq κ]
end
abbrev KT (H:Hp):List (List Key×V)->List (List Key×Addr×Value)->Prop:=Paired fun p q=>p.1=q.1/\H q.2.1=some (.tup (p.1.map kV))/\RelV p.2 q.2.2
section
variable {P:Program} {w:World} {H:Hp} {h:Heap} {a:Addr}
end
section
variable {X:Cx} {pins:List (Addr×Obj)} {σ:St} {H:Hp} {s:Shared} {a:Addr} {y v:V} {u r:Value} {o:Option V} {A:Around} {E:Value->Shared->Prop}
end
section
variable {X:Cx} {pins:List (Addr×Obj)} {σ:St} {H:Hp} {s:Shared} {a:Addr} {kvs:List (Key×V)} {k:Key} {u:Value} {A:Around} {E:Value->Shared->Prop}
end
section
variable {X:Cx} {o i e value:Expr} {pos pos' tpos:Pos} {td ty tv:TE}
end
section
variable {X:Cx} {pos:Pos}
end
def PY:List (TE×TE)->St->Hp->(List (V×V)->Hp->Prop)->Prop
 |[],_,H,Q=>Q [] H
 |(tk,tv)::r,σ,H,Q=>tk σ H fun x H1=>tv σ H1 fun y H2=>PY r σ H2 fun ps H3=>Q ((x,y)::ps) H3
abbrev VV:List (V×V)->List (Value×Value)->Prop:=Paired fun p q=>RelV p.1 q.1/\RelV p.2 q.2
def ZU (X:Cx)(pos:Pos)(keys:List (Option Expr))(values:List Expr)(XZ:List (TE×TE)):Prop :=
 ∀(pins:List (Addr×Obj)) (s:Shared) (σ:St) (H:Hp) (Q:List (V×V)->Hp->Prop),Inv X pins σ H s->PY XZ σ H Q ->
  wpAny (model X.prog X.w) X.A (evalPairs (pairTrees keys values X.env pos)) (fun vs s'=>∃ ps H',Inv X pins σ H' s'/\VV ps vs/\Q ps H') X.xe s
structure M1 (X:Cx)(o:Expr)(m:Str)(apos:Pos)(e:Expr)(cpos:Pos):Prop where
 base:attributeBase o m X.env (eval o X.env)=eval o X.env
 few:((backTo cpos (starEach [e] X.env)).all (fun x=>!x.1)&&(backToKw cpos (keywordEach [] X.env)).all (fun x=>x.1.isSome)
  && decide (([e]:List Expr).length+([]:List Keyword).length+(if([]:List Keyword).isEmpty then 0 else 1)<30))=true
 line:(apos.endLine==cpos.line)=true
 trees:backTo cpos (starEach [e] X.env)=[(false,eval e X.env)]
structure M2 (X:Cx)(o:Expr)(m:Str)(apos:Pos)(e f:Expr)(cpos:Pos):Prop where
 base:attributeBase o m X.env (eval o X.env)=eval o X.env
 few:((backTo cpos (starEach [e,f] X.env)).all (fun x=>!x.1)&&(backToKw cpos (keywordEach [] X.env)).all (fun x=>x.1.isSome)
  && decide (([e,f]:List Expr).length+([]:List Keyword).length+(if([]:List Keyword).isEmpty then 0 else 1)<30))=true
 line:(apos.endLine==cpos.line)=true
 trees:backTo cpos (starEach [e,f] X.env)=[(false,eval e X.env),(false,eval f X.env)]
section
variable {X:Cx} {pins:List (Addr×Obj)} {σ:St} {H:Hp} {s:Shared} {a:Addr} {y d:V} {u r:Value} {o:Option V} {A:Around} {E:Value->Shared->Prop}
end
section
variable {X:Cx} {o e f:Expr} {apos cpos:Pos} {td ty tx:TE}
end
section
variable {X:Cx} {pins:List (Addr×Obj)} {σ:St} {H:Hp} {s:Shared} {a:Addr} {kvs:List (Key×V)} {A:Around} {E:Value->Shared->Prop}
end
section
variable {X:Cx} {pins:List (Addr×Obj)} {σ:St} {H:Hp} {s:Shared} {a:Addr} {y:V} {u:Value} {A:Around} {E:Value->Shared->Prop}
end
end L2
namespace L2
open PySem PySem.Spec PyProof.Rows
section
variable {X:Cx}
end
section
variable {κ:Type} [DecidableEq κ]
end
end L2
set_option maxHeartbeats 4000000
namespace L2
open PySem PySem.Spec PyProof.Rows
section
variable {X:Cx}
end
section
variable {P:Program} {w:World} {K:Frag} {mg:Str->Option Value} {base:Heap}
end
end L2
set_option maxHeartbeats 4000000
namespace L2
open PySem PySem.Spec PyProof.Rows
section
variable {prog:Program} {w:World} {A:Around} {E:Value->Shared->Prop} {s:Shared}
end
section
variable {X:Cx}
end
end L2
set_option maxHeartbeats 4000000
namespace L2
open PySem PySem.Spec PyProof.Rows
section
variable {X:Cx}
structure PDw (X:Cx)(pos:Pos)(keys:List (Option Expr))(values:List Expr)(XZ:List (TE×TE)):Prop where
 out:ZU X pos keys values XZ
def PH (X:Cx)(h:ExceptHandler)(c:Addr×TS):Prop:=∃ x np b₀ suite hpos,h=.ExceptHandler (some (.Name x np)) none (b₀::suite) hpos/\Gl X x/\X.mg x=some (.ref c.1)/\(x==("__debug__":Str))=false/\∀ pn a,HM ((X.ZS pn).hand a) (b₀::suite) c.2
inductive X0 (X:Cx):List ExceptHandler->List (Addr×TS)->Prop
 |nil:X0 X [] []
 |cons {h:ExceptHandler} {c:Addr×TS} {hs:List ExceptHandler} {cs:List (Addr×TS)}:PH X h c->X0 X hs cs->X0 X (h::hs) (c::cs)
end
end L2
set_option maxHeartbeats 1000000
namespace xA
open PySem L2
inductive Kd where
 |G|D|R|s|d|r|dot|three|two
 deriving DecidableEq,Repr
def Kd.str:Kd->Str
 |.G=>"G" | .D=>"D" | .R=>"R" | .s=>"s" | .d=>"d" | .r=>"r" | .dot=>"." | .three=>"3" | .two=>"2"
def Kd.cp:Kd->Nat
 |.G=>71|.D=>68|.R=>82|.s=>115|.d=>100|.r=>114|.dot=>46|.three=>51|.two=>50
def Kd.great:Kd->Bool
 |.G=>true|.D=>true|.R=>true|_=>false
def Kd.small:Kd->Bool
 |.s=>true|.d=>true|.r=>true|_=>false
def Kd.parting:Kd->Bool
 |.dot=>true|.three=>true|.two=>true|_=>false
def Kd.meas:Kd->Bool
 |.three=>true|.two=>true|_=>false
def Kd.m9:Kd->Bool
 |.G=>true|.D=>true|.s=>true|.d=>true|_=>false
def mC:Option Kd->Str
 |some k=>k.str
 |none=>""
abbrev Sg:=Kd×Int
def RE (x y:Str):Bool:=!(Builtin.Str.occurrences y x 0 y.length 1).isEmpty
theorem VZ (k:Kd):k.str=⟨#[k.cp]⟩:=by cases k <;> decide +kernel
theorem str_inj {a b:Kd}:a.str=b.str ↔ a=b:=by
 constructor
 ·revert a b
  have:∀ a b:Kd,a.str=b.str->a=b:=by
   intro a b;cases a <;> cases b <;> first|(intro _;rfl)|(intro h;exact absurd h (by lk))
  exact fun {a b}=>this a b
 ·exact fun h=>by rw[h]
theorem Ii {a b:Option Kd}:mC a=mC b ↔ a=b:=by
 constructor
 ·have:∀ a b:Option Kd,mC a=mC b->a=b:=by
   intro a b;cases a with
   |none=>cases b with
    |none=>intro _;rfl
    |some b=>cases b <;> (intro h;exact absurd h (by lk))
   |some a=>cases b with
    |none=>cases a <;> (intro h;exact absurd h (by lk))
    |some b=>intro h;exact congrArg some (str_inj.mp h)
  exact fun h=>this a b h
 ·exact fun h=>by rw[h]
theorem Ul (a b:Str):decide (V.str a=V.str b)=decide (a=b):=by
 by_cases h:a=b
 ·rw[h];simp
 ·rw[decide_eq_false h];exact decide_eq_false fun e=>h (V.str.inj e)
theorem V0 (a b:Option Kd):decide (V.str (mC a)=V.str (mC b))=decide (a=b):=by
 rw[Ul];exact decide_eq_decide.mpr Ii
theorem YT (o:Option Kd):decide (V.str (mC o)=V.str "G")=decide (o=some .G):=V0 o (some .G)
theorem ZV (o:Option Kd):decide (V.str (mC o)=V.str "s")=decide (o=some .s):=V0 o (some .s)
def Ij (H:Hp)(v:V)(s:Sg):Prop:=∃ p,v=.ref p/\H p=some (.tup [.str s.1.str,.int s.2])
theorem Ij.same {H H':Hp}{v:V}{s:Sg}(e:aq H H')(h:Ij H v s):Ij H' v s:=by
 obtain⟨p,rfl,q⟩:=h;exact⟨p,rfl,e _ _ q⟩
abbrev jV (H:Hp):List V->List Sg->Prop:=Paired (Ij H)
theorem jV.same {H H':Hp}(e:aq H H'):∀{xs:List V} {ss:List Sg},jV H xs ss->jV H' xs ss
 |_,_,.nil=>.nil
 |_,_,.cons a b=>.cons (a.same e) (jV.same e b)
theorem D6 {α β:Type}{F:α->β->Prop}:∀{xs:List α} {ys:List β} {i:Nat} {x:α},Paired F xs ys->xs[i]? = some x->∃ y,ys[i]? = some y/\F x y
 |_,_,_,_,.nil,e=>by simp at e
 |_,_,0,_,.cons r _,e=>by simp at e;subst e;exact⟨_,rfl,r⟩
 |_,_,i+1,x,.cons _ t,e=>by
  obtain⟨u,h1,h2⟩:=D6 (i:=i) (x:=x) t (by simpa using e);exact⟨u,by simpa using h1,h2⟩
theorem nR {α β:Type}{F:α->β->Prop}:∀{xs:List α} {ys:List β} {i:Nat} {y:β},Paired F xs ys->ys[i]? = some y->∃ x,xs[i]? = some x/\F x y
 |_,_,_,_,.nil,e=>by simp at e
 |_,_,0,_,.cons r _,e=>by simp at e;subst e;exact⟨_,rfl,r⟩
 |_,_,i+1,x,.cons _ t,e=>by
  obtain⟨u,h1,h2⟩:=nR (i:=i) t (by simpa using e);exact⟨u,by simpa using h1,h2⟩
theorem eM {α β:Type}{F:α->β->Prop}{xs:List α}{ys:List β}(h:Paired F xs ys):xs.length=ys.length:=Paired.length h
theorem sP {α β:Type}{F:α->β->Prop}:∀{xs:List α} {ys:List β} {x:α} {y:β},Paired F xs ys->F x y->Paired F (xs++[x]) (ys++[y])
 |_,_,_,_,.nil,h=>.cons h .nil
 |_,_,_,_,.cons a b,h=>.cons a (sP b h)
theorem D7 {α β:Type}{F:α->β->Prop}:∀{xs:List α} {ys:List β} {xs':List α} {ys':List β},Paired F xs ys->Paired F xs' ys'->Paired F (xs++xs') (ys++ys')
 |_,_,_,_,.nil,h=>h
 |_,_,_,_,.cons a b,h=>.cons a (D7 b h)
theorem E7 {α β:Type}{F:α->β->Prop}:∀{xs:List α} {ys:List β} (n:Nat),Paired F xs ys->Paired F (xs.drop n) (ys.drop n)
 |_,_,0,h=>h
 |_,_,n+1,.nil=>.nil
 |_,_,n+1,.cons a b=>E7 n b
theorem zX {α β:Type}{F:α->β->Prop}:∀{xs:List α} {ys:List β} (n:Nat),Paired F xs ys->Paired F (xs.take n) (ys.take n)
 |_,_,0,h=>.nil
 |_,_,n+1,.nil=>.nil
 |_,_,n+1,.cons a b=>.cons a (zX n b)
theorem iU {α β:Type}{F G:α->β->Prop}(h:∀ x y,F x y->G x y):∀{xs:List α} {ys:List β},Paired F xs ys->Paired G xs ys
 |_,_,.nil=>.nil
 |_,_,.cons a b=>.cons (h _ _ a) (iU h b)
theorem kP {H0 H:Hp}{l:Addr}{o:HO}(s:aq H0 H)(hl:H0 l=none):aq H0 (upd H l o):=fun b u e=>by
 rw[ai (ak e hl)];exact s b u e
theorem PZ {H:Hp}{D:Addr}{o:HO}{zs:List V}{v:V}{s:Sg}(hD:H D=some (.lst zs))(h:Ij H v s):Ij (upd H D o) v s:=by
 obtain⟨p,e,q⟩:=h;exact⟨p,e,by rw[ai (nN q hD (by intro z;cases z))];exact q⟩
theorem P0 {H:Hp}{D:Addr}{o:HO}{zs:List V}{xs:List V}{ss:List Sg}(hD:H D=some (.lst zs))(h:jV H xs ss):jV (upd H D o) xs ss:=iU (fun _ _ q=>PZ hD q) h
theorem FW {ms:List Int}{i:Nat}{x:V}(h:(ms.map V.int)[i]? = some x):∃ z,ms[i]? = some z/\x=V.int z:=by
 rw[getElem?_map]at h;cases e:ms[i]? with
 |none=>rw[e]at h;cases h
 |some z=>rw[e]at h;exact⟨z,rfl,(Option.some.inj h).symm⟩
section
variable {K:Frag} {H:Hp} {p:Addr} {Q:VK}
theorem ZW {a b:V}(h:H p=some (.tup [a,b]))(q:Q a H):J4 K (.ref p) (.int 0) H Q\/J5 K (.ref p) (.int 0) H Q\/J6 (.ref p) (.int 0) H Q:=.inr (.inl ⟨p,_,0,a,rfl,rfl,qk.of h,rfl,q⟩)
theorem S7 {xs:List V}{i:Int}{n:Nat}{v:V}(h:aQ K H p xs)(hn:i=n)(e:xs[n]? = some v)(q:Q v H):J4 K (.ref p) (.int i) H Q\/J5 K (.ref p) (.int i) H Q\/J6 (.ref p) (.int i) H Q:=.inl ⟨p,xs,i,v,rfl,rfl,h,by rw[hn];exact Bf e,q⟩
theorem P1 {xs:List V}{ss:List Sg}{i:Int}{n:Nat}{s:Sg}(h:aQ K H p xs)(g:jV H xs ss)(hn:i=n)(e:ss[n]? = some s)(q:∀ b,H b=some (.tup [.str s.1.str,.int s.2])->Q (.ref b) H) :
  J4 K (.ref p) (.int i) H Q\/J5 K (.ref p) (.int i) H Q\/J6 (.ref p) (.int i) H Q:=by
 obtain⟨x,hx,b,rfl,hb⟩:=nR g e;exact S7 h hn hx (q b hb)
theorem X1 {ns:List Int}{i:Int}{n:Nat}{z:Int}(h:aQ K H p (ns.map V.int))(hn:i=n)(e:ns[n]? = some z)(q:Q (.int z) H):J4 K (.ref p) (.int i) H Q\/J5 K (.ref p) (.int i) H Q\/J6 (.ref p) (.int i) H Q :=
 S7 h hn (by rw[getElem?_map,e];rfl) q
end
set_option maxHeartbeats 1000000
def nm (m:Int):Kd->Int
 |.three=>3
 |.two=>2
 |_=>m
def Ms (m:Int):Prop:=m=3\/m=2
theorem Ms.nm {m:Int}(h:Ms m)(k:Kd):Ms (nm m k):=by
 cases k <;> first|exact h|exact .inl rfl|exact .inr rfl
def e6 (m:Int):List Kd->List Int
 |[]=>[]
 |k::t=>nm m k::e6 (nm m k) t
theorem xB (m:Int)(ks:List Kd):(e6 m ks).length=ks.length:=by
 induction ks generalizing m with
 |nil=>rfl
 |cons k t ih=>simp[e6,ih]
def pw:Kd->Int->Int
 |.G,m=>if m=2 then 2 else 3
 |.R,m=>if m=2 then 2 else 3
 |.D,_=>2
 |.s,_=>1
 |.d,_=>1
 |.r,_=>1
 |_,_=>0
def bw (m:Int)(k:Kd)(n:Option Kd):Int:=if m=2/\k=.G/\n=some .dot then 3 else pw k m
def aS (m:Int):List Kd->List Int
 |[]=>[]
 |k::t=>bw (nm m k) k t.head? :: aS (nm m k) t
def tI:List Kd->List Int->List Int
 |k::t,m::ms=>bw m k t.head? :: tI t ms
 |_,_=>[]
theorem Ik (m:Int)(ks:List Kd):tI ks (e6 m ks)=aS m ks:=by
 induction ks generalizing m with
 |nil=>rfl
 |cons k t ih=>simp[e6,tI,aS,ih]
theorem eC (m:Int)(ks:List Kd):(aS m ks).length=ks.length:=by
 induction ks generalizing m with
 |nil=>rfl
 |cons k t ih=>simp[aS,ih]
def inR (m:Int)(k:Kd):Bool:=decide (m≠2)&&k.small
def gR (m:Int):List Kd->List Bool
 |[]=>[]
 |k::t=>inR (nm m k) k::gR (nm m k) t
theorem qC (m:Int)(ks:List Kd):(gR m ks).length=ks.length:=by
 induction ks generalizing m with
 |nil=>rfl
 |cons k t ih=>simp[gR,ih]
def Il:List Kd->List Int->List Bool
 |k::t,m::ms=>inR m k::Il t ms
 |_,_=>[]
theorem Kg (m:Int)(ks:List Kd):Il ks (e6 m ks)=gR m ks:=by
 induction ks generalizing m with
 |nil=>rfl
 |cons k t ih=>simp[e6,Il,gR,ih]
def aX (at' first:Nat):List Bool->List (Nat×Nat)
 |[]=>if first<at' then [(first,at')] else []
 |true::t=>aX (at'+1) first t
 |false::t=>(if first<at' then [(first,at')] else [])++aX (at'+1) (at'+1) t
def bI (m:Int)(ks:List Kd):List (Nat×Nat):=aX 0 0 (gR m ks)
def Bg (ks:List Kd)(i:Int):Option Kd:=if 0<=i then ks[i.toNat]? else none
theorem oH (ks:List Kd)(n:Nat):Bg ks (n:Int)=ks[n]?:=by
 unfold Bg;rw[if_pos (by omega)];rfl
def cX:Option Kd->Bool
 |some k=>k.great
 |none=>false
def cI (ks:List Kd)(f:List Int)(a:Nat):Bool:=decide (Bg ks ((a:Int)-1)=some .G)&&decide (f.getD (a-1) 0=3)
def cD (ks:List Kd)(z:Nat):Bool:=decide (ks[z]? = some .G) && !cX ks[z+1]?
def jL (ks:List Kd)(f:List Int)(a z:Nat):Bool×List Int:=if cI ks f a then(true,f.set (a-1) 2) else if cD ks z then(true,f.set z 2) else(false,f)
def jM (ks:List Kd)(f:List Int)(a z:Nat):Bool×List Int:=if cX ks[z]? && decide (ks[z-1]? = some .s) then(true,f.set (z-1) 2) else if cI ks f a&&cD ks z then(true,(f.set (a-1) 2).set z 2) else(false,f)
def settle (ks:List Kd)(f:List Int)(a z:Nat):Bool×List Int:=if(z-a) % 3=1 then jL ks f a z else if(z-a) % 3=2 then jM ks f a z else(true,f)
theorem lJ (ks:List Kd)(f:List Int)(a z:Nat):(settle ks f a z).2.length=f.length:=by
 unfold settle jL jM
 repeat' split
 all_goals simp
abbrev Va:=List Int×List (Nat×Nat)
def i0 (ks:List Kd)(c:Va)(p:Nat×Nat):Va:=((settle ks c.1 p.1 p.2).2,if(settle ks c.1 p.1 p.2).1 then c.2 else c.2++[p])
def bJ (m:Int)(ks:List Kd):Va:=(bI m ks).foldl (i0 ks) (aS m ks,[])
theorem Im (ks:List Kd)(rs:List (Nat×Nat))(c:Va):(rs.foldl (i0 ks) c).1.length=c.1.length:=by
 induction rs generalizing c with
 |nil=>rfl
 |cons p t ih=>rw[List.foldl_cons,ih];exact lJ ..
theorem lj (m:Int)(ks:List Kd):(bJ m ks).1.length=ks.length:=by
 unfold bJ;rw[Im,eC]
theorem qD:∀(bs:List Bool)(at' first:Nat),first<=at'->∀ p∈aX at' first bs,first<=p.1/\p.1<p.2/\p.2<=at'+bs.length
 |[],at',first,h,p,hp=>by
  unfold aX at hp;split at hp
  ·have:p=(first,at'):=by simpa using hp
   subst this;exact⟨Nat.le_refl _,by assumption,by simp⟩
  ·cases hp
 |true::t,at',first,h,p,hp=>by
  have:=qD t (at'+1) first (by omega) p hp
  simp only [length_cons];omega
 |false::t,at',first,h,p,hp=>by
  unfold aX at hp;simp only [length_cons];rcases mem_append.mp hp with hp|hp
  ·split at hp
   ·have:p=(first,at'):=by simpa using hp
    subst this;exact⟨Nat.le_refl _,by assumption,by simp⟩
   ·cases hp
  ·have:=qD t (at'+1) (at'+1) (Nat.le_refl _) p hp;omega
theorem dP (m:Int)(ks:List Kd):∀ p∈bI m ks,p.1<p.2/\p.2<=ks.length:=by
 intro p hp;have:=qD (gR m ks) 0 0 (Nat.le_refl _) p hp;rw[qC]at this;omega
theorem mD:∀(bs:List Bool)(at' first:Nat),(aX at' first bs).length<=bs.length+1
 |[],at',first=>by unfold aX;split <;> simp
 |true::t,at',first=>by
  unfold aX;have:=mD t (at'+1) first
  simp only [length_cons];omega
 |false::t,at',first=>by
  unfold aX;have:=mD t (at'+1) (at'+1);simp only [length_cons,length_append];split <;> simp <;> omega
def NA (H:Hp)(v:V)(q:Nat×Nat):Prop:=∃ p,v=.ref p/\H p=some (.tup [.int (q.1:Int),.int (q.2:Int)])
abbrev P2 (H:Hp):List V->List (Nat×Nat)->Prop:=Paired (NA H)
theorem NA.same {H H':Hp}{v:V}{q:Nat×Nat}(e:aq H H')(h:NA H v q):NA H' v q:=by
 obtain⟨p,rfl,z⟩:=h;exact⟨p,rfl,e _ _ z⟩
theorem sd {H H':Hp}(e:aq H H'){xs:List V}{qs:List (Nat×Nat)}(h:P2 H xs qs):P2 H' xs qs:=iU (fun _ _ z=>z.same e) h
theorem MI {H:Hp}{D:Addr}{o:HO}{zs:List V}{v:V}{q:Nat×Nat}(hD:H D=some (.lst zs))(h:NA H v q):NA (upd H D o) v q:=by
 obtain⟨p,e,z⟩:=h;exact⟨p,e,by rw[ai (nN z hD (by intro z;cases z))];exact z⟩
theorem qE {H:Hp}{D:Addr}{o:HO}{zs:List V}{xs:List V}{qs:List (Nat×Nat)}(hD:H D=some (.lst zs))(h:P2 H xs qs):P2 (upd H D o) xs qs:=iU (fun _ _ q=>MI hD q) h
theorem BI {H:Hp}{a:Addr}{o:HO}(h:H a=some o):upd H a o=H:=by
 funext b
 unfold upd;split
 ·rename_i e;rw[e,h]
 ·rfl
theorem nS {ks:List Kd}{f:List Int}{a:Nat}(h:cI ks f a=true):1<=a/\a-1<ks.length:=by
 unfold cI at h;have h1:=of_decide_eq_true (Bool.and_eq_true_iff.mp h).1;unfold Bg at h1;split at h1
 ·have:=(List.getElem?_eq_some_iff.mp h1).1;omega
 ·cases h1
theorem tJ {ks:List Kd}{z:Nat}(h:cD ks z=true):z<ks.length:=by
 unfold cD at h;have h1:=of_decide_eq_true (Bool.and_eq_true_iff.mp h).1;exact(List.getElem?_eq_some_iff.mp h1).1
theorem vJ {n:Nat}{i:Int}{j:Nat}(e:i=j)(h:j<n):Pg n i=some j:=by
 unfold Pg;subst e;rw[if_pos (by omega),if_pos (by omega)];rfl
theorem kQ {α:Type}{l:List α}{i:Nat}{x:α}(h:l[i]? = some x):l.drop i=x::l.drop (i+1):=by
 obtain⟨hi,e⟩:=List.getElem?_eq_some_iff.mp h;rw[List.drop_eq_getElem_cons hi,e]
theorem Kh {α β:Type}{l:List α}{f:α->β}{i:Nat}{x:α}(h:l[i]? = some x):(l.map f)[i]? = some (f x):=by rw[getElem?_map,h];rfl
abbrev bL (ss:List Sg):List Kd:=ss.map Prod.fst
theorem oE {fs:List Int}{j:Nat}{v:Int}:(fs.map V.int).set j (V.int v)=(fs.set j v).map V.int:=by rw[List.map_set]
theorem big {n:Nat}(h:n<=1000):n<=sizeLine:=Nat.le_of_lt (bq h)
theorem head_drop {α:Type}(l:List α)(i:Nat):(l.drop i).head? = l[i]?:=by
 rw[List.head?_drop]
set_option maxHeartbeats 1000000
theorem E8 (xs:List V)(n:Nat):tw xs none (some (n:Int))=xs.take n:=by
 unfold tw;have e:HT.iT xs.length xs.length (some (n:Int))=min n xs.length:=HT.FO xs.length xs.length n;rw[HT.BA,e,Nat.sub_zero,List.drop_zero];rcases Nat.le_total n xs.length with h|h
 ·rw[Nat.min_eq_left h]
 ·rw[Nat.min_eq_right h,take_length,List.take_of_length_le h]
theorem RF (xs:List V)(n:Nat)(h:n<=xs.length):tw xs (some (n:Int)) none=xs.drop n:=by
 unfold tw;have e:HT.iT xs.length 0 (some (n:Int))=min n xs.length:=HT.FO xs.length 0 n;rw[HT.BA,e,Nat.min_eq_left h];exact List.take_of_length_le (by rw[length_drop];omega)
def ZX (H:Hp)(v:V)(q:Int×Int):Prop:=∃ p,v=.ref p/\H p=some (.tup [.int q.1,.int q.2])
abbrev ZY (H:Hp):List V->List (Int×Int)->Prop:=Paired (ZX H)
structure X2 (H0 H:Hp)(l:Addr)(xs:List V)(ss:List Sg):Prop where
 same:aq H0 H
 new:H0 l=none
 at':H l=some (.lst xs)
 sg:jV H xs ss
def BJ (K:Frag):Sp:=fun vs H Q _=>∃(a:Addr)(ns:List Int),vs=[.ref a]/\aQ K H a (ns.map V.int)/\ns.length<=63/\∀ H',Q (.bl true) H'
theorem NB {K:Frag}{H:Hp}{a:Addr}{ns:List Int}(hl:ns.length<=63)(_:Only H)(hS:aQ K H a (ns.map V.int)):BJ K [.ref a] H (fun v _=>v=.bl true) fun _ _ _=>False :=
 ⟨a,ns,rfl,hS,hl,fun _=>rfl⟩
set_option maxHeartbeats 1000000
theorem nc {k:Str}{v:V}{r:List (Str×V)}:((k,v)::r).lookup k=some v:=by simp[List.lookup]
theorem aw {k g:Str}{v:V}{r:List (Str×V)}(h:¬ g=k):((k,v)::r).lookup g=r.lookup g:=by
 have:(g==k)=false:=beq_eq_false_iff_ne.mpr h;simp[List.lookup,this]
theorem f6 {k g:Str}{x y:V}{r:List (Str×V)}(h:¬ g=k):iR k y ((g,x)::r)=(g,x)::iR k y r:=if_neg h
def Ta (n:Str)(tm:V)(L:Addr):List (Str×V):=[("name",V.str n),("terms",tm),("signs",V.ref L)]
theorem Io (n:Str)(tm:V)(L:Addr):(Ta n tm L).lookup ("name":Str)=some (V.str n):=nc
theorem E9 (n:Str)(tm:V)(L:Addr):(Ta n tm L).lookup ("terms":Str)=some (tm):=(aw (by lk)).trans (nc)
theorem nV (n:Str)(tm:V)(L:Addr):(Ta n tm L).lookup ("signs":Str)=some (V.ref L):=(aw (by lk)).trans ((aw (by lk)).trans (nc))
theorem FX (v0:V):iR "name" v0 ([]:List (Str×V))=([("name",v0)]:List (Str×V)):=rfl
theorem MJ (v0 v1:V):iR "terms" v1 ([("name",v0)]:List (Str×V))=([("name",v0),("terms",v1)]:List (Str×V)):=(f6 (by lk)).trans (congrArg _ (rfl))
theorem RG (v0 v1 v2:V):iR "signs" v2 ([("name",v0),("terms",v1)]:List (Str×V))=([("name",v0),("terms",v1),("signs",v2)]:List (Str×V)):=(f6 (by lk)).trans (congrArg _ ((f6 (by lk)).trans (congrArg _ (rfl))))
def Eb (T:Addr)(at_:Int)(B A:Addr):List (Str×V):=[("things",V.ref T),("at",V.int at_),("before",V.ref B),("after",V.ref A)]
theorem Ki (T:Addr)(at_:Int)(B A:Addr):(Eb T at_ B A).lookup ("things":Str)=some (V.ref T):=nc
theorem P4 (T:Addr)(at_:Int)(B A:Addr):(Eb T at_ B A).lookup ("at":Str)=some (V.int at_):=(aw (by lk)).trans (nc)
theorem Kj (T:Addr)(at_:Int)(B A:Addr):(Eb T at_ B A).lookup ("before":Str)=some (V.ref B):=(aw (by lk)).trans ((aw (by lk)).trans (nc))
theorem NC (T:Addr)(at_:Int)(B A:Addr):(Eb T at_ B A).lookup ("after":Str)=some (V.ref A):=(aw (by lk)).trans ((aw (by lk)).trans ((aw (by lk)).trans (nc)))
theorem ND (T:Addr)(at_:Int)(B A:Addr):(Eb T at_ B A).lookup ("do":Str)=none:=(aw (by lk)).trans ((aw (by lk)).trans ((aw (by lk)).trans ((aw (by lk)).trans (rfl))))
theorem Bh (v0:V):iR "things" v0 ([]:List (Str×V))=([("things",v0)]:List (Str×V)):=rfl
theorem FY (v0 v1:V):iR "at" v1 ([("things",v0)]:List (Str×V))=([("things",v0),("at",v1)]:List (Str×V)):=(f6 (by lk)).trans (congrArg _ (rfl))
theorem MK (v0 v1 v2:V):iR "before" v2 ([("things",v0),("at",v1)]:List (Str×V))=([("things",v0),("at",v1),("before",v2)]:List (Str×V)):=(f6 (by lk)).trans (congrArg _ ((f6 (by lk)).trans (congrArg _ (rfl))))
theorem RH (v0 v1 v2 v3:V):iR "after" v3 ([("things",v0),("at",v1),("before",v2)]:List (Str×V))=([("things",v0),("at",v1),("before",v2),("after",v3)]:List (Str×V)):=(f6 (by lk)).trans (congrArg _ ((f6 (by lk)).trans (congrArg _ ((f6 (by lk)).trans (congrArg _ (rfl))))))
def Az (V_ D U:Addr):List (Str×V):=[("voices",V.ref V_),("done",V.ref D),("undone",V.ref U)]
theorem lK (V_ D U:Addr):(Az V_ D U).lookup ("voices":Str)=some (V.ref V_):=nc
theorem P5 (V_ D U:Addr):(Az V_ D U).lookup ("done":Str)=some (V.ref D):=(aw (by lk)).trans (nc)
theorem Kk (V_ D U:Addr):(Az V_ D U).lookup ("undone":Str)=some (V.ref U):=(aw (by lk)).trans ((aw (by lk)).trans (nc))
theorem xC (V_ D U:Addr):(Az V_ D U).lookup ("add_voice":Str)=none:=(aw (by lk)).trans ((aw (by lk)).trans ((aw (by lk)).trans (rfl)))
theorem BK (V_ D U:Addr):(Az V_ D U).lookup ("put":Str)=none:=(aw (by lk)).trans ((aw (by lk)).trans ((aw (by lk)).trans (rfl)))
theorem Kl (V_ D U:Addr):(Az V_ D U).lookup ("cut":Str)=none:=(aw (by lk)).trans ((aw (by lk)).trans ((aw (by lk)).trans (rfl)))
theorem Ip (V_ D U:Addr):(Az V_ D U).lookup ("swap":Str)=none:=(aw (by lk)).trans ((aw (by lk)).trans ((aw (by lk)).trans (rfl)))
theorem FZ (V_ D U:Addr):(Az V_ D U).lookup ("names":Str)=none:=(aw (by lk)).trans ((aw (by lk)).trans ((aw (by lk)).trans (rfl)))
theorem qF (V_ D U:Addr):(Az V_ D U).lookup ("line":Str)=none:=(aw (by lk)).trans ((aw (by lk)).trans ((aw (by lk)).trans (rfl)))
theorem zY (V_ D U:Addr):(Az V_ D U).lookup ("kept":Str)=none:=(aw (by lk)).trans ((aw (by lk)).trans ((aw (by lk)).trans (rfl)))
theorem oI (V_ D U:Addr):(Az V_ D U).lookup ("canon":Str)=none:=(aw (by lk)).trans ((aw (by lk)).trans ((aw (by lk)).trans (rfl)))
theorem gS (V_ D U:Addr):(Az V_ D U).lookup ("perform":Str)=none:=(aw (by lk)).trans ((aw (by lk)).trans ((aw (by lk)).trans (rfl)))
theorem Ec (V_ D U:Addr):(Az V_ D U).lookup ("put_in":Str)=none:=(aw (by lk)).trans ((aw (by lk)).trans ((aw (by lk)).trans (rfl)))
theorem vK (V_ D U:Addr):(Az V_ D U).lookup ("refuse_new":Str)=none:=(aw (by lk)).trans ((aw (by lk)).trans ((aw (by lk)).trans (rfl)))
theorem dJ (V_ D U:Addr):(Az V_ D U).lookup ("voice_called":Str)=none:=(aw (by lk)).trans ((aw (by lk)).trans ((aw (by lk)).trans (rfl)))
theorem gp (V_ D U:Addr):(Az V_ D U).lookup ("plain_voice":Str)=none:=(aw (by lk)).trans ((aw (by lk)).trans ((aw (by lk)).trans (rfl)))
theorem F1 (v0:V):iR "voices" v0 ([]:List (Str×V))=([("voices",v0)]:List (Str×V)):=rfl
theorem ML (v0 v1:V):iR "done" v1 ([("voices",v0)]:List (Str×V))=([("voices",v0),("done",v1)]:List (Str×V)):=(f6 (by lk)).trans (congrArg _ (rfl))
theorem RI (v0 v1 v2:V):iR "undone" v2 ([("voices",v0),("done",v1)]:List (Str×V))=([("voices",v0),("done",v1),("undone",v2)]:List (Str×V)):=(f6 (by lk)).trans (congrArg _ ((f6 (by lk)).trans (congrArg _ (rfl))))
set_option maxHeartbeats 1000000
theorem d9 {a b:TS}{D:Ends}{σ:St}{H:Hp}(h:∀ N:St->Hp->Prop,(∀ σ H,b D σ H->N σ H)->a { D with nx:=N } σ H):Rh a b D σ H:=h (b D) fun _ _ z=>z
structure Vx where
 o:Addr
 d:Addr
 n:Str
 tm:V
 l:Addr
def RJ (C:Addr)(H:Hp)(v:V)(a:Vx):Prop:=v=.ref a.o/\H a.o=some (.ins C a.d (Ta a.n a.tm a.l))
structure Dd where
 o:Addr
 d:Addr
 T:Addr
 i:Nat
 B:Addr
 A:Addr
 bs:List V
 as:List V
def sD (C:Addr)(H:Hp)(v:V)(e:Dd):Prop:=v=.ref e.o/\H e.o=some (.ins C e.d (Eb e.T (e.i:Int) e.B e.A))/\H e.B=some (.lst e.bs)/\H e.A=some (.lst e.as)
abbrev MM:=Addr->List V
def putAt (S:MM)(T:Addr)(zs:List V):MM:=fun b=>if b=T then zs else S b
theorem oJ {S:MM}{T:Addr}{zs:List V}:putAt S T zs T=zs:=if_pos rfl
theorem BL {S:MM}{T b:Addr}{zs:List V}(h:b≠T):putAt S T zs b=S b:=if_neg h
def BM (e:Dd)(S:MM):MM:=putAt S e.T ((S e.T).take e.i++e.as++(S e.T).drop (e.i+e.bs.length))
def Fits (e:Dd)(S:MM):Prop:=e.i+e.bs.length<=(S e.T).length/\((S e.T).drop e.i).take e.bs.length=e.bs
inductive Path:List MM->List Dd->MM->Prop
 |nil {M:MM}:Path [] [] M
 |snoc {Ps:List MM} {es:List Dd} {S:MM} {e:Dd}:Path Ps es S->Fits e S->Path (Ps++[S]) (es++[e]) (BM e S)
inductive V1:MM->List Dd->List MM->Prop
 |nil {M:MM}:V1 M [] []
 |snoc {M:MM} {us:List Dd} {Fs:List MM} {e:Dd}:Fits e M->V1 (BM e M) us Fs->V1 M (us++[e]) (Fs++[BM e M])
theorem Path.len {Ps:List MM}{es:List Dd}{M:MM}(h:Path Ps es M):Ps.length=es.length:=by
 induction h with
 |nil=>rfl
 |snoc _ _ ih=>rw[length_append,length_append,ih];rfl
def qG (s:Sg):Prop:=(s.1.m9=true->0<=s.2/\s.2<100)/\(s.1.m9=false->s.2=0)
def GV (H:Hp)(v:V):Prop:=∃ s,Ij H v s/\qG s
structure WF (H:Hp)(L:Addr)(all:List Vx)(S:MM):Prop where
 vs:∃ vx:List Vx,Paired (fun v a=>v=V.ref a.o/\a∈all) (S L) vx
 ln:∀ a∈all,(S a.l).length<=200/\∀ v∈S a.l,GV H v
 len:(S L).length<=12
 out:∀ b,b≠L->(∀ a∈all,b≠a.l)->S b=[]
inductive Th where
 |pl (ss:List Sg)
 |cn (ld:Str) (lt sl:Int) (tn:Bool)
abbrev Vw:=List (Str×Th)
def P6 (H:Hp)(S:MM)(a:Vx):Th->Prop
 |.pl ss=>a.tm=.non/\jV H (S a.l) ss
 |.cn ld lt sl tn=>∃ p,a.tm=.ref p/\H p=some (.tup [.str ld,.int lt,.int sl,.bl tn])
def NF (H:Hp)(all:List Vx)(S:MM)(v:V)(q:Str×Th):Prop:=∃ a∈all,v=.ref a.o/\a.n=q.1/\P6 H S a q.2
abbrev Is (H:Hp)(L:Addr)(all:List Vx)(S:MM)(vw:Vw):Prop:=Paired (NF H all S) (S L) vw
structure HJ (vw:Vw):Prop where
 nd:(vw.map (·.1)).Nodup
 ld:∀ n ld lt sl tn,(n,Th.cn ld lt sl tn)∈vw->(∃ ss,(ld,Th.pl ss)∈vw)/\0<=lt/\lt<=999/\1<=sl/\sl<=9
 gd:∀ n ss,(n,Th.pl ss)∈vw->ss.length<=200/\∀ s∈ss,qG s
 len:vw.length<=12
structure HK (CB CV CD:Addr)(H:Hp)(x L D U:Addr)(all:List Vx)(M:MM)(Ps Fs:List MM)(es us:List Dd):Prop where
 hx:∃ dx,H x=some (.ins CB dx (Az L D U))
 hL:H L=some (.lst (M L))
 hD:∃ xs,H D=some (.lst xs)/\Paired (sD CD H) xs es
 hU:∃ xs,H U=some (.lst xs)/\Paired (sD CD H) xs us
 ha:∀ a∈all,H a.o=some (.ins CV a.d (Ta a.n a.tm a.l))/\H a.l=some (.lst (M a.l))
 LD:L≠D
 LU:L≠U
 DU:D≠U
 nl:∀ a∈all,a.l≠L/\a.l≠D/\a.l≠U
 ni:∀ a∈all,∀ b∈all,a.l=b.l->a=b
 no:∀ a∈all,∀ b∈all,a.o=b.o->a=b
 dd:∀ e,e∈es\/e∈us->(e.T=L\/∃ a∈all,e.T=a.l)/\(e.B≠L/\e.B≠D/\e.B≠U/\∀ a∈all,e.B≠a.l)/\(e.A≠L/\e.A≠D/\e.A≠U/\∀ a∈all,e.A≠a.l)/\e.bs.length<=1/\e.as.length<=1
 past:Path Ps es M
 fut:V1 M us Fs
 wf:∀ S,S∈Ps\/S=M\/S∈Fs->WF H L all S
structure P7 (F:Addr->Prop)(L D U:Addr)(all:List Vx)(es us:List Dd):Prop where
 L:F L
 D:F D
 U:F U
 l:∀ a∈all,F a.l
 d:∀ e,e∈es\/e∈us->F e.B/\F e.A
structure Bk (CB CV CD:Addr)(H:Hp)(x:Addr)(F:Addr->Prop)(vw:Vw)(ps fs:List Vw):Prop where
 ex:∃(L D U:Addr)(all:List Vx)(M:MM)(Ps Fs:List MM)(es us:List Dd),HK CB CV CD H x L D U all M Ps Fs es us/\Is H L all M vw/\Paired (Is H L all) Ps ps/\Paired (Is H L all) Fs fs/\P7 F L D U all es us
 wv:∀ v,v∈ps\/v=vw\/v∈fs->HJ v
def Kept (F:Addr->Prop)(H H':Hp):Prop:=∀ y o,H y=some o->(F y\/∀ xs,o≠.lst xs)->H' y=some o
theorem Kept.same {F:Addr->Prop}{H H':Hp}(s:aq H H'):Kept F H H':=fun y o e _=>s y o e
section
variable {CB CV CD:Addr} {H H':Hp} {x L D U:Addr} {all:List Vx} {M S:MM} {Ps Fs:List MM} {es us:List Dd} {F:Addr->Prop} {vw:Vw} {ps fs:List Vw}
theorem Kept.ZZ (k:Kept F H H'){xs:List V}{ss:List Sg}(h:jV H xs ss):jV H' xs ss:=iU (fun _ _ ⟨p,e1,e2⟩=>⟨p,e1,k _ _ e2 (.inr fun _ z=>nomatch z)⟩) h
theorem Kept.gv (k:Kept F H H'){v:V}(h:GV H v):GV H' v:=by
 obtain⟨s,⟨p,e1,e2⟩,g⟩:=h;exact⟨s,⟨p,e1,k _ _ e2 (.inr fun _ z=>nomatch z)⟩,g⟩
theorem WF.kept (k:Kept F H H')(h:WF H L all S):WF H' L all S:=⟨h.vs,fun a ha=>⟨(h.ln a ha).1,fun v hv=>k.gv ((h.ln a ha).2 v hv)⟩,h.len,h.out⟩
theorem NF.kept (k:Kept F H H'){v:V}{q:Str×Th}(h:NF H all S v q):NF H' all S v q:=by
 obtain⟨a,ha,e1,e2,t⟩:=h;refine⟨a,ha,e1,e2,?_⟩;cases hq:q.2 with
 |pl ss=>rw[hq]at t;exact⟨t.1,k.ZZ t.2⟩
 |cn ld lt sl tn =>
  rw[hq]at t;obtain⟨p,e3,e4⟩:=t;exact⟨p,e3,k _ _ e4 (.inr fun _ z=>nomatch z)⟩
theorem Is.kept (k:Kept F H H')(h:Is H L all S vw):Is H' L all S vw:=iU (fun _ _ q=>NF.kept k q) h
theorem se (k:Kept F H H'){v:V}{e:Dd}(f:F e.B/\F e.A)(h:sD CD H v e):sD CD H' v e:=⟨h.1,k _ _ h.2.1 (.inr fun _ z=>nomatch z),k _ _ h.2.2.1 (.inl f.1),k _ _ h.2.2.2 (.inl f.2)⟩
theorem tK {α β:Type}{F G:α->β->Prop}:∀{xs:List α} {ys:List β},(∀ x y,y∈ys->F x y->G x y)->Paired F xs ys->Paired G xs ys
 |_,_,_,.nil=>.nil
 |_,_,h,.cons a b=>.cons (h _ _ (mem_cons_self ..) a) (tK (fun x y hy=>h x y (mem_cons_of_mem _ hy)) b)
theorem HK.kept (h:HK CB CV CD H x L D U all M Ps Fs es us)(f:P7 F L D U all es us)(k:Kept F H H'):HK CB CV CD H' x L D U all M Ps Fs es us :=
 {
  h with
  hx:=let ⟨dx,e⟩:=h.hx;⟨dx,k _ _ e (.inr fun _ z=>nomatch z)⟩
  hL:=k _ _ h.hL (.inl f.L)
  hD:=let ⟨xs,e,p⟩:=h.hD;⟨xs,k _ _ e (.inl f.D),tK (fun _ e he q=>se k (f.d e (.inl he)) q) p⟩
  hU:=let ⟨xs,e,p⟩:=h.hU;⟨xs,k _ _ e (.inl f.U),tK (fun _ e he q=>se k (f.d e (.inr he)) q) p⟩
  ha:=fun a m=>⟨k _ _ (h.ha a m).1 (.inr fun _ z=>nomatch z),k _ _ (h.ha a m).2 (.inl (f.l a m))⟩
  wf:=fun S hS=>(h.wf S hS).kept k }
theorem Bk.kept (h:Bk CB CV CD H x F vw ps fs)(k:Kept F H H'):Bk CB CV CD H' x F vw ps fs:=by
 obtain⟨L,D,U,all,M,Ps,Fs,es,us,b,i,pp,pf,f⟩:=h.ex;exact⟨⟨L,D,U,all,M,Ps,Fs,es,us,b.kept f k,Is.kept k i,iU (fun _ _ q=>Is.kept k q) pp,iU (fun _ _ q=>Is.kept k q) pf,f⟩,h.wv⟩
theorem Bk.same (h:Bk CB CV CD H x F vw ps fs)(s:aq H H'):Bk CB CV CD H' x F vw ps fs:=h.kept (.same s)
theorem HK.tL (b:HK CB CV CD H x L D U all M Ps Fs es us)(i:Is H L all M vw):∃ vx:List Vx,Paired (RJ CV H) (M L) vx/\Paired (fun a q=>a∈all/\a.n=q.1/\P6 H M a q.2) vx vw:=by
 have go:∀{xs:List V} {vw:Vw},Paired (NF H all M) xs vw->∃ vx:List Vx,Paired (RJ CV H) xs vx/\Paired (fun a q=>a∈all/\a.n=q.1/\P6 H M a q.2) vx vw:=by
  intro xs vw h
  induction h with
  |nil=>exact⟨[],.nil,.nil⟩
  |cons q _ ih =>
   obtain⟨a,ha,e1,e2,e3⟩:=q;obtain⟨vx,p1,p2⟩:=ih;exact⟨a::vx,.cons ⟨e1,(b.ha a ha).1⟩ p1,.cons ⟨ha,e2,e3⟩ p2⟩
 exact go i
def P8 (L D U:Addr)(all:List Vx)(e:Dd):Prop:=(e.T=L\/∃ a∈all,e.T=a.l)/\(e.B≠L/\e.B≠D/\e.B≠U/\∀ a∈all,e.B≠a.l)/\(e.A≠L/\e.A≠D/\e.A≠U/\∀ a∈all,e.A≠a.l)/\e.bs.length<=1/\e.as.length<=1
theorem HK.lists (b:HK CB CV CD H x L D U all M Ps Fs es us){T:Addr}(tg:T=L\/∃ a∈all,T=a.l):H T=some (.lst (M T))/\T≠D/\T≠U:=by
 rcases tg with rfl|⟨a,ha,rfl⟩
 ·exact⟨b.hL,b.LD,b.LU⟩
 ·exact⟨(b.ha a ha).2,(b.nl a ha).2.1,(b.nl a ha).2.2⟩
theorem HK.chg (b:HK CB CV CD H x L D U all M Ps Fs es us){T:Addr}(tg:T=L\/∃ a∈all,T=a.l){H2:Hp}(fr:∀ y o,H y=some o->y≠T->y≠D->y≠U->H2 y=some o){M':MM}(m1:∀ c,c≠T->M' c=M c)(hT:H2 T=some (.lst (M' T)))
  {dx:List V} {es':List Dd} (hD:H2 D=some (.lst dx)) (pD:Paired (sD CD H) dx es') {ux:List V} {us':List Dd} (hU:H2 U=some (.lst ux)) (pU:Paired (sD CD H) ux us') (X3:∀ e,e∈es'\/e∈us'->P8 L D U all e)
  {X4 Fs':List MM} (V2:Path X4 es' M') (X5:V1 M' us' Fs') (Z0:∀ S,S∈X4\/S=M'\/S∈Fs'->WF H L all S):HK CB CV CD H2 x L D U all M' X4 Fs' es' us'/\Kept (fun _=>False) H H2:=by
 obtain⟨hT0,TD,TU⟩:=b.lists tg;obtain⟨Z1,Vb,_⟩:=b.hD;obtain⟨Z2,Q9,_⟩:=b.hU;have kN:∀ y o,H y=some o->(∀ zs,o≠.lst zs)->H2 y=some o:=fun y o hy hn=>fr y o hy
  (fun e=>by rw[e,hT0]at hy;cases hy;exact hn _ rfl) (fun e=>by rw[e,Vb]at hy;cases hy;exact hn _ rfl) (fun e=>by rw[e,Q9]at hy;cases hy;exact hn _ rfl)
 have k:Kept (fun _=>False) H H2:=fun y o hy h=>kN y o hy (h.elim False.elim id);have dk:∀{v e},P8 L D U all e->sD CD H v e->sD CD H2 v e:=fun {v e} ok h=>by
  have nT:∀{c:Addr},c≠L/\c≠D/\c≠U/\(∀ a∈all,c≠a.l)->c≠T:=fun {c} q z=>by
   rcases tg with rfl|⟨a,ha,rfl⟩
   ·exact q.1 z
   ·exact q.2.2.2 a ha z
  exact⟨h.1,kN _ _ h.2.1 (fun _ z=>nomatch z),fr _ _ h.2.2.1 (nT ok.2.1) ok.2.1.2.1 ok.2.1.2.2.1,fr _ _ h.2.2.2 (nT ok.2.2.1) ok.2.2.1.2.1 ok.2.2.1.2.2.1⟩
 have at_:∀{c:Addr},(c=L\/∃ a∈all,c=a.l)->H2 c=some (.lst (M' c)):=fun {c} hc=>by
  by_cases e:c=T
  ·rw[e];exact hT
  ·obtain⟨h1,h2,h3⟩:=b.lists hc;rw[m1 c e];exact fr _ _ h1 e h2 h3
 refine⟨{
      hx:=let ⟨dx,e⟩:=b.hx;⟨dx,kN _ _ e (fun _ z=>nomatch z)⟩
      hL:=at_ (.inl rfl)
      hD:=⟨_,hD,tK (fun _ e he q=>dk (X3 e (.inl he)) q) pD⟩
      hU:=⟨_,hU,tK (fun _ e he q=>dk (X3 e (.inr he)) q) pU⟩
      ha:=fun a ha=>⟨kN _ _ (b.ha a ha).1 (fun _ z=>nomatch z),at_ (.inr ⟨a,ha,rfl⟩)⟩
      LD:=b.LD,LU:=b.LU,DU:=b.DU,nl:=b.nl,ni:=b.ni,no:=b.no,dd:=X3
      past:=V2
      fut:=X5
      wf:=fun S hS=>(Z0 S hS).kept k },k⟩
theorem HK.grow (b:HK CB CV CD H x L D U all M Ps Fs es us){a:Vx}{H1:Hp}(s:aq H H1)(n1:H a.o=none)(n2:H a.l=none)(h1:H1 a.o=some (.ins CV a.d (Ta a.n a.tm a.l)))(h2:H1 a.l=some (.lst [])):HK CB CV CD H1 x L D U (all++[a]) M Ps Fs es us:=by
 have b1:=b.kept (F:=fun _=>True) ⟨trivial,trivial,trivial,fun _ _=>trivial,fun _ _=>⟨trivial,trivial⟩⟩ (.same s);obtain⟨Z1,Vb,Z3⟩:=b.hD;obtain⟨Z2,Q9,Z4⟩:=b.hU;have nL:a.l≠L:=Ne.symm (ak b.hL n2);have nD:a.l≠D:=Ne.symm (ak Vb n2);have nU:a.l≠U:=Ne.symm (ak Q9 n2);have nA:∀ c∈all,a.l≠c.l:=fun c hc=>Ne.symm (ak (b.ha c hc).2 n2);have nO:∀ c∈all,a.o≠c.o:=fun c hc=>Ne.symm (ak (b.ha c hc).1 n1);have mem:∀{c:Vx},c∈all++[a]->c∈all\/c=a:=fun h=>by simpa using h
 have V3:∀ S,WF H1 L all S->WF H1 L (all++[a]) S:=fun S w =>
  {
   vs:=let ⟨vx,p⟩:=w.vs;⟨vx,iU (fun _ _ q=>⟨q.1,mem_append_left _ q.2⟩) p⟩
   ln:=fun c hc=>by
    rcases mem hc with hc|rfl
    ·exact w.ln c hc
    ·have e:S c.l=[]:=w.out c.l nL fun d hd=>nA d hd;rw[e];exact⟨Nat.zero_le _,fun _ z=>nomatch z⟩
   len:=w.len
   out:=fun c h h'=>w.out c h fun d hd=>h' d (mem_append_left _ hd) }
 have YU:∀{v e},sD CD H v e->e.B≠a.l/\e.A≠a.l:=fun h=>⟨ak h.2.2.1 n2,ak h.2.2.2 n2⟩;have YV:∀ e,e∈es\/e∈us->e.B≠a.l/\e.A≠a.l:=fun e he=>by
  rcases he with he|he
  ·obtain⟨i,hi⟩:=getElem?_of_mem he;obtain⟨v,_,q⟩:=nR Z3 hi;exact YU q
  ·obtain⟨i,hi⟩:=getElem?_of_mem he;obtain⟨v,_,q⟩:=nR Z4 hi;exact YU q
 exact { b1 with
  ha:=fun c hc=>by
   rcases mem hc with hc|rfl
   ·exact b1.ha c hc
   ·refine⟨h1,?_⟩;rw[(b.wf M (.inr (.inl rfl))).out c.l nL fun d hd=>nA d hd];exact h2
  nl:=fun c hc=>by
   rcases mem hc with hc|rfl
   ·exact b1.nl c hc
   ·exact⟨nL,nD,nU⟩
  ni:=fun c hc d hd e=>by
   rcases mem hc with z1|z1 <;> rcases mem hd with z2|z2
   ·exact b1.ni c z1 d z2 e
   ·rw[z2]at e;exact absurd e.symm (nA c z1)
   ·rw[z1]at e;exact absurd e (nA d z2)
   ·rw[z1,z2]
  no:=fun c hc d hd e=>by
   rcases mem hc with z1|z1 <;> rcases mem hd with z2|z2
   ·exact b1.no c z1 d z2 e
   ·rw[z2]at e;exact absurd e.symm (nO c z1)
   ·rw[z1]at e;exact absurd e (nO d z2)
   ·rw[z1,z2]
  dd:=fun e he=>by
   obtain⟨q1,q2,q3,q4⟩:=b1.dd e he;refine⟨q1.imp id fun⟨c,hc,z⟩=>⟨c,mem_append_left _ hc,z⟩,⟨q2.1,q2.2.1,q2.2.2.1,fun c hc=>?_⟩,⟨q3.1,q3.2.1,q3.2.2.1,fun c hc=>?_⟩,q4⟩
   ·rcases mem hc with hc|rfl
    ·exact q2.2.2.2 c hc
    ·exact(YV e he).1
   ·rcases mem hc with hc|rfl
    ·exact q3.2.2.2 c hc
    ·exact(YV e he).2
  wf:=fun S hS=>V3 S (b1.wf S hS) }
theorem Is.grow {a:Vx}(h:Is H L all S vw):Is H L (all++[a]) S vw:=iU (fun _ _ ⟨c,hc,q⟩=>⟨c,mem_append_left _ hc,q⟩) h
end
set_option maxHeartbeats 1000000
section
variable {CB CV CD:Addr} {H H1 H2 H':Hp} {x L D U:Addr} {all:List Vx} {M S:MM} {Ps Fs:List MM} {es us:List Dd} {F:Addr->Prop} {vw Um:Vw} {ps fs:List Vw}
theorem Bk.deed (b:HK CB CV CD H1 x L D U all M Ps Fs es us)(i:Is H1 L all M vw)(pp:Paired (Is H1 L all) Ps ps)(f:P7 F L D U all es us)(wv:∀ v,v∈ps\/v=vw->HJ v){e:Dd}(hd:sD CD H1 (.ref e.o) e)(ok:P8 L D U all e)(ft:Fits e M)(w:WF H1 L all (BM e M))
  (i':Is H1 L all (BM e M) Um) (Z5:HJ Um) {dx:List V} (pD:Paired (sD CD H1) dx es) (fr:∀ y o,H1 y=some o->y≠e.T->y≠D->y≠U->H2 y=some o) (hT:H2 e.T=some (.lst (BM e M e.T))) (hD2:H2 D=some (.lst (dx++[.ref e.o]))) (WN:H2 U=some (.lst [])) :
  Bk CB CV CD H2 x (fun y=>F y\/y=e.B\/y=e.A) Um (ps++[vw]) []:=by
 obtain⟨b2,k⟩:=b.chg ok.1 fr (M':=BM e M) (fun c hc=>BL hc) hT hD2 (sP pD hd) WN .nil (fun e' he=>by
  rcases he with he|he
  ·rcases mem_append.mp he with he|he
   ·exact b.dd e' (.inl he)
   ·rw[mem_singleton.mp he];exact ok
  ·cases he) (b.past.snoc ft) .nil (fun S hS=>by
  rcases hS with hS|hS|hS
  ·rcases mem_append.mp hS with hS|hS
   ·exact b.wf S (.inl hS)
   ·exact b.wf S (.inr (.inl (mem_singleton.mp hS)))
  ·rw[hS];exact w
  ·cases hS)
 refine⟨⟨L,D,U,all,_,_,_,_,_,b2,Is.kept k i',sP (iU (fun _ _ q=>Is.kept k q) pp) (Is.kept k i),.nil,⟨.inl f.L,.inl f.D,.inl f.U,fun a ha=>.inl (f.l a ha),fun e' he=>?_⟩⟩,fun v hv=>?_⟩
 ·rcases he with he|he
  ·rcases mem_append.mp he with he|he
   ·exact⟨.inl (f.d e' (.inl he)).1,.inl (f.d e' (.inl he)).2⟩
   ·rw[mem_singleton.mp he];exact⟨.inr (.inl rfl),.inr (.inr rfl)⟩
  ·cases he
 ·rcases hv with hv|hv|hv
  ·rcases mem_append.mp hv with hv|hv
   ·exact wv v (.inl hv)
   ·exact wv v (.inr (mem_singleton.mp hv))
  ·rw[hv];exact Z5
  ·cases hv
def bC (vw:Vw)(n:Str):Option Th:=(vw.find? fun q=>decide (q.1=n)).map (·.2)
def xE (vw:Vw)(n:Str)(th:Th):Vw:=vw.map fun q=>if q.1=n then(n,th) else q
theorem nW {n:Str}{th:Th}(h:bC vw n=some th):(n,th)∈vw:=by
 unfold bC at h;cases e:vw.find? (fun q=>decide (q.1=n)) with
 |none=>rw[e]at h;cases h
 |some q =>
  rw[e]at h;have h1:=List.mem_of_find?_eq_some e;have h2:=List.find?_some e;have h3:q.1=n:=of_decide_eq_true h2;have h4:q.2=th:=Option.some.inj h;rw[<-h3,<-h4];exact h1
theorem tM {n:Str}(h:bC vw n=none):∀ q∈vw,q.1≠n:=by
 unfold bC at h;rw[Option.map_eq_none_iff]at h;intro q hq e;exact List.find?_eq_none.mp h q hq (decide_eq_true e)
theorem BN:∀{l:List Str} {i j:Nat} {n:Str},l.Nodup->l[i]? = some n->l[j]? = some n->i=j
 |[],_,_,_,_,h,_=>by simp at h
 |a::l,i,j,n,nd,h1,h2=>by
  obtain⟨na,Z6⟩:=List.nodup_cons.mp nd
  match i,j,h1,h2 with
  |0,0,_,_=>rfl
  |0,j+1,h1,h2 =>
   rw[List.getElem?_cons_zero]at h1;rw[List.getElem?_cons_succ]at h2;cases h1;exact absurd (mem_of_getElem? h2) na
  |i+1,0,h1,h2 =>
   rw[List.getElem?_cons_zero]at h2;rw[List.getElem?_cons_succ]at h1;cases h2;exact absurd (mem_of_getElem? h1) na
  |i+1,j+1,h1,h2 =>
   rw[List.getElem?_cons_succ]at h1 h2;rw[BN Z6 h1 h2]
theorem HJ.uniq (w:HJ vw){q q':Str×Th}(h:q∈vw)(h':q'∈vw)(e:q.1=q'.1):q=q':=by
 obtain⟨i,hi⟩:=getElem?_of_mem h;obtain⟨j,hj⟩:=getElem?_of_mem h';have h1:(vw.map (·.1))[i]? = some q.1:=by rw[getElem?_map,hi];rfl
 have h2:(vw.map (·.1))[j]? = some q.1:=by rw[getElem?_map,hj,e];rfl
 have:=BN w.nd h1 h2;subst this;rw[hi]at hj;exact Option.some.inj hj
theorem HJ.find (w:HJ vw){n:Str}{th:Th}(h:(n,th)∈vw):bC vw n=some th:=by
 cases e:bC vw n with
 |none=>exact absurd rfl (tM e _ h)
 |some t =>
  have:=w.uniq (nW e) h rfl;rw[Prod.mk.injEq]at this;rw[this.2]
theorem BO (n:Str)(th:Th):(xE vw n th).map (·.1)=vw.map (·.1):=by
 unfold xE;rw[List.map_map];refine List.map_congr_left fun q _=>?_;show(if q.1=n then(n,th) else q).1=q.1;split
 ·next h=>exact h.symm
 ·rfl
theorem Iq {n:Str}{th:Th}{q:Str×Th}(h:q∈xE vw n th):(q=(n,th)/\∃ q'∈vw,q'.1=n)\/(q∈vw/\q.1≠n):=by
 obtain⟨q',h1,h2⟩:=mem_map.mp h;split at h2
 ·next e=>exact .inl ⟨h2.symm,q',h1,e⟩
 ·next e=>rw[<-h2];exact .inr ⟨h1,e⟩
theorem Km {n:Str}{th:Th}{q:Str×Th}(h:q∈vw)(hn:q.1≠n):q∈xE vw n th:=mem_map.mpr ⟨q,h,if_neg hn⟩
theorem P9 {n:Str}{th t:Th}(h:(n,t)∈vw):(n,th)∈xE vw n th:=mem_map.mpr ⟨(n,t),h,if_pos rfl⟩
theorem HJ.set (w:HJ vw){n:Str}{ss ss':List Sg}(h:(n,Th.pl ss)∈vw)(h1:ss'.length<=200)(h2:∀ s∈ss',qG s):HJ (xE vw n (.pl ss')) where
 nd:=by rw[BO];exact w.nd
 ld:=fun m ld lt sl tn hm=>by
  rcases Iq hm with ⟨e,_⟩|⟨hm',_⟩
  ·cases e
  ·obtain⟨⟨s0,h0⟩,r⟩:=w.ld m ld lt sl tn hm';refine⟨?_,r⟩
   by_cases e:ld=n
   ·rw[e];exact⟨ss',P9 h⟩
   ·exact⟨s0,Km h0 e⟩
 gd:=fun m s0 hm=>by
  rcases Iq hm with ⟨e,_⟩|⟨hm',_⟩
  ·cases e;exact⟨h1,h2⟩
  ·exact w.gd m s0 hm'
 len:=by
  have:=congrArg List.length (BO (vw:=vw) n (.pl ss'));rw[length_map,length_map]at this;rw[this];exact w.len
theorem HJ.V4 (w:HJ vw){n:Str}(hn:∀ q∈vw,q.1≠n)(hl:vw.length<12):HJ (vw++[(n,.pl [])]) where
 nd:=by
  rw[map_append,List.nodup_append];refine⟨w.nd,by simp,?_⟩;intro a ha c hc e;obtain⟨q,hq,e1⟩:=mem_map.mp ha;have:c=n:=by simpa using hc
  exact hn q hq (by rw[e1,e,this])
 ld:=fun m ld lt sl tn hm=>by
  rcases mem_append.mp hm with hm|hm
  ·obtain⟨⟨s0,h0⟩,r⟩:=w.ld m ld lt sl tn hm;exact⟨⟨s0,mem_append_left _ h0⟩,r⟩
  ·have:=mem_singleton.mp hm;cases this
 gd:=fun m s0 hm=>by
  rcases mem_append.mp hm with hm|hm
  ·exact w.gd m s0 hm
  ·have:=mem_singleton.mp hm;cases this;exact⟨Nat.zero_le _,fun _ z=>nomatch z⟩
 len:=by rw[length_append];exact hl
theorem Tb {α β γ:Type}{F:α->β->Prop}{G:α->γ->Prop}{f:β->γ}:∀{xs:List α} {ys:List β},Paired F xs ys->(∀(k:Nat) x y,xs[k]? = some x->ys[k]? = some y->F x y->G x (f y))->Paired G xs (ys.map f)
 |_,_,.nil,_=>.nil
 |_,_,.cons a b,h=>.cons (h 0 _ _ rfl rfl a) (Tb b fun k x y e1 e2=>h (k+1) x y (by simpa using e1) (by simpa using e2))
theorem Is.line (b:HK CB CV CD H x L D U all M Ps Fs es us)(i:Is H L all M vw)(w:HJ vw){a:Vx}(ha:a∈all){j:Nat}{th:Th}{ss':List Sg}(hj:(M L)[j]? = some (.ref a.o))(hm:vw[j]? = some (a.n,th))(Kn:a.tm=.non){M':MM}(m1:∀ c,c≠a.l->M' c=M c)(g:jV H (M' a.l) ss'):Is H L all M' (xE vw a.n (.pl ss')):=by
 show Paired _ (M' L) _;rw[m1 L (Ne.symm (b.nl a ha).1)];refine Tb i fun k v q hk hq Z7=>?_;obtain⟨c,hc,rfl,e1,t⟩:=Z7;split
 ·next e =>
  have h1:(vw.map (·.1))[k]? = some a.n:=by rw[getElem?_map,hq,<-e];rfl
  have h2:(vw.map (·.1))[j]? = some a.n:=by rw[getElem?_map,hm];rfl
  have hkj:=BN w.nd h1 h2;subst hkj;rw[hj]at hk;have:a.o=c.o:=V.ref.inj (Option.some.inj hk);have:=b.no a ha c hc this;subst this;exact⟨a,hc,rfl,rfl,Kn,g⟩
 ·next e =>
  refine⟨c,hc,rfl,e1,?_⟩;have ne:c.l≠a.l:=fun z=>e (by rw[<-e1,b.ni c hc a ha z]);cases hq2:q.2 with
  |pl s0=>rw[hq2]at t;exact⟨t.1,by rw[m1 _ ne];exact t.2⟩
  |cn ld lt sl tn=>rw[hq2]at t;exact t
end
set_option maxHeartbeats 1000000
abbrev Sn:=Str×Int
def xF:List V:=[.str "G",.str "D",.str "s",.str "d"]
def oK:List V:=[.str "R",.str "r",.str ".",.str "3",.str "2"]
def kK (s:Sn):Bool:=if inV (.str s.1) xF=true then(if decide (0<=s.2)=true then decide (s.2<=99) else false) else(if inV (.str s.1) oK=true then decide (s.2=0) else false)
set_option maxHeartbeats 1000000
inductive Rf where
 |vL|F2|xG|Full|jN|nX|sf|MN|Qa|Qb
structure Cs where
 B:Addr
 V:Addr
 D:Addr
 on:Bool
 x:Rf->Addr
def RX (E:XK)(c:Cs)(r:Rf)(H:Hp):Prop:=c.on=true/\E (.ref (c.x r)) none H
abbrev Fb (c:Cs):=Bk c.B c.V c.D
def Fr (F:Addr->Prop)(H H':Hp):Prop:=∀ y o,H y=some o->¬ F y->H' y=some o
def Gr (F F':Addr->Prop)(H:Hp):Prop:=∀ y,F' y->F y\/H y=none
theorem Gr.old {F F':Addr->Prop}{H H':Hp}(s:aq H H')(g:Gr F F' H'):Gr F F' H:=fun y z=>(g y z).imp id fun q=>s.free q
def nameB (x:Str):Bool:=decide (1<=x.length)&&(decide (x.length<=8)&&x.cps.toList.all fun c=>RE ⟨#[c]⟩ "abcdefghijklmnopqrstuvwxyz")
theorem kinds_of {k:Str}(h:inV (.str k) xF=true\/inV (.str k) oK=true):∃ d:Kd,d.str=k:=by
 have go:∀ l:List V,(∀ v∈l,∃ d:Kd,v=.str d.str)->inV (.str k) l=true->∃ d:Kd,d.str=k:=fun l hl h=>by
  unfold inV at h;obtain⟨y,hy,e⟩:=any_eq_true.mp h;obtain⟨d,rfl⟩:=hl y hy;have:d.str=k:=by simpa [MB] using e
  exact⟨d,this⟩
 have c:∀(l:List Kd),∀ v∈l.map (fun d=>V.str d.str),∃ d:Kd,v=.str d.str:=fun l v hv=>by
  obtain⟨d,_,e⟩:=mem_map.mp hv;exact⟨d,e.symm⟩
 rcases h with h|h
 ·exact go xF (c [.G,.D,.s,.d]) h
 ·exact go oK (c [.R,.r,.dot,.three,.two]) h
theorem Tc (d:Kd):inV (.str d.str) xF=d.m9:=by cases d <;> decide +kernel
theorem Td (d:Kd):inV (.str d.str) oK = !d.m9:=by cases d <;> decide +kernel
theorem F3 {sn:Sn}(h:kK sn=true):∃ s:Sg,s.1.str=sn.1/\s.2=sn.2/\qG s:=by
 unfold kK at h;split at h
 ·next h1 =>
  obtain⟨d,hd⟩:=kinds_of (.inl h1);rw[<-hd,Tc]at h1;split at h
  ·next h2=>exact⟨(d,sn.2),hd,rfl,⟨(fun _=>⟨of_decide_eq_true h2,by have:=of_decide_eq_true h;show sn.2<100;omega⟩),fun z=>by rw[show d.m9=false from z]at h1;cases h1⟩⟩
  ·cases h
 ·next h1 =>
  split at h
  ·next h2 =>
   obtain⟨d,hd⟩:=kinds_of (.inr h2);rw[<-hd,Td]at h2;exact⟨(d,sn.2),hd,rfl,⟨(fun z=>by rw[show d.m9=true from z]at h2;cases h2),fun _=>of_decide_eq_true h⟩⟩
  ·cases h
theorem MO {s:Sg}(h:qG s):kK (s.1.str,s.2)=true:=by
 unfold kK;rw[Tc,Td];cases hs:s.1.m9 with
 |true =>
  obtain⟨a,b⟩:=h.1 hs;simp only [if_true];rw[if_pos (decide_eq_true a)];exact decide_eq_true (by omega)
 |false =>
  have:=h.2 hs;simp[this]
def Qc:Kd->Kd
 |.three=>.two
 |.two=>.three
 |k=>k
def qH (s:Sg):Sg:=(Qc s.1,s.2)
def Ir (vw:Vw)(n:Str):List Sg:=match bC vw n with
 |some (.pl ss)=>ss
 |some (.cn ld _ _ tn)=>match bC vw ld with
  |some (.pl ss)=>if tn then ss.map qH else ss
  |_=>[]
 |none=>[]
def Fc (vw:Vw)(n:Str):List Int:=match bC vw n with
 |some (.pl ss)=>(bJ 3 (bL ss)).1
 |some (.cn ld _ sl tn)=>match bC vw ld with
  |some (.pl ss)=>(bJ (if tn then 2 else 3) (bL (if tn then ss.map qH else ss))).1.map fun w=>sl * w
  |_=>[]
 |none=>[]
theorem Iu {vw:Vw}{n:Str}{ss:List Sg}(h:bC vw n=some (.pl ss)):Ir vw n=ss:=by
 unfold Ir;rw[h]
theorem Iv {vw:Vw}{n ld:Str}{lt sl:Int}{tn:Bool}{ss:List Sg}(h:bC vw n=some (.cn ld lt sl tn))(h':bC vw ld=some (.pl ss)):Ir vw n=if tn=true then ss.map qH else ss:=by
 unfold Ir;rw[h];show(match bC vw ld with|some (.pl ss)=>if tn=true then ss.map qH else ss|_=>[])=_;rw[h']
theorem BP {vw:Vw}{n:Str}{ss:List Sg}(h:bC vw n=some (.pl ss)):Fc vw n=(bJ 3 (bL ss)).1:=by
 unfold Fc;rw[h]
theorem Qd {vw:Vw}{n ld:Str}{lt sl:Int}{tn:Bool}{ss:List Sg}(h:bC vw n=some (.cn ld lt sl tn))(h':bC vw ld=some (.pl ss)):Fc vw n=(bJ (if tn then 2 else 3) (bL (if tn then ss.map qH else ss))).1.map fun w=>sl * w:=by
 unfold Fc;rw[h];show(match bC vw ld with|some (.pl ss)=>(bJ (if tn then 2 else 3) (bL (if tn then ss.map qH else ss))).1.map fun w=>sl * w|_=>[])=_;rw[h']
theorem Uo {H H':Hp}{x dx C:Addr}(hx:H x=none)(hdx:H dx=none)(kp:∀ y o,(upd (upd H dx (.own x)) x (.ins C dx [])) y=some o->y≠x->H' y=some o):aq H H':=fun y o hy =>
 kp y o (by rw[ai (ak hy hx),ai (ak hy hdx)];exact hy) (ak hy hx)
theorem F6 {H:Hp}{x dx D:Addr}{o1 o2:HO}(h:upd (upd H dx o1) x o2 D=none):H D=none:=by
 unfold upd at h;split at h
 ·cases h
 ·split at h
  ·cases h
  ·exact h
theorem Bi {H:Hp}{B A:Addr}{o:HO}(h:upd H B o A=none):H A=none:=by
 unfold upd at h;split at h
 ·cases h
 ·exact h
theorem RK (z:Int){k:Int}(hk:0<k):∃ m:Nat,z % k=(m:Int)/\(m:Int)<k:=by
 have z1:=Int.emod_nonneg z (show k≠0 by omega);have z2:=Int.emod_lt_of_pos z hk;exact⟨(z % k).toNat,by omega,by omega⟩
theorem Bk.new {c:Cs}{H:Hp}{x dx L D U:Addr}(hx:H x=some (.ins c.B dx (Az L D U)))(hL:H L=some (.lst []))(hD:H D=some (.lst []))(hU:H U=some (.lst []))(LD:L≠D)(LU:L≠U)(DU:D≠U):Fb c H x (fun y=>y=L\/y=D\/y=U) [] [] [] where
 ex:=⟨L,D,U,[],fun _=>[],[],[],[],[],
  {
   hx:=⟨dx,hx⟩,hL:=hL,hD:=⟨[],hD,.nil⟩,hU:=⟨[],hU,.nil⟩,ha:=fun _ h=>(nomatch h),LD:=LD,LU:=LU,DU:=DU,nl:=fun _ h=>(nomatch h),ni:=fun _ h=>(nomatch h),no:=fun _ h=>(nomatch h)
   dd:=fun _ h=>h.elim (fun z=>(nomatch z)) fun z=>(nomatch z)
   past:=.nil
   fut:=.nil
   wf:=fun S hS=>by
    rcases hS with hS|hS|hS
    ·cases hS
    ·subst hS;exact⟨⟨[],.nil⟩,fun _ h=>(nomatch h),Nat.zero_le _,fun _ _ _=>rfl⟩
    ·cases hS },
  .nil,.nil,.nil,⟨.inl rfl,.inr (.inl rfl),.inr (.inr rfl),fun _ h=>(nomatch h),fun _ h=>h.elim (fun z=>(nomatch z)) fun z=>(nomatch z)⟩⟩
 wv:=fun v hv=>by
  rcases hv with hv|hv|hv
  ·cases hv
  ·subst hv;exact⟨.nil,fun _ _ _ _ _ h=>(nomatch h),fun _ _ h=>(nomatch h),Nat.zero_le _⟩
  ·cases hv
theorem Up {R:Vx->Str×Th->Prop}{vx:List Vx}{vw:Vw}(h:Paired R vx vw)(hn:∀ a q,R a q->a.n=q.1):vx.map (fun a=>V.str a.n)=vw.map (fun a=>V.str a.1):=by
 induction h with
 |nil=>rfl
 |cons r _ ih=>rw[map_cons,map_cons,ih,hn _ _ r]
theorem Fd {vx:List Vx}{vw:Vw}{R:Vx->Str×Th->Prop}(h:Paired R vx vw)(hn:∀ a q,R a q->a.n=q.1)(n:Str) :
  (vx.find? (fun a=>decide (a.n=n))=none/\bC vw n=none)\/∃ a th,∃ j:Nat,vx.find? (fun a=>decide (a.n=n))=some a/\bC vw n=some th/\R a (n,th)/\a.n=n/\vx[j]? = some a/\vw[j]? = some (n,th):=by
 induction h with
 |nil=>exact .inl ⟨rfl,rfl⟩
 | @cons a q as qs r t ih =>
  have e:=hn a q r
  by_cases hq:q.1=n
  ·refine .inr ⟨a,q.2,0,?_,?_,?_,e.trans hq,rfl,by rw[<-hq];rfl⟩
   ·rw[List.find?_cons_of_pos];exact decide_eq_true (e.trans hq)
   ·unfold bC;rw[List.find?_cons_of_pos (p:=fun q:Str×Th=>decide (q.1=n)) (decide_eq_true hq)];rfl
   ·rw[<-hq];exact r
  ·have h1:¬ decide (a.n=n)=true:=fun z=>hq (e ▸ of_decide_eq_true z);have h2:¬ decide (q.1=n)=true:=fun z=>hq (of_decide_eq_true z);have f1:(a::as).find? (fun a=>decide (a.n=n))=as.find? (fun a=>decide (a.n=n)):=List.find?_cons_of_neg h1;have f2:bC (q::qs) n=bC qs n:=by
    unfold bC;rw[List.find?_cons_of_neg (p:=fun q:Str×Th=>decide (q.1=n)) h2]
   rw[f1,f2];exact ih.imp id fun⟨a,th,j,h1,h2,h3,h4,h5,h6⟩=>⟨a,th,j+1,h1,h2,h3,h4,by simpa using h5,by simpa using h6⟩
theorem Bk.added {c:Cs}{H H1 H2 H':Hp}{x L D U:Addr}{all:List Vx}{M:MM}{Ps Fs:List MM}{es us:List Dd}{F:Addr->Prop}{vw:Vw}{ps fs:List Vw}(b:HK c.B c.V c.D H x L D U all M Ps Fs es us)(i:Is H L all M vw)(pp:Paired (Is H L all) Ps ps)(f:P7 F L D U all es us)(wv:∀ v,v∈ps\/v=vw\/v∈fs->HJ v)
  {a:Vx} {th:Th} (s1:aq H H1) (n1:H a.o=none) (n2:H a.l=none) (h1:H1 a.o=some (.ins c.V a.d (Ta a.n a.tm a.l))) (h2:H1 a.l=some (.lst [])) (ht:∀ M',M' a.l=[]->P6 H1 M' a th) (w':HJ (vw++[(a.n,th)]))
  {e:Dd} (eT:e.T=L) (ei:e.i=(M L).length) (eb:e.bs=[]) (ea:e.as=[.ref a.o]) (s2:aq H1 H2) (nB:H1 e.B=none) (nA:H1 e.A=none) (hd:sD c.D H2 (.ref e.o) e) {ds:List V} (hD:H D=some (.lst ds)) (pD:Paired (sD c.D H) ds es)
  (fr:∀ y o,H2 y=some o->y≠L->y≠D->y≠U->H' y=some o) (hL':H' L=some (.lst (M L++[.ref a.o]))) (hD':H' D=some (.lst (ds++[.ref e.o]))) (hU':H' U=some (.lst [])) :
  ∃ F',Gr F F' H/\Fr F H H'/\Fb c H' x F' (vw++[(a.n,th)]) (ps++[vw]) []:=by
 have s12:=s1.trans s2;have kT:Kept (fun _=>True) H H2:=.same s12;have b2:=(b.grow s1 n1 n2 h1 h2).kept (F:=fun _=>True) ⟨trivial,trivial,trivial,fun _ _=>trivial,fun _ _=>⟨trivial,trivial⟩⟩ (.same s2);have w2:=w'.len;rw[length_append]at w2;have ll:=eM i;have Z8:vw.length+1<=12:=w2;have hM:BM e M L=M L++[.ref a.o]:=by
  unfold BM;rw[eT,oJ,ei,eb,ea];simp
 have mo:∀ y,y≠L->BM e M y=M y:=fun y hy=>by
  unfold BM;exact BL (by rw[eT];exact hy)
 have wM:=b2.wf M (.inr (.inl rfl));have X6:∀ z∈all++[a],z.l≠L:=fun z hz=>(b2.nl z hz).1;obtain⟨ux,hU,_⟩:=b2.hU;have old:∀{y:Addr},H1 y=none->∀{z o},H z=some o->y≠z:=fun {y} hy {z o} hz q=>by rw[q,s1 _ _ hz]at hy;cases hy
 have oA:∀{y:Addr},H1 y=none->y≠L/\y≠D/\y≠U/\∀ z∈all++[a],y≠z.l:=fun {y} hy=>by
  obtain⟨u0,Q9,_⟩:=b.hU;refine⟨old hy b.hL,old hy hD,old hy Q9,fun z hz=>?_⟩;rcases mem_append.mp hz with hz|hz
  ·exact old hy (b.ha z hz).2
  ·rw[mem_singleton.mp hz];exact fun q=>by rw[q,h2]at hy;cases hy
 have ok:P8 L D U (all++[a]) e:=⟨.inl eT,oA nB,oA nA,by rw[eb];simp,by rw[ea];simp⟩;have ft:Fits e M:=⟨by rw[ei,eb,eT];simp,by rw[eb];simp⟩;have V3:WF H2 L (all++[a]) (BM e M) :=
  {
   vs:=(let ⟨vx,p⟩:=wM.vs;⟨vx++[a],by rw[hM];exact sP p ⟨rfl,mem_append_right _ (List.mem_singleton_self _)⟩⟩)
   ln:=fun z hz=>by rw[mo _ (X6 z hz)];exact wM.ln z hz
   len:=by rw[hM,length_append,ll];exact Z8
   out:=fun y h1 h2=>by rw[mo y h1];exact wM.out y h1 h2 }
 have i2:Is H2 L (all++[a]) M vw:=Is.kept kT (Is.grow i);have i':Is H2 L (all++[a]) (BM e M) (vw++[(a.n,th)]):=by
  show Paired _ (BM e M L) _;rw[hM];refine sP ?_ ?_
  ·refine iU (fun v q hq=>?_) i2;obtain⟨z,hz,e1,e2,e3⟩:=hq;refine⟨z,hz,e1,e2,?_⟩;cases hq2:q.2 with
   |pl ss=>rw[hq2]at e3;exact⟨e3.1,by rw[mo _ (X6 z hz)];exact e3.2⟩
   |cn ld lt sl tn=>rw[hq2]at e3;exact e3
  ·refine⟨a,mem_append_right _ (List.mem_singleton_self _),rfl,rfl,?_⟩;have V5:a.l≠L:=X6 a (mem_append_right _ (List.mem_singleton_self _));have:=ht (BM e M) (by rw[mo _ V5];exact(b.wf M (.inr (.inl rfl))).out _ V5 fun z hz q=>by rw[q,(b.ha z hz).2]at n2;cases n2);show P6 H2 (BM e M) a th;cases th with
   |pl ss=>exact⟨this.1,this.2.same s2⟩
   |cn ld lt sl tn=>obtain⟨p,e1,e2⟩:=this;exact⟨p,e1,s2 _ _ e2⟩
 have B:=Bk.deed b2 i2 (iU (fun _ _ q=>Is.kept kT (Is.grow q)) pp) (F:=fun y=>F y\/y=a.l) ⟨.inl f.L,.inl f.D,.inl f.U,fun z hz=>by
   rcases mem_append.mp hz with hz|hz
   ·exact .inl (f.l z hz)
   ·rw[mem_singleton.mp hz];exact .inr rfl,fun e' he=>⟨.inl (f.d e' he).1,.inl (f.d e' he).2⟩⟩ (fun v hv=>wv v (hv.imp id .inl)) hd ok ft V3 i' w' (tK (fun _ e' he q=>se (F:=fun _=>True) kT ⟨trivial,trivial⟩ q) pD) (H2:=H')
  (fun y o hy y1 y2 y3=>fr y o hy (by rw[<-eT];exact y1) y2 y3) (by rw[eT,hM];exact hL') hD' hU'
 refine⟨_,fun y hy=>?_,fun y o hy hn=>fr y o (s12 y o hy) (fun q=>hn (q ▸ f.L)) (fun q=>hn (q ▸ f.D)) (fun q=>hn (q ▸ f.U)),B⟩;rcases hy with (hy|hy)|hy|hy
 ·exact .inl hy
 ·rw[hy];exact .inr n2
 ·rw[hy];exact .inr (s1.free nB)
 ·rw[hy];exact .inr (s1.free nA)
theorem Bk.Qe {c:Cs}{H H1 H':Hp}{x L D U:Addr}{all:List Vx}{M:MM}{Ps Fs:List MM}{es us:List Dd}{F:Addr->Prop}{vw:Vw}{ps fs:List Vw}(b:HK c.B c.V c.D H x L D U all M Ps Fs es us)(i:Is H L all M vw)(pp:Paired (Is H L all) Ps ps)(f:P7 F L D U all es us)(wv:∀ v,v∈ps\/v=vw\/v∈fs->HJ v)
  {a:Vx} (ha:a∈all) {j:Nat} {ss ss':List Sg} (hj:(M L)[j]? = some (.ref a.o)) (hm:vw[j]? = some (a.n,.pl ss)) (Kn:a.tm=.non) {e:Dd} (eT:e.T=a.l) (ft:Fits e M) (lb:e.bs.length<=1) (la:e.as.length<=1) (s1:aq H H1) (nB:H e.B=none) (nA:H e.A=none) (hd:sD c.D H1 (.ref e.o) e)
  (g':jV H1 (BM e M a.l) ss') (gl:ss'.length<=200) (gg:∀ s∈ss',qG s) {ds:List V} (hD:H D=some (.lst ds)) (pD:Paired (sD c.D H) ds es)
  (fr:∀ y o,H1 y=some o->y≠a.l->y≠D->y≠U->H' y=some o) (hl':H' a.l=some (.lst (BM e M a.l))) (hD':H' D=some (.lst (ds++[.ref e.o]))) (hU':H' U=some (.lst [])) :
  ∃ F',Gr F F' H/\Fr F H H'/\Fb c H' x F' (xE vw a.n (.pl ss')) (ps++[vw]) []:=by
 have kT:Kept (fun _=>True) H H1:=.same s1;have b2:=b.kept (F:=fun _=>True) ⟨trivial,trivial,trivial,fun _ _=>trivial,fun _ _=>⟨trivial,trivial⟩⟩ kT;have mo:∀ y,y≠a.l->BM e M y=M y:=fun y hy=>BL (by rw[eT];exact hy);have wM:=b2.wf M (.inr (.inl rfl));have YW:=wv vw (.inr (.inl rfl));have oA:∀{y:Addr},H y=none->y≠L/\y≠D/\y≠U/\∀ z∈all,y≠z.l:=fun {y} hy=>by
  obtain⟨u0,Q9,_⟩:=b.hU;exact⟨Ne.symm (ak b.hL hy),Ne.symm (ak hD hy),Ne.symm (ak Q9 hy),fun z hz=>Ne.symm (ak (b.ha z hz).2 hy)⟩
 have ok:P8 L D U all e:=⟨.inr ⟨a,ha,eT⟩,oA nB,oA nA,lb,la⟩;have V5:L≠a.l:=Ne.symm (b.nl a ha).1;have V3:WF H1 L all (BM e M) :=
  {
   vs:=by rw[mo L V5];exact wM.vs
   ln:=fun z hz=>by
    by_cases YX:z.l=a.l
    ·rw[YX];refine⟨by rw[eM g'];exact gl,fun v hv=>?_⟩;obtain⟨k,hk⟩:=getElem?_of_mem hv;obtain⟨sg,e1,e2⟩:=D6 g' hk;exact⟨sg,e2,gg sg (mem_of_getElem? e1)⟩
    ·rw[mo _ YX];exact wM.ln z hz
   len:=by rw[mo L V5];exact wM.len
   out:=fun y h1 h2=>by rw[mo y (h2 a ha)];exact wM.out y h1 h2 }
 have i2:Is H1 L all M vw:=Is.kept kT i;have B:=Bk.deed b2 i2 (iU (fun _ _ q=>Is.kept kT q) pp) f (fun v hv=>wv v (hv.imp id .inl)) hd ok ft V3 (Is.line b2 i2 YW ha hj hm Kn mo g') (YW.set (mem_of_getElem? hm) gl gg) (tK (fun _ e' he q=>se (F:=fun _=>True) kT ⟨trivial,trivial⟩ q) pD) (H2:=H')
  (fun y o hy y1 y2 y3=>fr y o hy (by rw[<-eT];exact y1) y2 y3) (by rw[eT];exact hl') hD' hU'
 refine⟨_,fun y hy=>?_,fun y o hy hn=>fr y o (s1 y o hy) (fun q=>hn (q ▸ f.l a ha)) (fun q=>hn (q ▸ f.D)) (fun q=>hn (q ▸ f.U)),B⟩;rcases hy with hy|hy|hy
 ·exact .inl hy
 ·rw[hy];exact .inr nB
 ·rw[hy];exact .inr nA
set_option maxHeartbeats 1000000
theorem Bk.V6 {CB CV CD:Addr}{H:Hp}{x:Addr}{F:Addr->Prop}{vw:Vw}{ps fs:List Vw}(h:Bk CB CV CD H x F vw ps fs):∃ F0:Addr->Prop,(∀ y,F0 y->F y)/\(∀ y,F0 y->∃ xs,H y=some (.lst xs))/\Bk CB CV CD H x F0 vw ps fs:=by
 obtain⟨L,D,U,all,M,Ps,Fs,es,us,b,i,pp,pf,f⟩:=h.ex;obtain⟨ds,hD,pD⟩:=b.hD;obtain⟨ux,hU,pU⟩:=b.hU;have dd:∀ e,e∈es\/e∈us->H e.B=some (.lst e.bs)/\H e.A=some (.lst e.as):=fun e he=>by
  rcases he with he|he
  ·obtain⟨k,hk⟩:=getElem?_of_mem he;obtain⟨v,_,q⟩:=nR pD hk;exact⟨q.2.2.1,q.2.2.2⟩
  ·obtain⟨k,hk⟩:=getElem?_of_mem he;obtain⟨v,_,q⟩:=nR pU hk;exact⟨q.2.2.1,q.2.2.2⟩
 refine⟨fun y=>y=L\/y=D\/y=U\/(∃ a∈all,y=a.l)\/∃ e,(e∈es\/e∈us)/\(y=e.B\/y=e.A),fun y hy=>?_,fun y hy=>?_,⟨⟨L,D,U,all,M,Ps,Fs,es,us,b,i,pp,pf,⟨.inl rfl,.inr (.inl rfl),.inr (.inr (.inl rfl)),fun a ha=>.inr (.inr (.inr (.inl ⟨a,ha,rfl⟩))),fun e he=>⟨.inr (.inr (.inr (.inr ⟨e,he,.inl rfl⟩))),.inr (.inr (.inr (.inr ⟨e,he,.inr rfl⟩)))⟩⟩⟩,h.wv⟩⟩
 ·rcases hy with rfl|rfl|rfl|⟨a,ha,rfl⟩|⟨e,he,rfl|rfl⟩
  ·exact f.L
  ·exact f.D
  ·exact f.U
  ·exact f.l a ha
  ·exact(f.d e he).1
  ·exact(f.d e he).2
 ·rcases hy with rfl|rfl|rfl|⟨a,ha,rfl⟩|⟨e,he,rfl|rfl⟩
  ·exact⟨_,b.hL⟩
  ·exact⟨_,hD⟩
  ·exact⟨_,hU⟩
  ·exact⟨_,(b.ha a ha).2⟩
  ·exact⟨_,(dd e he).1⟩
  ·exact⟨_,(dd e he).2⟩
structure Bq (c:Cs)(H:Hp)(x:Addr)(own:List Addr)(vw:Vw)(ps fs:List Vw):Prop where
 ex:∃ F,Fb c H x F vw ps fs/\(∀ y,F y->∃ xs,H y=some (.lst xs))/\∀ a∈own,¬ F a/\∃ o,H a=some o
def X7 (own:List Addr)(H H':Hp):Prop:=∀ y o,H y=some o->((∀ xs,o≠.lst xs)\/y∈own)->H' y=some o
section
variable {c:Cs} {H H' H1:Hp} {x:Addr} {own:List Addr} {vw Um:Vw} {ps ps' fs fs':List Vw} {F F':Addr->Prop}
end
set_option maxHeartbeats 1000000
structure YY (vw:Vw):Prop where
 w:HJ vw
 nm:∀ q∈vw,nameB q.1=true/\q.1 ≠ "zed"/\q.1.length<=1000
 ld:∀(i:Nat) n ld lt sl tn,vw[i]? = some (n,Th.cn ld lt sl tn)->∃ ss,(ld,Th.pl ss)∈vw.take i
 sh:∀ n ss,(n,Th.pl ss)∈vw->ss.length<=24
end xA
set_option maxHeartbeats 1000000
namespace L2
open PySem PySem.Spec PyProof.Rows
variable {X:Cx}
end L2
namespace xA
open PySem L2
end xA
set_option maxHeartbeats 1000000
namespace L2
open PySem PySem.Spec PyProof.Rows
end L2
namespace xA
open PySem L2
def cu (ks:List Kd):Nat->Nat->Nat
 |0,_=>0
 |p+1,met=>if(if(ks.getD p .dot).small=true then met else met+1)=2 then p else cu ks p (if(ks.getD p .dot).small=true then met else met+1)
def iV (wide:Bool)(k:Kd):Bool:=if wide=true then k.meas else k.parting
def jW (ks:List Kd)(i:Nat)(wide:Bool):Nat:=i+((ks.drop i).takeWhile fun k=>!iV wide k).length
def Ko (wide:Bool):List V:=if wide=true then [.str "3",.str "2"] else [.str ".",.str "3",.str "2"]
theorem Qf (wide:Bool)(k:Kd):inV (.str k.str) (Ko wide)=iV wide k:=by cases wide <;> cases k <;> decide +kernel
def Kp (ss:List Sg)(i b:Nat)(ch:List Sg):List V:=[.int (cu (bL ss) i 0:Nat),.int (jW (bL ss) b (ch.any fun s=>s.1.meas):Nat)]
theorem Iw {p:Kd->Bool}:∀{l:List Kd} {j:Nat} {k:Kd},(∀ m x,m<j->l[m]? = some x->p x=true)->l[j]? = some k->p k=false->(l.takeWhile p).length=j
 |[],_,_,_,h,_=>by simp at h
 |x::l,0,k,_,h,hk=>by
  simp only [List.getElem?_cons_zero,Option.some.injEq]at h;rw[h,List.takeWhile_cons_of_neg (by rw[hk];decide)];rfl
 |x::l,j+1,k,hi,h,hk=>by
  rw[List.takeWhile_cons_of_pos (hi 0 x (Nat.succ_pos _) rfl),length_cons,Iw (l:=l) (j:=j) (fun m y hm hy=>hi (m+1) y (Nat.succ_lt_succ hm) (by simpa using hy)) (by simpa using h) hk]
theorem Fe {p:Kd->Bool}:∀{l:List Kd},(∀(m:Nat)(x:Kd),l[m]? = some x->p x=true)->(l.takeWhile p).length=l.length
 |[],_=>rfl
 |x::l,h=>by
  rw[List.takeWhile_cons_of_pos (h 0 x rfl),length_cons,length_cons,Fe (l:=l) fun m y hy=>h (m+1) y (by simpa using hy)]
theorem MP {ks:List Kd}{i j:Nat}{wide:Bool}{k:Kd}(hi:∀ m x,m<j->ks[i+m]? = some x->iV wide x=false)(h:ks[i+j]? = some k)(hk:iV wide k=true):jW ks i wide=i+j:=by
 unfold jW;rw[Iw (j:=j) (k:=k) (fun m x hm hx=>by rw[getElem?_drop]at hx;rw[hi m x hm hx];rfl) (by rw[getElem?_drop];exact h) (by rw[hk];rfl)]
theorem Iy {ks:List Kd}{i:Nat}{wide:Bool}(hl:i<=ks.length)(hi:∀(m:Nat)(x:Kd),ks[i+m]? = some x->iV wide x=false):jW ks i wide=ks.length:=by
 unfold jW;rw[Fe (fun m x hx=>by rw[getElem?_drop]at hx;rw[hi m x hx];rfl),length_drop];omega
def kdOf (k:Str):Kd:=if k = "G" then .G else if k = "D" then .D else if k = "R" then .R else if k = "s" then .s else if k = "d" then .d else if k = "r" then .r else if k = "." then .dot else if k = "3" then .three else .two
theorem Qg (k:Kd):kdOf k.str=k:=by cases k <;> decide +kernel
def kR (s:Sn):Sg:=(kdOf s.1,s.2)
theorem kS {s:Sg}{n:Sn}(h1:s.1.str=n.1)(h2:s.2=n.2):kR n=s:=by
 unfold kR;rw[<-h1,<-h2,Qg]
theorem Qh {n:Sn}(h:kK n=true):(kR n).1.str=n.1/\(kR n).2=n.2/\qG (kR n):=by
 obtain⟨s,h1,h2,g⟩:=F3 h;rw[kS h1 h2];exact⟨h1,h2,g⟩
inductive Wy where
 |put|cut|swap|add|canon|drop|undo|X8
 deriving DecidableEq
def Wy.str:Wy->Str
 |.put=>"put" | .cut=>"cut" | .swap=>"swap" | .add=>"add" | .canon=>"canon" | .drop=>"drop" | .undo=>"undo" | .X8=>"redo"
structure De where
 wy:Wy
 n:Str
 ld:Str
 pl:Int
 sg:Sn
 lt:Int
 sl:Int
 tn:Bool
structure DeS (H:Hp)(v:V)(d:De):Prop where
 ex:∃ p xs,v=.ref p/\H p=some (.tup xs)/\xs[0]? = some (.str d.wy.str)/\xs[1]? = some (.str d.n)/\(d.wy=.put\/d.wy=.swap->∃ ps,xs[4]? = some (.ref ps)/\H ps=some (.tup [.str d.sg.1,.int d.sg.2]))/\(d.wy=.canon->xs[2]? = some (.str d.ld)/\xs[5]? = some (.int d.lt)/\xs[6]? = some (.int d.sl)/\xs[7]? = some (.bl d.tn))
structure Std where
 vw:Vw
 ps:List Vw
 fs:List Vw
def Qi (lt sl:Int):Prop:=0<=lt/\lt<=999/\1<=sl/\sl<=9
instance (lt sl:Int):Decidable (Qi lt sl):=by unfold Qi;exact inferInstance
def qI (vw:Vw)(n:Str):Option Rf:=if nameB n=false then some .F2 else if(bC vw n).isSome then some .xG else if 12<=vw.length then some .Full else none
def aT (ss:List Sg)(wy:Wy)(sg:Sn)(i:Nat):List Sg:=match wy with
 |.cut=>ss.take i++[]++ss.drop (i+1)
 |.swap=>ss.take i++[kR sg]++ss.drop (i+1)
 |_=>ss.take i++[kR sg]++ss.drop i
def Rf.str:Rf->Str
 |.vL=>"BadSign" | .F2=>"BadName" | .xG=>"NameTaken" | .Full=>"Full" | .jN=>"NoVoice" | .nX=>"NotPlain" | .sf=>"NoPlace" | .MN=>"BadTerm" | .Qa=>"Leaned" | .Qb=>"NoMore"
theorem qJ {K:Frag}{H:Hp}{p:Addr}{xs:List V}{i:Nat}{v:V}{Q:VK}(h:H p=some (.tup xs))(e:xs[i]? = some v)(q:Q v H):J4 K (.ref p) (.int (i:Int)) H Q\/J5 K (.ref p) (.int (i:Int)) H Q\/J6 (.ref p) (.int (i:Int)) H Q:=.inr (.inl ⟨p,_,i,v,rfl,rfl,qk.of h,Bf e,q⟩)
theorem Ff (a b:Wy):decide (V.str a.str=V.str b.str)=decide (a=b):=by cases a <;> cases b <;> decide +kernel
def RL:List Str:=["G","D","R","s","d","r",".","3","2","g",""]
def Z9 (n:Str):Bool:=!decide (n.cps[0]? = ("x":Str).cps[0]?)
structure aaa (d:De):Prop where
 nl:d.n.length<=1000
 ll:d.ld.length<=1000
 sk:d.sg.1∈RL
 nx:Z9 d.n=true
set_option maxHeartbeats 1000000
def fd (ks:List Kd)(rs:List (Nat×Nat))(f:List Int):List Int:=rs.foldl (fun f q=>(settle ks f q.1 q.2).2) f
theorem MQ (ks:List Kd):∀(rs:List (Nat×Nat)) (c:Va),(rs.foldl (i0 ks) c).1=fd ks rs c.1
 |[],_=>rfl
 |r::t,c=>by rw[List.foldl_cons,MQ ks t];rfl
def rd (m:Int)(ks:List Kd):List Int:=(bJ m ks).1
theorem vM (m:Int)(ks:List Kd):rd m ks=fd ks (bI m ks) (aS m ks):=MQ ks _ _
def shift (n:Nat)(rs:List (Nat×Nat)):List (Nat×Nat):=rs.map fun q=>(q.1+n,q.2+n)
theorem zZ (n m:Nat)(rs:List (Nat×Nat)):shift n (shift m rs)=shift (m+n) rs:=by
 unfold shift;rw[List.map_map]
 congr 1
 funext q
 simp only [Function.comp,Nat.add_assoc]
theorem X9 (bs:List Bool)(n a f:Nat):aX (a+n) (f+n) bs=shift n (aX a f bs):=by
 induction bs generalizing a f with
 |nil =>
  unfold aX
  by_cases h:f<a
  ·rw[if_pos h,if_pos (by omega)];rfl
  ·rw[if_neg h,if_neg (by omega)];rfl
 |cons b t ih =>
  cases b with
  |true =>
   simp only [aX];rw[<-ih (a+1) f,Nat.add_right_comm]
  |false =>
   simp only [aX];rw[show a+n+1=a+1+n by omega,ih (a+1) (a+1)];unfold shift;rw[map_append]
   congr 1
   by_cases h:f<a
   ·rw[if_pos h,if_pos (by omega)];rfl
   ·rw[if_neg h,if_neg (by omega)];rfl
theorem NG (A B:List Kd)(f g:List Int)(hf:f.length=A.length)(hg:g.length=B.length){a z:Nat}(Te:a<z)(hz:z<=B.length)(h0:a=0->cI (A++B) (f++g) A.length=false) :
  (settle (A++B) (f++g) (a+A.length) (z+A.length)).2=f++(settle B g a z).2:=by
 have ix:∀ j,(A++B)[j+A.length]? = B[j]?:=fun j=>by
  rw[getElem?_append_right (by omega),Nat.add_sub_cancel]
 have hl:cI (A++B) (f++g) (a+A.length)=cI B g a:=by
  by_cases e0:a=0
  ·have:=h0 e0;subst e0;rw[Nat.zero_add,this];rfl
  ·unfold cI Bg;rw[if_pos (by omega),if_pos (by omega)];have e1:(((a+A.length:Nat):Int)-1).toNat=(a-1)+A.length:=by omega
   have e2:(((a:Nat):Int)-1).toNat=a-1:=by omega
   rw[e1,e2,ix]
   congr 2
   rw[List.getD_eq_getElem?_getD,List.getD_eq_getElem?_getD,getElem?_append_right (by omega)];have e3:a+A.length-1-f.length=a-1:=by omega
   rw[e3]
 have hr:cD (A++B) (z+A.length)=cD B z:=by
  unfold cD;rw[ix,show z+A.length+1=(z+1)+A.length by omega,ix]
 have st:∀(h:List Int)(j:Nat),(f++h).set (j+A.length) 2=f++h.set j 2:=fun h j=>by
  rw[List.set_append_right _ _ (by omega)]
  congr 2
  omega
 have ed:z+A.length-(a+A.length)=z-a:=by omega
 have ez:z+A.length-1=(z-1)+A.length:=by omega
 have hlp:cI B g a=true->a+A.length-1=(a-1)+A.length:=fun h=>by have:=nS h;omega
 unfold settle jL jM;rw[hl,hr,ed,ez,ix,ix];split
 ·split
  ·rename_i h;rw[hlp h,st]
  ·split
   ·rw[st]
   ·rfl
 ·split
  ·split
   ·rw[st]
   ·split
    ·rename_i h
     obtain⟨h1,h2⟩:=Bool.and_eq_true_iff.mp h;rw[hlp h1,st,st]
    ·rfl
  ·rfl
theorem Fg (A B:List Kd)(f:List Int)(hf:f.length=A.length):∀(rs:List (Nat×Nat)) (g:List Int),g.length=B.length->(∀ q∈rs,q.1<q.2/\q.2<=B.length/\(q.1=0->∀ g',cI (A++B) (f++g') A.length=false)) ->
  fd (A++B) (shift A.length rs) (f++g)=f++fd B rs g
 |[],_,_,_=>rfl
 |r::t,g,hg,h=>by
  obtain⟨h1,h2,h3⟩:=h r mem_cons_self;show fd (A++B) (shift A.length t) (settle (A++B) (f++g) (r.1+A.length) (r.2+A.length)).2=f++fd B t (settle B g r.1 r.2).2;rw[NG A B f g hf hg h1 h2 fun e=>h3 e g];exact Fg A B f hf t _ (by rw[lJ];exact hg) fun q hq=>h q (mem_cons_of_mem _ hq)
def ones (n:Nat):List Int:=List.replicate n 1
def cY (r:List Kd):Prop:=∀ k∈r,k.small=true
def Cut (B:List Kd):Prop:=∀ k t,B=k::t->k.small=false
theorem qK {k:Kd}(h:k.small=true)(m:Int):nm m k=m:=by cases k <;> first|rfl|cases h
theorem tN:∀(r:List Kd),cY r->∀ B,gR 3 (r++B)=List.replicate r.length true++gR 3 B
 |[],_,B=>rfl
 |k::t,h,B=>by
  have hk:=h k mem_cons_self;show inR (nm 3 k) k::gR (nm 3 k) (t++B)=_;rw[qK hk,tN t (fun x hx=>h x (mem_cons_of_mem _ hx)) B];have:inR 3 k=true:=by unfold inR;rw[hk];rfl
  rw[this];rfl
theorem qL:∀(r:List Kd),cY r->∀ B,aS 3 (r++B)=ones r.length++aS 3 B
 |[],_,B=>rfl
 |k::t,h,B=>by
  have hk:=h k mem_cons_self;show bw (nm 3 k) k (t++B).head? :: aS (nm 3 k) (t++B)=_;rw[qK hk,qL t (fun x hx=>h x (mem_cons_of_mem _ hx)) B];have:bw 3 k (t++B).head? = 1:=by
   unfold bw;rw[if_neg (by rintro⟨z,_⟩;cases z)];cases k <;> first|rfl|cases hk
  rw[this];rfl
theorem tO:∀(c a f:Nat)(bs:List Bool),aX a f (List.replicate c true++bs)=aX (a+c) f bs
 |0,a,f,bs=>rfl
 |c+1,a,f,bs=>by
  show aX (a+1) f (List.replicate c true++bs)=_;rw[tO c (a+1) f bs]
  congr 1
  omega
theorem Fh {B:List Kd}(h:Cut B)(a f:Nat):aX a f (gR 3 B)=(if f<a then [(f,a)] else [])++shift a (bI 3 B):=by
 cases B with
 |nil =>
  show(if f<a then [(f,a)] else [])=_++shift a (aX 0 0 []);simp[aX,shift]
 |cons k t =>
  have hk:=h k t rfl;have e:inR (nm 3 k) k=false:=by unfold inR;rw[hk,Bool.and_false]
  show aX a f (inR (nm 3 k) k::gR (nm 3 k) t)=_++shift a (aX 0 0 (inR (nm 3 k) k::gR (nm 3 k) t));rw[e];simp only [aX];rw[if_neg (Nat.lt_irrefl 0),nil_append,<-X9]
  congr 2 <;> omega
theorem Uq {r B:List Kd}(hr:cY r)(h:Cut B):bI 3 (r++B)=(if 0<r.length then [(0,r.length)] else [])++shift r.length (bI 3 B):=by
 show aX 0 0 (gR 3 (r++B))=_;rw[tN r hr,tO,Nat.zero_add,Fh h]
theorem RM {r B:List Kd}(hr:cY r)(h:Cut B):bI 3 (.G::r++B)=(if 0<r.length then [(1,r.length+1)] else [])++shift (r.length+1) (bI 3 B):=by
 show aX 0 0 (gR 3 (.G::(r++B)))=_;show aX 0 0 (false::gR 3 (r++B))=_;simp only [aX];rw[if_neg (Nat.lt_irrefl 0),nil_append,tN r hr,tO,Fh h];rw[show 0+1+r.length=r.length+1 by omega]
 by_cases c:0<r.length
 ·rw[if_pos c,if_pos (by omega)]
 ·rw[if_neg c,if_neg (by omega)]
theorem Qj (B:List Kd):bI 3 (.G::B)=shift 1 (bI 3 B):=by
 show aX 0 0 (false::gR 3 B)=_;simp only [aX];rw[if_neg (Nat.lt_irrefl 0),nil_append];exact X9 _ 1 0 0
theorem Kq (B:List Kd):aS 3 (.G::B)=3::aS 3 B:=by
 show bw 3 .G B.head? :: aS 3 B=_;unfold bw;rw[if_neg (by rintro⟨z,_⟩;cases z)];rfl
def oM (B:List Kd):Bool:=decide (B[0]? = some .G) && !cX B[1]?
def dbl (r B:List Kd):Bool:=cX B[0]? && decide (r.getLast? = some .s)
def bK (r B:List Kd):List Int:=if r.length % 3=2/\dbl r B=true then ones (r.length-1)++[2] else ones r.length
theorem Kr {r B:List Kd}(h:0<r.length):(r++B)[r.length-1]? = r.getLast?:=by
 rw[getElem?_append_left (by omega),List.getLast?_eq_getElem?]
theorem aM (n:Nat):(ones n).length=n:=List.length_replicate
theorem BQ (n:Nat)(h:0<n):(ones n).set (n-1) 2=ones (n-1)++[2]:=by
 obtain⟨k,rfl⟩:∃ k,n=k+1:=⟨n-1,by omega⟩;show(ones (k+1)).set k 2=ones k++[2];unfold ones
 induction k with
 |zero=>rfl
 |succ k ih =>
  show(1:Int)::(List.replicate (k+1) (1:Int)).set k 2=1::(List.replicate k 1++[2]);rw[ih (by omega)]
theorem Fi (r B:List Kd):(bK r B).length=r.length:=by
 unfold bK;split
 ·rename_i h
  rw[length_append,aM];have:r.length≠0:=fun e=>by rw[e]at h;omega
  simp only [length_cons,List.length_nil];omega
 ·exact aM _
theorem YZ {r:List Kd}(hr:cY r){B:List Kd}{f:List Int}(h:0<r.length)(P:List Kd):cI (P++r++B) f (P++r).length=false:=by
 unfold cI;rw[length_append];have e1:(((P.length+r.length:Nat):Int)-1).toNat=(r.length-1)+P.length:=by omega
 have:Bg (P++r++B) (((P.length+r.length:Nat):Int)-1)≠some .G:=by
  unfold Bg;rw[if_pos (by omega),e1,List.append_assoc,getElem?_append_right (by omega),Nat.add_sub_cancel,Kr h];intro e;have:=hr _ (List.mem_of_getLast? e);cases this
 rw[decide_eq_false this];rfl
theorem Iz {r B:List Kd}(hr:cY r)(hB:Cut B)(hc:0<r.length):rd 3 (r++B)=bK r B++(if r.length % 3=1/\oM B=true then 2::rd 3 B.tail else rd 3 B):=by
 have hin:∀ q∈bI 3 B,q.1<q.2/\q.2<=B.length:=dP 3 B;have l0:cI (r++B) (ones r.length++aS 3 B) 0=false:=rfl;have rz:cD (r++B) r.length=oM B:=by
  unfold cD oM;rw[getElem?_append_right (Nat.le_refl _),getElem?_append_right (by omega),Nat.sub_self,Nat.add_sub_cancel_left]
 have gz:(r++B)[r.length]? = B[0]?:=by rw[getElem?_append_right (Nat.le_refl _),Nat.sub_self]
 have hd:(cX (r++B)[r.length]? && decide ((r++B)[r.length-1]? = some .s))=dbl r B:=by rw[gz,Kr hc];rfl
 rw[vM,Uq hr hB,if_pos hc,qL r hr];show fd (r++B) (shift r.length (bI 3 B)) (settle (r++B) (ones r.length++aS 3 B) 0 r.length).2=_;have plain:∀ f:List Int,f.length=r.length->fd (r++B) (shift r.length (bI 3 B)) (f++aS 3 B)=f++rd 3 B:=fun f hf=>by
  rw[Fg r B f hf (bI 3 B) (aS 3 B) (eC 3 B) fun q hq=>⟨(hin q hq).1,(hin q hq).2,fun _ g'=>YZ hr hc []⟩,vM]
 unfold settle jL jM;rw[l0,rz,hd,Nat.sub_zero]
 by_cases c1:r.length % 3=1
 ·have e:bK r B=ones r.length:=by unfold bK;rw[if_neg (by omega)]
  rw[if_pos c1,if_neg Bool.false_ne_true,e]
  by_cases hb:oM B=true
  ·rw[if_pos hb,if_pos ⟨c1,hb⟩];obtain⟨t,rfl⟩:∃ t,B=.G::t:=by
    have:=of_decide_eq_true (Bool.and_eq_true_iff.mp hb).1;cases B with
    |nil=>cases this
    |cons k t=>exact⟨t,by simp at this;rw[this]⟩
   rw[Kq,Qj,zZ];dsimp only;have eL:(ones r.length++(3::aS 3 t)).set r.length 2=(ones r.length++[2])++aS 3 t:=by
    rw[List.set_append_right _ _ (by rw[aM];exact Nat.le_refl _),aM,Nat.sub_self,List.append_assoc];rfl
   rw[eL];have eK:r ++ .G::t=(r++[.G])++t:=by simp
   have eS:1+r.length=(r++[Kd.G]).length:=by simp;omega
   rw[eK,eS,Fg (r++[Kd.G]) t (ones r.length++[2]) (by rw[length_append,length_append,aM];rfl) (bI 3 t) (aS 3 t) (eC 3 t) fun q hq=>⟨(dP 3 t q hq).1,(dP 3 t q hq).2,fun _ g'=>?_⟩,<-vM,List.append_assoc]
   ·rfl
   ·unfold cI;have:((ones r.length++[2])++g').getD ((r++[Kd.G]).length-1) 0=2:=by
     rw[List.getD_eq_getElem?_getD,List.append_assoc,getElem?_append_right (by rw[aM];simp),aM];simp
    rw[this];simp
  ·rw[if_neg hb,if_neg (fun z=>hb z.2)];exact plain _ (aM _)
 ·rw[if_neg c1,if_neg (fun z:r.length % 3=1/\_=>c1 z.1)]
  by_cases c2:r.length % 3=2
  ·rw[if_pos c2]
   by_cases hb:dbl r B=true
   ·have e:bK r B=ones (r.length-1)++[2]:=by unfold bK;rw[if_pos ⟨c2,hb⟩]
    rw[if_pos hb,e];dsimp only;rw[List.set_append_left _ _ (by rw[aM];omega),BQ _ hc];exact plain _ (by rw[length_append,aM];simp;omega)
   ·have e:bK r B=ones r.length:=by unfold bK;rw[if_neg (fun z=>hb z.2)]
    rw[if_neg hb,Bool.false_and,if_neg Bool.false_ne_true,e];exact plain _ (aM _)
  ·have e:bK r B=ones r.length:=by unfold bK;rw[if_neg (fun z=>c2 z.1)]
   rw[if_neg c2,e];exact plain _ (aM _)
theorem BR {r B:List Kd}(hr:cY r)(hB:Cut B)(hc:0<r.length):rd 3 (.G::r++B) =
  if r.length % 3=1 then 2::(ones r.length++rd 3 B)
  else if r.length % 3=2/\dbl r B=false/\oM B=true then 2::(ones r.length++2::rd 3 B.tail)
  else 3::(bK r B++rd 3 B):=by
 have hin:∀ q∈bI 3 B,q.1<q.2/\q.2<=B.length:=dP 3 B;have kG:(.G::r++B:List Kd)=.G::(r++B):=rfl;have bG:aS 3 (.G::r++B)=(3::ones r.length)++aS 3 B:=by rw[kG,Kq,qL r hr];rfl
 have l0:cI (.G::r++B) ((3::ones r.length)++aS 3 B) 1=true:=rfl;have rz:cD (.G::r++B) (r.length+1)=oM B:=by
  unfold cD oM;rw[kG,List.getElem?_cons_succ,List.getElem?_cons_succ,getElem?_append_right (Nat.le_refl _),getElem?_append_right (by omega),Nat.sub_self,Nat.add_sub_cancel_left]
 have hd:(cX (.G::r++B:List Kd)[r.length+1]? && decide ((.G::r++B:List Kd)[r.length+1-1]? = some .s))=dbl r B:=by
  have e1:(.G::r++B:List Kd)[r.length+1]? = B[0]?:=by rw[kG,List.getElem?_cons_succ,getElem?_append_right (Nat.le_refl _),Nat.sub_self]
  have e2:(.G::r++B:List Kd)[r.length+1-1]? = r.getLast?:=by
   rw[Nat.add_sub_cancel,kG];obtain⟨k,hk⟩:∃ k,r.length=k+1:=⟨r.length-1,by omega⟩;have:=Kr (B:=B) hc;rw[hk,Nat.add_sub_cancel]at this;rw[hk,List.getElem?_cons_succ,this]
  rw[e1,e2];rfl
 rw[vM,RM hr hB,if_pos hc,bG];show fd (.G::r++B) (shift (r.length+1) (bI 3 B)) (settle (.G::r++B) ((3::ones r.length)++aS 3 B) 1 (r.length+1)).2=_;have plain:∀ f:List Int,f.length=r.length+1->fd (.G::r++B) (shift (r.length+1) (bI 3 B)) (f++aS 3 B)=f++rd 3 B:=fun f hf=>by
  have:=Fg (.G::r) B f hf (bI 3 B) (aS 3 B) (eC 3 B) fun q hq=>⟨(hin q hq).1,(hin q hq).2,fun _ g'=>YZ hr hc [.G]⟩;rw[length_cons]at this;rw[this,vM]
 unfold settle jL jM;rw[l0,rz,hd,show r.length+1-1=r.length by omega]
 by_cases c1:r.length % 3=1
 ·rw[if_pos c1,if_pos rfl,if_pos c1];exact plain (2::ones r.length) (by rw[length_cons,aM])
 ·rw[if_neg c1,if_neg c1]
  by_cases c2:r.length % 3=2
  ·rw[if_pos c2]
   by_cases hb:dbl r B=true
   ·have e:bK r B=ones (r.length-1)++[2]:=by unfold bK;rw[if_pos ⟨c2,hb⟩]
    rw[if_pos hb,if_neg (fun z=>by rw[hb]at z;cases z.2.1),e];dsimp only;have eS:((3::ones r.length)++aS 3 B).set r.length 2=(3::(ones (r.length-1)++[2]))++aS 3 B:=by
     rw[List.set_append_left _ _ (by rw[length_cons,aM];omega)]
     congr 1
     rw[show(3::ones r.length).set r.length 2=3::(ones r.length).set (r.length-1) 2 by
      obtain⟨k,hk⟩:∃ k,r.length=k+1:=⟨r.length-1,by omega⟩;rw[hk];rfl,BQ _ hc]
    rw[eS];exact plain _ (by rw[length_cons,length_append,aM];simp;omega)
   ·have hb':dbl r B=false:=Bool.eq_false_iff.mpr hb;have e:bK r B=ones r.length:=by unfold bK;rw[if_neg (fun z=>hb z.2)]
    rw[if_neg hb,Bool.true_and,e]
    by_cases hR:oM B=true
    ·rw[if_pos hR,if_pos ⟨c2,hb',hR⟩];obtain⟨t,rfl⟩:∃ t,B=.G::t:=by
      have:=of_decide_eq_true (Bool.and_eq_true_iff.mp hR).1;cases B with
      |nil=>cases this
      |cons k t=>exact⟨t,by simp at this;rw[this]⟩
     rw[Kq,Qj,zZ];dsimp only;have eL:((((3::ones r.length)++(3::aS 3 t)).set (1-1) 2).set (r.length+1) 2)=(2::(ones r.length++[2]))++aS 3 t:=by
      show((2::ones r.length)++(3::aS 3 t)).set (r.length+1) 2=_;rw[List.set_append_right _ _ (by rw[length_cons,aM];exact Nat.le_refl _),length_cons,aM,Nat.sub_self];show(2::ones r.length)++(2::aS 3 t)=_;simp
     rw[eL];have eK:(.G::r ++ .G::t:List Kd)=(.G::(r++[.G]))++t:=by simp
     have eS:1+(r.length+1)=(.G::(r++[Kd.G])).length:=by simp;omega
     rw[eK,eS,Fg (Kd.G::(r++[Kd.G])) t (2::(ones r.length++[2])) (by simp[aM]) (bI 3 t) (aS 3 t) (eC 3 t) fun q hq=>⟨(dP 3 t q hq).1,(dP 3 t q hq).2,fun _ g'=>?_⟩,<-vM]
     ·simp
     ·unfold cI;have:((2::(ones r.length++[2]))++g').getD ((Kd.G::(r++[Kd.G])).length-1) 0=2:=by
       rw[List.getD_eq_getElem?_getD];show((2::(ones r.length++[2]))++g')[(r++[Kd.G]).length+1-1]?.getD 0=2;rw[Nat.add_sub_cancel,length_append];show(2::((ones r.length++[2])++g'))[r.length+1]?.getD 0=2;rw[List.getElem?_cons_succ,List.append_assoc,getElem?_append_right (by rw[aM];exact Nat.le_refl _),aM,Nat.sub_self];rfl
      rw[this];simp
    ·rw[if_neg hR,if_neg (fun z=>hR z.2.2)];exact plain (3::ones r.length) (by rw[length_cons,aM])
  ·rw[if_neg c2,if_neg (fun z:r.length % 3=2/\_=>c2 z.1)];have e:bK r B=ones r.length:=by unfold bK;rw[if_neg (fun z=>c2 z.1)]
   rw[e];exact plain (3::ones r.length) (by rw[length_cons,aM])
theorem i3 {m:Int}{k:Kd}{B:List Kd}(hM:Ms m)(hk:m=2\/k.small=false)(hG:m=3->k=.G->Cut B):rd m (k::B)=bw (nm m k) k B.head? :: rd (nm m k) B:=by
 have e:inR (nm m k) k=false:=by
  unfold inR;rcases hk with h|h
  ·subst h;cases k <;> rfl
  ·rw[h,Bool.and_false]
 have er:bI m (k::B)=shift 1 (bI (nm m k) B):=by
  show aX 0 0 (inR (nm m k) k::gR (nm m k) B)=_;rw[e];simp only [aX];rw[if_neg (Nat.lt_irrefl 0),nil_append];exact X9 _ 1 0 0
 rw[vM,er];show fd ([k]++B) (shift [k].length (bI (nm m k) B)) ([bw (nm m k) k B.head?]++aS (nm m k) B)=_;rw[Fg [k] B [bw (nm m k) k B.head?] rfl (bI (nm m k) B) (aS (nm m k) B) (eC _ B) fun q hq=>⟨(dP _ B q hq).1,(dP _ B q hq).2,fun h0 g'=>?_⟩,<-vM]
 ·rfl
 ·cases Y0:decide (k=.G) with
  |false =>
   have:k≠.G:=of_decide_eq_false Y0;unfold cI;rw[show Bg ([k]++B) (([k].length:Int)-1)=some k from rfl,decide_eq_false (fun z=>this (Option.some.inj z))];rfl
  |true =>
   have ek:=of_decide_eq_true Y0;subst ek
   by_cases hm:m=3
   ·subst hm;have hC:=hG rfl rfl
    exfalso
    cases B with
    |nil =>
     have:=(dP _ [] q hq);simp at this;omega
    |cons c t =>
     have hc:=hC c t rfl;have hq2:q∈aX 0 0 (inR (nm 3 c) c::gR (nm 3 c) t):=hq;have ec:inR (nm 3 c) c=false:=by unfold inR;rw[hc,Bool.and_false]
     rw[ec]at hq2;simp only [aX]at hq2;rw[if_neg (Nat.lt_irrefl 0),nil_append]at hq2;have:=qD _ 1 1 (Nat.le_refl _) q hq2;omega
   ·rcases hM with h|h
    ·exact absurd h hm
    ·subst h;unfold cI;have:([bw (nm 2 .G) .G B.head?]++g').getD ([Kd.G].length-1) 0=bw 2 .G B.head?:=rfl;rw[this]
     by_cases Ur:B.head? = some .dot
     ·exfalso
      cases B with
      |nil=>cases Ur
      |cons c t =>
       have:c=.dot:=Option.some.inj Ur;subst this;have hq2:q∈aX 0 0 (false::gR 2 t):=hq;simp only [aX]at hq2;rw[if_neg (Nat.lt_irrefl 0),nil_append]at hq2;have:=qD _ 1 1 (Nat.le_refl _) q hq2;omega
     ·have:bw 2 .G B.head? = 2:=by
       unfold bw;rw[if_neg (fun z=>Ur z.2.2)];rfl
      rw[this];simp
structure Ea where
 m:Int
 held:List Int
 left:Bool
 right:Bool
 cnt:Nat
 last:Option Kd
def dM (l:List Int)(v:Int):List Int:=l.set (l.length-1) v
def j6:Option Kd->Bool
 |some k=>k.small
 |none=>false
def ba (e:Ea)(k:Option Kd):Ea :=
 if e.cnt % 3=2/\e.last=some .s/\cX k=true then { e with cnt:=0,held:=dM e.held 2,left:=false }
 else if e.cnt % 3=2/\e.left=true/\k=some .G then { e with cnt:=0,right:=true }
 else if e.cnt % 3=1/\e.left=true then { e with cnt:=0,held:=e.held.set 0 2,left:=false }
 else if e.cnt % 3=1/\k=some .G then { e with cnt:=0,right:=true,left:=false }
 else { e with cnt:=0,left:=false }
def bb (e:Ea)(k:Option Kd):Ea :=
 if cX k=true then { e with left:=false,right:=false }
 else { e with held:=if e.left=true then(dM e.held 2).set 0 2 else dM e.held 2,left:=false,right:=false }
def cv (e:Ea)(k:Option Kd):Ea:=if e.last=some .G/\k=some .dot then { e with held:=dM e.held 3 } else e
def aO (e:Ea)(k:Option Kd):Ea:=if e.m=2 then cv e k else if e.right=true then bb e k else if j6 k=true then e else ba e k
def ax (e:Ea)(k:Option Kd):Ea×List Int:=if(aO e k).left=true then(aO e k,[]) else({ aO e k with held:=[] },(aO e k).held)
def qM (e:Ea)(k:Kd):Ea:={ e with held:=e.held++[pw k e.m],last:=some k,cnt:=if e.m=3/\k.small=true then e.cnt+1 else e.cnt,left:=if e.m=3/\k=.G/\e.right=false then true else e.left }
def hangs (e:Ea):Bool:=if e.m=2 then decide (e.last=some .G) else e.left||e.right||(decide (e.last=some .s)&&decide (e.cnt % 3=2))
def iW (e:Ea)(k:Kd):Ea×List Int:=if hangs (qM { e with m:=nm e.m k } k)=true then(qM { e with m:=nm e.m k } k,[]) else({ qM { e with m:=nm e.m k } k with held:=[] },(qM { e with m:=nm e.m k } k).held)
def cM (e:Ea)(k:Kd):Ea×List Int:=((iW (ax e (some k)).1 k).1,(ax e (some k)).2++(iW (ax e (some k)).1 k).2)
def oN (e:Ea):List Int:=(ax e none).2
def Fj (m:Int):Ea:=⟨m,[],false,false,0,none⟩
def hang (r:List Kd):Bool:=decide (r.length % 3=2)&&decide (r.getLast? = some .s)
def cb (r:List Kd):Nat:=r.length-(if hang r=true then 1 else 0)
def jX (r:List Kd):List Int:=if hang r=true then [1] else []
inductive Sh:Ea->Int->List Kd->Nat->Prop
 |two {l:Option Kd} (h:l≠some .G):Sh ⟨2,[],false,false,0,l⟩ 2 [] 0
 |Us:Sh ⟨2,[2],false,false,0,some .G⟩ 2 [.G] 0
 |run {r:List Kd} {l:Option Kd} (hr:cY r) (hl:r≠[]->l=r.getLast?):Sh ⟨3,jX r,false,false,r.length,l⟩ 3 r (cb r)
 |left {r:List Kd} (hr:cY r):Sh ⟨3,3::ones r.length,true,false,r.length,(Kd.G::r).getLast?⟩ 3 (.G::r) 0
 |right {r:List Kd} (hr:cY r) (h1:r.length % 3=1):Sh ⟨3,[3],false,true,0,some .G⟩ 3 (r++[.G]) r.length
 |both {r:List Kd} (hr:cY r) (h2:r.length % 3=2) (hs:r.getLast? ≠ some .s):Sh ⟨3,3::ones r.length++[3],true,true,0,some .G⟩ 3 (.G::r++[.G]) 0
def BS (e:Ea)(m:Int)(P:List Kd)(T:Nat)(k:Kd)(q:Ea×List Int):Prop:=∃ m' P' T',Sh q.1 m' P' T'/\∀ t,(rd m (P++k::t)).drop T=q.2++(rd m' (P'++t)).drop T'
theorem RN {m:Int}(h:Ms m):Sh (Fj m) m [] 0:=by
 rcases h with rfl|rfl
 ·exact Sh.run (r:=[]) (fun _ h=>nomatch h) (fun h=>absurd rfl h)
 ·exact Sh.two (by simp)
theorem BU (m:Int):rd m []=[]:=rfl
theorem Bj {r:List Kd}(hr:cY r):∀(t:List Kd),(rd 3 (r++t)).take (cb r)=ones (cb r):=by
 intro t;have main:∀(t:List Kd)(r':List Kd),cY (r++r')->(rd 3 (r++r'++t)).take (cb r)=ones (cb r):=by
  intro t
  induction t with
  |nil =>
   intro r' h
   by_cases h0:0<(r++r').length
   ·have e:=Iz h (fun k t e=>by cases e) h0 (B:=[]);have e2:bK (r++r') []=ones (r++r').length:=by unfold bK;rw[if_neg (by rintro⟨_,z⟩;cases z)]
    rw[e,e2,if_neg (by rintro⟨_,z⟩;cases z),BU,append_nil];unfold ones;rw[List.take_replicate]
    congr 1
    unfold cb;rw[length_append];omega
   ·have z:r.length=0:=by rw[length_append]at h0;omega
    have:cb r=0:=by unfold cb;omega
    rw[this];rfl
  |cons k t ih =>
   intro r' h
   by_cases hk:k.small=true
   ·have:=ih (r'++[k]) (fun x hx=>by
     rw[<-List.append_assoc]at hx;rcases mem_append.mp hx with z|z
     ·exact h x z
     ·rw[mem_singleton.mp z];exact hk)
    rw[show r++r'++k::t=r++(r'++[k])++t by simp];exact this
   ·by_cases h0:0<(r++r').length
    ·have hC:Cut (k::t):=fun c u e=>by cases e;exact Bool.eq_false_iff.mpr hk
     rw[Iz h hC h0];have hT:cb r<=r.length:=by unfold cb;omega
     have hle:cb r<=(bK (r++r') (k::t)).length:=by rw[Fi,length_append];omega
     rw[List.take_append_of_le_length hle];unfold bK;split
     ·rename_i hd
      have hlen:cb r<=(r++r').length-1:=by
       rw[length_append]
       by_cases hn:r'=[]
       ·subst hn;have hh:hang r=true:=by
         unfold hang;rw[append_nil]at hd;have h2:=(Bool.and_eq_true_iff.mp hd.2).2;rw[decide_eq_true hd.1,h2];rfl
        unfold cb;rw[if_pos hh];simp
       ·have:0<r'.length:=List.length_pos_iff.mpr hn;omega
      rw[List.take_append_of_le_length (by rw[aM];exact hlen)];unfold ones;rw[List.take_replicate]
      congr 1
      omega
     ·unfold ones;rw[List.take_replicate]
      congr 1
      rw[Fi]at hle;omega
    ·have z:r.length=0:=by rw[length_append]at h0;omega
     have:cb r=0:=by unfold cb;omega
     rw[this];rfl
 have:=main t [] (by rw[append_nil];exact hr);rw[append_nil]at this;exact this
theorem si {l:List Int}{a b:Nat}(h:l.take b=ones b)(hab:a<=b):l.drop a=ones (b-a)++l.drop b:=by
 have:l.drop a=(l.take b).drop a++l.drop b:=by
  have hb:b<=l.length:=by
   have:=congrArg List.length h;rw[length_take,aM]at this;omega
  conv=>lhs;rw[<-take_append_drop b l]
  rw[List.drop_append_of_le_length (by rw[length_take];omega)]
 rw[this,h];unfold ones;rw[List.drop_replicate]
theorem F7 {r:List Kd}{k:Kd}:cb r<=cb (r++[k]):=by
 unfold cb;rw[length_append];split <;> split <;> simp <;> omega
def fg (l:Option Kd):Ea:=⟨3,[],false,false,0,l⟩
theorem oO (l:Option Kd)(k:Kd):BS (fg l) 3 [] 0 k (iW (fg l) k):=by
 cases k with
 |G=>exact⟨3,[.G],0,Sh.left (r:=[]) (fun _ h=>nomatch h),fun t=>rfl⟩
 |D=>exact⟨3,[],0,Sh.run (r:=[]) (l:=some .D) (fun _ h=>nomatch h) (fun h=>absurd rfl h),fun t=>by
   show rd 3 (Kd.D::t)=[2]++rd 3 t;rw[i3 (.inl rfl) (.inr rfl) (by intro _ z;cases z)];rfl⟩
 |R=>exact⟨3,[],0,Sh.run (r:=[]) (l:=some .R) (fun _ h=>nomatch h) (fun h=>absurd rfl h),fun t=>by
   show rd 3 (Kd.R::t)=[3]++rd 3 t;rw[i3 (.inl rfl) (.inr rfl) (by intro _ z;cases z)];rfl⟩
 |dot=>exact⟨3,[],0,Sh.run (r:=[]) (l:=some .dot) (fun _ h=>nomatch h) (fun h=>absurd rfl h),fun t=>by
   show rd 3 (Kd.dot::t)=[0]++rd 3 t;rw[i3 (.inl rfl) (.inr rfl) (by intro _ z;cases z)];rfl⟩
 |three=>exact⟨3,[],0,Sh.run (r:=[]) (l:=some .three) (fun _ h=>nomatch h) (fun h=>absurd rfl h),fun t=>by
   show rd 3 (Kd.three::t)=[0]++rd 3 t;rw[i3 (.inl rfl) (.inr rfl) (by intro _ z;cases z)];rfl⟩
 |two=>exact⟨2,[],0,Sh.two (l:=some .two) (by simp),fun t=>by
   show rd 3 (Kd.two::t)=[0]++rd 2 t;rw[i3 (.inl rfl) (.inr rfl) (by intro _ z;cases z)];rfl⟩
 |s =>
  have hr:cY [Kd.s]:=fun x hx=>by rw[mem_singleton.mp hx];rfl
  exact⟨3,[.s],1,Sh.run (r:=[.s]) (l:=some .s) hr (fun _=>rfl),fun t=>si (b:=1) (Bj hr t) (Nat.zero_le _)⟩
 |d =>
  have hr:cY [Kd.d]:=fun x hx=>by rw[mem_singleton.mp hx];rfl
  exact⟨3,[.d],1,Sh.run (r:=[.d]) (l:=some .d) hr (fun _=>rfl),fun t=>si (b:=1) (Bj hr t) (Nat.zero_le _)⟩
 |r =>
  have hr:cY [Kd.r]:=fun x hx=>by rw[mem_singleton.mp hx];rfl
  exact⟨3,[.r],1,Sh.run (r:=[.r]) (l:=some .r) hr (fun _=>rfl),fun t=>si (b:=1) (Bj hr t) (Nat.zero_le _)⟩
theorem Ks (l:Option Kd)(k:Kd):BS ⟨2,[],false,false,0,l⟩ 2 [] 0 k (iW ⟨2,[],false,false,0,l⟩ k):=by
 have one:∀ k t,k≠.G->rd 2 (k::t)=pw k (nm 2 k)::rd (nm 2 k) t:=fun k t hG=>by
  rw[i3 (.inr rfl) (.inl rfl) (fun z=>nomatch z)];unfold bw;rw[if_neg (fun z=>hG z.2.1)]
 cases k with
 |G=>exact⟨2,[.G],0,Sh.Us,fun t=>rfl⟩
 |three=>exact⟨3,[],0,Sh.run (r:=[]) (l:=some .three) (fun _ h=>nomatch h) (fun h=>absurd rfl h),fun t=>one .three t (by simp)⟩
 |two=>exact⟨2,[],0,Sh.two (l:=some .two) (by simp),fun t=>one .two t (by simp)⟩
 |dot=>exact⟨2,[],0,Sh.two (l:=some .dot) (by simp),fun t=>one .dot t (by simp)⟩
 |D=>exact⟨2,[],0,Sh.two (l:=some .D) (by simp),fun t=>one .D t (by simp)⟩
 |R=>exact⟨2,[],0,Sh.two (l:=some .R) (by simp),fun t=>one .R t (by simp)⟩
 |s=>exact⟨2,[],0,Sh.two (l:=some .s) (by simp),fun t=>one .s t (by simp)⟩
 |d=>exact⟨2,[],0,Sh.two (l:=some .d) (by simp),fun t=>one .d t (by simp)⟩
 |r=>exact⟨2,[],0,Sh.two (l:=some .r) (by simp),fun t=>one .r t (by simp)⟩
theorem f7 {e:Ea}{m m1:Int}{P:List Kd}{T:Nat}{k:Kd}{e1:Ea}{out:List Int}(h:ax e (some k)=(e1,out))(hn:BS e1 m1 [] 0 k (iW e1 k))(hq:∀ t,(rd m (P++k::t)).drop T=out++rd m1 (k::t)):BS e m P T k (cM e k):=by
 obtain⟨m',P',T',s,q⟩:=hn;unfold cM;rw[h];refine⟨m',P',T',s,fun t=>?_⟩;rw[hq t,List.append_assoc]
 congr 1
 exact q t
theorem z6 {k:Kd}(h:k.great=true):k.small=false:=by cases k <;> first|rfl|cases h
theorem vN {k:Kd}{t:List Kd}(h:k.small=false):Cut (k::t):=fun c u e=>by cases e;exact h
theorem z7 {r:List Kd}{k:Kd}(hr:cY r)(hk:k.small=true):cY (r++[k]):=fun x hx=>by
 rcases mem_append.mp hx with z|z
 ·exact hr x z
 ·rw[mem_singleton.mp z];exact hk
theorem NH (n:Nat):ones n++[1]=ones (n+1):=by
 unfold ones;rw[List.replicate_succ']
theorem IA {k:Kd}(h:k.small=true)(m:Int):pw k m=1:=by cases k <;> first|rfl|cases h
theorem BV {k:Kd}(h:k.small=true):k≠.G:=fun z=>by rw[z]at h;cases h
theorem Qk {r:List Kd}{l:Option Kd}(hr:cY r)(hl:r≠[]->l=r.getLast?)(k:Kd):BS ⟨3,jX r,false,false,r.length,l⟩ 3 r (cb r) k (cM ⟨3,jX r,false,false,r.length,l⟩ k):=by
 have BW:r.length % 3=2->l=r.getLast?:=fun h=>hl (fun e=>by rw[e]at h;cases h)
 by_cases hk:k.small=true
 ·have h1:ax ⟨3,jX r,false,false,r.length,l⟩ (some k)=(⟨3,[],false,false,r.length,l⟩,jX r):=by
   unfold ax aO;have:j6 (some k)=true:=hk;simp[this]
  have h2:iW ⟨3,[],false,false,r.length,l⟩ k=(⟨3,jX (r++[k]),false,false,(r++[k]).length,some k⟩,if hang (r++[k])=true then [] else [1]):=by
   unfold iW qM hangs jX hang;rw[qK hk,IA hk,length_append];simp[hk,BV hk]
   by_cases e:k=.s <;> by_cases c:(r.length+1) % 3=2 <;> simp[e,c]
  unfold cM;rw[h1];dsimp only;rw[h2];have hr':=z7 hr hk;refine⟨3,r++[k],cb (r++[k]),Sh.run hr' (fun _=>by simp),fun t=>?_⟩;rw[show r++k::t=(r++[k])++t by simp,si (Bj hr' t) F7]
  congr 1
  unfold jX;have e:cb (r++[k])=r.length+1-(if hang (r++[k])=true then 1 else 0):=by unfold cb;rw[length_append];rfl
  have e2:cb r=r.length-(if hang r=true then 1 else 0):=rfl;have hz:hang r=true->0<r.length:=fun h=>by
   unfold hang at h;have:=of_decide_eq_true (Bool.and_eq_true_iff.mp h).1;omega
  by_cases a:hang r=true <;> by_cases b:hang (r++[k])=true
  ·exfalso
   unfold hang at a b;have h1:=of_decide_eq_true (Bool.and_eq_true_iff.mp a).1;have h2:=of_decide_eq_true (Bool.and_eq_true_iff.mp b).1;rw[length_append]at h2;simp at h2;omega
  ·have:=hz a;rw[if_pos a]at e2;rw[if_neg b]at e;rw[if_pos a,show cb (r++[k])-cb r=2 by omega];show ones 2=[1]++(if hang (r++[k])=true then [] else [1]);rw[if_neg b];rfl
  ·rw[if_neg a]at e2;rw[if_pos b]at e;rw[if_neg a,show cb (r++[k])-cb r=0 by omega];show ones 0=[]++(if hang (r++[k])=true then [] else [1]);rw[if_pos b];rfl
  ·rw[if_neg a]at e2;rw[if_neg b]at e;rw[if_neg a,show cb (r++[k])-cb r=1 by omega];show ones 1=[]++(if hang (r++[k])=true then [] else [1]);rw[if_neg b];rfl
 ·have hk':k.small=false:=Bool.eq_false_iff.mpr hk;have hsm:j6 (some k)=false:=hk'
  by_cases hd:r.length % 3=2/\l=some .s/\k.great=true
  ·obtain⟨c2,hs,hg⟩:=hd;have hs':r.getLast? = some .s:=(BW c2) ▸ hs;have hh:hang r=true:=by unfold hang;rw[decide_eq_true c2,decide_eq_true hs'];rfl
   have hgo:cX (some k)=true:=hg;refine f7 (m1:=3) (e1:=fg l) (out:=[2]) ?_ (oO l k) fun t=>?_
   ·unfold ax aO ba jX;simp[hsm,c2,hs,hgo,hh,dM,fg]
   ·rw[Iz hr (vN hk') (by omega)];have eD:bK r (k::t)=ones (r.length-1)++[2]:=by
     unfold bK;rw[if_pos ⟨c2,by unfold dbl;rw[decide_eq_true hs'];exact(Bool.and_eq_true_iff.mpr ⟨hg,rfl⟩)⟩]
    rw[eD,if_neg (fun z=>by omega)];have eT:cb r=(ones (r.length-1)).length:=by unfold cb;rw[if_pos hh,aM]
    rw[eT,List.append_assoc,List.drop_left]
  ·by_cases hG:r.length % 3=1/\k=.G
   ·obtain⟨c1,rfl⟩:=hG;have hh:hang r=false:=by unfold hang;rw[decide_eq_false (by omega)];rfl
    have h1:ax ⟨3,jX r,false,false,r.length,l⟩ (some .G)=(⟨3,[],false,true,0,l⟩,[]):=by
     unfold ax aO ba jX;simp[j6,Kd.small,c1,hh]
    unfold cM;rw[h1];refine⟨3,r++[Kd.G],r.length,Sh.right hr c1,fun t=>?_⟩;have eT:cb r=r.length:=by unfold cb;rw[hh];rfl
    rw[eT,show r++Kd.G::t=(r++[Kd.G])++t by simp];rfl
   ·refine f7 (m1:=3) (e1:=fg l) (out:=jX r) ?_ (oO l k) fun t=>?_
    ·have Ya:¬(r.length % 3=2/\l=some .s/\cX (some k)=true):=hd;have hG':¬(r.length % 3=1/\some k=some Kd.G):=fun z=>hG ⟨z.1,Option.some.inj z.2⟩;unfold ax aO ba;simp only [hsm,Bool.false_eq_true,if_false,Ya,hG',false_and,and_false,show ¬((3:Int)=2) by omega];rfl
    ·by_cases h0:0<r.length
     ·rw[Iz hr (vN hk') h0,if_neg (fun z=>by
       have h2:decide ((k::t:List Kd)[0]? = some .G)=true:=(Bool.and_eq_true_iff.mp z.2).1;exact hG ⟨z.1,by simpa using h2⟩)]
      have eD:bK r (k::t)=ones r.length:=by
       unfold bK;rw[if_neg (fun z=>by
        obtain⟨z1,z2⟩:=z;unfold dbl at z2;obtain⟨z3,z4⟩:=Bool.and_eq_true_iff.mp z2;exact hd ⟨z1,(BW z1).trans (of_decide_eq_true z4),z3⟩)]
      rw[eD];unfold cb jX
      by_cases a:hang r=true
      ·rw[if_pos a,if_pos a];rw[List.drop_append_of_le_length (by rw[aM];omega)]
       congr 1
       unfold ones;rw[List.drop_replicate,show r.length-(r.length-1)=1 by omega];rfl
      ·rw[if_neg a,if_neg a,Nat.sub_zero];have:=List.drop_left (l₁:=ones r.length) (l₂:=rd 3 (k::t));rw[aM]at this;exact this
     ·have:r=[]:=List.length_eq_zero_iff.mp (by omega);subst this;rfl
theorem Ut {r:List Kd}(h:r≠[]):(Kd.G::r).getLast? = r.getLast?:=by
 cases r with
 |nil=>exact absurd rfl h
 |cons a t=>simp[List.getLast?_cons]
theorem NI {r:List Kd}(hr:cY r)(k:Kd):BS ⟨3,3::ones r.length,true,false,r.length,(Kd.G::r).getLast?⟩ 3 (.G::r) 0 k (cM ⟨3,3::ones r.length,true,false,r.length,(Kd.G::r).getLast?⟩ k):=by
 have BW:r.length % 3=2->(Kd.G::r).getLast? = r.getLast?:=fun h=>Ut (fun e=>by rw[e]at h;cases h)
 by_cases hk:k.small=true
 ·have h1:ax ⟨3,3::ones r.length,true,false,r.length,(Kd.G::r).getLast?⟩ (some k)=(⟨3,3::ones r.length,true,false,r.length,(Kd.G::r).getLast?⟩,[]):=by
   unfold ax aO;have:j6 (some k)=true:=hk;simp[this]
  have h2:iW ⟨3,3::ones r.length,true,false,r.length,(Kd.G::r).getLast?⟩ k=(⟨3,3::ones (r++[k]).length,true,false,(r++[k]).length,(Kd.G::(r++[k])).getLast?⟩,[]):=by
   unfold iW qM hangs;rw[qK hk,IA hk,length_append];simp[hk,BV hk,NH,List.getLast?_cons]
  unfold cM;rw[h1];dsimp only;rw[h2];refine⟨3,.G::(r++[k]),0,Sh.left (z7 hr hk),fun t=>?_⟩;rw[show(Kd.G::r)++k::t=(Kd.G::(r++[k]))++t by simp];rfl
 ·have hk':k.small=false:=Bool.eq_false_iff.mpr hk;have hsm:j6 (some k)=false:=hk';generalize hL:(Kd.G::r).getLast? = l at *
  by_cases hd:r.length % 3=2/\l=some .s/\k.great=true
  ·obtain⟨c2,hs,hg⟩:=hd;have hs':r.getLast? = some .s:=(BW c2) ▸ hs;have hgo:cX (some k)=true:=hg;refine f7 (m1:=3) (e1:=fg l) (out:=3::(ones (r.length-1)++[2])) ?_ (oO l k) fun t=>?_
   ·have eS:dM (3::ones r.length) 2=3::(ones (r.length-1)++[2]):=by
     unfold dM;rw[length_cons,aM,Nat.add_sub_cancel,<-BQ _ (by omega)];obtain⟨c,hc⟩:∃ c,r.length=c+1:=⟨r.length-1,by omega⟩;rw[hc];rfl
    unfold ax aO ba;simp[hsm,c2,hs,hgo,eS,fg]
   ·rw[BR hr (vN hk') (by omega),if_neg (by omega)];have hdb:dbl r (k::t)=true:=by unfold dbl;rw[decide_eq_true hs'];exact(Bool.and_eq_true_iff.mpr ⟨hg,rfl⟩)
    have eD:bK r (k::t)=ones (r.length-1)++[2]:=by unfold bK;rw[if_pos ⟨c2,hdb⟩]
    rw[eD,if_neg (fun z=>by rw[hdb]at z;cases z.2.1)];rfl
  ·by_cases hG:r.length % 3=2/\k=.G
   ·obtain⟨c2,rfl⟩:=hG;have hns:r.getLast? ≠ some .s:=fun z=>hd ⟨c2,(BW c2).trans z,rfl⟩;have hnl:¬(l=some .s):=fun z=>hns ((BW c2) ▸ z);have h1:ax ⟨3,3::ones r.length,true,false,r.length,l⟩ (some .G)=(⟨3,3::ones r.length,true,true,0,l⟩,[]):=by
     unfold ax aO ba;simp[j6,Kd.small,c2,hnl]
    unfold cM;rw[h1];refine⟨3,Kd.G::r++[Kd.G],0,Sh.both hr c2 hns,fun t=>?_⟩;rw[show Kd.G::r++Kd.G::t=(Kd.G::r++[Kd.G])++t by simp];rfl
   ·have Ya:¬(r.length % 3=2/\l=some .s/\cX (some k)=true):=hd;have hG':¬(r.length % 3=2/\some k=some Kd.G):=fun z=>hG ⟨z.1,Option.some.inj z.2⟩
    by_cases c1:r.length % 3=1
    ·refine f7 (m1:=3) (e1:=fg l) (out:=2::ones r.length) ?_ (oO l k) fun t=>?_
     ·unfold ax aO ba;have n2:¬(r.length % 3=2):=by omega
      simp[hsm,c1,fg]
     ·rw[BR hr (vN hk') (by omega),if_pos c1];rfl
    ·refine f7 (m1:=3) (e1:=fg l) (out:=3::ones r.length) ?_ (oO l k) fun t=>?_
     ·unfold ax aO ba;simp only [hsm,Bool.false_eq_true,if_false,Ya,hG',c1,false_and,true_and,and_false,show ¬((3:Int)=2) by omega];rfl
     ·by_cases h0:0<r.length
      ·rw[BR hr (vN hk') h0,if_neg c1,if_neg (fun z=>by
        have h2:decide ((k::t:List Kd)[0]? = some .G)=true:=(Bool.and_eq_true_iff.mp z.2.2).1;exact hG ⟨z.1,by simpa using h2⟩)]
       have eD:bK r (k::t)=ones r.length:=by
        unfold bK;rw[if_neg (fun z=>by
         obtain⟨z1,z2⟩:=z;unfold dbl at z2;obtain⟨z3,z4⟩:=Bool.and_eq_true_iff.mp z2;exact hd ⟨z1,(BW z1).trans (of_decide_eq_true z4),z3⟩)]
       rw[eD];rfl
      ·have:r=[]:=List.length_eq_zero_iff.mp (by omega);subst this;show rd 3 (.G::k::t)=3::rd 3 (k::t);rw[i3 (.inl rfl) (.inr rfl) (fun _ _=>vN hk')]
       congr 1
theorem vO {k:Kd}{t:List Kd}:oM (.G::k::t) = !k.great:=rfl
theorem Kt {r:List Kd}(hr:cY r)(h1:r.length % 3=1)(k:Kd):BS ⟨3,[3],false,true,0,some .G⟩ 3 (r++[.G]) r.length k (cM ⟨3,[3],false,true,0,some .G⟩ k):=by
 have eD:∀ B,bK r B=ones r.length:=fun B=>by unfold bK;rw[if_neg (fun z=>by omega)]
 have dl:∀ l:List Int,(ones r.length++l).drop r.length=l:=fun l=>by
  have:=List.drop_left (l₁:=ones r.length) (l₂:=l);rw[aM]at this;exact this
 by_cases hg:k.great=true
 ·have hgo:cX (some k)=true:=hg;refine f7 (m1:=3) (e1:=fg (some .G)) (out:=[3]) ?_ (oO _ k) fun t=>?_
  ·unfold ax aO bb;simp[hgo,fg]
  ·rw[show(r++[Kd.G])++k::t=r++(Kd.G::k::t) by simp,Iz hr (vN rfl) (by omega),eD,dl,if_neg (fun z=>by rw[vO,hg]at z;cases z.2),i3 (.inl rfl) (.inr rfl) (fun _ _=>vN (z6 hg))];rfl
 ·have hg':k.great=false:=Bool.eq_false_iff.mpr hg;have hgo:cX (some k)=false:=hg';refine f7 (m1:=3) (e1:=fg (some .G)) (out:=[2]) ?_ (oO _ k) fun t=>?_
  ·unfold ax aO bb;simp[hgo,fg,dM]
  ·rw[show(r++[Kd.G])++k::t=r++(Kd.G::k::t) by simp,Iz hr (vN rfl) (by omega),eD,dl,if_pos ⟨h1,by rw[vO,hg'];rfl⟩];rfl
theorem NJ {r:List Kd}(hr:cY r)(h2:r.length % 3=2)(hs:r.getLast? ≠ some .s)(k:Kd):BS ⟨3,3::ones r.length++[3],true,true,0,some .G⟩ 3 (.G::r++[.G]) 0 k (cM ⟨3,3::ones r.length++[3],true,true,0,some .G⟩ k):=by
 have hdb:∀ B,dbl r B=false:=fun B=>by unfold dbl;rw[decide_eq_false hs,Bool.and_false]
 have eD:∀ B,bK r B=ones r.length:=fun B=>by unfold bK;rw[if_neg (fun z=>by rw[hdb]at z;cases z.2)]
 by_cases hg:k.great=true
 ·have hgo:cX (some k)=true:=hg;refine f7 (m1:=3) (e1:=fg (some .G)) (out:=3::ones r.length++[3]) ?_ (oO _ k) fun t=>?_
  ·unfold ax aO bb;simp[hgo,fg]
  ·rw[show(Kd.G::r++[Kd.G])++k::t=Kd.G::r++(Kd.G::k::t) by simp,BR hr (vN rfl) (by omega),eD,if_neg (by omega),if_neg (fun z=>by rw[vO,hg]at z;cases z.2.2),i3 (.inl rfl) (.inr rfl) (fun _ _=>vN (z6 hg))];simp[bw,pw,nm]
 ·have hg':k.great=false:=Bool.eq_false_iff.mpr hg;have hgo:cX (some k)=false:=hg';refine f7 (m1:=3) (e1:=fg (some .G)) (out:=2::ones r.length++[2]) ?_ (oO _ k) fun t=>?_
  ·have eS:(dM (3::ones r.length++[3]) 2).set 0 2=2::ones r.length++[2]:=by
    unfold dM;have eL:((3:Int)::ones r.length++[3]).length-1=((3:Int)::ones r.length).length:=by simp
    rw[eL,List.set_append_right _ _ (Nat.le_refl _),Nat.sub_self];rfl
   unfold ax aO bb;simp only [hgo,Bool.false_eq_true,if_false,if_true,eS,show ¬((3:Int)=2) by omega];rfl
  ·rw[show(Kd.G::r++[Kd.G])++k::t=Kd.G::r++(Kd.G::k::t) by simp,BR hr (vN rfl) (by omega),if_neg (by omega),if_pos ⟨h2,hdb _,by rw[vO,hg'];rfl⟩];simp
theorem Ql {l:Option Kd}(h:l≠some .G)(k:Kd):BS ⟨2,[],false,false,0,l⟩ 2 [] 0 k (cM ⟨2,[],false,false,0,l⟩ k):=by
 refine f7 (m1:=2) (e1:=⟨2,[],false,false,0,l⟩) (out:=[]) ?_ (Ks l k) fun t=>rfl;unfold ax aO cv;simp[h]
theorem NK (k:Kd):BS ⟨2,[2],false,false,0,some .G⟩ 2 [.G] 0 k (cM ⟨2,[2],false,false,0,some .G⟩ k):=by
 by_cases hk:k=.dot
 ·subst hk;refine f7 (m1:=2) (e1:=⟨2,[],false,false,0,some .G⟩) (out:=[3]) ?_ (Ks _ .dot) fun t=>?_
  ·unfold ax aO cv;simp[dM]
  ·show rd 2 (.G::.dot::t)=_;rw[i3 (.inr rfl) (.inl rfl) (fun z=>nomatch z)];rfl
 ·refine f7 (m1:=2) (e1:=⟨2,[],false,false,0,some .G⟩) (out:=[2]) ?_ (Ks _ k) fun t=>?_
  ·unfold ax aO cv;simp[hk]
  ·show rd 2 (.G::k::t)=_;rw[i3 (.inr rfl) (.inl rfl) (fun z=>nomatch z)];show bw 2 .G (some k)::_=_;unfold bw;rw[if_neg (fun z=>hk (Option.some.inj z.2.2))];rfl
theorem Qm {e:Ea}{m:Int}{P:List Kd}{T:Nat}(h:Sh e m P T)(k:Kd):BS e m P T k (cM e k):=by
 cases h with
 |two h=>exact Ql h k
 |Us=>exact NK k
 |run hr hl=>exact Qk hr hl k
 |left hr=>exact NI hr k
 |right hr h1=>exact Kt hr h1 k
 |both hr h2 hs=>exact NJ hr h2 hs k
theorem NL {r:List Kd}{l:Option Kd}(hr:cY r):oN ⟨3,jX r,false,false,r.length,l⟩=(rd 3 r).drop (cb r):=by
 have hc:oN ⟨3,jX r,false,false,r.length,l⟩=jX r:=by
  unfold oN ax aO ba;simp[j6,cX]
 rw[hc]
 by_cases h0:0<r.length
 ·have e:=Iz hr (fun k t e=>by cases e) h0 (B:=[]);rw[append_nil]at e;have e2:bK r []=ones r.length:=by unfold bK;rw[if_neg (by rintro⟨_,z⟩;cases z)]
  rw[e,e2,if_neg (by rintro⟨_,z⟩;cases z),BU,append_nil];unfold cb jX ones;rw[List.drop_replicate]
  by_cases a:hang r=true
  ·rw[if_pos a,if_pos a,show r.length-(r.length-1)=1 by omega];rfl
  ·rw[if_neg a,if_neg a,Nat.sub_zero,Nat.sub_self];rfl
 ·have:r=[]:=List.length_eq_zero_iff.mp (by omega);subst this;rfl
theorem NM {e:Ea}{m:Int}{P:List Kd}{T:Nat}(h:Sh e m P T):oN e=(rd m P).drop T:=by
 cases h with
 | @two l h =>
  unfold oN ax aO cv;simp[BU]
 |Us =>
  show _=rd 2 [.G];rw[i3 (.inr rfl) (.inl rfl) (fun z=>nomatch z)];rfl
 |run hr hl =>
  rename_i l
  exact NL hr
 | @left r hr =>
  have hN:Cut ([]:List Kd):=fun k t e=>by cases e
  by_cases h0:0<r.length
  ·have e:=BR hr hN h0;rw[append_nil]at e;have e2:bK r []=ones r.length:=by unfold bK;rw[if_neg (by rintro⟨_,z⟩;cases z)]
   rw[e,e2,BU,append_nil]
   by_cases c1:r.length % 3=1
   ·rw[if_pos c1];unfold oN ax aO ba;simp[j6,cX,c1]
   ·rw[if_neg c1,if_neg (fun z=>by cases z.2.2)];unfold oN ax aO ba;simp[j6,cX,c1]
  ·have:r=[]:=List.length_eq_zero_iff.mp (by omega);subst this;show _=rd 3 [.G];rw[i3 (.inl rfl) (.inr rfl) (fun _ _=>hN)];rfl
 | @right r hr h1 =>
  have e:=Iz hr (vN rfl) (by omega) (B:=[.G]);have e2:bK r [.G]=ones r.length:=by unfold bK;rw[if_neg (by rintro⟨z,_⟩;omega)]
  rw[e,e2,if_pos ⟨h1,rfl⟩];have:=List.drop_left (l₁:=ones r.length) (l₂:=2::rd 3 []);rw[aM]at this;rw[show([Kd.G]:List Kd).tail=[] from rfl,this];rfl
 | @both r hr h2 hs =>
  have e:=BR hr (vN rfl) (by omega) (B:=[.G]);have hdb:dbl r [.G]=false:=by unfold dbl;rw[decide_eq_false hs,Bool.and_false]
  rw[e,if_neg (by omega),if_pos ⟨h2,hdb,rfl⟩];have eS:(dM (3::ones r.length++[3]) 2).set 0 2=2::ones r.length++[2]:=by
   unfold dM;have eL:((3:Int)::ones r.length++[3]).length-1=((3:Int)::ones r.length).length:=by simp
   rw[eL,List.set_append_right _ _ (Nat.le_refl _),Nat.sub_self];rfl
  unfold oN ax aO bb;simp only [cX,Bool.false_eq_true,if_false,if_true,eS,show ¬((3:Int)=2) by omega];show _=2::(ones r.length++2::rd 3 []);rw[BU];simp
def Ku (e:Ea):List Kd->List Int
 |[]=>oN e
 |k::t=>(cM e k).2++Ku (cM e k).1 t
theorem RO {e:Ea}{m:Int}{P:List Kd}{T:Nat}(h:Sh e m P T)(ks:List Kd):Ku e ks=(rd m (P++ks)).drop T:=by
 induction ks generalizing e m P T with
 |nil=>rw[append_nil];exact NM h
 |cons k t ih =>
  obtain⟨m',P',T',s,q⟩:=Qm h k;rw[q t,<-ih s];rfl
theorem Fl {m:Int}(h:Ms m)(ks:List Kd):Ku (Fj m) ks=(bJ m ks).1:=RO (RN h) ks
set_option maxHeartbeats 1000000
def cur (m:Int)(ks:List Kd):Int:=ks.foldl nm m
theorem MR (m:Int)(A B:List Kd):gR m (A++B)=gR m A++gR (cur m A) B:=by
 induction A generalizing m with
 |nil=>rfl
 |cons k t ih=>simp only [List.cons_append,gR,ih];rfl
theorem Qn (m:Int)(A:List Kd)(p:Kd)(B:List Kd)(hp:p.parting=true):aS m (A++p::B)=aS m (A++[p])++aS (cur m (A++[p])) B:=by
 induction A generalizing m with
 |nil =>
  show bw (nm m p) p B.head? :: aS (nm m p) B=bw (nm m p) p none::aS (nm m p) B
  congr 1
  unfold bw;rw[if_neg (by rintro⟨_,z,_⟩;rw[z]at hp;cases hp),if_neg (by rintro⟨_,z,_⟩;rw[z]at hp;cases hp)]
 |cons k t ih =>
  simp only [List.cons_append,aS,ih]
  congr 1
  cases t <;> rfl
theorem qN:∀(bs:List Bool)(n a f:Nat),aX (a+n) (f+n) bs=(aX a f bs).map (fun q=>(q.1+n,q.2+n))
 |[],n,a,f=>by
  unfold aX
  by_cases h:f<a
  ·rw[if_pos h,if_pos (by omega)];rfl
  ·rw[if_neg h,if_neg (by omega)];rfl
 |true::t,n,a,f=>by
  have:=qN t n (a+1) f;simp only [aX];rw[<-this]
  congr 1
  omega
 |false::t,n,a,f=>by
  have:=qN t n (a+1) (a+1);simp only [aX,map_append];rw[<-this]
  congr 1
  ·by_cases h:f<a
   ·rw[if_pos h,if_pos (by omega)];rfl
   ·rw[if_neg h,if_neg (by omega)];rfl
  ·congr 1 <;> omega
theorem xH:∀(bs cs:List Bool)(a f:Nat),aX a f (bs++false::cs)=aX a f (bs++[false])++aX (a+bs.length+1) (a+bs.length+1) cs
 |[],cs,a,f=>by
  simp only [nil_append,aX,List.length_nil,Nat.add_zero,List.append_assoc]
  congr 1
  rw[if_neg (Nat.lt_irrefl _)];rfl
 |true::t,cs,a,f=>by
  simp only [List.cons_append,aX,length_cons];rw[xH t cs (a+1) f]
  congr 2 <;> omega
 |false::t,cs,a,f=>by
  simp only [List.cons_append,aX,length_cons,List.append_assoc];rw[xH t cs (a+1) (a+1)]
  congr 3 <;> omega
theorem Qo {p:Kd}(hp:p.parting=true)(m:Int):inR m p=false:=by
 unfold inR;cases p <;> first|(cases hp;done)|simp[Kd.small]
theorem IB (m:Int)(A:List Kd){p:Kd}(hp:p.parting=true):gR m (A++[p])=gR m A++[false]:=by
 rw[MR]
 congr 1
 show [inR _ p]=[false];rw[Qo hp]
theorem Qp (m:Int)(A:List Kd){p:Kd}(hp:p.parting=true)(B:List Kd):bI m (A++[p]++B)=bI m (A++[p])++(bI (cur m (A++[p])) B).map (fun q=>(q.1+(A.length+1),q.2+(A.length+1))):=by
 unfold bI;rw[MR,IB m A hp,List.append_assoc,List.singleton_append,xH,qC,<-qN]
 congr 2 <;> omega
theorem tP:∀(bs:List Bool)(a f:Nat),f<=a->∀ q∈aX a f (bs++[false]),q.2<=a+bs.length
 |[],a,f,h,q,hq=>by
  simp only [nil_append,aX]at hq;rw[if_neg (Nat.lt_irrefl _),append_nil]at hq;split at hq
  ·have:q=(f,a):=by simpa using hq
   rw[this];simp
  ·cases hq
 |true::t,a,f,h,q,hq=>by
  have:=tP t (a+1) f (by omega) q hq;simp only [length_cons];omega
 |false::t,a,f,h,q,hq=>by
  simp only [List.cons_append,aX]at hq;rcases mem_append.mp hq with z|z
  ·split at z
   ·have:q=(f,a):=by simpa using z
    rw[this];simp
   ·cases z
  ·have:=tP t (a+1) (a+1) (Nat.le_refl _) q z;simp only [length_cons];omega
theorem NN (m:Int)(A:List Kd){p:Kd}(hp:p.parting=true):∀ q∈bI m (A++[p]),q.1<q.2/\q.2<=A.length:=by
 intro q hq;have h1:=dP m (A++[p]) q hq;unfold bI at hq;rw[IB m A hp]at hq;have h2:=tP (gR m A) 0 0 (Nat.le_refl _) q hq;rw[qC]at h2;omega
theorem IC (A:List Kd){p:Kd}(hp:p.parting=true)(B:List Kd)(f g:List Int)(hf:f.length=A.length+1){a z:Nat}(Te:a<z)(hz:z<=A.length) :
  settle (A++[p]++B) (f++g) a z=((settle (A++[p]) f a z).1,(settle (A++[p]) f a z).2++g):=by
 have ix:∀ j,j<A.length+1->(A++[p]++B)[j]? = (A++[p])[j]?:=fun j hj=>getElem?_append_left (by simp;omega);have hl:cI (A++[p]++B) (f++g) a=cI (A++[p]) f a:=by
  unfold cI Bg;split
  ·rename_i h0
   rw[ix _ (by omega)]
   congr 2
   rw[List.getD_eq_getElem?_getD,List.getD_eq_getElem?_getD,getElem?_append_left (by omega)]
  ·rfl
 have hpz:(A++[p])[A.length]? = some p:=by simp
 have hr:cD (A++[p]++B) z=cD (A++[p]) z:=by
  unfold cD;rw[ix z (by omega)]
  by_cases e:z=A.length
  ·subst e;rw[hpz];have:decide (some p=some Kd.G)=false:=decide_eq_false fun e=>by cases e;cases hp
   rw[this];rfl
  ·rw[ix (z+1) (by omega)]
 have st:∀{j},j<f.length->(f++g).set j 2=f.set j 2++g:=fun hj=>List.set_append_left _ _ hj;unfold settle jL jM;rw[hl,hr,ix z (by omega),ix (z-1) (by omega)];have hlp:cI (A++[p]) f a=true->a-1<f.length:=fun h=>by have:=nS h;simp at this;omega
 have Y1:cD (A++[p]) z=true->z<f.length:=fun h=>by have:=tJ h;simp at this;omega
 split
 ·split
  ·rename_i h;rw[st (hlp h)]
  ·split
   ·rename_i h;rw[st (Y1 h)]
   ·rfl
 ·split
  ·split
   ·rw[st (by omega)]
   ·split
    ·rename_i h
     obtain⟨h1,h2⟩:=Bool.and_eq_true_iff.mp h;rw[st (hlp h1),List.set_append_left _ _ (by rw[List.length_set];exact Y1 h2)]
    ·rfl
  ·rfl
theorem Ga (A:List Kd){p:Kd}(hp:p.parting=true)(B:List Kd)(f g:List Int)(hf:f.length=A.length+1)(hg:g.length=B.length){a z:Nat}(Te:a<z)(hz:z<=B.length) :
  settle (A++[p]++B) (f++g) (a+(A.length+1)) (z+(A.length+1))=((settle B g a z).1,f++(settle B g a z).2):=by
 have al:(A++[p]).length=A.length+1:=by simp
 have ix:∀ j,(A++[p]++B)[j+(A.length+1)]? = B[j]?:=fun j=>by
  rw[getElem?_append_right (by omega)]
  congr 1
  omega
 have hl:cI (A++[p]++B) (f++g) (a+(A.length+1))=cI B g a:=by
  unfold cI Bg
  by_cases h0:a=0
  ·subst h0;rw[if_pos (by omega),if_neg (by omega)];have e1:(((0+(A.length+1):Nat):Int)-1).toNat=A.length:=by omega
   rw[e1,List.append_assoc,getElem?_append_right (Nat.le_refl _)];simp only [Nat.sub_self,List.singleton_append,List.getElem?_cons_zero];have:decide (some p=some Kd.G)=false:=decide_eq_false fun e=>by cases e;cases hp
   rw[this];rfl
  ·rw[if_pos (by omega),if_pos (by omega)];have e1:(((a+(A.length+1):Nat):Int)-1).toNat=(a-1)+(A.length+1):=by omega
   have e2:(((a:Nat):Int)-1).toNat=a-1:=by omega
   rw[e1,e2,ix]
   congr 2
   rw[List.getD_eq_getElem?_getD,List.getD_eq_getElem?_getD,getElem?_append_right (by omega)];have e3:a+(A.length+1)-1-f.length=a-1:=by omega
   rw[e3]
 have hr:cD (A++[p]++B) (z+(A.length+1))=cD B z:=by
  unfold cD;have e:z+(A.length+1)+1=(z+1)+(A.length+1):=by omega
  rw[ix,e,ix]
 have st:∀(h:List Int)(j:Nat),(f++h).set (j+(A.length+1)) 2=f++h.set j 2:=fun h j=>by
  rw[List.set_append_right _ _ (by omega)]
  congr 2
  omega
 have ed:z+(A.length+1)-(a+(A.length+1))=z-a:=by omega
 have ez:z+(A.length+1)-1=(z-1)+(A.length+1):=by omega
 unfold settle jL jM;rw[hl,hr,ed,ez,ix,ix];have hlp:cI B g a=true->a+(A.length+1)-1=(a-1)+(A.length+1):=fun h=>by have:=nS h;omega
 split
 ·split
  ·rename_i h;rw[hlp h,st]
  ·split
   ·rw[st]
   ·rfl
 ·split
  ·split
   ·rw[st]
   ·split
    ·rename_i h
     obtain⟨h1,h2⟩:=Bool.and_eq_true_iff.mp h;rw[hlp h1,st,st]
    ·rfl
  ·rfl
theorem Fm (A:List Kd){p:Kd}(hp:p.parting=true)(B:List Kd)(g:List Int):∀(rs:List (Nat×Nat)) (f:List Int) (lo lo':List (Nat×Nat)),f.length=A.length+1->(∀ q∈rs,q.1<q.2/\q.2<=A.length) ->
  (rs.foldl (i0 (A++[p]++B)) (f++g,lo)).1=(rs.foldl (i0 (A++[p])) (f,lo')).1++g
 |[],_,_,_,_,_=>rfl
 |r::t,f,lo,lo',hf,h=>by
  have hr:=h r mem_cons_self;rw[List.foldl_cons,List.foldl_cons];unfold i0;dsimp only;rw[IC A hp B f g hf hr.1 hr.2];exact Fm A hp B g t _ _ _ (by rw[lJ];exact hf) fun q hq=>h q (mem_cons_of_mem _ hq)
theorem BX (A:List Kd){p:Kd}(hp:p.parting=true)(B:List Kd)(f:List Int)(hf:f.length=A.length+1):∀(rs:List (Nat×Nat)) (g:List Int) (lo lo':List (Nat×Nat)),g.length=B.length->(∀ q∈rs,q.1<q.2/\q.2<=B.length) ->
  ((rs.map (fun q=>(q.1+(A.length+1),q.2+(A.length+1)))).foldl (i0 (A++[p]++B)) (f++g,lo)).1=f++(rs.foldl (i0 B) (g,lo')).1
 |[],_,_,_,_,_=>rfl
 |r::t,g,lo,lo',hg,h=>by
  have hr:=h r mem_cons_self;rw[map_cons,List.foldl_cons,List.foldl_cons];unfold i0;dsimp only;rw[Ga A hp B f g hf hg hr.1 hr.2];exact BX A hp B f hf t _ _ _ (by rw[lJ];exact hg) fun q hq=>h q (mem_cons_of_mem _ hq)
theorem NO (m:Int)(A:List Kd){p:Kd}(hp:p.parting=true)(B:List Kd):(bJ m (A++[p]++B)).1=(bJ m (A++[p])).1++(bJ (cur m (A++[p])) B).1:=by
 unfold bJ;rw[Qp m A hp B,List.foldl_append];have hb:aS m (A++[p]++B)=aS m (A++[p])++aS (cur m (A++[p])) B:=by
  rw[List.append_assoc,List.singleton_append];exact Qn m A p B hp
 have Y2:(aS m (A++[p])).length=A.length+1:=by rw[eC];simp
 have h1:=Fm A hp B (aS (cur m (A++[p])) B) (bI m (A++[p])) (aS m (A++[p])) [] [] Y2 (NN m A hp);rw[hb];generalize hX:(bI m (A++[p])).foldl (i0 (A++[p]++B)) (aS m (A++[p])++aS (cur m (A++[p])) B,[])=X at h1;obtain⟨x1,x2⟩:=X;dsimp only at h1;subst h1;exact BX A hp B _ (by rw[Im];exact Y2) _ _ _ _ (eC ..) (dP _ B)
set_option maxHeartbeats 1000000
def Tf (e:Ea):List Kd->Ea
 |[]=>e
 |k::t=>Tf (cM e k).1 t
def NP (e:Ea):List Kd->List Int
 |[]=>[]
 |k::t=>(cM e k).2++NP (cM e k).1 t
theorem BY:∀(A:List Kd)(e:Ea)(B:List Kd),Ku e (A++B)=NP e A++Ku (Tf e A) B
 |[],_,_=>rfl
 |k::A,e,B=>by
  show(cM e k).2++Ku (cM e k).1 (A++B)=((cM e k).2++NP (cM e k).1 A)++Ku (Tf (cM e k).1 A) B;rw[BY A,List.append_assoc]
theorem ID:∀(A:List Kd)(e:Ea)(k:Kd),Tf e (A++[k])=(cM (Tf e A) k).1
 |[],_,_=>rfl
 |a::A,e,k=>ID A (cM e a).1 k
theorem IE (l:List Int)(v:Int):(dM l v).length=l.length:=by unfold dM;rw[List.length_set]
theorem Aa (e:Ea)(k:Option Kd):(aO e k).held.length=e.held.length:=by
 unfold aO cv bb ba
 repeat' split
 all_goals first|rfl|(simp only [IE,List.length_set])
theorem Qq (e:Ea)(k:Kd):(cM e k).2.length+(cM e k).1.held.length=e.held.length+1:=by
 have h1:(ax e (some k)).2.length+(ax e (some k)).1.held.length=e.held.length:=by
  unfold ax;split
  ·show 0+_=_;rw[Aa];omega
  ·show(aO e (some k)).held.length+0=_;rw[Aa];rfl
 have h2:∀ e':Ea,(iW e' k).2.length+(iW e' k).1.held.length=e'.held.length+1:=fun e'=>by
  unfold iW;split
  ·show 0+(e'.held++[_]).length=_;rw[length_append];simp
  ·show(e'.held++[_]).length+0=_;rw[length_append];rfl
 show((ax e (some k)).2++(iW (ax e (some k)).1 k).2).length+(iW (ax e (some k)).1 k).1.held.length=_;rw[length_append];have:=h2 (ax e (some k)).1;omega
theorem MS:∀(A:List Kd)(e:Ea),(NP e A).length+(Tf e A).held.length=e.held.length+A.length
 |[],e=>by show 0+e.held.length=_;simp
 |k::A,e=>by
  show((cM e k).2++NP (cM e k).1 A).length+(Tf (cM e k).1 A).held.length=_;have h1:=Qq e k;have h2:=MS A (cM e k).1;rw[length_append,length_cons];omega
structure Bd (e:Ea)(n b1 b2:Nat):Prop where
 Yb:b2<=b1
 Yc:b1<n\/(n=0/\b1=0)
 ms:Ms e.m
 two:e.m=2->e.left=false/\e.right=false
 no:e.left=false->e.held.length<=1/\e.held.length<=n
 one:e.left=true->e.right=false->e.held.length+b1<=n
 both:e.left=true->e.right=true->e.held.length+b2<=n
theorem Bd.end {e:Ea}{n b1 b2:Nat}(h:Bd e n b1 b2):e.held.length+b2<=n:=by
 have h1:=h.Yb;have h2:=h.Yc;cases hl:e.left with
 |false=>have:=h.no hl;omega
 |true =>
  cases hr:e.right with
  |false=>have:=h.one hl hr;omega
  |true=>exact h.both hl hr
theorem Bd.tail {e:Ea}{n RP Uu:Nat}{k:Kd}(h21:Uu<=RP)(h1n:RP<=n)(ms:Ms e.m)(two:nm e.m k=2->e.left=false/\e.right=false)
  (no:e.left=false->e.held=[]) (one:e.left=true->e.right=false->k.small=true/\e.held.length+RP<=n) (both:e.left=true->e.right=true->e.held.length+Uu<=n) (hk:k=.G->RP=n):Bd (iW e k).1 (n+1) RP Uu:=by
 have cut:∀{e':Ea},Bd e' (n+1) RP Uu->Bd { e' with held:=[] } (n+1) RP Uu:=fun {e'} b=>⟨b.Yb,b.Yc,b.ms,b.two,fun _=>⟨Nat.zero_le _,Nat.zero_le _⟩,fun _ _=>by show 0+RP<=n+1;omega,fun _ _=>by show 0+Uu<=n+1;omega⟩;have B:Bd (qM { e with m:=nm e.m k } k) (n+1) RP Uu:=by
  have hl:(qM { e with m:=nm e.m k } k).held.length=e.held.length+1:=by show(e.held++[_]).length=_;rw[length_append];rfl
  have hL:(qM { e with m:=nm e.m k } k).left=if nm e.m k=3/\k=.G/\e.right=false then true else e.left:=rfl;have hR:(qM { e with m:=nm e.m k } k).right=e.right:=rfl;have hM:(qM { e with m:=nm e.m k } k).m=nm e.m k:=rfl;refine⟨h21,.inl (by omega),hM ▸ ms.nm k,fun z=>?_,fun z=>?_,fun z y=>?_,fun z y=>?_⟩
  ·rw[hM]at z;rw[hL,hR,if_neg (fun q=>by rw[z]at q;exact absurd q.1 (by decide))];exact two z
  ·rw[hL]at z;rw[hl]
   by_cases q:nm e.m k=3/\k=.G/\e.right=false
   ·rw[if_pos q]at z;cases z
   ·rw[if_neg q]at z;rw[no z];exact⟨Nat.le_refl _,by show 0+1<=n+1;omega⟩
  ·rw[hR]at y;rw[hL]at z;rw[hl];cases hle:e.left with
   |false =>
    rw[no hle]
    by_cases q:nm e.m k=3/\k=.G/\e.right=false
    ·rw[hk q.2.1];show 0+1+n<=n+1;omega
    ·rw[if_neg q,hle]at z;cases z
   |true=>have:=one hle y;omega
  ·rw[hR]at y;rw[hL,if_neg (fun q=>by rw[q.2.2]at y;cases y)]at z;rw[hl];have:=both z y;omega
 unfold iW;split
 ·exact B
 ·exact cut B
theorem Yd {k:Kd}(h:k.small=true)(m:Int):nm m k=m:=qK h m
theorem Bd.step {e:Ea}{n b1 b2:Nat}(h:Bd e n b1 b2)(k:Kd):Bd (cM e k).1 (n+1) (if k.small=true then b1 else n) (if k.small=true then b2 else b1):=by
 show Bd (iW (ax e (some k)).1 k).1 (n+1) _ _;have h21:=h.Yb;have h1n:=h.Yc;have Ye:(if k.small=true then b2 else b1)<=(if k.small=true then b1 else n):=by split <;> omega
 have Yf:(if k.small=true then b1 else n)<=n:=by split <;> omega
 have hG:k=.G->(if k.small=true then b1 else n)=n:=fun z=>by rw[z];rfl
 have clear:∀{e1:Ea} ,Ms e1.m->e1.held=[]->e1.left=false->(nm e1.m k=2->e1.right=false)->Bd (iW e1 k).1 (n+1) (if k.small=true then b1 else n) (if k.small=true then b2 else b1):=fun {e1} m0 h0 hl hr=>Bd.tail Ye Yf m0 (fun z=>⟨hl,hr z⟩) (fun _=>h0) (fun z=>by rw[hl]at z;cases z) (fun z=>by rw[hl]at z;cases z) hG;unfold ax;rcases h.ms with hm|hm
 ·by_cases hr:e.right=true
  ·have e1:aO e (some k)=bb e (some k):=by unfold aO;rw[if_neg (by rw[hm];decide),if_pos hr]
   rw[e1];have l0:(bb e (some k)).left=false:=by unfold bb;split <;> rfl
   have r0:(bb e (some k)).right=false:=by unfold bb;split <;> rfl
   have m0:(bb e (some k)).m=e.m:=by unfold bb;split <;> rfl
   rw[if_neg (by rw[l0];decide)];exact clear (by show Ms (bb e (some k)).m;rw[m0];exact h.ms) rfl l0 fun _=>r0
  ·have hr':e.right=false:=by cases q:e.right with
    |false=>rfl
    |true=>exact absurd q hr
   by_cases hs:k.small=true
   ·have e1:aO e (some k)=e:=by unfold aO;rw[if_neg (by rw[hm];decide),if_neg hr,if_pos (show j6 (some k)=true from hs)]
    rw[e1];cases hl:e.left with
    |false =>
     rw[if_neg (by decide)];exact clear h.ms rfl hl fun _=>hr'
    |true =>
     rw[if_pos rfl];refine Bd.tail Ye Yf h.ms (fun z=>?_) (fun z=>by rw[hl]at z;cases z) (fun _ _=>⟨hs,?_⟩) (fun _ z=>by rw[hr']at z;cases z) hG
     ·rw[Yd hs,hm]at z;exact absurd z (by decide)
     ·rw[if_pos hs];exact h.one hl hr'
   ·have e1:aO e (some k)=ba e (some k):=by unfold aO;rw[if_neg (by rw[hm];decide),if_neg hr,if_neg (show ¬ j6 (some k)=true from hs)]
    rw[e1]
    by_cases c1:e.cnt % 3=2/\e.last=some .s/\cX (some k)=true
    ·have e2:ba e (some k) = { e with cnt:=0,held:=dM e.held 2,left:=false }:=by unfold ba;rw[if_pos c1]
     rw[e2,if_neg (show ¬(false=true) from Bool.false_ne_true)];exact clear h.ms rfl rfl fun _=>hr'
    ·by_cases c2:e.cnt % 3=2/\e.left=true/\(some k:Option Kd)=some .G
     ·have e2:ba e (some k) = { e with cnt:=0,right:=true }:=by unfold ba;rw[if_neg c1,if_pos c2]
      have kG:k=.G:=Option.some.inj c2.2.2;rw[e2,if_pos c2.2.1];refine Bd.tail Ye Yf h.ms (fun z=>?_) (fun z=>?_) (fun _ z=>by cases z) (fun _ _=>?_) hG
      ·rw[kG]at z;have:nm e.m .G=e.m:=rfl;rw[this,hm]at z;exact absurd z (by decide)
      ·exact absurd (c2.2.1.symm.trans z) (by decide)
      ·rw[if_neg hs];exact h.one c2.2.1 hr'
     ·by_cases c3:e.cnt % 3=1/\e.left=true
      ·have e2:ba e (some k) = { e with cnt:=0,held:=e.held.set 0 2,left:=false }:=by unfold ba;rw[if_neg c1,if_neg c2,if_pos c3]
       rw[e2,if_neg (show ¬(false=true) from Bool.false_ne_true)];exact clear h.ms rfl rfl fun _=>hr'
      ·by_cases c4:e.cnt % 3=1/\(some k:Option Kd)=some .G
       ·have e2:ba e (some k) = { e with cnt:=0,right:=true,left:=false }:=by unfold ba;rw[if_neg c1,if_neg c2,if_neg c3,if_pos c4]
        have kG:k=.G:=Option.some.inj c4.2;rw[e2,if_neg (show ¬(false=true) from Bool.false_ne_true)];refine clear h.ms rfl rfl fun z=>?_;rw[kG]at z;have:nm e.m .G=e.m:=rfl;exact absurd ((show nm e.m .G=2 from z).symm.trans (this.trans hm)) (by decide)
       ·have e2:ba e (some k) = { e with cnt:=0,left:=false }:=by unfold ba;rw[if_neg c1,if_neg c2,if_neg c3,if_neg c4]
        rw[e2,if_neg (show ¬(false=true) from Bool.false_ne_true)];exact clear h.ms rfl rfl fun _=>hr'
 ·obtain⟨l2,r2⟩:=h.two hm;have e1:aO e (some k)=cv e (some k):=by unfold aO;rw[if_pos hm]
  rw[e1];have l0:(cv e (some k)).left=false:=by unfold cv;split <;> exact l2
  have r0:(cv e (some k)).right=false:=by unfold cv;split <;> exact r2
  have m0:(cv e (some k)).m=e.m:=by unfold cv;split <;> rfl
  rw[if_neg (by rw[l0];decide)];exact clear (by show Ms (cv e (some k)).m;rw[m0];exact h.ms) rfl l0 fun _=>r0
theorem Ab (ks:List Kd)(p met:Nat):cu ks (p+1) met=if(if(ks.getD p .dot).small=true then met else met+1)=2 then p else cu ks p (if(ks.getD p .dot).small=true then met else met+1):=rfl
theorem MT {m:Int}(hm:Ms m)(ks:List Kd):∀ n,n<=ks.length->Bd (Tf (Fj m) (ks.take n)) n (cu ks n 1) (cu ks n 0)
 |0,_=>by
  rw[List.take_zero];exact⟨Nat.le_refl _,.inr ⟨rfl,rfl⟩,hm,fun _=>⟨rfl,rfl⟩,fun _=>⟨Nat.zero_le _,Nat.zero_le _⟩,fun z=>(by cases z),fun z=>(by cases z)⟩
 |n+1,h=>by
  have hk:ks[n]? = some (ks[n]'(by omega)):=getElem?_eq_getElem (by omega);generalize ks[n]'(by omega)=k at hk;have e:ks.getD n .dot=k:=by rw[List.getD_eq_getElem?_getD,hk];rfl
  rw[take_succ,hk,show(some k).toList=[k] from rfl,ID];have:=(MT hm ks n (by omega)).step k;rw[Ab,Ab,e];cases hs:k.small with
  |true =>
   rw[hs]at this;exact this
  |false =>
   rw[hs]at this;exact this
theorem NQ {m:Int}(hm:Ms m){ks ks':List Kd}{i:Nat}(h1:i<=ks.length)(h:ks.take i=ks'.take i):(bJ m ks).1.take (cu ks i 0)=(bJ m ks').1.take (cu ks i 0):=by
 have b:=(MT hm ks i h1).end;have l:=MS (ks.take i) (Fj m);have l0:(ks.take i).length=i:=by rw[length_take];omega
 rw[l0]at l;have l1:cu ks i 0<=(NP (Fj m) (ks.take i)).length:=by
  have:(Fj m).held.length=0:=rfl;omega
 rw[<-Fl hm ks,<-Fl hm ks',<-take_append_drop i ks,<-take_append_drop i ks',<-h,BY,BY,take_append_drop,List.take_append_of_le_length l1,List.take_append_of_le_length l1]
theorem NR {ks:List Kd}{f:List Int}{a z j:Nat}{p:Kd}(hp:ks[j]? = some p)(hpp:p.parting=true)(Te:a<z):(settle ks f a z).2[j]? = f[j]?:=by
 have ne:∀{i:Nat} {k:Kd} {g:List Int},ks[i]? = some k->k.parting=false->(g.set i 2)[j]? = g[j]?:=fun {i k g} hi hk=>by
  rw[List.getElem?_set_ne];rintro rfl;rw[hi]at hp;cases hp;rw[hpp]at hk;cases hk
 have L:∀{g:List Int},cI ks g a=true->ks[a-1]? = some .G:=fun {g} h=>by
  unfold cI at h;simp only [Bool.and_eq_true,decide_eq_true_eq]at h;have h1:=h.1;unfold Bg at h1;split at h1
  ·rw[show((a:Int)-1).toNat=a-1 by omega]at h1;exact h1
  ·cases h1
 have R:cD ks z=true->ks[z]? = some .G:=fun h=>by
  unfold cD at h;simp only [Bool.and_eq_true,decide_eq_true_eq]at h;exact h.1
 unfold settle;split
 ·unfold jL;split
  ·rename_i h;exact ne (L h) rfl
  ·split
   ·rename_i h;exact ne (R h) rfl
   ·rfl
 ·split
  ·unfold jM;split
   ·rename_i h
    simp only [Bool.and_eq_true,decide_eq_true_eq]at h;exact ne h.2 rfl
   ·split
    ·rename_i h
     simp only [Bool.and_eq_true]at h;exact(ne (R h.2) rfl).trans (ne (L h.1) rfl)
    ·rfl
  ·rfl
theorem Tg {ks:List Kd}{j:Nat}{p:Kd}(hp:ks[j]? = some p)(hpp:p.parting=true):∀(rs:List (Nat×Nat)) (f:List Int),(∀ q∈rs,q.1<q.2)->(fd ks rs f)[j]? = f[j]?
 |[],_,_=>rfl
 |q::rs,f,h=>by
  show(fd ks rs (settle ks f q.1 q.2).2)[j]? = _;rw[Tg hp hpp rs _ (fun x hx=>h x (mem_cons_of_mem _ hx)),NR hp hpp (h q (mem_cons_self ..))]
theorem MU:∀(A:List Kd)(m:Int)(p:Kd),p.parting=true->(aS m (A++[p]))[A.length]? = some 0
 |[],m,p,h=>by
  show [bw (nm m p) p none][0]? = some 0;cases p with
  |dot=>show some (bw m .dot none)=some 0;unfold bw;rw[if_neg (fun z=>by cases z.2.1)];rfl
  |three=>show some (bw 3 .three none)=some 0;unfold bw;rw[if_neg (fun z=>by cases z.2.1)];rfl
  |two=>show some (bw 2 .two none)=some 0;unfold bw;rw[if_neg (fun z=>by cases z.2.1)];rfl
  |_=>cases h
 |k::A,m,p,h=>by
  show(bw (nm m k) k (A++[p]).head? :: aS (nm m k) (A++[p]))[A.length+1]? = _;rw[List.getElem?_cons_succ];exact MU A _ p h
theorem NS (m:Int)(A:List Kd){p:Kd}(h:p.parting=true):(bJ m (A++[p])).1.drop A.length=[0]:=by
 have hl:(bJ m (A++[p])).1.length=A.length+1:=by rw[lj,length_append];rfl
 have e:(bJ m (A++[p])).1[A.length]? = some 0:=by
  show(rd m (A++[p]))[A.length]? = _;rw[vM,Tg (p:=p) (by rw[getElem?_append_right (Nat.le_refl _),Nat.sub_self];rfl) h _ _ fun q hq=>(dP m _ q hq).1];exact MU A m p h
 rw[kQ e,List.drop_eq_nil_of_le (by omega)]
theorem Kv (m:Int)(A A' B:List Kd){p:Kd}(h:p.parting=true)(hc:cur m (A++[p])=cur m (A'++[p])):(bJ m (A++p::B)).1.drop A.length=(bJ m (A'++p::B)).1.drop A'.length:=by
 have e:∀ A:List Kd,(bJ m (A++p::B)).1.drop A.length=0::(bJ (cur m (A++[p])) B).1:=fun A=>by
  have:=NO m A h B;rw[show A++[p]++B=A++p::B by simp]at this;rw[this,List.drop_append_of_le_length (by rw[lj,length_append];exact Nat.le_add_right ..),NS m A h];rfl
 rw[e A,e A',hc]
theorem mE (m:Int)(A B:List Kd):cur m (A++B)=cur (cur m A) B:=List.foldl_append ..
theorem Kw:∀(c:List Kd)(m:Int),c.any (fun k=>k.meas)=false->cur m c=m
 |[],_,_=>rfl
 |k::c,m,h=>by
  rw[List.any_cons,Bool.or_eq_false_iff]at h;show cur (nm m k) c=m;have e:nm m k=m:=by
   have h1:=h.1;cases k <;> first|rfl|cases h1
  rw[e,Kw c m h.2]
theorem BZ {p:Kd->Bool}:∀(M:List Kd),(M.takeWhile p).length<=M.length/\(M.drop (M.takeWhile p).length=[]\/∃ k B,M.drop (M.takeWhile p).length=k::B/\p k=false)
 |[]=>⟨Nat.le_refl _,.inl rfl⟩
 |k::M=>by
  cases h:p k with
  |false=>rw[List.takeWhile_cons_of_neg (by rw[h];decide)];exact⟨Nat.zero_le _,.inr ⟨k,M,rfl,h⟩⟩
  |true =>
   rw[List.takeWhile_cons_of_pos h,length_cons,List.drop_succ_cons,length_cons];obtain⟨h1,h2⟩:=BZ M (p:=p);exact⟨by omega,h2⟩
theorem NT (m:Int)(T c c' M:List Kd)(wide:Bool)(hw:wide=(c++c').any fun k=>k.meas):(bJ m (T++c'++M)).1.drop (T.length+c'.length+(M.takeWhile fun k=>!iV wide k).length)=(bJ m (T++c++M)).1.drop (T.length+c.length+(M.takeWhile fun k=>!iV wide k).length):=by
 obtain⟨hu,h⟩:=BZ M (p:=fun k=>!iV wide k);generalize (M.takeWhile fun k=>!iV wide k).length=u at hu h;rcases h with h|⟨p,B,h,hp⟩
 ·have:M.length<=u:=List.drop_eq_nil_iff.mp h;rw[List.drop_eq_nil_of_le,List.drop_eq_nil_of_le] <;> (rw[lj,length_append,length_append];omega)
 ·have hp':iV wide p=true:=by cases q:iV wide p with
   |true=>rfl
   |false=>rw[q]at hp;cases hp
  have hpp:p.parting=true:=by
   unfold iV at hp';split at hp'
   ·cases p <;> first|rfl|cases hp'
   ·exact hp'
  have lt:(M.take u).length=u:=by rw[length_take];omega
  have em:∀ d:List Kd,T++d++M=(T++d++M.take u)++p::B:=fun d=>by rw[<-h,List.append_assoc _ (M.take u),take_append_drop]
  have el:∀ d:List Kd,T.length+d.length+u=(T++d++M.take u).length:=fun d=>by rw[length_append,length_append,lt]
  rw[em c,em c',el c,el c'];refine Kv m _ _ B hpp ?_;cases WO:wide with
  |true =>
   rw[WO]at hp';have hpm:p.meas=true:=hp';rw[mE,mE _ _ [p]];show nm _ p=nm _ p;cases p <;> first|rfl|cases hpm
  |false =>
   rw[WO]at hw;have hw:=hw.symm;rw[List.any_append,Bool.or_eq_false_iff]at hw;rw[mE,mE _ _ [p],mE,mE _ _ (M.take u),mE,mE _ _ c,Kw c _ hw.1,Kw c' _ hw.2]
end xA
set_option maxHeartbeats 1000000
local macro_rules | `(tactic| tm_up) => `(tactic| repeat w_up)
local macro_rules | `(tactic| w_up) => `(tactic| first
 |refine⟨_,rfl,?_⟩
 |refine⟨_,_,rfl,rfl,⟨by decide,by decide⟩,?_⟩
 |refine⟨_,_,rfl,rfl,(by first|decide|(show(0:Int)<_;decide)),?_⟩
 |refine .inl ⟨_,_,rfl,rfl,.inr ⟨by decide,by decide⟩,?_⟩
 |refine⟨_,_,rfl,rfl,?_⟩
 |refine .inl ⟨_,_,rfl,rfl,?_⟩
 |refine .inl ⟨rfl,?_⟩
 |refine .inr ⟨_,_,rfl,rfl,?_⟩
 |refine xA.ZW (by assumption) ?_
 |refine xA.ix1 (by assumption) ?_)
namespace xA
open PySem L2
def top (i:Nat):Stmt:=PySem.Challenge.pw_noteworth_k32_whole_windows.main.body.getD i (.Pass ⟨0,0,0,0⟩)
abbrev dg:Stmt:=inClass (top 56) 0
abbrev lp:Stmt:=top 50
abbrev fD:Stmt:=inClass (top 56) 9
abbrev cw:Stmt:=inClass (top 56) 16
abbrev lq:Stmt:=inClass (top 49) 1
abbrev dQ:Stmt:=inClass (top 56) 14
abbrev dh:Stmt:=inClass (top 49) 0
abbrev eE:Stmt:=inClass (top 56) 15
abbrev cQ:Stmt:=inClass (top 48) 0
abbrev cR:Stmt:=inClass (top 56) 1
abbrev gH:Stmt:=top 58
abbrev bQ:Stmt:=inClass (top 56) 17
abbrev fE:Stmt:=inClass (top 56) 12
abbrev dR:Stmt:=top 20
abbrev i4:Stmt:=top 23
abbrev lr:Stmt:=top 34
abbrev eF:Stmt:=top 33
abbrev br:Stmt:=top 35
abbrev sj:Stmt:=top 19
abbrev xI:Stmt:=top 24
abbrev di:Stmt:=top 36
abbrev cS:Stmt:=top 37
abbrev cy:Stmt:=top 38
abbrev cz:Stmt:=top 39
abbrev fF:Stmt:=top 40
abbrev lu:Stmt:=top 41
abbrev nY:Stmt:=top 42
abbrev nZ:Stmt:=top 25
abbrev gI:Stmt:=inClass (top 56) 10
abbrev gJ:Stmt:=inClass (top 56) 11
abbrev i5:Stmt:=top 63
abbrev gK:Stmt:=top 61
abbrev lx:Stmt:=top 59
abbrev gL:Stmt:=top 60
abbrev n0:Stmt:=top 62
abbrev bu:Stmt:=top 51
abbrev xJ:Stmt:=top 18
abbrev cA:Stmt:=top 52
abbrev ly:Stmt:=top 53
abbrev i6:Stmt:=top 54
abbrev n5:Stmt:=top 55
abbrev b3:Stmt:=inClass (top 56) 18
abbrev i7:Stmt:=inClass (top 56) 4
abbrev lz:Stmt:=top 64
abbrev n6:Stmt:=top 65
abbrev i8:Stmt:=inClass (top 56) 5
abbrev gM:Stmt:=inClass (top 56) 6
abbrev Fn:Stmt:=top 67
theorem xK:az ["self"] ["self"] (ah dg):=⟨rfl,rfl,rfl,by lk,rfl,by lk,by lk⟩
theorem Kx:az ["name"] ["name"] (ah lp):=⟨rfl,rfl,rfl,by lk,rfl,by lk,by lk⟩
theorem Ed:az ["self"] ["self"] (ah fD):=⟨rfl,rfl,rfl,by lk,rfl,by lk,by lk⟩
theorem tQ:az ["self","name"] ["self","name"] (ah cw):=⟨rfl,rfl,rfl,by lk,rfl,by lk,by lk⟩
theorem Ky:az ["self"] ["self"] (ah lq):=⟨rfl,rfl,rfl,by lk,rfl,by lk,by lk⟩
theorem AA:az ["self","deed"] ["self","deed"] (ah dQ):=⟨rfl,rfl,rfl,by lk,rfl,by lk,by lk⟩
theorem xM:az ["self","things","at","before","after"] ["self","things","at","before","after"] (ah dh):=⟨rfl,rfl,rfl,by lk,rfl,by lk,by lk⟩
theorem B0:az ["self","voice"] ["self","voice"] (ah eE):=⟨rfl,rfl,rfl,by lk,rfl,by lk,by lk⟩
theorem vP:az ["self","name","terms"] ["self","name","terms"] (ah cQ):=⟨rfl,rfl,rfl,by lk,rfl,by lk,by lk⟩
theorem vQ:az ["self","name"] ["self","name"] (ah cR):=⟨rfl,rfl,rfl,by lk,rfl,by lk,by lk⟩
theorem Gb:az ["_law_script","_law_k"] ["_law_script","_law_k"] (ah gH):=⟨rfl,rfl,rfl,by lk,rfl,by lk,by lk⟩
theorem jY:az ["self","name","voice"] ["self","name"] (ah bQ):=⟨rfl,rfl,rfl,by lk,rfl,by lk,by lk⟩
theorem Ee:az ["self","name"] ["self","name"] (ah fE):=⟨rfl,rfl,rfl,by lk,rfl,by lk,by lk⟩
theorem AB:az ["sign"] ["sign"] (ah dR):=⟨rfl,rfl,rfl,by lk,rfl,by lk,by lk⟩
theorem jZ:az ["line","begin","found","measure","sign"] ["line","begin"] (ah i4):=⟨rfl,rfl,rfl,by lk,rfl,by lk,by lk⟩
theorem Kz:az ["line","at"] ["line","at"] (ah lr):=⟨rfl,rfl,rfl,by lk,rfl,by lk,by lk⟩
theorem B2:az ["kind","measure"] ["kind","measure"] (ah eF):=⟨rfl,rfl,rfl,by lk,rfl,by lk,by lk⟩
theorem cK:az ["line","begin","found","at","measure"] ["line","begin"] (ah br):=⟨rfl,rfl,rfl,by lk,rfl,by lk,by lk⟩
theorem Qr:az ["sign"] ["sign"] (ah sj):=⟨rfl,rfl,rfl,by lk,rfl,by lk,by lk⟩
theorem oP:az ["line","begin","found","first","at","sign","measure"] ["line","begin"] (ah xI):=⟨rfl,rfl,rfl,by lk,rfl,by lk,by lk⟩
theorem xN:az ["line","found","first"] ["line","found","first"] (ah di):=⟨rfl,rfl,rfl,by lk,rfl,by lk,by lk⟩
theorem vR:az ["line","behind"] ["line","behind"] (ah cS):=⟨rfl,rfl,rfl,by lk,rfl,by lk,by lk⟩
theorem tR:az ["line","found","first","behind"] ["line","found","first","behind"] (ah cy):=⟨rfl,rfl,rfl,by lk,rfl,by lk,by lk⟩
theorem tS:az ["line","found","first","behind"] ["line","found","first","behind"] (ah cz):=⟨rfl,rfl,rfl,by lk,rfl,by lk,by lk⟩
theorem sQ:az ["line","found","first","behind","rest"] ["line","found","first","behind"] (ah fF):=⟨rfl,rfl,rfl,by lk,rfl,by lk,by lk⟩
theorem lL:az ["line","begin","found","loose_runs","first","behind"] ["line","begin"] (ah lu):=⟨rfl,rfl,rfl,by lk,rfl,by lk,by lk⟩
theorem NU:az ["line","begin"] ["line","begin"] (ah nY):=⟨rfl,rfl,rfl,by lk,rfl,by lk,by lk⟩
theorem NV:az ["line"] ["line"] (ah nZ):=⟨rfl,rfl,rfl,by lk,rfl,by lk,by lk⟩
theorem a8:az ["self","name","terms","leader","later","slow","is_turned","heard"] ["self","name"] (ah gI):=⟨rfl,rfl,rfl,by lk,rfl,by lk,by lk⟩
theorem ee:az ["self","name","terms","leader","later","slow","is_turned","begin"] ["self","name"] (ah gJ):=⟨rfl,rfl,rfl,by lk,rfl,by lk,by lk⟩
theorem dr:az ["_law_line_here","_law_deed","_law_at","_law_behind","_law_from_on","_law_wide","_law_bars","_law_stops"] ["_law_line_here","_law_deed","_law_at"] (ah i5):=⟨rfl,rfl,rfl,by lk,rfl,by lk,by lk⟩
theorem vS:az ["_law_number","_law_kind"] ["_law_number"] (ah gK):=⟨rfl,rfl,rfl,by lk,rfl,by lk,by lk⟩
theorem tT:az ["_law_seed","_law_k","_law_one","_law_two"] ["_law_seed","_law_k"] (ah lx):=⟨rfl,rfl,rfl,by lk,rfl,by lk,by lk⟩
theorem gT:az ["_law_script","_law_at","_law_many","_law_seed","_law_left","_law_row"] ["_law_script","_law_at","_law_many"] (ah gL):=⟨rfl,rfl,rfl,by lk,rfl,by lk,by lk⟩
theorem NW:az ["_law_script","_law_at","_law_many"] ["_law_script","_law_at","_law_many"] (ah n0):=⟨rfl,rfl,rfl,by lk,rfl,by lk,by lk⟩
theorem oQ:az ["at","last"] ["at","last"] (ah bu):=⟨rfl,rfl,rfl,by lk,rfl,by lk,by lk⟩
theorem Gd:az ["sign","kind","tone"] ["sign"] (ah xJ):=⟨rfl,rfl,rfl,by lk,rfl,by lk,by lk⟩
theorem tU:az ["sign"] ["sign"] (ah cA):=⟨rfl,rfl,rfl,by lk,rfl,by lk,by lk⟩
theorem oR:az ["line","at","met","place"] ["line","at"] (ah ly):=⟨rfl,rfl,rfl,by lk,rfl,by lk,by lk⟩
theorem Ac:az ["line","first","kinds","place"] ["line","first","kinds"] (ah i6):=⟨rfl,rfl,rfl,by lk,rfl,by lk,by lk⟩
theorem Fo:az ["line","at","behind","changed","kinds"] ["line","at","behind","changed"] (ah n5):=⟨rfl,rfl,rfl,by lk,rfl,by lk,by lk⟩
theorem kL:az ["self","name","voice"] ["self","name"] (ah b3):=⟨rfl,rfl,rfl,by lk,rfl,by lk,by lk⟩
theorem Ad:az ["self","name","at","sign","signs"] ["self","name","at","sign"] (ah i7):=⟨rfl,rfl,rfl,by lk,rfl,by lk,by lk⟩
theorem KA:az ["_law_found"] ["_law_found"] (ah lz):=⟨rfl,rfl,rfl,by lk,rfl,by lk,by lk⟩
theorem NX:az ["_law_found","_law_due"] ["_law_found","_law_due"] (ah n6):=⟨rfl,rfl,rfl,by lk,rfl,by lk,by lk⟩
theorem qO:az ["self","name","at","signs","sign"] ["self","name","at"] (ah i8):=⟨rfl,rfl,rfl,by lk,rfl,by lk,by lk⟩
theorem oS:az ["self","name","at","sign","signs","before"] ["self","name","at","sign"] (ah gM):=⟨rfl,rfl,rfl,by lk,rfl,by lk,by lk⟩
theorem fP:az ["_law_script","_law_line_here","_law_book","_law_at","_law_sign","_law_way","_law_number","_law_deed","_law_before","_law_found","_law_due","_law_after","_law_more"] ["_law_script"] (ah Fn):=⟨rfl,rfl,rfl,by lk,rfl,by lk,by lk⟩
theorem Ge:(["letter","name"]:List Str).Nodup:=by lk
theorem AD:(["voice","self"]:List Str).Nodup:=by lk
theorem Ae:(["kind","tone","line"]:List Str).Nodup:=by lk
theorem B6:(["worth","self","name","terms","leader","later","slow","is_turned","begin"]:List Str).Nodup:=by lk
theorem sR:(["_law_k","_law_line_here","_law_deed","_law_at","_law_behind","_law_from_on","_law_wide","_law_bars","_law_stops"]:List Str).Nodup:=by lk
theorem B7:(["_law_k","_law_script","_law_at","_law_many","_law_seed","_law_left","_law_row"]:List Str).Nodup:=by lk
theorem IF:(["_law_number","_law_script","_law_at","_law_many"]:List Str).Nodup:=by lk
theorem IG:(["sign","line","at","behind","changed","kinds"]:List Str).Nodup:=by lk
set_option genInjectivity false in
set_option genSizeOf false in
structure Yg where
 bS:Addr
 j7:FuncData
 i9:Addr
 xO:FuncData
 dt:Addr
 oT:FuncData
 bp:Addr
 gU:FuncData
 gN:Addr
 xP:FuncData
 cj:Addr
 lM:FuncData
 bT:Addr
 j8:FuncData
 cN:Addr
 ng:FuncData
 bD:Addr
 ja:FuncData
 bE:Addr
 jb:FuncData
 fh:Addr
 qP:FuncData
 aZ:Addr
 fQ:FuncData
 du:Addr
 oU:FuncData
 cZ:Addr
 lN:FuncData
 gq:Addr
 oV:FuncData
 mF:Addr
 gW:Tok
 jc:Addr
 xQ:FuncData
 dE:Addr
 nh:FuncData
 a5:Addr
 eN:FuncData
 oW:Addr
 Gf:FuncData
 tV:Addr
 Gg:FuncData
 Bl:Addr
 qQ:Tok
 cE:Addr
 j9:FuncData
 b6:Addr
 jd:FuncData
 bN:Addr
 gX:FuncData
 bO:Addr
 gY:FuncData
 ef:Addr
 oX:FuncData
 je:Addr
 xR:FuncData
 lO:Addr
 vT:FuncData
 sq:Addr
 lP:Tok
 lQ:Addr
 Ca:FuncData
 dw:Addr
 mG:FuncData
 d5:Addr
 qR:FuncData
 gu:Addr
 tW:FuncData
 fi:Addr
 qS:FuncData
 jf:Addr
 xS:FuncData
 fk:Addr
 qT:FuncData
 lR:Addr
 Cb:FuncData
 a6:Addr
 eO:FuncData
 tX:Addr
 KC:FuncData
 bP:Addr
 gZ:FuncData
 jg:Addr
 xV:FuncData
 gw:Addr
 tY:FuncData
 lS:Addr
 Cc:FuncData
 bc:Addr
 gx:FuncData
 fm:Addr
 tZ:FuncData
 jh:Addr
 xW:FuncData
 lT:Addr
 Cd:FuncData
 fq:Addr
 t2:FuncData
 d6:Addr
 qU:FuncData
 Ce:Addr
 Qs:FuncData
 cO:Addr
 dF:Addr
 cF:Addr
 bU:Addr
 b7:Addr
 c0:Addr
 g4:Tok
 ck:Addr
 cm:Addr
 bf:Addr
 kU:Tok
 e7:Tok
 gb:Tok
 g6:Tok
 sr:Tok
 g7:Tok
 jO:Tok
 kW:Tok
 cf:Addr
 aV:Addr
 aG:Addr
structure Txt (K:Frag)(w:World)(mg:Str->Option Value)(t:Yg):Prop where
 gf:kJ K "__init__" "Book.__init__" dg t.bS t.j7
 kc:Binds K t.j7 ["self"] []
 n8:kJ K "is_name" "is_name" lp t.i9 t.xO
 xX:Binds K t.xO ["name"] []
 KG:mg "is_name"=some (.ref t.i9)
 kX:kJ K "names" "Book.names" fD t.dt t.oT
 oY:Binds K t.oT ["self"] []
 Ef:Meth K t.aG "names" t.dt
 e8:kJ K "refuse_new" "Book.refuse_new" cw t.bp t.gU
 g8:Binds K t.gU ["self","name"] []
 t4:Meth K t.aG "refuse_new" t.bp
 su:kJ K "do" "Deed.do" lq t.gN t.xP
 xY:Binds K t.xP ["self"] []
 KH:Meth K t.aV "do" t.gN
 g9:kJ K "perform" "Book.perform" dQ t.cj t.lM
 dS:Binds K t.lM ["self","deed"] []
 gh:Meth K t.aG "perform" t.cj
 gi:kJ K "__init__" "Deed.__init__" dh t.bT t.j8
 dj:Binds K t.j8 ["self","things","at","before","after"] []
 jP:kJ K "put_in" "Book.put_in" eE t.cN t.ng
 nj:Binds K t.ng ["self","voice"] []
 Cf:Meth K t.aG "put_in" t.cN
 fG:kJ K "__init__" "Voice.__init__" cQ t.bD t.ja
 ji:Binds K t.ja ["self","name","terms"] []
 fH:kJ K "add_voice" "Book.add_voice" cR t.bE t.jb
 jj:Binds K t.jb ["self","name"] []
 vU:Meth K t.aG "add_voice" t.bE
 cP:kJ K "_law_cell_at" "_law_cell_at" gH t.fh t.qP
 d7:Binds K t.qP ["_law_script","_law_k"] []
 fI:mg "_law_cell_at"=some (.ref t.fh)
 dN:kJ K "voice_called" "Book.voice_called" bQ t.aZ t.fQ
 bR:Binds K t.fQ ["self","name"] []
 dy:Meth K t.aG "voice_called" t.aZ
 kY:kJ K "canon" "Book.canon" fE t.du t.oU
 hI:Binds K t.oU ["self","name"] []
 nk:Meth K t.aG "canon" t.du
 dU:kJ K "sets_measure" "sets_measure" dR t.cZ t.lN
 hV:Binds K t.lN ["sign"] []
 qb:mg "sets_measure"=some (.ref t.cZ)
 gy:Ih K "measures" "measures" i4 t.gq t.oV (.ref t.mF)
 Af:Binds K t.oV ["line","begin"] [.int 3 t.gW]
 oZ:Binds K t.oV ["line","begin"] []
 Ag:mg "measures"=some (.ref t.gq)
 dm:kJ K "kind_at" "kind_at" lr t.jc t.xQ
 eG:Binds K t.xQ ["line","at"] []
 fu:mg "kind_at"=some (.ref t.jc)
 fY:kJ K "plain_worth" "plain_worth" eF t.dE t.nh
 nq:Binds K t.nh ["kind","measure"] []
 Cg:mg "plain_worth"=some (.ref t.dE)
 bW:kJ K "worths_without_runs" "worths_without_runs" br t.a5 t.eN
 eP:Binds K t.eN ["line","begin"] []
 o3:mg "worths_without_runs"=some (.ref t.a5)
 sv:kJ K "small" "small" sj t.oW t.Gf
 Bm:Binds K t.Gf ["sign"] []
 IH:mg "small"=some (.ref t.oW)
 xZ:Ih K "runs" "runs" xI t.tV t.Gg (.ref t.Bl)
 MV:Binds K t.Gg ["line","begin"] [.int 3 t.qQ]
 KJ:Binds K t.Gg ["line","begin"] []
 RQ:mg "runs"=some (.ref t.tV)
 dn:kJ K "has_left_note" "has_left_note" di t.cE t.j9
 gj:Binds K t.j9 ["line","found","first"] []
 n9:mg "has_left_note"=some (.ref t.cE)
 cT:kJ K "has_right_note" "has_right_note" cS t.b6 t.jd
 fJ:Binds K t.jd ["line","behind"] []
 mH:mg "has_right_note"=some (.ref t.b6)
 dz:kJ K "settle_one_over" "settle_one_over" cy t.bN t.gX
 hZ:Binds K t.gX ["line","found","first","behind"] []
 t5:mg "settle_one_over"=some (.ref t.bN)
 dA:kJ K "settle_two_over" "settle_two_over" cz t.bO t.gY
 h7:Binds K t.gY ["line","found","first","behind"] []
 t6:mg "settle_two_over"=some (.ref t.bO)
 h8:kJ K "settle_run" "settle_run" fF t.ef t.oX
 o5:Binds K t.oX ["line","found","first","behind"] []
 Eg:mg "settle_run"=some (.ref t.ef)
 oa:kJ K "reading" "reading" lu t.je t.xR
 x3:Binds K t.xR ["line","begin"] []
 KL:mg "reading"=some (.ref t.je)
 lU:Ih K "worths" "worths" nY t.lO t.vT (.ref t.sq)
 Fp:Binds K t.vT ["line","begin"] [.int 3 t.lP]
 vV:Binds K t.vT ["line","begin"] []
 Fq:mg "worths"=some (.ref t.lO)
 og:kJ K "turned" "turned" nZ t.lQ t.Ca
 vW:Binds K t.Ca ["line"] []
 Ft:mg "turned"=some (.ref t.lQ)
 j0:kJ K "line" "Book.line" gI t.dw t.mG
 j1:Binds K t.mG ["self","name"] []
 o6:Meth K t.aG "line" t.dw
 mI:kJ K "kept" "Book.kept" gJ t.d5 t.qR
 mJ:Binds K t.qR ["self","name"] []
 vX:Meth K t.aG "kept" t.d5
 jk:kJ K "_law_window" "_law_window" i5 t.gu t.tW
 o7:Binds K t.tW ["_law_line_here","_law_deed","_law_at"] []
 Ah:mg "_law_window"=some (.ref t.gu)
 gO:kJ K "_law_sign_by" "_law_sign_by" gK t.fi t.qS
 mK:Binds K t.qS ["_law_number"] []
 vY:mg "_law_sign_by"=some (.ref t.fi)
 oh:kJ K "_law_mixed" "_law_mixed" lx t.jf t.xS
 x4:Binds K t.xS ["_law_seed","_law_k"] []
 KN:mg "_law_mixed"=some (.ref t.jf)
 j2:kJ K "_law_numbers" "_law_numbers" gL t.fk t.qT
 qV:Binds K t.qT ["_law_script","_law_at","_law_many"] []
 Gh:mg "_law_numbers"=some (.ref t.fk)
 qW:kJ K "_law_line" "_law_line" n0 t.lR t.Cb
 Ci:Binds K t.Cb ["_law_script","_law_at","_law_many"] []
 NY:mg "_law_line"=some (.ref t.lR)
 a7:kJ K "refuse_other_places" "refuse_other_places" bu t.a6 t.eO
 bX:Binds K t.eO ["at","last"] []
 eh:mg "refuse_other_places"=some (.ref t.a6)
 Cj:kJ K "good" "good" xJ t.tX t.KC
 KO:Binds K t.KC ["sign"] []
 RS:mg "good"=some (.ref t.tX)
 cB:kJ K "refuse_bad_sign" "refuse_bad_sign" cA t.bP t.gZ
 e9:Binds K t.gZ ["sign"] []
 lV:mg "refuse_bad_sign"=some (.ref t.bP)
 oi:kJ K "low_end" "low_end" ly t.jg t.xV
 x5:Binds K t.xV ["line","at"] []
 KP:mg "low_end"=some (.ref t.jg)
 lW:kJ K "high_end" "high_end" i6 t.gw t.tY
 t7:Binds K t.tY ["line","first","kinds"] []
 II:mg "high_end"=some (.ref t.gw)
 lX:kJ K "window" "window" n5 t.lS t.Cc
 qX:Binds K t.Cc ["line","at","behind","changed"] []
 x6:mg "window"=some (.ref t.lS)
 ej:kJ K "plain_voice" "Book.plain_voice" b3 t.bc t.gx
 c7:Binds K t.gx ["self","name"] []
 fR:Meth K t.aG "plain_voice" t.bc
 pb:kJ K "put" "Book.put" i7 t.fm t.tZ
 ph:Binds K t.tZ ["self","name","at","sign"] []
 Ai:Meth K t.aG "put" t.fm
 lB:kJ K "_law_whole" "_law_whole" lz t.jh t.xW
 sx:Binds K t.xW ["_law_found"] []
 Ck:mg "_law_whole"=some (.ref t.jh)
 oj:kJ K "_law_pair" "_law_pair" n6 t.lT t.Cd
 vZ:Binds K t.Cd ["_law_found","_law_due"] []
 Fu:mg "_law_pair"=some (.ref t.lT)
 pj:kJ K "cut" "Book.cut" i8 t.fq t.t2
 ua:Binds K t.t2 ["self","name","at"] []
 IJ:Meth K t.aG "cut" t.fq
 mL:kJ K "swap" "Book.swap" gM t.d6 t.qU
 qY:Binds K t.qU ["self","name","at","sign"] []
 Gi:Meth K t.aG "swap" t.d6
 MW:kJ K "law" "law" Fn t.Ce t.Qs
 Ti:Binds K t.Qs ["_law_script"] []
 Yh:mg "law"=some (.ref t.Ce)
 Uv:mg "all"=none
 Uw:mg "any"=none
 RT:mg "bool"=none
 pk:mg "enumerate"=none
 ub:mg "int"=none
 jQ:mg "isinstance"=none
 cL:mg "len"=none
 Gj:mg "list"=none
 Ux:mg "min"=none
 qZ:mg "range"=none
 Qt:mg "tuple"=none
 Uy:mg "zip"=none
 sS:mg "GREAT_KINDS"=some (.ref t.cO)
 sU:∀ H,qk K H t.cO [.str "G",.str "D",.str "R"]
 Eh:mg "SMALL_KINDS"=some (.ref t.dF)
 Ei:∀ H,qk K H t.dF [.str "s",.str "d",.str "r"]
 AE:mg "PARTING_KINDS"=some (.ref t.cF)
 AF:∀ H,qk K H t.cF [.str ".",.str "3",.str "2"]
 qc:mg "MEASURE_KINDS"=some (.ref t.bU)
 qd:∀ H,qk K H t.bU [.str "3",.str "2"]
 x8:mg "SOUNDING_KINDS"=some (.ref t.b7)
 x9:∀ H,qk K H t.b7 [.str "G",.str "D",.str "s",.str "d"]
 Cm:mg "SILENT_KINDS"=some (.ref t.c0)
 Cn:∀ H,qk K H t.c0 [.str "R",.str "r",.str ".",.str "3",.str "2"]
 Co:mg "HIGHEST_TONE"=some (.int 99 t.g4)
 Cp:mg "TURNED_KINDS"=some (.ref t.ck)
 AG:KD K w t.ck [("3",.str "2"),("2",.str "3")]
 Cq:mg "PLAIN_WORTHS"=some (.ref t.cm)
 AH:KD K w t.cm [("G",.int 3),("D",.int 2),("R",.int 3),("s",.int 1),("d",.int 1),("r",.int 1),(".",.int 0),("3",.int 0),("2",.int 0)]
 om:mg "TWOFOLD_WORTHS"=some (.ref t.bf)
 mM:KD K w t.bf [("G",.int 2),("R",.int 2)]
 Gk:mg "FULL_WORTH"=some (.int 3 t.kU)
 fb:mg "SHORTENED_WORTH"=some (.int 2 t.e7)
 AI:mg "DOUBLED_WORTH"=some (.int 2 t.gb)
 Cr:mg "DOTTED_WORTH"=some (.int 3 t.g6)
 NZ:mg "LETTERS"=some (.str "abcdefghijklmnopqrstuvwxyz" t.sr)
 Ct:mg "LONGEST_NAME"=some (.int 8 t.g7)
 Ej:mg "MOST_VOICES"=some (.int 12 t.jO)
 Gm:mg "MOST_SIGNS"=some (.int 200 t.kW)
 Qu:mg "Voice"=some (.ref t.cf)
 Qv:Mk K t.cf t.bD
 et:Nj K t.cf
 dG:fN K t.cf "name"
 c8:fN K t.cf "terms"
 bx:fN K t.cf "signs"
 Bn:mg "Deed"=some (.ref t.aV)
 Bo:Mk K t.aV t.bT
 jR:Nj K t.aV
 dW:fN K t.aV "things"
 gA:fN K t.aV "at"
 dX:fN K t.aV "before"
 eI:fN K t.aV "after"
 RU:mg "Book"=some (.ref t.aG)
 RV:Mk K t.aG t.bS
 aL:Nj K t.aG
 bA:fN K t.aG "voices"
 fK:fN K t.aG "done"
 dY:fN K t.aG "undone"
def cs (t:Yg):Cs:=⟨t.aG,t.cf,t.aV,false,fun r=>match r with
 |.vL=>0
 |.F2=>0
 |.xG=>0
 |.Full=>0
 |.jN=>0
 |.nX=>0
 |.sf=>0
 |.MN=>0
 |.Qa=>0
 |.Qb=>0⟩
inductive v5 (C:Addr)(vs:List V)(H:Hp)(Q:VK)(E:XK):Prop
 |mk (x dx:Addr) (ey:vs=[.ref x]) (eA:H x=some (.ins C dx [])) (gn:∀(L D U:Addr)(H':Hp),(∀ y o,H y=some o->y≠x->H' y=some o)->H L=none->H D=none->H U=none->L≠D->L≠U->D≠U->H' x=some (.ins C dx (Az L D U))->H' L=some (.lst [])->H' D=some (.lst [])->H' U=some (.lst [])->Q .non H'):v5 C vs H Q E
variable {P:Program} {w:World} {K:Frag} {mg:Str->Option Value} {base:Heap} {t:Yg}
theorem ya (T:Txt K w mg t):bB P w K mg base iS (0+1) t.bS t.j7 ["self"] (v5 t.aG):=by
 refine T.gf.ok xK (fun vs H Q E h=>?_) (fun cdv A outer s H vs Q E hr h=>?_)
 ·obtain⟨_,_,rfl,_⟩:=h;rfl
 ·obtain⟨x,dx,rfl,hx,q⟩:=h;refine aF (ag (m6 (pv 0) (cC af) rfl) (ag (m6 (pv 0) (cC af) rfl) (aj (m6 (pv 0) (cC af) rfl)))) ?_;refine⟨big (by show 0<=1000;omega),fun L hL=>?_⟩;have xL:x≠L:=ak hx hL;refine⟨_,rfl,x,_,dx,_,rfl,by rw[ai xL];exact hx,T.aL,T.bA,by show 0<1000;decide,?_⟩;refine⟨big (by show 0<=1000;omega),fun D hD=>?_⟩;have xD:x≠D:=ak ae hD;have DL:L≠D:=ak (show upd (upd H L (.lst [])) x _ L=some (.lst []) by rw[ai (Ne.symm xL)];exact ae) hD;have Vb:H D=none:=by rw[ai (Ne.symm xD),ai (Ne.symm DL)]at hD;exact hD
  refine⟨_,rfl,x,_,dx,_,rfl,by rw[ai xD];exact ae,T.aL,T.fK,by rw[F1];show 1<1000;decide,?_⟩;refine⟨big (by show 0<=1000;omega),fun U hU=>?_⟩;have xU:x≠U:=ak ae hU;have DU:D≠U:=by
   rintro rfl;rw[ai (Ne.symm xU),ae]at hU;cases hU
  have LU:L≠U:=by
   rintro rfl;rw[ai (Ne.symm xU),ai DL,ai (Ne.symm xU),ae]at hU;cases hU
  have Q9:H U=none:=by rw[ai (Ne.symm xU),ai (Ne.symm DU),ai (Ne.symm xU),ai (Ne.symm LU)]at hU;exact hU
  refine⟨_,rfl,x,_,dx,_,rfl,by rw[ai xU];exact ae,T.aL,T.dY,by rw[F1,ML];show 2<1000;decide,?_⟩;rw[F1,ML,RI];refine q L D U _ (fun y o hy ny=>?_) hL Vb Q9 DL LU DU ae ?_ ?_ ?_
  ·rw[ai ny,ai (ak hy Q9),ai ny,ai (ak hy Vb),ai ny,ai (ak hy hL)];exact hy
  ·rw[ai (Ne.symm xL),ai LU,ai (Ne.symm xL),ai DL,ai (Ne.symm xL)];exact ae
  ·rw[ai (Ne.symm xD),ai DU,ai (Ne.symm xD)];exact ae
  ·rw[ai (Ne.symm xU)];exact ae
inductive Cu (vs:List V)(H:Hp)(Q:VK)(E:XK):Prop
 |mk (x:Str) (ey:vs=[.str x]) (eA:x.length<=1000) (gn:∀ H',aq H H'->Q (.bl (nameB x)) H'):Cu vs H Q E
theorem KQ (T:Txt K w mg t):bB P w K mg base iS (0+1) t.i9 t.xO ["name"] Cu:=by
 refine T.n8.ok Kx (fun vs H Q E h=>?_) (fun cdv A outer s H vs Q E hr h=>?_)
 ·obtain⟨_,rfl,_⟩:=h;rfl
 ·obtain⟨x,rfl,hx,q⟩:=h;refine aF (aj (aC (fO (oz (HU By By ao (aJ (aA.or aB) rfl T.cL cJ (aa (pv 0) af)) (bF (v:=.int 8) rfl T.Ct ⟨_,rfl⟩)) (oy (aJ PU rfl T.Uv Uc (aa (oG (cn:=["letter"]) rfl (dI.of rfl) (T7 (pv 0)) (fun _=>(aK (i:=0) Ge rfl (Or.inl rfl))) (fun _=>tD) (fun _=>(cq (df.or dc) (pv 0) (bF (v:=.str "abcdefghijklmnopqrstuvwxyz") rfl T.NZ ⟨_,rfl⟩) rfl))) af))))))) ?_;have xb:x.length<=sizeLine:=Nat.le_trans hx (by decide);refine⟨fun v H'=>v=.bl (nameB x)/\aq H H',?_,fun _ _ ⟨e1,e2⟩=>by rw[e1];exact q _ e2⟩;unfold nameB;refine⟨_,rfl,.inr ⟨_,rfl,xb,_,_,rfl,rfl,_,rfl,?_⟩⟩;refine cg (fun h1=>?_) (fun h1=>?_)
  rotate_left
  ·have e1:decide (1<=x.length)=false:=decide_eq_false fun z=>h1 (decide_eq_true (by omega));rw[e1];exact⟨_,rfl,mx ⟨rfl,aq.refl _⟩⟩
  have e1:decide (1<=x.length)=true:=decide_eq_true (by have:=of_decide_eq_true h1;omega);rw[e1,Bool.true_and];refine⟨_,_,rfl,rfl,_,rfl,?_⟩;refine cg (fun h2=>?_) (fun h2=>?_)
  rotate_left
  ·have e2:decide (x.length<=8)=false:=decide_eq_false fun z=>h2 (decide_eq_true (by omega));rw[e2];exact⟨rfl,aq.refl _⟩
  have n2:x.length<=8:=by have:=of_decide_eq_true h2;omega
  have e2:decide (x.length<=8)=true:=decide_eq_true n2;rw[e2,Bool.true_and];refine⟨_,rfl,_,rfl,fun D b hD=>?_⟩;refine PC (fun i ys σ H'=>∃ v,σ=[v,some (.str x)]/\H'=upd H D (.lst ys)/\ys=((x.cps.toList.take i).map fun c=>RE ⟨#[c]⟩ "abcdefghijklmnopqrstuvwxyz").map V.bl/\i<=x.cps.size) ⟨none,rfl,rfl,rfl,Nat.zero_le _⟩ ?_ ?_
  ·rintro i ys c σ H' hc ⟨v,rfl,rfl,rfl,hi⟩ N hN;have hi2:i<x.cps.size:=(Array.getElem?_eq_some_iff.mp hc).1;have hcm:x.cps.toList[i]? = some c:=by simpa using hc
   have sz:x.cps.size<=8:=n2;refine iZ ?_;refine⟨_,rfl,.inr ⟨_,_,rfl,rfl,ae,?_,?_⟩⟩
   ·rw[length_map,length_map,length_take];exact bq (by omega)
   ·refine hN _ _ _ ⟨_,rfl,dH,?_,hi2⟩;rw[take_succ,hcm,map_append,map_append];rfl
  ·rintro ys σ H' ⟨v,rfl,rfl,rfl,hi⟩;refine⟨rfl,D,_,rfl,aQ.of ae,?_,aq.upd hD⟩;rw[show x.cps.size=x.cps.toList.length from rfl,take_length];refine congrArg V.bl ?_;rw[List.all_map];rfl
inductive sV (c:Cs)(vs:List V)(H:Hp)(Q:VK)(E:XK):Prop
 |mk (x:Addr) (F:Addr->Prop) (vw:Vw) (ps fs:List Vw) (ey:vs=[.ref x]) (eA:Fb c H x F vw ps fs) (gn:∀(l:Addr)(H':Hp),H l=none->aq H H'->H' l=some (.lst (vw.map fun a=>V.str a.1))->Q (.ref l) H'):sV c vs H Q E
theorem Ek (T:Txt K w mg t):bB P w K mg base iS (0+1) t.dt t.oT ["self"] (sV (cs t)):=by
 refine T.kX.ok Ed (fun vs H Q E h=>?_) (fun cdv A outer s H vs Q E hr h=>?_)
 ·obtain⟨_,_,_,_,_,rfl,_⟩:=h;rfl
 ·obtain⟨x,F,vw,ps,fs,rfl,B,q⟩:=h;refine aF (aj (aC (oG (cn:=["voice"]) rfl (dI.of rfl) (mz (dC (pv 0) rfl)) (fun _=>(aK (i:=0) AD rfl (Or.inl rfl))) (fun _=>tD) (fun _=>(dC (pv 0) rfl))))) ?_;obtain⟨L,D,U,all,M,Ps,Fs,es,us,b,i,pp,pf,f⟩:=B.ex;obtain⟨dx,hx⟩:=b.hx;obtain⟨vx,g,gv⟩:=b.tL i;have hL:=b.hL;have xl:=eM g;have vl:=eM gv;have ln:=(b.wf M (.inr (.inl rfl))).len;have hn:=Up gv fun _ _ r=>r.2.1;refine⟨_,rfl,x,_,dx,_,_,rfl,hx,T.aL,T.bA,lK _ _ _,L,rfl,⟨_,aQ.of hL⟩,fun D' b' hD'=>?_⟩;refine nQ (K:=K) (xs:=M L) (fun i ys σ H'=>∃ v,σ=[v,some (.ref x)]/\H'=upd H D' (.lst ys)/\ys=(vx.take i).map fun a=>V.str a.n) ⟨none,rfl,rfl,by simp⟩ ?_ ?_ ?_
  ·rintro i ys σ H' ⟨v,rfl,rfl,_⟩;exact mB (aQ.of hL) hD'
  ·rintro i ys y σ H' hy ⟨v,rfl,rfl,rfl⟩ N hN;obtain⟨a,e1,rfl,ha⟩:=D6 g hy;have hi:i<vx.length:=(List.getElem?_eq_some_iff.mp e1).1;refine iZ ?_;refine⟨_,rfl,a.o,_,a.d,_,_,rfl,by rw[ai (ak ha hD')];exact ha,T.et,T.dG,Io _ _ _,ae,?_,?_⟩
   ·rw[length_map,length_take];exact bq (by omega)
   ·refine hN _ _ _ ⟨_,rfl,dH,?_⟩;rw[take_succ,e1];simp
  ·rintro ys σ H' ⟨v,rfl,rfl,rfl⟩;rw[xl,take_length,hn];exact q D' _ hD' (aq.upd hD') ae
theorem Qw {x:Str}{l:List V}(h:inV (.str x) l=true):V.str x∈l:=by
 unfold inV at h;obtain⟨y,hy,e⟩:=any_eq_true.mp h;cases y with
 |str z =>
  have:z=x:=by simpa [MB] using e
  rw[<-this];exact hy
 |_=>simp[MB]at e
theorem KR {x:Str}{l:List V}(h:V.str x∈l):inV (.str x) l=true:=by
 unfold inV;exact any_eq_true.mpr ⟨_,h,by simp[MB]⟩
theorem IK {vw:Vw}{n:Str}(h:qI vw n=none):nameB n=true/\bC vw n=none/\vw.length<12:=by
 unfold qI at h;split at h
 ·cases h
 ·next h1 =>
  split at h
  ·cases h
  ·next h2 =>
   split at h
   ·cases h
   ·next h3=>exact⟨by simpa using h1,by cases e:bC vw n with|none=>rfl|some _=>rw[e]at h2;exact absurd rfl h2,by omega⟩
inductive lY (c:Cs)(vs:List V)(H:Hp)(Q:VK)(E:XK):Prop
 |mk (x:Addr) (F:Addr->Prop) (vw:Vw) (ps fs:List Vw) (n:Str) (ey:vs=[.ref x,.str n]) (eA:Fb c H x F vw ps fs) (gn:n.length<=1000) (my:match qI vw n with
 |some r=>∀ H',aq H H'->RX E c r H'
 |none=>∀ H',aq H H'->Q .non H'):lY c vs H Q E
theorem uc (T:Txt K w mg t):bB P w K mg base iS (0+2) t.bp t.gU ["self","name"] (lY (cs t)):=by
 have N0:=KQ (P:=P) (base:=base) T;have Gn:=Ek (P:=P) (base:=base) T;refine T.e8.ok tQ (fun vs H Q E h=>?_) (fun cdv A outer s H vs Q E hr h=>?_)
 ·obtain⟨_,_,_,_,_,_,rfl,_⟩:=h;rfl
 ·obtain⟨x,F,vw,ps,fs,n,rfl,B,hlen,q⟩:=h;refine aF (ag (bM (mX (d8 (ar N0 (hr.mono (by decide)) rfl T.KG T.n8.kp T.xX .nil ay (aa (pv 1) af)))) (aj jU) aN) (ag (bM (aH (df.or dc) (pv 1) (HW (pv 0) T.aL T.Ef Gn (hr.mono (by decide)) T.oY .nil ay) rfl) (aj jU) aN) (aj (bM (aH SD (aJ (aA.or aB) rfl T.cL cJ (aa (dC (pv 0) rfl) af)) (bF (v:=.int 12) rfl T.Ej ⟨_,rfl⟩) (aR _)) (aj jU) aN)))) ?_;refine⟨_,rfl,n,rfl,hlen,fun H1 s1=>?_⟩;unfold qI at q;refine⟨_,rfl,?_⟩;cases hnb:nameB n with
  |false =>
   rw[if_pos hnb]at q;have q:=q H1 s1;exact qm (Bool.noConfusion (show false=true from q.1))
  |true =>
   rw[if_neg (by rw[hnb];decide)]at q;refine mx ?_;have B1:=B.same s1;obtain⟨L,D,U,all,M,Ps,Fs,es,us,b,i,pp,pf,f⟩:=B1.ex;obtain⟨dx,hx⟩:=b.hx;refine⟨_,rfl,_,rfl,x,dx,_,rfl,hx,FZ _ _ _,?_⟩;refine⟨x,F,vw,ps,fs,rfl,B1,fun l H2 hl s2 hl2=>?_⟩;refine .inl ⟨l,_,rfl,.inl (aQ.of hl2),rfl,?_,_,rfl,?_⟩
   ·rw[List.all_map];exact List.all_eq_true.mpr fun _ _=>rfl
   have mem:inV (.str n) (vw.map fun a=>V.str a.1)=true ↔ (bC vw n).isSome=true:=by
    constructor
    ·intro h;obtain⟨a,ha,e⟩:=mem_map.mp (Qw h);cases e2:bC vw n with
     |some _=>rfl
     |none=>exact absurd (V.str.inj e) (tM e2 a ha)
    ·intro h;cases e2:bC vw n with
     |none=>rw[e2]at h;cases h
     |some th=>exact KR (mem_map.mpr ⟨_,nW e2,rfl⟩)
   refine cg (fun h=>?_) (fun h=>?_)
   ·rw[if_pos (mem.mp h)]at q;have q:=q H2 (s1.trans s2);exact(Bool.noConfusion (show false=true from q.1))
   rw[if_neg (fun z=>h (mem.mpr z))]at q;refine⟨_,rfl,x,_,dx,_,_,rfl,s2 _ _ hx,T.aL,T.bA,lK _ _ _,?_⟩;refine .inl ⟨L,M L,rfl,.inl (aQ.of (s2 _ _ b.hL)),?_⟩;refine⟨_,_,rfl,rfl,_,rfl,?_⟩;have ll:=eM i;refine cg (fun h=>?_) (fun h=>?_)
   ·have h':=of_decide_eq_true h;rw[if_pos (by omega)]at q;have q:=q H2 (s1.trans s2);exact(Bool.noConfusion (show false=true from q.1))
   ·rw[if_neg (fun z=>h (decide_eq_true (by omega)))]at q;exact q _ (s1.trans s2)
inductive Cv (C:Addr)(vs:List V)(H:Hp)(Q:VK)(E:XK):Prop
 |mk (x dx T_ B A:Addr) (i:Nat) (xs bs as:List V) (ey:vs=[.ref x]) (eA:H x=some (.ins C dx (Eb T_ (i:Int) B A))) (gn:H T_=some (.lst xs)) (my:H B=some (.lst bs)) (tq:H A=some (.lst as)) (Q5:T_≠A) (V7:i+bs.length<=xs.length) (WQ:xs.length+as.length<=1000) (WR:Q .non (upd H T_ (.lst (xs.take i++as++xs.drop (i+bs.length))))):Cv C vs H Q E
theorem KS (T:Txt K w mg t):bB P w K mg base iS (0+1) t.gN t.xP ["self"] (Cv t.aV):=by
 refine T.su.ok Ky (fun vs H Q E h=>?_) (fun cdv A outer s H vs Q E hr h=>?_)
 ·obtain⟨_,_,_,_,_,_,_,_,_,rfl,_⟩:=h;rfl
 ·obtain⟨x,dx,T_,B,A_,i,xs,bs,as,rfl,hx,hT,hB,hA,hne,hi,hz,q⟩:=h;refine aF (aj (mZ (dC (pv 0) rfl) (PR (dC (pv 0) rfl) (fZ (dC (pv 0) rfl)) (fZ (aE (cU.or (aI.or cV)) (dC (pv 0) rfl) (aJ (aA.or aB) rfl T.cL cJ (aa (dC (pv 0) rfl) af))))))) ?_;refine⟨_,rfl,x,_,dx,_,_,rfl,hx,T.jR,T.eI,NC _ _ _ _,?_⟩;refine⟨_,rfl,x,_,dx,_,_,rfl,hx,T.jR,T.dW,Ki _ _ _ _,?_⟩;refine⟨_,rfl,x,_,dx,_,_,rfl,hx,T.jR,T.gA,P4 _ _ _ _,_,rfl,?_⟩;refine⟨_,rfl,x,_,dx,_,_,rfl,hx,T.jR,T.gA,P4 _ _ _ _,?_⟩;refine⟨_,rfl,x,_,dx,_,_,rfl,hx,T.jR,T.dX,Kj _ _ _ _,?_⟩;refine .inl ⟨B,bs,rfl,.inl (aQ.of hB),.inl ⟨_,_,rfl,rfl,_,rfl,?_⟩⟩;refine⟨T_,A_,xs,as,(i:Int),((i+bs.length:Nat):Int),rfl,rfl,rfl,by simp,hT,hA,hne,by omega,by omega,by omega,Nat.le_trans hz (by decide),?_⟩;rw[Int.toNat_natCast,Int.toNat_natCast];exact q
inductive qe (CB CD:Addr)(vs:List V)(H:Hp)(Q:VK)(E:XK):Prop
 |mk (x dx L D U d dd T_ B A:Addr) (i:Nat) (ds us xs bs as:List V) (ey:vs=[.ref x,.ref d]) (eA:H x=some (.ins CB dx (Az L D U))) (gn:H D=some (.lst ds)) (my:H U=some (.lst us)) (tq:H d=some (.ins CD dd (Eb T_ (i:Int) B A))) (Q5:H T_=some (.lst xs)) (V7:H B=some (.lst bs)) (WQ:H A=some (.lst as)) (WR:T_≠A) (Yi:T_≠D) (Yj:T_≠U) (aac:D≠U) (aad:i+bs.length<=xs.length) (aae:xs.length+as.length<=1000) (aaf:ds.length<=900) (aag:Q .non (upd (upd (upd H T_ (.lst (xs.take i++as++xs.drop (i+bs.length)))) D (.lst (ds++[.ref d]))) U (.lst []))):qe CB CD vs H Q E
theorem gm (T:Txt K w mg t):bB P w K mg base iS (0+2) t.cj t.lM ["self","deed"] (qe t.aG t.aV):=by
 have N1:=KS (P:=P) (base:=base) T;refine T.g9.ok AA (fun vs H Q E h=>?_) (fun cdv A outer s H vs Q E hr h=>?_)
 ·obtain⟨_,_,_,_,_,_,_,_,_,_,_,_,_,_,_,_,rfl,_⟩:=h;rfl
 ·obtain⟨x,dx,L,D,U,d,dd,T_,B,A_,i,ds,us,xs,bs,as,rfl,hx,hD,hU,hd,hT,hB,hA,n1,n2,n3,n4,hi,hz,hds,q⟩:=h;refine aF (ag (bV (HW (pv 1) T.jR T.KH N1 (hr.mono (by decide)) T.xY .nil ay)) (ag (bV (zW plainAttrs_list slot_list_append type_list_append fB (dC (pv 0) rfl) (aa (pv 1) af))) (aj (bV (T2 plainAttrs_list PySem.F.slot_list_clear PySem.F.type_list_clear Pm (dC (pv 0) rfl)))))) ?_;have xT:x≠T_:=nN hx hT (by intro z;cases z);have xD:x≠D:=nN hx hD (by intro z;cases z);refine⟨_,rfl,d,dd,_,rfl,hd,ND _ _ _ _,?_⟩;refine⟨d,dd,T_,B,A_,i,xs,bs,as,rfl,hd,hT,hB,hA,n1,hi,hz,?_⟩;refine⟨_,rfl,x,_,dx,_,_,rfl,by rw[ai xT];exact hx,T.aL,T.fK,P5 _ _ _,?_⟩;refine⟨.inl ⟨rfl,_,aQ.of (show upd H T_ _ D=some (.lst ds) by rw[ai (Ne.symm n2)];exact hD)⟩,_,rfl,D,_,_,rfl,rfl,by rw[ai (Ne.symm n2)];exact hD,bq (by omega),?_⟩;refine⟨_,rfl,x,_,dx,_,_,rfl,by rw[ai xD,ai xT];exact hx,T.aL,T.dY,Kk _ _ _,?_⟩;have WN:upd (upd H T_ (.lst (xs.take i++as++xs.drop (i+bs.length)))) D (.lst (ds++[.ref d])) U=some (.lst us):=by rw[ai (Ne.symm n4),ai (Ne.symm n3)];exact hU
  exact⟨.inl ⟨rfl,_,aQ.of WN⟩,U,_,rfl,rfl,WN,q⟩
inductive v7 (C:Addr)(vs:List V)(H:Hp)(Q:VK)(E:XK):Prop
 |mk (x dx:Addr) (T_:Addr) (i:Int) (B A:Addr) (ey:vs=[.ref x,.ref T_,.int i,.ref B,.ref A]) (eA:H x=some (.ins C dx [])) (gn:Q .non (upd H x (.ins C dx (Eb T_ i B A)))):v7 C vs H Q E
theorem fL (T:Txt K w mg t):bB P w K mg base iS (0+1) t.bT t.j8 ["self","things","at","before","after"] (v7 t.aV):=by
 refine T.gi.ok xM (fun vs H Q E h=>?_) (fun cdv A outer s H vs Q E hr h=>?_)
 ·obtain⟨_,_,_,_,_,_,rfl,_⟩:=h;rfl
 ·obtain⟨x,dx,T_,i,B,A_,rfl,hx,q⟩:=h;refine aF (ag (m6 (pv 0) (pv 1) rfl) (ag (m6 (pv 0) (pv 2) rfl) (ag (m6 (pv 0) (pv 3) rfl) (aj (m6 (pv 0) (pv 4) rfl))))) ?_;refine⟨_,rfl,_,rfl,x,_,dx,_,rfl,hx,T.jR,T.dW,by show 0<1000;decide,?_⟩;refine⟨_,rfl,_,rfl,x,_,dx,_,rfl,ae,T.jR,T.gA,by rw[Bh];show 1<1000;decide,?_⟩;refine⟨_,rfl,_,rfl,x,_,dx,_,rfl,ae,T.jR,T.dX,by rw[Bh,FY];show 2<1000;decide,?_⟩;refine⟨_,rfl,_,rfl,x,_,dx,_,rfl,ae,T.jR,T.eI,by rw[Bh,FY,MK];show 3<1000;decide,?_⟩;rw[Bh,FY,MK,RH];simp only [dH];exact q
inductive q0 (c:Cs)(vs:List V)(H:Hp)(Q:VK)(E:XK):Prop
 |mk (x dx L D U v:Addr) (xs ds us:List V) (ey:vs=[.ref x,.ref v]) (eA:H x=some (.ins c.B dx (Az L D U))) (gn:H L=some (.lst xs)) (my:H D=some (.lst ds)) (tq:H U=some (.lst us)) (Q5:L≠D) (V7:L≠U) (WQ:D≠U) (WR:xs.length<=12) (Yi:ds.length<=900) (Yj:∀(e:Dd)(H1 H':Hp),e.T=L->e.i=xs.length->e.bs=[]->e.as=[.ref v]->aq H H1->H e.B=none->H e.A=none->sD c.D H1 (.ref e.o) e->(∀ y o,H1 y=some o->y≠L->y≠D->y≠U->H' y=some o)->H' L=some (.lst (xs++[.ref v]))->H' D=some (.lst (ds++[.ref e.o]))->H' U=some (.lst [])->Q .non H'):q0 c vs H Q E
theorem Cw (T:Txt K w mg t):bB P w K mg base iS (0+3) t.cN t.ng ["self","voice"] (q0 (cs t)):=by
 have c9:=gm (P:=P) (base:=base) T;have cG:=fL (P:=P) (base:=base) T;refine T.jP.ok B0 (fun vs H Q E h=>?_) (fun cdv A outer s H vs Q E hr h=>?_)
 ·obtain⟨_,_,_,_,_,_,_,_,_,rfl,_⟩:=h;rfl
 ·obtain⟨x,dx,L,D,U,v,xs,ds,us,rfl,hx,hL,hD,hU,n1,n2,n3,hxs,hds,q⟩:=h;refine aF (aj (bV (bo (pv 0) T.aL T.gh c9 (hr.mono (by decide)) T.dS .nil ay (aa (vB T.Bo cG (hr.mono (by decide)) rfl T.Bn T.dj .nil ay (aa (dC (pv 0) rfl) (aa (aJ (aA.or aB) rfl T.cL cJ (aa (dC (pv 0) rfl) af)) (aa (cC af) (aa (cC (aa (pv 1) af)) af))))) af)))) ?_;refine⟨_,rfl,x,dx,_,rfl,hx,gS _ _ _,?_⟩;refine⟨_,rfl,x,_,dx,_,_,rfl,hx,T.aL,T.bA,lK _ _ _,?_⟩;refine⟨_,rfl,x,_,dx,_,_,rfl,hx,T.aL,T.bA,lK _ _ _,?_⟩;refine .inl ⟨L,xs,rfl,.inl (aQ.of hL),?_⟩;refine⟨big (by show 0<=1000;omega),fun B hB=>?_⟩;refine⟨_,rfl,big (by show 1<=1000;omega),fun A_ hA=>?_⟩;have Ra:=Bi hA;have LA:L≠A_:=ak (aq.upd (o:=.lst []) hB _ _ hL) hA;have sB:=(aq.upd (o:=.lst []) hB).trans (aq.upd (o:=.lst [V.ref v]) hA);have hB2:=aq.upd (o:=.lst [V.ref v]) hA _ _ (ae (H:=H) (a:=B) (o:=.lst []));have KU:=ae (H:=upd H B (.lst [])) (a:=A_) (o:=.lst [V.ref v]);generalize upd (upd H B (.lst [])) A_ (.lst [V.ref v])=H2 at sB hB2 KU;intro d dd nd Uz ne;refine⟨d,dd,L,(xs.length:Int),B,A_,rfl,ae,rfl,?_⟩;rw[dH];have s3:aq H2 (upd (upd H2 dd (.own d)) d (.ins t.aV dd (Eb L (xs.length:Int) B A_))):=fun y o hy=>by
   rw[ai (ak hy nd),ai (ak hy Uz)];exact hy
  have IL:=ae (H:=upd H2 dd (.own d)) (a:=d) (o:=.ins t.aV dd (Eb L (xs.length:Int) B A_));generalize upd (upd H2 dd (.own d)) d (.ins t.aV dd (Eb L (xs.length:Int) B A_))=H3 at s3 IL;have s4:=sB.trans s3;refine⟨x,dx,L,D,U,d,dd,L,B,A_,xs.length,ds,us,xs,[],[.ref v],rfl,s4 _ _ hx,s4 _ _ hD,s4 _ _ hU,IL,s4 _ _ hL,s3 _ _ hB2,s3 _ _ KU,LA,n1,n2,n3,by simp,by simp;omega,hds,?_⟩;refine q ⟨d,dd,L,xs.length,B,A_,[],[.ref v]⟩ H3 _ rfl rfl rfl rfl s4 hB Ra ⟨rfl,IL,s3 _ _ hB2,s3 _ _ KU⟩ (fun y o hy y1 y2 y3=>?_) ?_ ?_ ae
  ·rw[ai y3,ai y2,ai y1];exact hy
  ·rw[ai n2,ai n1,ae];simp
  ·rw[ai n3,ae]
inductive sW (C:Addr)(vs:List V)(H:Hp)(Q:VK)(E:XK):Prop
 |mk (x dx:Addr) (n:Str) (tm:V) (ey:vs=[.ref x,.str n,tm]) (eA:H x=some (.ins C dx [])) (gn:∀(L:Addr)(H':Hp),(∀ y o,H y=some o->y≠x->H' y=some o)->H L=none->L≠x->H' x=some (.ins C dx (Ta n tm L))->H' L=some (.lst [])->Q .non H'):sW C vs H Q E
theorem v8 (T:Txt K w mg t):bB P w K mg base iS (0+1) t.bD t.ja ["self","name","terms"] (sW t.cf):=by
 refine T.fG.ok vP (fun vs H Q E h=>?_) (fun cdv A outer s H vs Q E hr h=>?_)
 ·obtain⟨_,_,_,_,rfl,_⟩:=h;rfl
 ·obtain⟨x,dx,n,tm,rfl,hx,q⟩:=h;refine aF (ag (m6 (pv 0) (pv 1) rfl) (ag (m6 (pv 0) (pv 2) rfl) (aj (m6 (pv 0) (cC af) rfl)))) ?_;refine⟨_,rfl,_,rfl,x,_,dx,_,rfl,hx,T.et,T.dG,by show 0<1000;decide,?_⟩;refine⟨_,rfl,_,rfl,x,_,dx,_,rfl,ae,T.et,T.c8,by rw[FX];show 1<1000;decide,?_⟩;refine⟨big (by show 0<=1000;omega),fun L hL=>?_⟩;rw[dH]at hL;have nx:x≠L:=fun e=>by rw[<-e,ae]at hL;cases hL
  have hL0:H L=none:=by rw[ai (Ne.symm nx)]at hL;exact hL
  refine⟨_,rfl,x,_,dx,_,rfl,by rw[ai nx,dH];exact ae,T.et,T.bx,by rw[FX,MJ];show 2<1000;decide,?_⟩;rw[FX,MJ,RG];simp only [dH];refine q L _ (fun y o hy ny=>?_) hL0 (Ne.symm nx) ae ?_
  ·rw[ai ny,ai (ak hy hL0),ai ny];exact hy
  ·rw[ai (Ne.symm nx)];exact ae
inductive mN (c:Cs)(vs:List V)(H:Hp)(Q:VK)(E:XK):Prop
 |mk (x:Addr) (F:Addr->Prop) (vw:Vw) (ps fs:List Vw) (n:Str) (ey:vs=[.ref x,.str n]) (eA:Fb c H x F vw ps fs) (gn:n.length<=1000) (my:ps.length<=900) (tq:match qI vw n with
 |some r=>∀ H',aq H H'->RX E c r H'
 |none=>∀ F' H',Gr F F' H->Fr F H H'->Fb c H' x F' (vw++[(n,.pl [])]) (ps++[vw]) []->Q .non H'):mN c vs H Q E
theorem v9 (T:Txt K w mg t):bB P w K mg base iS (0+4) t.bE t.jb ["self","name"] (mN (cs t)):=by
 have wa:=uc (P:=P) (base:=base) T;have El:=Cw (P:=P) (base:=base) T;have yb:=v8 (P:=P) (base:=base) T;refine T.fH.ok vQ (fun vs H Q E h=>?_) (fun cdv A outer s H vs Q E hr h=>?_)
 ·obtain⟨_,_,_,_,_,_,rfl,_⟩:=h;rfl
 ·obtain⟨x,F,vw,ps,fs,n,rfl,B,hlen,hps,q⟩:=h;refine aF (ag (bV (bo (pv 0) T.aL T.t4 wa (hr.mono (by decide)) T.g8 .nil ay (aa (pv 1) af))) (aj (bV (bo (pv 0) T.aL T.Cf El (hr.mono (by decide)) T.nj .nil ay (aa (vB T.Qv yb (hr.mono (by decide)) rfl T.Qu T.ji .nil ay (aa (pv 1) (aa Bt af))) af))))) ?_;obtain⟨L,D,U,all,M,Ps,Fs,es,us,b,i,pp,pf,f⟩:=B.ex;obtain⟨dx,hx⟩:=b.hx;refine⟨_,rfl,x,dx,_,rfl,hx,vK _ _ _,_,rfl,x,F,vw,ps,fs,n,rfl,B,hlen,?_⟩;cases ho:qI vw n with
  |some r =>
   rw[ho]at q;intro H' s';have q:=q H' s';exact(Bool.noConfusion (show false=true from q.1))
  |none =>
   rw[ho]at q;obtain⟨_,hf,Yk⟩:=IK ho;intro H1 s1;have b1:=b.kept f (.same s1);obtain⟨ds,hD,pD⟩:=b1.hD;obtain⟨ux,hU,pU⟩:=b1.hU;have ll:=eM i;have dl:=eM pD;have pl:=eM pp;have pe:=b.past.len;refine⟨_,rfl,x,dx,_,rfl,s1 _ _ hx,Ec _ _ _,_,rfl,?_⟩;intro v dv nv ndv ne;refine⟨v,dv,n,.non,rfl,ae,fun l H2 kp hl hlv hv2 hl2=>⟨rfl,?_⟩⟩;have s2:aq H1 H2:=fun y o hy=>kp y o (by rw[ai (ak hy nv),ai (ak hy ndv)];exact hy) (ak hy nv);have hl1:H1 l=none:=F6 hl;refine⟨x,dx,L,D,U,v,M L,ds,ux,rfl,s2 _ _ (s1 _ _ hx),s2 _ _ b1.hL,s2 _ _ hD,s2 _ _ hU,b.LD,b.LU,b.DU,by omega,by omega,fun e H3 H' eT ei eb ea s3 nB nA hd fr hL' hD' hU'=>?_⟩;obtain⟨F',g,fr',B'⟩:=Bk.added b1 (Is.kept (F:=F) (.same s1) i) (iU (fun _ _ q=>Is.kept (F:=F) (.same s1) q) pp) f B.wv (a:=⟨v,dv,n,.non,l⟩) (th:=.pl []) s2 nv hl1 hv2 hl2 (fun M' h0=>⟨rfl,by rw[h0];exact .nil⟩) ((B.wv vw (.inr (.inl rfl))).V4 (tM hf) Yk) eT ei eb ea s3 nB nA hd hD pD fr hL' hD' hU';exact q F' H' (g.old s1) (fun y o hy hn=>fr' y o (s1 y o hy) hn) B'
def dZ (ns:List Int)(k:Nat):Int:=ns.getD k 0
inductive wb (K:Frag)(vs:List V)(H:Hp)(Q:VK)(E:XK):Prop
 |mk (a:Addr) (ns:List Int) (k:Nat) (ey:vs=[.ref a,.int (k:Int)]) (eA:aQ K H a (ns.map V.int)) (gn:ns.length<=63) (my:Q (.int (dZ ns k)) H):wb K vs H Q E
theorem wc (T:Txt K w mg t):bB P w K mg base iS (0+1) t.fh t.qP ["_law_script","_law_k"] (wb K):=by
 refine T.cP.ok Gb (fun vs H Q E h=>?_) (fun cdv A outer s H vs Q E hr h=>?_)
 ·obtain⟨a,ns,k,rfl,_⟩:=h;rfl
 ·obtain⟨a,ns,k,rfl,hS,hl,q⟩:=h;refine aF (ag (bM (aH EX (pv 1) (aJ (Ng rfl) rfl T.Ux T9 (aa ao (aa (aJ (aA.or aB) rfl T.cL cJ (aa (pv 0) af)) af))) (aR _)) (aj (aC (bH aW (pv 0) (pv 1) (fun _ _=>rfl)))) aN) (aj (aC ao))) ?_;refine⟨_,rfl,_,rfl,.inl ⟨_,_,rfl,.inl hS,_,_,rfl,_,_,rfl,rfl,_,rfl,?_⟩⟩;rw[length_map];refine cg (fun h=>?_) (fun h=>?_)
  ·have hk:k<ns.length:=by
    have:=of_decide_eq_true h;split at this <;> omega
   have e:(ns.map V.int)[k]? = some (V.int (dZ ns k)):=by
    rw[getElem?_map,getElem?_eq_getElem hk];unfold dZ;rw[List.getD_eq_getElem?_getD,getElem?_eq_getElem hk];rfl
   exact⟨_,rfl,_,rfl,.inl ⟨_,_,_,_,rfl,rfl,hS,Bf e,q⟩⟩
  ·have hk:ns.length<=k:=by
    have h':¬((k:Int)<if(ns.length:Int)<63 then(ns.length:Int) else 63):=fun z=>h (decide_eq_true z);split at h' <;> omega
   have e:dZ ns k=0:=by
    unfold dZ;rw[List.getD_eq_getElem?_getD,List.getElem?_eq_none hk];rfl
   rw[e]at q;exact q
inductive j3 (c:Cs)(vs:List V)(H:Hp)(Q:VK)(E:XK):Prop
 |mk (x dx L D U:Addr) (xs:List V) (vx:List Vx) (n:Str) (ey:vs=[.ref x,.str n]) (eA:H x=some (.ins c.B dx (Az L D U))) (gn:H L=some (.lst xs)) (my:Paired (RJ c.V H) xs vx) (tq:match vx.find? (fun a=>decide (a.n=n)) with
 |none=>RX E c .jN H
 |some a=>Q (.ref a.o) H):j3 c vs H Q E
theorem N2 {vx:List Vx}{n:Str}:∀{i:Nat},(∀ j a,j<i->vx[j]? = some a->a.n≠n)->∀{b},vx[i]? = some b->b.n=n->vx.find? (fun a=>decide (a.n=n))=some b:=by
 induction vx with
 |nil=>intro i _ b h;simp at h
 |cons v vs ih =>
  intro i hi b hb he;cases i with
  |zero =>
   simp at hb;subst hb;exact List.find?_cons_of_pos (decide_eq_true he)
  |succ i =>
   have h0:=hi 0 v (by omega) rfl;have h1:(v::vs).find? (fun a=>decide (a.n=n))=vs.find? (fun a=>decide (a.n=n)):=List.find?_cons_of_neg (fun z=>h0 (of_decide_eq_true z));rw[h1];exact ih (i:=i) (fun j a hj ha=>hi (j+1) a (Nat.succ_lt_succ hj) (by simpa using ha)) (by simpa using hb) he
theorem dB (T:Txt K w mg t):bB P w K mg base iS (0+1) t.aZ t.fQ ["self","name"] (j3 (cs t)):=by
 refine T.dN.ok jY (fun vs H Q E h=>?_) (fun cdv A outer s H vs Q E hr h=>?_)
 ·obtain⟨_,_,_,_,_,_,_,_,rfl,_⟩:=h;rfl
 ·obtain⟨x,dx,L,D,U,xs,vx,n,rfl,hx,hL,g,q⟩:=h;refine aF (ag (qt PassesOwn.never rfl (mz (dC (pv 0) rfl)) (aK (i:=2) jY.nd rfl (Or.inl rfl)) (aj (bM (aH (ff.or (cW (aY hr))) (dC (pv 2) rfl) (pv 1) (aR _)) (aj (aC (pv 2))) aN))) (aj jU)) ?_;have xl:=eM g;refine⟨_,rfl,x,_,dx,_,_,rfl,hx,T.aL,T.bA,lK _ _ _,L,rfl,⟨_,aQ.of hL⟩,Bx (K:=K) (xs:=xs) (fun i σ H'=>∃ v,σ=[some (.ref x),some (.str n),v]/\H'=H/\∀ j a,j<i->vx[j]? = some a->a.n≠n) ⟨none,rfl,rfl,fun j a hj=>by omega⟩ ?_ ?_ ?_⟩
  ·rintro i σ H1 _ ⟨v,rfl,eH,_⟩;rw[eH];exact aQ.of hL
  ·rintro i y σ H1 hy ⟨v,rfl,eH,hi⟩;have eH:=eH.symm;subst eH;obtain⟨b,e1,rfl,hb⟩:=D6 g hy;refine⟨_,rfl,b.o,_,b.d,_,_,rfl,hb,T.et,T.dG,Io _ _ _,?_⟩;refine⟨_,rfl,.inl ⟨rfl,_,rfl,?_⟩⟩;refine cg (fun h=>?_) (fun h=>?_)
   ·have e:b.n=n:=V.str.inj (of_decide_eq_true h);rw[N2 hi e1 e]at q;exact⟨_,rfl,q⟩
   ·refine⟨_,rfl,rfl,fun j a hj ha=>?_⟩;rcases Nat.lt_or_ge j i with z|z
    ·exact hi j a z ha
    ·have hij:j=i:=by omega
     rw[hij,e1]at ha;cases ha;exact fun z=>h (decide_eq_true (congrArg V.str z))
  ·rintro σ H1 ⟨v,rfl,eH,hi⟩;have eH:=eH.symm;subst eH;have hn:vx.find? (fun a=>decide (a.n=n))=none:=List.find?_eq_none.mpr fun a ha z=>by
    obtain⟨j,hj⟩:=getElem?_of_mem ha;have hjl:j<vx.length:=(List.getElem?_eq_some_iff.mp hj).1;exact hi j a (by omega) hj (of_decide_eq_true z)
   rw[hn]at q;exact(Bool.noConfusion (show false=true from q.1))
inductive sX (c:Cs)(vs:List V)(H:Hp)(Q:VK)(E:XK):Prop
 |mk (x:Addr) (F:Addr->Prop) (vw:Vw) (ps fs:List Vw) (n:Str) (ey:vs=[.ref x,.str n]) (eA:Fb c H x F vw ps fs) (gn:match bC vw n with
 |none=>RX E c .jN H
 |some (.pl _)=>Q .non H
 |some (.cn ld lt sl tn)=>∀ p,H p=some (.tup [.str ld,.int lt,.int sl,.bl tn])->Q (.ref p) H):sX c vs H Q E
theorem nr (T:Txt K w mg t):bB P w K mg base iS (0+2) t.du t.oU ["self","name"] (sX (cs t)):=by
 have bj:=dB (P:=P) (base:=base) T;refine T.kY.ok Ee (fun vs H Q E h=>?_) (fun cdv A outer s H vs Q E hr h=>?_)
 ·obtain⟨_,_,_,_,_,_,rfl,_⟩:=h;rfl
 ·obtain⟨x,F,vw,ps,fs,n,rfl,B,q⟩:=h;refine aF (aj (aC (dC (bo (pv 0) T.aL T.dy bj (hr.mono (by decide)) T.bR .nil ay (aa (pv 1) af)) rfl))) ?_;obtain⟨L,D,U,all,M,Ps,Fs,es,us,b,iM,pp,pf,f⟩:=B.ex;obtain⟨dx,hx⟩:=b.hx;obtain⟨vx,g,gv⟩:=b.tL iM;refine⟨_,rfl,x,dx,_,rfl,hx,dJ _ _ _,_,rfl,x,dx,L,D,U,M L,vx,n,rfl,hx,b.hL,g,?_⟩;rcases Fd gv (fun _ _ r=>r.2.1) n with ⟨f1,f2⟩|⟨a,th,j,f1,f2,r,an,fj,fw⟩
  ·rw[f1];rw[f2]at q;exact(Bool.noConfusion (show false=true from q.1))
  rw[f1];rw[f2]at q;refine⟨a.o,_,a.d,_,_,rfl,(b.ha a r.1).1,T.et,T.c8,E9 _ _ _,?_⟩;cases th with
  |pl ss=>rw[r.2.2.1];exact q
  |cn ld lt sl tn =>
   obtain⟨p,e1,e2⟩:=r.2.2;rw[e1];exact q p e2
inductive qf (vs:List V)(H:Hp)(Q:VK)(E:XK):Prop
 |mk (p:Addr) (s:Sg) (ey:vs=[.ref p]) (eA:H p=some (.tup [.str s.1.str,.int s.2])) (gn:Q (.bl s.1.meas) H):qf vs H Q E
theorem UA (k:Kd):inV (.str k.str) [.str "3",.str "2"]=k.meas:=by cases k <;> decide +kernel
theorem qg (T:Txt K w mg t):bB P w K mg base iS (0+1) t.cZ t.lN ["sign"] qf:=by
 refine T.dU.ok AB (fun vs H Q E h=>?_) (fun cdv A outer s H vs Q E hr h=>?_)
 ·obtain⟨_,_,rfl,_⟩:=h;rfl
 ·obtain⟨p,s,rfl,hp,q⟩:=h;rw[<-UA]at q;refine aF (aj (aC (cq (df.or dc) (bH aW (pv 0) ao (fun _ _=>rfl)) (bF (v:=.ref t.bU) rfl T.qc rfl) rfl))) ?_;tm_up;exact .inl ⟨_,_,rfl,.inr (T.qd _),rfl,rfl,q⟩
inductive Aj (K:Frag)(vs:List V)(H:Hp)(Q:VK)(E:XK):Prop
 |mk (l:Addr) (b:Int) (xs:List V) (ss:List Sg) (ey:vs=[.ref l,.int b]) (eA:aQ K H l xs) (gn:jV H xs ss) (my:ss.length<=400) (tq:∀(f:Addr)(H':Hp),aq H H'->H f=none->H' f=some (.lst ((e6 b (bL ss)).map V.int))->Q (.ref f) H'):Aj K vs H Q E
theorem V8 {k:Kd}(h:k.meas=true)(m:Int):intText? k.str=some (nm m k)/\k.str.length<=640:=by
 cases k <;> first|(cases h;done)|exact⟨by first|exact(show intText? Kd.three.str=some 3 by lk)|exact(show intText? Kd.two.str=some 2 by lk),by lk⟩
theorem UB {k:Kd}(h:¬ k.meas=true)(m:Int):nm m k=m:=by
 cases k <;> first|rfl|exact absurd rfl h
theorem Ak (T:Txt K w mg t):bB P w K mg base iS (0+2) t.gq t.oV ["line","begin"] (Aj K):=by
 have lZ:=qg (P:=P) (base:=base) T;refine T.gy.ok jZ (fun vs H Q E h=>?_) (fun cdv A outer s H vs Q E hr h=>?_)
 ·obtain⟨_,_,_,_,rfl,_⟩:=h;rfl
 ·obtain⟨l,b,xs,ss,rfl,hS,hg,hn,q⟩:=h;refine aF (ag (aD (i:=2) jZ.nd rfl (Or.inl rfl) (cC af)) (ag (aD (i:=3) jZ.nd rfl (Or.inl rfl) (pv 1)) (ag (qt PassesOwn.never rfl (mz (pv 0)) (aK (i:=4) jZ.nd rfl (Or.inl rfl)) (ag (xy (bM (d8 (ar lZ (hr.mono (by decide)) rfl T.qb T.dU.kp T.hV .nil ay (aa (pv 4) af))) (aj (aD (i:=3) jZ.nd rfl (Or.inl rfl) (gG (lh.or eB) rfl T.ub tE (aa (bH aW (pv 4) ao (fun _ _=>rfl)) af)))) aN)) (aj (bV (zW plainAttrs_list slot_list_append type_list_append fB (pv 2) (aa (pv 3) af)))))) (aj (aC (pv 2)))))) ?_;refine⟨big (by show 0<=1000;omega),fun f hf=>?_⟩;tm_up;refine⟨⟨xs,mB hS hf⟩,Bx (K:=K) (xs:=xs) (fun i σ H'=>∃(m:Int)(v:Option V)(fs:List Int),σ=[some (.ref l),some (.int b),some (.ref f),some (.int m),v]/\H'=upd H f (.lst (fs.map V.int))/\fs++e6 m ((bL ss).drop i)=e6 b (bL ss))
   ⟨b,none,[],rfl,rfl,rfl⟩ ?_ ?_ ?_⟩
  ·rintro i σ H' _ ⟨m,v,fs,rfl,rfl,_⟩;exact mB hS hf
  ·rintro i x σ H' hx ⟨m,v,fs,rfl,rfl,hm⟩;obtain⟨s,hs,p,rfl,hp⟩:=D6 hg hx;have hd:=kQ (Kh (f:=Prod.fst) hs);rw[hd]at hm;have hp':upd H f (.lst (fs.map V.int)) p=some (.tup [.str s.1.str,.int s.2]):=by rw[ai (ak hp hf)];exact hp
   have hl:=congrArg List.length hm;simp only [length_append,e6,length_cons,xB,length_map]at hl;refine XX [some (.ref l),some (.int b),some (.ref f),some (.int (nm m s.1)),some (.ref p)] (upd H f (.lst (fs.map V.int))) ?_ ?_
   ·refine⟨_,rfl,p,s,rfl,hp',_,rfl,?_⟩;refine cg (fun h=>?_) (fun h=>?_)
    ·obtain⟨e1,e2⟩:=V8 h m;tm_up;exact .inr ⟨_,_,rfl,e1,e2,rfl,rfl⟩
    ·rw[UB h];exact⟨rfl,rfl⟩
   ·tm_up;refine⟨.inl ⟨rfl,_,aQ.of ae⟩,?_⟩;tm_up;refine⟨_,_,_,rfl,rfl,ae,by rw[length_map];exact bq (by omega),?_⟩;exact⟨_,_,fs++[nm m s.1],rfl,by rw[dH,map_append];rfl,by rw[List.append_assoc];exact hm⟩
  ·rintro σ H' ⟨m,v,fs,rfl,rfl,hm⟩;rw[List.drop_eq_nil_of_le (by rw[length_map,eM hg];exact Nat.le_refl _)]at hm;tm_up;have e:fs=e6 b (bL ss):=by rw[<-hm];simp[e6]
   subst e;exact q f _ (aq.upd hf) hf ae
inductive Cy (K:Frag)(vs:List V)(H:Hp)(Q:VK)(E:XK):Prop
 |mk (l:Addr) (i:Int) (xs:List V) (ss:List Sg) (ey:vs=[.ref l,.int i]) (eA:aQ K H l xs) (gn:jV H xs ss) (my:Q (.str (mC (Bg (bL ss) i))) H):Cy K vs H Q E
theorem pq (T:Txt K w mg t):bB P w K mg base iS (0+1) t.jc t.xQ ["line","at"] (Cy K):=by
 refine T.dm.ok Kz (fun vs H Q E h=>?_) (fun cdv A outer s H vs Q E hr h=>?_)
 ·obtain⟨_,_,_,_,rfl,_⟩:=h;rfl
 ·obtain⟨l,i,xs,ss,rfl,hS,hg,q⟩:=h;have out:¬(0<=i/\i<ss.length)->Bg (bL ss) i=none:=fun z=>by
   unfold Bg;split
   ·exact List.getElem?_eq_none (by rw[length_map];omega)
   ·rfl
  refine aF (ag (bM (HV By EX ao (pv 1) (aJ (aA.or aB) rfl T.cL cJ (aa (pv 0) af))) (aj (aC (bH aW (bH aW (pv 0) (pv 1) (fun _ _=>rfl)) ao (fun _ _=>rfl)))) aN) (aj (aC a9))) ?_;tm_up;refine cg (fun h0=>?_) (fun h0=>?_)
  ·have h0':=of_decide_eq_true h0;tm_up;refine .inl ⟨_,_,rfl,.inl hS,?_⟩;rw[eM hg];tm_up;refine cg (fun h1=>?_) (fun h1=>?_)
   ·have h1':=of_decide_eq_true h1;have hi:i.toNat<ss.length:=by omega
    have e:Bg (bL ss) i=some (ss[i.toNat]).1:=by
     unfold Bg;rw[if_pos h0',getElem?_map,getElem?_eq_getElem hi];rfl
    rw[e]at q;tm_up;refine P1 hS hg (n:=i.toNat) (by omega) (getElem?_eq_getElem hi) fun b hb=>?_;tm_up;exact q
   ·rw[out fun z=>h1 (decide_eq_true z.2)]at q;exact q
  ·rw[out fun z=>h0 (decide_eq_true z.1)]at q;exact⟨_,rfl,mx q⟩
inductive q8 (vs:List V)(H:Hp)(Q:VK)(E:XK):Prop
 |mk (k:Kd) (m:Int) (ey:vs=[.str k.str,.int m]) (eA:Q (.int (pw k m)) H):q8 vs H Q E
theorem Cz (T:Txt K w mg t):bB P w K mg base iS (0+1) t.dE t.nh ["kind","measure"] q8:=by
 refine T.fY.ok B2 (fun vs H Q E h=>?_) (fun cdv A outer s H vs Q E hr h=>?_)
 ·obtain⟨_,_,rfl,_⟩:=h;rfl
 ·obtain⟨k,m,rfl,q⟩:=h;refine aF (ag (bM (qB (PW.pt (xq (aH (ff.or (cW (aY hr))) (pv 1) ao (aR _)) (vA (aH PL (pv 0) (bF (v:=.ref t.bf) rfl T.om rfl) rfl))))) (aj (aC (bH SY (bF (v:=.ref t.bf) rfl T.om rfl) (pv 0) (fun _ _=>rfl)))) aN) (aj (aC (bH SY (bF (v:=.ref t.cm) rfl T.Cq rfl) (pv 0) (fun _ _=>rfl))))) ?_;refine Kf (decide (m=2)&&(decide (k=.G)||decide (k=.R))) ?_ ?_
  ·tm_up;rw[lI];refine cg (fun h=>?_) (fun h=>?_)
   ·tm_up;refine⟨_,_,_,rfl,rfl,T.mM,_,rfl,BG ?_⟩;rw[h];cases k <;> decide +kernel
   ·exact BG (by rw[Bool.eq_false_iff.mpr h];rfl)
  ·refine cg (fun h=>?_) (fun h=>?_)
   ·tm_up;obtain⟨h1,h2⟩:=Bool.and_eq_true_iff.mp h;have hm:=of_decide_eq_true h1;have e:[(Str.ofString "G",V.int 2),(Str.ofString "R",V.int 2)].lookup k.str=some (.int (pw k m)):=by
     rw[hm];cases k <;> first|decide +kernel|(exfalso;revert h2;decide)
    exact⟨_,_,_,_,rfl,rfl,T.mM,e,q⟩
   ·tm_up;have e:[(Str.ofString "G",V.int 3),(Str.ofString "D",V.int 2),(Str.ofString "R",V.int 3),(Str.ofString "s",V.int 1),(Str.ofString "d",V.int 1),(Str.ofString "r",V.int 1),(Str.ofString ".",V.int 0),(Str.ofString "3",V.int 0),(Str.ofString "2",V.int 0)].lookup k.str=some (.int (pw k m)):=by
     by_cases hm:m=2
     ·rw[hm]at h ⊢;cases k <;> first|decide +kernel|(exfalso;revert h;decide)
     ·cases k <;> first|decide +kernel|(simp only [pw,if_neg hm];decide +kernel)
    exact⟨_,_,_,_,rfl,rfl,T.AH,e,q⟩
inductive h9 (K:Frag)(vs:List V)(H:Hp)(Q:VK)(E:XK):Prop
 |mk (l:Addr) (b:Int) (xs:List V) (ss:List Sg) (ey:vs=[.ref l,.int b]) (eA:aQ K H l xs) (gn:jV H xs ss) (my:ss.length<=400) (tq:∀(f:Addr)(H':Hp),aq H H'->H f=none->H' f=some (.lst ((aS b (bL ss)).map V.int))->Q (.ref f) H'):h9 K vs H Q E
theorem px (T:Txt K w mg t):bB P w K mg base iS (0+3) t.a5 t.eN ["line","begin"] (h9 K):=by
 have ud:=Ak (P:=P) (base:=base) T;have d0:=pq (P:=P) (base:=base) T;have Em:=Cz (P:=P) (base:=base) T;refine T.bW.ok cK (fun vs H Q E h=>?_) (fun cdv A outer s H vs Q E hr h=>?_)
 ·obtain⟨_,_,_,_,rfl,_⟩:=h;rfl
 ·obtain⟨l,b,xs,ss,rfl,hS,hg,hn,q⟩:=h;refine aF (ag (aD (i:=2) cK.nd rfl (Or.inl rfl) (cC af)) (ag (qt PassesOwn.never rfl (MH rfl T.pk (ar ud (hr.mono (by decide)) rfl T.Ag T.gy.kp T.oZ .nil ay (aa (pv 0) (aa (pv 1) af)))) (mY rfl (aU (aK (i:=3) cK.nd rfl (Or.inl rfl)) (aU (aK (i:=4) cK.nd rfl (Or.inl rfl)) jH))) (aj (bM (qB (PW.pt (xq (aH (ff.or (cW (aY hr))) (pv 4) ao (aR _)) (xq (aH (ff.or (cW (aY hr))) (ar d0 (hr.mono (by decide)) rfl T.fu T.dm.kp T.eG .nil ay (aa (pv 0) (aa (pv 3) af))) a9 (aR _)) (vA (aH (ff.or (cW (aY hr))) (ar d0 (hr.mono (by decide)) rfl T.fu T.dm.kp T.eG .nil ay (aa (pv 0) (aa (aE (cU.or (aI.or cV)) (pv 3) ao) af))) a9 (aR _))))))) (aj (bV (zW plainAttrs_list slot_list_append type_list_append fB (pv 2) (aa (bF (v:=.int 3) rfl T.Cr ⟨_,rfl⟩) af)))) (aj (bV (zW plainAttrs_list slot_list_append type_list_append fB (pv 2) (aa (ar Em (hr.mono (by decide)) rfl T.Cg T.fY.kp T.nq .nil ay (aa (ar d0 (hr.mono (by decide)) rfl T.fu T.dm.kp T.eG .nil ay (aa (pv 0) (aa (pv 3) af))) (aa (pv 4) af))) af))))))) (aj (aC (pv 2))))) ?_;refine⟨big (by show 0<=1000;omega),fun f hf=>?_⟩;tm_up;refine⟨l,b,xs,ss,rfl,mB hS hf,hg.same (aq.upd hf),hn,fun f2 H2 s2 n2 h2=>⟨_,rfl,⟨_,aQ.of h2⟩,?_⟩⟩;have ml:(e6 b (bL ss)).length=ss.length:=by rw[xB,length_map]
  have Yl:f2≠f:=fun e=>by rw[e,ae]at n2;cases n2
  refine Ie (K:=K) (xs:=(e6 b (bL ss)).map V.int) (fun i σ H'=>∃(v w:Option V)(fs:List Int),σ=[some (.ref l),some (.int b),some (.ref f),v,w]/\aq H H'/\H' f=some (.lst (fs.map V.int))/\H' f2=some (.lst ((e6 b (bL ss)).map V.int))/\fs++tI ((bL ss).drop i) ((e6 b (bL ss)).drop i)=aS b (bL ss))
   ⟨none,none,[],rfl,(aq.upd hf).trans s2,s2 _ _ ae,h2,Ik ..⟩ ?_ ?_ ?_
  ·rintro i σ H' ⟨v,w,fs,rfl,_,_,h3,_⟩;exact aQ.of h3
  ·rintro i x t σ H' hx ⟨v,w,fs,rfl,s3,h3,h4,hm⟩ ht;obtain⟨m,hm1,rfl⟩:=FW hx;have hil:i<ss.length:=by
    have:=(List.getElem?_eq_some_iff.mp hm1).1;omega
   have hk:(bL ss)[i]? = some (ss[i]).1:=Kh (getElem?_eq_getElem hil);rw[kQ hk,kQ hm1]at hm;simp only [tI,head_drop]at hm;have hl:=congrArg List.length hm;simp only [length_append,length_cons,eC,length_map]at hl;have sT:aq H' (upd H' t (.tup [.int i,.int m])):=aq.upd ht;have hS':aQ K (upd H' t (.tup [.int i,.int m])) l xs:=(s3.trans sT).seq hS;have hg':=hg.same (s3.trans sT);have h3':=sT _ _ h3;have ka:Bg (bL ss) (i:Int)=some (ss[i]).1:=by rw[oH];exact hk
   have kb:Bg (bL ss) ((i:Int)+1)=(bL ss)[i+1]?:=by rw[<-oH];rfl
   refine⟨t,_,rfl,qk.of ae,rfl,_,_,rfl,_,_,rfl,rfl,?_⟩;have fin:∀ z:Int,z=bw m (ss[i]).1 (bL ss)[i+1]?->∃(v w:Option V)(fs':List Int),[some (V.ref l),some (V.int b),some (V.ref f),some (V.int (i:Int)),some (V.int m)]=[some (.ref l),some (.int b),some (.ref f),v,w]/\aq H (upd (upd H' t (.tup [.int i,.int m])) f (.lst (fs.map V.int++[V.int z]))) /\
     (upd (upd H' t (.tup [.int i,.int m])) f (.lst (fs.map V.int++[V.int z]))) f=some (.lst (fs'.map V.int))/\(upd (upd H' t (.tup [.int i,.int m])) f (.lst (fs.map V.int++[V.int z]))) f2=some (.lst ((e6 b (bL ss)).map V.int))/\fs'++tI ((bL ss).drop (i+1)) ((e6 b (bL ss)).drop (i+1))=aS b (bL ss):=by
    intro z hz;refine⟨_,_,fs++[z],rfl,kP (s3.trans sT) hf,by rw[ae,map_append];rfl,by rw[ai Yl];exact sT _ _ h4,?_⟩;rw[List.append_assoc,hz];exact hm
   refine Kf (decide (m=2)&&(decide (mC (Bg (bL ss) (i:Int)) = "G")&&decide (mC (Bg (bL ss) ((i:Int)+1)) = "."))) ?_ ?_
   ·tm_up;rw[lI];refine cg (fun h=>?_) (fun h=>?_)
    ·tm_up;refine⟨l,_,xs,ss,rfl,hS',hg',?_⟩;tm_up;rw[Ul];refine cg (fun h2=>?_) (fun h2=>?_)
     ·tm_up;refine⟨l,_,xs,ss,rfl,hS',hg',?_⟩;tm_up;rw[Ul];exact BG (by rw[h,h2];rfl)
     ·exact BG (by rw[h,Bool.eq_false_iff.mpr h2];rfl)
    ·exact BG (by rw[Bool.eq_false_iff.mpr h];rfl)
   ·refine cg (fun h=>?_) (fun h=>?_)
    ·tm_up;refine⟨.inl ⟨rfl,_,aQ.of h3'⟩,?_⟩;refine⟨_,_,_,rfl,rfl,h3',by rw[length_map];exact bq (by omega),fin 3 ?_⟩;obtain⟨h1,h2⟩:=Bool.and_eq_true_iff.mp h;obtain⟨h2,h5⟩:=Bool.and_eq_true_iff.mp h2;have e1:(ss[i]).1=.G:=by
      have:=of_decide_eq_true h2;rw[ka]at this;exact str_inj.mp (this.trans (rfl:("G":Str)=Kd.G.str))
     have e2:(bL ss)[i+1]? = some .dot:=by
      have:=of_decide_eq_true h5;rw[kb]at this;exact Ii.mp (this.trans (rfl:(".":Str)=mC (some .dot)))
     unfold bw;rw[if_pos ⟨of_decide_eq_true h1,e1,e2⟩]
    ·tm_up;refine⟨.inl ⟨rfl,_,aQ.of h3'⟩,?_⟩;tm_up;refine⟨l,_,xs,ss,rfl,hS',hg',?_⟩;tm_up;rw[ka];refine⟨_,_,rfl,?_⟩;refine⟨_,_,_,rfl,rfl,h3',by rw[length_map];exact bq (by omega),fin _ ?_⟩;unfold bw;rw[if_neg];rintro⟨h1,h2,h5⟩;refine h ?_;rw[ka,kb,h2,h5,h1];decide +kernel
  ·rintro σ H' ⟨v,w,fs,rfl,s3,h3,_,hm⟩;rw[length_map,ml,List.drop_eq_nil_of_le (by rw[length_map];exact Nat.le_refl _)]at hm;tm_up;have e:fs=aS b (bL ss):=by rw[<-hm];simp[tI]
   subst e;exact q f _ s3 hf h3
inductive IM (vs:List V)(H:Hp)(Q:VK)(E:XK):Prop
 |mk (p:Addr) (s:Sg) (ey:vs=[.ref p]) (eA:H p=some (.tup [.str s.1.str,.int s.2])) (gn:Q (.bl s.1.small) H):IM vs H Q E
theorem we (k:Kd):inV (.str k.str) [.str "s",.str "d",.str "r"]=k.small:=by cases k <;> decide +kernel
theorem IP (T:Txt K w mg t):bB P w K mg base iS (0+1) t.oW t.Gf ["sign"] IM:=by
 refine T.sv.ok Qr (fun vs H Q E h=>?_) (fun cdv A outer s H vs Q E hr h=>?_)
 ·obtain⟨_,_,rfl,_⟩:=h;rfl
 ·obtain⟨p,s,rfl,hp,q⟩:=h;rw[<-we]at q;refine aF (aj (aC (cq (df.or dc) (bH aW (pv 0) ao (fun _ _=>rfl)) (bF (v:=.ref t.dF) rfl T.Eh rfl) rfl))) ?_;tm_up;exact .inl ⟨_,_,rfl,.inr (T.Ei _),rfl,rfl,q⟩
inductive MX (K:Frag)(vs:List V)(H:Hp)(Q:VK)(E:XK):Prop
 |mk (l:Addr) (b:Int) (xs:List V) (ss:List Sg) (ey:vs=[.ref l,.int b]) (eA:aQ K H l xs) (gn:jV H xs ss) (my:ss.length<=400) (tq:∀(f:Addr)(ys:List V)(H':Hp),aq H H'->H f=none->H' f=some (.lst ys)->P2 H' ys (bI b (bL ss))->Q (.ref f) H'):MX K vs H Q E
theorem RW (T:Txt K w mg t):bB P w K mg base iS (0+3) t.tV t.Gg ["line","begin"] (MX K):=by
 have ud:=Ak (P:=P) (base:=base) T;have Gp:=IP (P:=P) (base:=base) T;refine T.xZ.ok oP (fun vs H Q E h=>?_) (fun cdv A outer s H vs Q E hr h=>?_)
 ·obtain⟨_,_,_,_,rfl,_⟩:=h;rfl
 ·obtain⟨l,b,xs,ss,rfl,hS,hg,hn,q⟩:=h;refine aF (ag (aD (i:=2) oP.nd rfl (Or.inl rfl) (cC af)) (ag (aD (i:=3) oP.nd rfl (Or.inl rfl) ao) (ag (qt PassesOwn.never rfl (VR rfl T.Uy rfl T.pk (pv 0) (ar ud (hr.mono (by decide)) rfl T.Ag T.gy.kp T.oZ .nil ay (aa (pv 0) (aa (pv 1) af)))) (mY rfl (aU (aK (i:=4) oP.nd rfl (Or.inl rfl)) (aU (mY rfl (aU (aK (i:=5) oP.nd rfl (Or.inl rfl)) (aU (aK (i:=6) oP.nd rfl (Or.inl rfl)) jH))) jH))) (aj (bM (qB (PW.pt (Mt (aH (ff.or (cW (aY hr))) (pv 6) ao (aR _)) (JQ (mX (d8 (ar Gp (hr.mono (by decide)) rfl T.IH T.sv.kp T.Bm .nil ay (aa (pv 5) af)))))))) (ag (xy (bM (aH EX (pv 3) (pv 4) (aR _)) (aj (bV (zW plainAttrs_list slot_list_append type_list_append fB (pv 2) (aa (lF (aa (pv 3) (aa (pv 4) af))) af)))) aN)) (aj (aD (i:=3) oP.nd rfl (Or.inl rfl) (aE (cU.or (aI.or cV)) (pv 4) ao)))) aN))) (ag (xy (bM (aH EX (pv 3) (aJ (aA.or aB) rfl T.cL cJ (aa (pv 0) af)) (aR _)) (aj (bV (zW plainAttrs_list slot_list_append type_list_append fB (pv 2) (aa (lF (aa (pv 3) (aa (aJ (aA.or aB) rfl T.cL cJ (aa (pv 0) af)) af))) af)))) aN)) (aj (aC (pv 2))))))) ?_;refine⟨big (by show 0<=1000;omega),fun f hf=>?_⟩;tm_up;refine⟨l,b,xs,ss,rfl,mB hS hf,hg.same (aq.upd hf),hn,fun f2 H2 s2 n2 h2=>⟨_,_,rfl,rfl,⟨xs,((aq.upd hf).trans s2).seq hS⟩,⟨_,aQ.of h2⟩,?_⟩⟩;have ml:(e6 b (bL ss)).length=ss.length:=by rw[xB,length_map]
  have Yl:f2≠f:=fun e=>by rw[e,ae]at n2;cases n2
  have cnt:(bI b (bL ss)).length<=401:=by
   have:=mD (gR b (bL ss)) 0 0;rw[qC,length_map]at this;exact Nat.le_trans this (by omega)
  refine Uh (K:=K) (xs:=xs) (ys:=(e6 b (bL ss)).map V.int) (fun i σ H'=>∃(v w u:Option V)(first:Nat)(ys:List V)(qs:List (Nat×Nat)),σ=[some (.ref l),some (.int b),some (.ref f),some (.int (first:Int)),v,w,u]/\aq H H'/\H' f=some (.lst ys)/\P2 H' ys qs/\H' f2=some (.lst ((e6 b (bL ss)).map V.int))/\first<=i/\qs++aX i first (Il ((bL ss).drop i) ((e6 b (bL ss)).drop i))=bI b (bL ss))
   (by rw[length_map,ml];exact eM hg) ⟨none,none,none,0,[],[],rfl,(aq.upd hf).trans s2,s2 _ _ ae,.nil,h2,Nat.le_refl _,by rw[List.drop_zero,List.drop_zero,Kg];rfl⟩ ?_ ?_ ?_
  ·rintro i σ H' ⟨v,w,u,first,ys,qs,rfl,s3,_,_,h4,_⟩;exact⟨s3.seq hS,aQ.of h4⟩
  ·rintro i x y t u' σ H' hx hy ⟨v,w,u,first,ys,qs,rfl,s3,h3,hq,h4,hfi,hm⟩ ht hu htu;obtain⟨s,hs,p,rfl,hp⟩:=D6 hg hx;obtain⟨m,hm1,rfl⟩:=FW hy;rw[kQ (Kh (f:=Prod.fst) hs),kQ hm1]at hm;simp only [Il]at hm;have sT:aq H' (upd (upd H' t (.tup [.ref p,.int m])) u' (.tup [.int i,.ref t])):=(aq.upd ht).trans (aq.upd (by rw[ai htu.symm];exact hu));have ut:upd (upd H' t (.tup [.ref p,.int m])) u' (.tup [.int i,.ref t]) t=some (.tup [.ref p,.int m]):=by rw[ai htu,ae]
   refine⟨u',_,rfl,qk.of ae,rfl,_,_,rfl,_,_,rfl,t,_,rfl,qk.of ut,rfl,_,_,rfl,_,_,rfl,rfl,rfl,?_⟩;generalize upd (upd H' t (.tup [.ref p,.int m])) u' (.tup [.int i,.ref t])=H3 at sT;have hp3:=(s3.trans sT) _ _ hp;have WS:=sT _ _ h3;have WT:=sd sT hq;refine Kf (!inR m s.1) ?_ ?_
   ·tm_up;rw[lI];refine cg (fun h=>?_) (fun h=>?_)
    ·refine BG ?_;unfold inR;have:=of_decide_eq_true h;simp[this]
    ·tm_up;refine⟨p,s,rfl,hp3,_,rfl,BG ?_⟩;have hm2:m≠2:=fun e=>h (decide_eq_true e);unfold inR;simp[hm2]
   ·cases hin:inR m s.1 with
    |false =>
     rw[hin]at hm;refine qm ?_;refine⟨fun σ1 H1=>σ1=[some (.ref l),some (.int b),some (.ref f),some (.int (first:Int)),some (.int i),some (.ref p),some (.int m)]/\aq H H1/\(∃ ys',H1 f=some (.lst ys')/\P2 H1 ys' (qs++if first<i then [(first,i)] else []))/\H1 f2=some (.lst ((e6 b (bL ss)).map V.int)),?_,?_⟩
     ·tm_up;refine cg (fun h=>?_) (fun h=>?_)
      ·have hlt:first<i:=by have:=of_decide_eq_true h;omega
       have ql:qs.length<=401:=by
        have:=congrArg List.length hm;simp only [length_append]at this;omega
       tm_up;refine⟨.inl ⟨rfl,_,aQ.of WS⟩,?_⟩;tm_up;refine⟨by show 2<=sizeLine;decide,fun z hz=>?_⟩;have sz:aq H3 (upd H3 z (.tup [.int (first:Int),.int i])):=aq.upd hz;have UC:=sz _ _ WS;refine⟨_,_,_,rfl,rfl,UC,by rw[eM WT];exact bq (by omega),?_⟩;rw[if_pos hlt];exact⟨rfl,kP ((s3.trans sT).trans sz) hf,⟨_,ae,sP (qE UC (sd sz WT)) (MI UC ⟨z,rfl,ae⟩)⟩,by rw[ai Yl];exact sz _ _ (sT _ _ h4)⟩
      ·have hlt:¬ first<i:=fun z=>h (decide_eq_true (by omega))
       rw[if_neg hlt,append_nil];exact⟨rfl,s3.trans sT,⟨_,WS,WT⟩,sT _ _ h4⟩
     ·rintro σ1 H1 ⟨rfl,sa,⟨ys',hb,hc⟩,hd⟩;tm_up;refine⟨_,_,_,i+1,ys',_,rfl,sa,hb,hc,hd,Nat.le_refl _,?_⟩;rw[<-hm,List.append_assoc];rfl
    |true =>
     rw[hin]at hm;refine mx ?_;exact⟨_,_,_,first,ys,qs,rfl,s3.trans sT,WS,WT,sT _ _ h4,by omega,hm⟩
  ·rintro σ H' ⟨v,w,u,first,ys,qs,rfl,s3,h3,hq,h4,hfi,hm⟩;rw[eM hg]at hm hfi;rw[List.drop_eq_nil_of_le (by rw[length_map];exact Nat.le_refl _)]at hm;have hm':qs++(if first<ss.length then [(first,ss.length)] else [])=bI b (bL ss):=hm;have ql:qs.length<=401:=by
    have:=congrArg List.length hm;simp only [length_append]at this;omega
   refine⟨fun σ1 H1=>σ1=[some (.ref l),some (.int b),some (.ref f),some (.int (first:Int)),v,w,u]/\aq H H1/\∃ ys',H1 f=some (.lst ys')/\P2 H1 ys' (bI b (bL ss)),?_,?_⟩
   ·tm_up;refine .inl ⟨_,_,rfl,.inl (s3.seq hS),?_⟩;rw[eM hg];tm_up;refine cg (fun h=>?_) (fun h=>?_)
    ·have hlt:first<ss.length:=by have:=of_decide_eq_true h;omega
     tm_up;refine⟨.inl ⟨rfl,_,aQ.of h3⟩,?_⟩;tm_up;refine .inl ⟨_,_,rfl,.inl (s3.seq hS),?_⟩;rw[eM hg];refine⟨by show 2<=sizeLine;decide,fun z hz=>?_⟩;have sz:aq H' (upd H' z (.tup [.int (first:Int),.int (ss.length:Int)])):=aq.upd hz;have UC:=sz _ _ h3;refine⟨_,_,_,rfl,rfl,UC,by rw[eM hq];exact bq (by omega),?_⟩;rw[if_pos hlt]at hm';rw[<-hm'];exact⟨rfl,kP (s3.trans sz) hf,_,ae,sP (qE UC (sd sz hq)) (MI UC ⟨z,rfl,ae⟩)⟩
    ·have hlt:¬ first<ss.length:=fun z=>h (decide_eq_true (by omega))
     rw[if_neg hlt,append_nil]at hm';rw[<-hm'];exact⟨rfl,s3,_,h3,hq⟩
   ·rintro σ1 H1 ⟨rfl,sa,ys',hb,hc⟩;tm_up;exact q f ys' H1 sa hf hb hc
inductive oo (K:Frag)(vs:List V)(H:Hp)(Q:VK)(E:XK):Prop
 |mk (l f:Addr) (a:Nat) (xs:List V) (ss:List Sg) (fs:List Int) (ey:vs=[.ref l,.ref f,.int (a:Int)]) (eA:aQ K H l xs) (gn:jV H xs ss) (my:H f=some (.lst (fs.map V.int))) (tq:fs.length=ss.length) (Q5:Q (.bl (cI (bL ss) fs a)) H):oo K vs H Q E
theorem oq (T:Txt K w mg t):bB P w K mg base iS (0+2) t.cE t.j9 ["line","found","first"] (oo K):=by
 have d0:=pq (P:=P) (base:=base) T;refine T.dn.ok xN (fun vs H Q E h=>?_) (fun cdv A outer s H vs Q E hr h=>?_)
 ·obtain⟨_,_,_,_,_,_,rfl,_⟩:=h;rfl
 ·obtain⟨l,f,a,xs,ss,fs,rfl,hS,hg,hf,hl,q⟩:=h;refine aF (aj (aC (fO (oz (cq (ff.or (cW (aY hr))) (ar d0 (hr.mono (by decide)) rfl T.fu T.dm.kp T.eG .nil ay (aa (pv 0) (aa (aE iX (pv 2) ao) af))) a9 (aR _)) (oy (cq (ff.or (cW (aY hr))) (bH aW (pv 1) (aE iX (pv 2) ao) (fun _ _=>rfl)) (bF (v:=.int 3) rfl T.Gk ⟨_,rfl⟩) (aR _))))))) ?_;refine Ke (.bl (cI (bL ss) fs a)) ?_ q;tm_up;refine⟨l,_,xs,ss,rfl,hS,hg,?_⟩;tm_up;rw[YT];refine cg (fun h=>?_) (fun h=>?_)
  ·have e:=of_decide_eq_true h;have e':1<=a/\a-1<ss.length:=by
    unfold Bg at e;split at e
    ·have:=(List.getElem?_eq_some_iff.mp e).1;rw[length_map]at this;omega
    ·cases e
   tm_up;refine X1 (aQ.of hf) (n:=a-1) (by omega) (getElem?_eq_getElem (by omega)) ?_;tm_up;rw[lI];refine PN ?_;unfold cI;rw[h,List.getD_eq_getElem?_getD,getElem?_eq_getElem (by omega)];rfl
  ·refine PN ?_;unfold cI;rw[Bool.eq_false_iff.mpr h];rfl
inductive mO (K:Frag)(vs:List V)(H:Hp)(Q:VK)(E:XK):Prop
 |mk (l:Addr) (z:Nat) (xs:List V) (ss:List Sg) (ey:vs=[.ref l,.int (z:Int)]) (eA:aQ K H l xs) (gn:jV H xs ss) (my:Q (.bl (cD (bL ss) z)) H):mO K vs H Q E
theorem MY (k:Option Kd):inV (.str (mC k)) [.str "G",.str "D",.str "R"]=cX k:=by
 cases k with
 |none=>decide +kernel
 |some k=>cases k <;> decide +kernel
theorem mP (T:Txt K w mg t):bB P w K mg base iS (0+2) t.b6 t.jd ["line","behind"] (mO K):=by
 have d0:=pq (P:=P) (base:=base) T;refine T.cT.ok vR (fun vs H Q E h=>?_) (fun cdv A outer s H vs Q E hr h=>?_)
 ·obtain⟨_,_,_,_,rfl,_⟩:=h;rfl
 ·obtain⟨l,z,xs,ss,rfl,hS,hg,q⟩:=h;refine aF (aj (aC (fO (oz (cq (ff.or (cW (aY hr))) (ar d0 (hr.mono (by decide)) rfl T.fu T.dm.kp T.eG .nil ay (aa (pv 0) (aa (pv 1) af))) a9 (aR _)) (oy (cq (vE.or vF) (ar d0 (hr.mono (by decide)) rfl T.fu T.dm.kp T.eG .nil ay (aa (pv 0) (aa (aE (cU.or (aI.or cV)) (pv 1) ao) af))) (bF (v:=.ref t.cO) rfl T.sS rfl) rfl)))))) ?_;refine Ke (.bl (cD (bL ss) z)) ?_ q;tm_up;refine⟨l,_,xs,ss,rfl,hS,hg,?_⟩;tm_up;rw[YT];refine cg (fun h=>?_) (fun h=>?_)
  ·tm_up;refine⟨l,_,xs,ss,rfl,hS,hg,?_⟩;tm_up;refine .inl ⟨_,_,rfl,.inr (T.sU _),rfl,rfl,PN ?_⟩;unfold cD;rw[oH]at h;have e:Bg (bL ss) ((z:Int)+1)=(bL ss)[z+1]?:=by rw[<-oH];rfl
   rw[h,<-MY,<-e];rfl
  ·refine PN ?_;unfold cD;rw[oH]at h;rw[Bool.eq_false_iff.mpr h];rfl
def Qx (K:Frag)(g:List Kd->List Int->Nat->Nat->Bool×List Int):Sp:=fun vs H Q _=>∃(l f:Addr)(a z:Nat)(xs:List V)(ss:List Sg)(fs:List Int),vs=[.ref l,.ref f,.int (a:Int),.int (z:Int)]/\aQ K H l xs/\jV H xs ss/\H f=some (.lst (fs.map V.int))/\fs.length=ss.length/\a<z/\z<=ss.length /\
 Q (.bl (g (bL ss) fs a z).1) (upd H f (.lst ((g (bL ss) fs a z).2.map V.int)))
theorem ue (T:Txt K w mg t):bB P w K mg base iS (0+3) t.bN t.gX ["line","found","first","behind"] (Qx K jL):=by
 have kd:=oq (P:=P) (base:=base) T;have jm:=mP (P:=P) (base:=base) T;refine T.dz.ok tR (fun vs H Q E h=>?_) (fun cdv A outer s H vs Q E hr h=>?_)
 ·obtain⟨_,_,_,_,_,_,_,rfl,_⟩:=h;rfl
 ·obtain⟨l,f,a,z,xs,ss,fs,rfl,hS,hg,hf,hl,Te,hz,q⟩:=h;unfold jL at q;refine aF (ag (bM (d8 (ar kd (hr.mono (by decide)) rfl T.n9 T.dn.kp T.gj .nil ay (aa (pv 0) (aa (pv 1) (aa (pv 2) af))))) (ag (mZ (bF (v:=.int 2) rfl T.fb ⟨_,rfl⟩) (Bu (pv 1) (aE iX (pv 2) ao) set_list)) (aj (aC qp))) aN) (ag (bM (d8 (ar jm (hr.mono (by decide)) rfl T.mH T.cT.kp T.fJ .nil ay (aa (pv 0) (aa (pv 3) af)))) (ag (mZ (bF (v:=.int 2) rfl T.fb ⟨_,rfl⟩) (Bu (pv 1) (pv 3) set_list)) (aj (aC qp))) aN) (aj (aC qp)))) ?_;tm_up;refine⟨l,f,a,xs,ss,fs,rfl,hS,hg,hf,hl,_,rfl,?_⟩;refine cg (fun h=>?_) (fun h=>?_)
  ·rw[if_pos h]at q;have hp:=nS h;rw[length_map]at hp;tm_up;refine⟨_,_,_,_,rfl,rfl,hf,vJ (j:=a-1) (by omega) (by rw[length_map];omega),?_⟩;rw[oE];exact q
  ·rw[if_neg h]at q;tm_up;refine⟨l,z,xs,ss,rfl,hS,hg,_,rfl,?_⟩;refine cg (fun h2=>?_) (fun h2=>?_)
   ·rw[if_pos h2]at q;have hp:=tJ h2;rw[length_map]at hp;tm_up;refine⟨_,_,_,_,rfl,rfl,hf,vJ (j:=z) rfl (by rw[length_map];omega),?_⟩;rw[oE];exact q
   ·rw[if_neg h2,BI hf]at q;exact q
theorem uf (T:Txt K w mg t):bB P w K mg base iS (0+3) t.bO t.gY ["line","found","first","behind"] (Qx K jM):=by
 have kd:=oq (P:=P) (base:=base) T;have jm:=mP (P:=P) (base:=base) T;have d0:=pq (P:=P) (base:=base) T;refine T.dA.ok tS (fun vs H Q E h=>?_) (fun cdv A outer s H vs Q E hr h=>?_)
 ·obtain⟨_,_,_,_,_,_,_,rfl,_⟩:=h;rfl
 ·obtain⟨l,f,a,z,xs,ss,fs,rfl,hS,hg,hf,hl,Te,hz,q⟩:=h;unfold jM at q;refine aF (ag (bM (qB (PW.pt (xq (aH (df.or dc) (ar d0 (hr.mono (by decide)) rfl T.fu T.dm.kp T.eG .nil ay (aa (pv 0) (aa (pv 3) af))) (bF (v:=.ref t.cO) rfl T.sS rfl) rfl) (vA (aH (ff.or (cW (aY hr))) (ar d0 (hr.mono (by decide)) rfl T.fu T.dm.kp T.eG .nil ay (aa (pv 0) (aa (aE iX (pv 3) ao) af))) a9 (aR _)))))) (ag (mZ (bF (v:=.int 2) rfl T.AI ⟨_,rfl⟩) (Bu (pv 1) (aE iX (pv 3) ao) set_list)) (aj (aC qp))) aN) (ag (bM (qB (PW.pt (xq (d8 (ar kd (hr.mono (by decide)) rfl T.n9 T.dn.kp T.gj .nil ay (aa (pv 0) (aa (pv 1) (aa (pv 2) af))))) (vA (d8 (ar jm (hr.mono (by decide)) rfl T.mH T.cT.kp T.fJ .nil ay (aa (pv 0) (aa (pv 3) af)))))))) (ag (mZ (bF (v:=.int 2) rfl T.fb ⟨_,rfl⟩) (Bu (pv 1) (aE iX (pv 2) ao) set_list)) (ag (mZ (bF (v:=.int 2) rfl T.fb ⟨_,rfl⟩) (Bu (pv 1) (pv 3) set_list)) (aj (aC qp)))) aN) (aj (aC qp)))) ?_;refine Kf (cX (bL ss)[z]? && decide ((bL ss)[z-1]? = some .s)) ?_ ?_
  ·tm_up;refine⟨l,_,xs,ss,rfl,hS,hg,?_⟩;tm_up;refine .inl ⟨_,_,rfl,.inr (T.sU _),rfl,rfl,_,rfl,?_⟩;show if inV (.str (mC (Bg (bL ss) (z:Int)))) [.str "G",.str "D",.str "R"]=true then _ else _;rw[MY,oH];refine cg (fun h=>?_) (fun h=>?_)
   ·tm_up;refine⟨l,_,xs,ss,rfl,hS,hg,?_⟩;tm_up;rw[ZV];have e:Bg (bL ss) ((z:Int)-1)=(bL ss)[z-1]?:=by rw[<-oH];congr 1;omega
    rw[e];exact BG (by rw[h];rfl)
   ·exact BG (by rw[Bool.eq_false_iff.mpr h];rfl)
  ·refine cg (fun h=>?_) (fun h=>?_)
   ·rw[if_pos h]at q;tm_up;refine⟨_,_,_,_,rfl,rfl,hf,vJ (j:=z-1) (by omega) (by rw[length_map];omega),?_⟩;rw[oE];exact q
   ·rw[if_neg h]at q;refine Kf (cI (bL ss) fs a&&cD (bL ss) z) ?_ ?_
    ·tm_up;refine⟨l,f,a,xs,ss,fs,rfl,hS,hg,hf,hl,_,rfl,?_⟩;refine cg (fun h=>?_) (fun h=>?_)
     ·tm_up;refine⟨l,z,xs,ss,rfl,hS,hg,_,rfl,BG ?_⟩;rw[h];rfl
     ·exact BG (by rw[Bool.eq_false_iff.mpr h];rfl)
    ·refine cg (fun h2=>?_) (fun h2=>?_)
     ·rw[if_pos h2]at q;have hp:=nS (Bool.and_eq_true_iff.mp h2).1;have hr:=tJ (Bool.and_eq_true_iff.mp h2).2;rw[length_map]at hp hr;tm_up;refine⟨_,_,_,_,rfl,rfl,hf,vJ (j:=a-1) (by omega) (by rw[length_map];omega),?_⟩;rw[oE];tm_up;refine⟨_,_,_,_,rfl,rfl,ae,vJ (j:=z) rfl (by rw[length_map,List.length_set];omega),?_⟩;rw[oE,dH];exact q
     ·rw[if_neg h2,BI hf]at q;exact q
theorem En (T:Txt K w mg t):bB P w K mg base iS (0+4) t.ef t.oX ["line","found","first","behind"] (Qx K settle):=by
 have wj:=ue (P:=P) (base:=base) T;have wk:=uf (P:=P) (base:=base) T;refine T.h8.ok sQ (fun vs H Q E h=>?_) (fun cdv A outer s H vs Q E hr h=>?_)
 ·obtain⟨_,_,_,_,_,_,_,rfl,_⟩:=h;rfl
 ·obtain⟨l,f,a,z,xs,ss,fs,rfl,hS,hg,hf,hl,Te,hz,q⟩:=h;unfold settle at q;refine aF (ag (aD (i:=4) sQ.nd rfl (Or.inl rfl) (aE gQ (aE iX (pv 3) (pv 2)) ao)) (ag (bM (aH (ff.or (cW (aY hr))) (pv 4) ao (aR _)) (aj (aC (ar wj (hr.mono (by decide)) rfl T.t5 T.dz.kp T.hZ .nil ay (aa (pv 0) (aa (pv 1) (aa (pv 2) (aa (pv 3) af))))))) aN) (ag (bM (aH (ff.or (cW (aY hr))) (pv 4) ao (aR _)) (aj (aC (ar wk (hr.mono (by decide)) rfl T.t6 T.dA.kp T.h7 .nil ay (aa (pv 0) (aa (pv 1) (aa (pv 2) (aa (pv 3) af))))))) aN) (aj (aC qp))))) ?_;tm_up;rw[lI];have e:((z:Int)-(a:Int)) % 3=(((z-a) % 3:Nat):Int):=by omega
  refine cg (fun h=>?_) (fun h=>?_)
  ·have h1:(z-a) % 3=1:=by have:((z:Int)-(a:Int)) % 3=1:=of_decide_eq_true h;omega
   rw[if_pos h1]at q;tm_up;exact⟨l,f,a,z,xs,ss,fs,rfl,hS,hg,hf,hl,Te,hz,q⟩
  ·have h1:¬(z-a) % 3=1:=fun c=>h (decide_eq_true (by show((z:Int)-(a:Int)) % 3=1;omega));rw[if_neg h1]at q;tm_up;rw[lI];refine cg (fun h=>?_) (fun h=>?_)
   ·have h2:(z-a) % 3=2:=by have:((z:Int)-(a:Int)) % 3=2:=of_decide_eq_true h;omega
    rw[if_pos h2]at q;tm_up;exact⟨l,f,a,z,xs,ss,fs,rfl,hS,hg,hf,hl,Te,hz,q⟩
   ·have h2:¬(z-a) % 3=2:=fun c=>h (decide_eq_true (by show((z:Int)-(a:Int)) % 3=2;omega));rw[if_neg h2,BI hf]at q;exact q
inductive CA (K:Frag)(vs:List V)(H:Hp)(Q:VK)(E:XK):Prop
 |mk (l:Addr) (b:Int) (xs:List V) (ss:List Sg) (ey:vs=[.ref l,.int b]) (eA:aQ K H l xs) (gn:jV H xs ss) (my:ss.length<=400) (tq:∀(p f lo:Addr)(ys:List V)(H':Hp),aq H H'->H f=none->H lo=none->f≠lo->H' p=some (.tup [.ref f,.ref lo])->H' f=some (.lst ((bJ b (bL ss)).1.map V.int))->H' lo=some (.lst ys)->P2 H' ys (bJ b (bL ss)).2->Q (.ref p) H'):CA K vs H Q E
theorem KW (T:Txt K w mg t):bB P w K mg base iS (0+5) t.je t.xR ["line","begin"] (CA K):=by
 have qo:=px (P:=P) (base:=base) T;have UD:=RW (P:=P) (base:=base) T;have Gq:=En (P:=P) (base:=base) T;refine T.oa.ok lL (fun vs H Q E h=>?_) (fun cdv A outer s H vs Q E hr h=>?_)
 ·obtain⟨_,_,_,_,rfl,_⟩:=h;rfl
 ·obtain⟨l,b,xs,ss,rfl,hS,hg,hn,q⟩:=h;refine aF (ag (aD (i:=2) lL.nd rfl (Or.inl rfl) (ar qo (hr.mono (by decide)) rfl T.o3 T.bW.kp T.eP .nil ay (aa (pv 0) (aa (pv 1) af)))) (ag (aD (i:=3) lL.nd rfl (Or.inl rfl) (cC af)) (ag (qt PassesOwn.never rfl (mz (ar UD (hr.mono (by decide)) rfl T.RQ T.xZ.kp T.KJ .nil ay (aa (pv 0) (aa (pv 1) af)))) (mY rfl (aU (aK (i:=4) lL.nd rfl (Or.inl rfl)) (aU (aK (i:=5) lL.nd rfl (Or.inl rfl)) jH))) (aj (bM (mX (d8 (ar Gq (hr.mono (by decide)) rfl T.Eg T.h8.kp T.o5 .nil ay (aa (pv 0) (aa (pv 2) (aa (pv 4) (aa (pv 5) af))))))) (aj (bV (zW plainAttrs_list slot_list_append type_list_append fB (pv 3) (aa (lF (aa (pv 4) (aa (pv 5) af))) af)))) aN))) (aj (aC (lF (aa (pv 2) (aa (pv 3) af)))))))) ?_;tm_up;refine⟨l,b,xs,ss,rfl,hS,hg,hn,fun f H1 s1 n1 h1=>?_⟩;refine⟨big (by show 0<=1000;omega),fun lo hlo=>?_⟩;have WU:=s1.trans (aq.upd (o:=.lst []) hlo);tm_up;refine⟨l,b,xs,ss,rfl,WU.seq hS,hg.same WU,hn,fun r zs H2 s2 n2 h2 hz=>⟨_,rfl,⟨_,aQ.of h2⟩,?_⟩⟩;have V9:H lo=none:=s1.free hlo;have Ym:f≠lo:=ak h1 hlo;have nrf:r≠f:=fun e=>by
   have:=WU.free n2;have h1':=aq.upd (o:=.lst []) hlo _ _ h1;rw[<-e,n2]at h1';cases h1'
  have nrl:r≠lo:=fun e=>by rw[e,ae]at n2;cases n2
  have bl:(aS b (bL ss)).length=ss.length:=by rw[eC,length_map]
  have cnt:(bI b (bL ss)).length<=401:=by
   have:=mD (gR b (bL ss)) 0 0;rw[qC,length_map]at this;exact Nat.le_trans this (by omega)
  refine Bx (K:=K) (xs:=zs) (fun i σ H'=>∃(v w:Option V)(c:Va)(ys:List V),σ=[some (.ref l),some (.int b),some (.ref f),some (.ref lo),v,w]/\aq H H'/\H' f=some (.lst (c.1.map V.int))/\H' lo=some (.lst ys)/\P2 H' ys c.2/\H' r=some (.lst zs)/\P2 H' zs (bI b (bL ss))/\c.1.length=ss.length/\c.2.length<=i/\((bI b (bL ss)).drop i).foldl (i0 (bL ss)) c=bJ b (bL ss))
   ⟨none,none,(aS b (bL ss),[]),[],rfl,WU.trans s2,s2 _ _ (aq.upd (o:=.lst []) hlo _ _ h1),s2 _ _ ae,.nil,h2,hz,bl,Nat.le_refl _,rfl⟩ ?_ ?_ ?_
  ·rintro i σ H' _ ⟨v,w,c,ys,rfl,_,_,_,_,hr,_⟩;exact aQ.of hr
  ·rintro i x σ H' hx ⟨v,w,c,ys,rfl,s3,UE,UG,hys,Y3,hzs,hcl,hci,Fv⟩;obtain⟨pr,hpr,p,rfl,hp⟩:=D6 hzs hx;have hin:=dP b (bL ss) pr (mem_of_getElem? hpr);rw[length_map]at hin;rw[kQ hpr,List.foldl_cons]at Fv;have hil:i<401:=by
    have:=(List.getElem?_eq_some_iff.mp hpr).1;omega
   refine⟨p,_,rfl,qk.of hp,rfl,_,_,rfl,_,_,rfl,rfl,?_⟩;tm_up;refine⟨l,f,pr.1,pr.2,xs,ss,c.1,rfl,s3.seq hS,hg.same s3,UE,hcl,hin.1,hin.2,?_⟩;have s4:aq H (upd H' f (.lst ((settle (bL ss) c.1 pr.1 pr.2).2.map V.int))):=kP s3 n1;have UH:upd H' f (.lst ((settle (bL ss) c.1 pr.1 pr.2).2.map V.int)) lo=some (.lst ys):=by rw[ai Ym.symm];exact UG
   have Y4:upd H' f (.lst ((settle (bL ss) c.1 pr.1 pr.2).2.map V.int)) r=some (.lst zs):=by rw[ai nrf];exact Y3
   have Wa:(settle (bL ss) c.1 pr.1 pr.2).2.length=ss.length:=by rw[lJ];exact hcl
   tm_up;refine cg (fun h=>?_) (fun h=>?_)
   ·have hst:(settle (bL ss) c.1 pr.1 pr.2).1=false:=by
     cases e:(settle (bL ss) c.1 pr.1 pr.2).1
     ·rfl
     ·rw[e]at h;cases h
    tm_up;refine⟨.inl ⟨rfl,_,aQ.of UH⟩,?_⟩;tm_up;refine⟨by show 2<=sizeLine;decide,fun z hz=>?_⟩;have sz:=aq.upd (o:=.tup [.int (pr.1:Int),.int (pr.2:Int)]) hz;have RY:=sz _ _ UH;refine⟨_,_,_,rfl,rfl,RY,by rw[eM hys];exact bq (by omega),?_⟩;refine⟨_,_,((settle (bL ss) c.1 pr.1 pr.2).2,c.2++[pr]),_,rfl,kP (s4.trans sz) V9,by rw[ai Ym];exact sz _ _ ae,ae,sP (qE RY (sd sz (qE UE hys))) (MI RY ⟨z,rfl,ae⟩),
     by rw[ai nrl];exact sz _ _ Y4,qE RY (sd sz (qE UE hzs)),Wa,by simp;omega,?_⟩
    rw[<-Fv];unfold i0;rw[hst];rfl
   ·have hst:(settle (bL ss) c.1 pr.1 pr.2).1=true:=by
     cases e:(settle (bL ss) c.1 pr.1 pr.2).1
     ·rw[e]at h;exact absurd rfl h
     ·rfl
    refine⟨_,_,((settle (bL ss) c.1 pr.1 pr.2).2,c.2),ys,rfl,s4,ae,UH,qE UE hys,Y4,qE UE hzs,Wa,by show c.2.length<=i+1;omega,?_⟩;rw[<-Fv];unfold i0;rw[hst];rfl
  ·rintro σ H' ⟨v,w,c,ys,rfl,s3,UE,UG,hys,Y3,hzs,hcl,hci,Fv⟩;rw[eM hz,List.drop_length]at Fv;have e:c=bJ b (bL ss):=Fv;subst e;tm_up;refine⟨by show 2<=sizeLine;decide,fun z hz=>?_⟩;have sz:=aq.upd (o:=.tup [.ref f,.ref lo]) hz;exact q z f lo ys _ (s3.trans sz) n1 V9 Ym ae (sz _ _ UE) (sz _ _ UG) (sd sz hys)
inductive Fw (K:Frag)(vs:List V)(H:Hp)(Q:VK)(E:XK):Prop
 |mk (l:Addr) (b:Int) (xs:List V) (ss:List Sg) (ey:vs=[.ref l,.int b]) (eA:aQ K H l xs) (gn:jV H xs ss) (my:ss.length<=400) (tq:∀(f:Addr)(H':Hp),aq H H'->H f=none->H' f=some (.lst ((bJ b (bL ss)).1.map V.int))->Q (.ref f) H'):Fw K vs H Q E
theorem N3 (T:Txt K w mg t):bB P w K mg base iS (0+6) t.lO t.vT ["line","begin"] (Fw K):=by
 have N4:=KW (P:=P) (base:=base) T;refine T.lU.ok NU (fun vs H Q E h=>?_) (fun cdv A outer s H vs Q E hr h=>?_)
 ·obtain⟨_,_,_,_,rfl,_⟩:=h;rfl
 ·obtain⟨l,b,xs,ss,rfl,hS,hg,hn,q⟩:=h;refine aF (aj (aC (bH aW (ar N4 (hr.mono (by decide)) rfl T.KL T.oa.kp T.x3 .nil ay (aa (pv 0) (aa (pv 1) af))) ao (fun _ _=>rfl)))) ?_;tm_up;refine⟨l,b,xs,ss,rfl,hS,hg,hn,fun p f lo ys H' s1 n1 n2 _ hp hf _ _=>?_⟩;tm_up;exact q f H' s1 n1 hf
theorem Qy (k:Kd):(([(Str.ofString "3",V.str "2"),(Str.ofString "2",V.str "3")]:List (Str×V)).lookup k.str).getD (.str k.str)=.str (Qc k).str:=by cases k <;> decide +kernel
inductive Fx (K:Frag)(vs:List V)(H:Hp)(Q:VK)(E:XK):Prop
 |mk (l:Addr) (xs:List V) (ss:List Sg) (ey:vs=[.ref l]) (eA:aQ K H l xs) (gn:jV H xs ss) (my:ss.length<=400) (tq:∀(f:Addr)(ys:List V)(H':Hp),aq H H'->H f=none->H' f=some (.lst ys)->jV H' ys (ss.map qH)->Q (.ref f) H'):Fx K vs H Q E
theorem Fy (T:Txt K w mg t):bB P w K mg base iS (0+1) t.lQ t.Ca ["line"] (Fx K):=by
 refine T.og.ok NV (fun vs H Q E h=>?_) (fun cdv A outer s H vs Q E hr h=>?_)
 ·obtain⟨_,_,_,rfl,_⟩:=h;rfl
 ·obtain⟨l,xs,ss,rfl,hS,hg,hn,q⟩:=h;refine aF (aj (aC (oG (cn:=["kind","tone"]) rfl (dI.of rfl) (mz (pv 0)) (fun _=>(mY rfl (aU (aK (i:=0) Ae rfl (Or.inl rfl)) (aU (aK (i:=1) Ae rfl (Or.inl rfl)) jH)))) (fun _=>tD) (fun _=>(lF (aa (PM (bF (v:=.ref t.ck) rfl T.Cp rfl) (pv 0) (pv 0)) (aa (pv 1) af))))))) ?_;tm_up;refine⟨⟨xs,hS⟩,fun D b hD=>?_⟩;refine nQ (K:=K) (xs:=xs) (fun i ys σ H'=>∃(v w:Option V),σ=[v,w,some (.ref l)]/\aq H H'/\H' D=some (.lst ys)/\jV H' ys ((ss.take i).map qH))
   ⟨none,none,rfl,aq.upd hD,ae,.nil⟩ ?_ ?_ ?_
  ·rintro i ys σ H' ⟨v,w,rfl,s2,_⟩;exact s2.seq hS
  ·rintro i ys x σ H' hx ⟨v,w,rfl,s2,MZ,hsg⟩ N hN;obtain⟨s,hs,p,rfl,hp⟩:=D6 hg hx;have hi:i<ss.length:=(List.getElem?_eq_some_iff.mp hs).1;refine⟨p,_,rfl,qk.of (s2 _ _ hp),rfl,_,_,rfl,_,_,rfl,rfl,?_⟩;refine⟨_,_,rfl,T.AG,?_⟩;tm_up;rw[Qy];refine⟨by show 2<=sizeLine;decide,fun z hz=>?_⟩;have sz:=aq.upd (o:=.tup [.str (Qc s.1).str,.int s.2]) hz;have Yn:=sz _ _ MZ;refine⟨Yn,?_,?_⟩
   ·rw[eM hsg,length_map,length_take];exact bq (by omega)
   ·refine hN _ _ _ ⟨_,_,rfl,kP (s2.trans sz) hD,ae,?_⟩;rw[take_succ,hs,map_append];exact sP (P0 Yn (hsg.same sz)) (PZ Yn ⟨z,rfl,ae⟩)
  ·rintro ys σ H' ⟨v,w,rfl,s2,MZ,hsg⟩;rw[eM hg,take_length]at hsg;exact q D ys H' s2 hD MZ hsg
inductive sY (c:Cs)(vs:List V)(H:Hp)(Q:VK)(E:XK):Prop
 |mk (x:Addr) (F:Addr->Prop) (vw:Vw) (ps fs:List Vw) (n:Str) (ss:List Sg) (ey:vs=[.ref x,.str n]) (eA:Fb c H x F vw ps fs) (gn:bC vw n=some (.pl ss)) (my:∀(l:Addr)(ys:List V)(H':Hp),H l=none->aq H H'->H' l=some (.lst ys)->jV H' ys ss->Q (.ref l) H'):sY c vs H Q E
theorem Eo (T:Txt K w mg t):bB P w K mg base iS (0+3) t.dw t.mG ["self","name"] (sY (cs t)):=by
 have ia:=nr (P:=P) (base:=base) T;have CC:=Fy (P:=P) (base:=base) T;have bj:=dB (P:=P) (base:=base) T;refine T.j0.ok a8 (fun vs H Q E h=>?_) (fun cdv A outer s H vs Q E hr h=>?_)
 ·obtain⟨_,_,_,_,_,_,_,rfl,_⟩:=h;rfl
 ·obtain⟨x,F,vw,ps,fs,n,ss,rfl,B,hf,q⟩:=h;refine aF (ag (aD (i:=2) a8.nd rfl (Or.inl rfl) (bo (pv 0) T.aL T.nk ia (hr.mono (by decide)) T.hI .nil ay (aa (pv 1) af))) (ag (bM (aH JT (pv 2) Bt (aR _)) (aj (aC (gG vG rfl T.Gj FT (aa (dC (bo (pv 0) T.aL T.dy bj (hr.mono (by decide)) T.bR .nil ay (aa (pv 1) af)) rfl) af)))) aN) (ag (mZ (pv 2) (mY rfl (aU (aK (i:=3) a8.nd rfl (Or.inl rfl)) (aU (aK (i:=4) a8.nd rfl (Or.inl rfl)) (aU (aK (i:=5) a8.nd rfl (Or.inl rfl)) (aU (aK (i:=6) a8.nd rfl (Or.inl rfl)) jH)))))) (ag (aD (i:=7) a8.nd rfl (Or.inl rfl) PX) (aj (aC (fO (lC (d8 (pv 6)) (ar CC (hr.mono (by decide)) rfl T.Ft T.og.kp T.vW .nil ay (aa (pv 7) af)) (pv 7))))))))) ?_;obtain⟨L,D,U,all,M,Ps,Fs,es,us,b,iM,pp,pf,f⟩:=B.ex;obtain⟨dx,hx⟩:=b.hx;obtain⟨vx,g,gv⟩:=b.tL iM;refine⟨_,rfl,x,dx,_,rfl,hx,oI _ _ _,_,rfl,x,F,vw,ps,fs,n,rfl,B,?_⟩;rw[hf];refine⟨_,rfl,rfl,_,rfl,?_⟩;refine cg (fun _=>?_) (fun h=>absurd (by decide) h);refine⟨_,rfl,x,dx,_,rfl,hx,dJ _ _ _,_,rfl,x,dx,L,D,U,M L,vx,n,rfl,hx,b.hL,g,?_⟩;rcases Fd gv (fun _ _ r=>r.2.1) n with ⟨f1,f2⟩|⟨a,th,j,f1,f2,r,an,fj,fw⟩
  ·rw[f2]at hf;cases hf
  rw[f1];rw[f2]at hf;cases hf;refine⟨a.o,_,a.d,_,_,rfl,(b.ha a r.1).1,T.et,T.bx,nV _ _ _,?_⟩;refine⟨_,_,rfl,.inl (aQ.of (b.ha a r.1).2),fun l hl=>?_⟩;exact q l _ _ hl (aq.upd hl) ae (r.2.2.2.same (aq.upd hl))
inductive wm (c:Cs)(vs:List V)(H:Hp)(Q:VK)(E:XK):Prop
 |mk (x:Addr) (F:Addr->Prop) (vw:Vw) (ps fs:List Vw) (n:Str) (ey:vs=[.ref x,.str n]) (eA:Fb c H x F vw ps fs) (gn:match bC vw n with
 |none=>RX E c .jN H
 |some _=>∀(l:Addr)(ys:List V)(H':Hp),H l=none->aq H H'->H' l=some (.lst ys)->jV H' ys (Ir vw n)->Q (.ref l) H'):wm c vs H Q E
theorem Gs (T:Txt K w mg t):bB P w K mg base iS (0+4) t.dw t.mG ["self","name"] (wm (cs t)):=by
 have Gu:=Eo (P:=P) (base:=base) T;have ia:=nr (P:=P) (base:=base) T;have CC:=Fy (P:=P) (base:=base) T;have bj:=dB (P:=P) (base:=base) T;refine T.j0.ok a8 (fun vs H Q E h=>?_) (fun cdv A outer s H vs Q E hr h=>?_)
 ·obtain⟨_,_,_,_,_,_,rfl,_⟩:=h;rfl
 ·obtain⟨x,F,vw,ps,fs,n,rfl,B,q⟩:=h;refine aF (ag (aD (i:=2) a8.nd rfl (Or.inl rfl) (bo (pv 0) T.aL T.nk ia (hr.mono (by decide)) T.hI .nil ay (aa (pv 1) af))) (ag (bM (aH JT (pv 2) Bt (aR _)) (aj (aC (gG vG rfl T.Gj FT (aa (dC (bo (pv 0) T.aL T.dy bj (hr.mono (by decide)) T.bR .nil ay (aa (pv 1) af)) rfl) af)))) aN) (ag (mZ (pv 2) (mY rfl (aU (aK (i:=3) a8.nd rfl (Or.inl rfl)) (aU (aK (i:=4) a8.nd rfl (Or.inl rfl)) (aU (aK (i:=5) a8.nd rfl (Or.inl rfl)) (aU (aK (i:=6) a8.nd rfl (Or.inl rfl)) jH)))))) (ag (aD (i:=7) a8.nd rfl (Or.inl rfl) (bo (pv 0) T.aL T.o6 Gu (hr.mono (by decide)) T.j1 .nil ay (aa (pv 3) af))) (aj (aC (fO (lC (d8 (pv 6)) (ar CC (hr.mono (by decide)) rfl T.Ft T.og.kp T.vW .nil ay (aa (pv 7) af)) (pv 7))))))))) ?_;obtain⟨L,D,U,all,M,Ps,Fs,es,us,b,iM,pp,pf,f⟩:=B.ex;obtain⟨dx,hx⟩:=b.hx;obtain⟨vx,g,gv⟩:=b.tL iM;have wv:=B.wv vw (.inr (.inl rfl));refine⟨_,rfl,x,dx,_,rfl,hx,oI _ _ _,_,rfl,x,F,vw,ps,fs,n,rfl,B,?_⟩;cases hf:bC vw n with
  |none =>
   rw[hf]at q;exact(Bool.noConfusion (show false=true from q.1))
  |some th =>
   rw[hf]at q;cases th with
   |pl ss =>
    refine⟨_,rfl,rfl,_,rfl,?_⟩;refine cg (fun _=>?_) (fun h=>absurd (by decide) h);refine⟨_,rfl,x,dx,_,rfl,hx,dJ _ _ _,_,rfl,x,dx,L,D,U,M L,vx,n,rfl,hx,b.hL,g,?_⟩;rcases Fd gv (fun _ _ r=>r.2.1) n with ⟨f1,f2⟩|⟨a,th,j,f1,f2,r,an,fj,fw⟩
    ·rw[f2]at hf;cases hf
    rw[f1];rw[f2]at hf;cases hf;refine⟨a.o,_,a.d,_,_,rfl,(b.ha a r.1).1,T.et,T.bx,nV _ _ _,?_⟩;refine⟨_,_,rfl,.inl (aQ.of (b.ha a r.1).2),fun l hl=>?_⟩;exact q l _ _ hl (aq.upd hl) ae (by rw[Iu f2];exact r.2.2.2.same (aq.upd hl))
   |cn ld lt sl tn =>
    intro p hp;refine⟨_,rfl,rfl,_,rfl,?_⟩;refine cg (fun h=>by have:=of_decide_eq_true h;cases this) (fun _=>?_);obtain⟨⟨ss,Wb⟩,_⟩:=wv.ld n ld lt sl tn (nW hf);have hfl:=wv.find Wb;have gl:=(wv.gd _ _ Wb).1;rw[Iv hf hfl]at q;refine⟨_,rfl,p,_,rfl,qk.of hp,rfl,_,_,rfl,_,_,rfl,_,_,rfl,_,_,rfl,rfl,?_⟩;refine⟨_,rfl,x,dx,_,rfl,hx,qF _ _ _,_,rfl,x,F,vw,ps,fs,ld,ss,rfl,B,hfl,fun l ys H1 hl s1 h1 g1=>?_⟩;refine⟨fun v H'=>∃ l' ys',v=.ref l'/\H l'=none/\aq H H'/\H' l'=some (.lst ys')/\jV H' ys' (if tn=true then ss.map qH else ss),?_,?_⟩
    ·refine⟨_,rfl,_,rfl,?_⟩;cases tn with
     |true =>
      refine qm ⟨_,rfl,l,ys,ss,rfl,aQ.of h1,g1,by omega,fun f' ys' H2 s2 hf' h2 g2=>⟨f',ys',rfl,s1.free hf',s1.trans s2,h2,g2⟩⟩
     |false=>exact mx ⟨_,rfl,l,ys,rfl,hl,s1,h1,g1⟩
    ·rintro v H' ⟨l',ys',rfl,a1,a2,a3,a4⟩;exact q l' ys' H' a1 a2 a3 a4
inductive wo (c:Cs)(vs:List V)(H:Hp)(Q:VK)(E:XK):Prop
 |mk (x:Addr) (F:Addr->Prop) (vw:Vw) (ps fs:List Vw) (n:Str) (ey:vs=[.ref x,.str n]) (eA:Fb c H x F vw ps fs) (gn:match bC vw n with
 |none=>RX E c .jN H
 |some _=>∀(l:Addr)(H':Hp),H l=none->aq H H'->H' l=some (.lst ((Fc vw n).map V.int))->Q (.ref l) H'):wo c vs H Q E
theorem Gv (T:Txt K w mg t):bB P w K mg base iS (0+7) t.d5 t.qR ["self","name"] (wo (cs t)):=by
 have ia:=nr (P:=P) (base:=base) T;have IQ:=N3 (P:=P) (base:=base) T;have Al:=Gs (P:=P) (base:=base) T;refine T.mI.ok ee (fun vs H Q E h=>?_) (fun cdv A outer s H vs Q E hr h=>?_)
 ·obtain⟨_,_,_,_,_,_,rfl,_⟩:=h;rfl
 ·obtain⟨x,F,vw,ps,fs,n,rfl,B,q⟩:=h;refine aF (ag (aD (i:=2) ee.nd rfl (Or.inl rfl) (bo (pv 0) T.aL T.nk ia (hr.mono (by decide)) T.hI .nil ay (aa (pv 1) af))) (ag (bM (aH JT (pv 2) Bt (aR _)) (aj (aC (ar IQ (hr.mono (by decide)) rfl T.Fq T.lU.kp T.vV .nil ay (aa (bo (pv 0) T.aL T.o6 Al (hr.mono (by decide)) T.j1 .nil ay (aa (pv 1) af)) (aa ao af))))) aN) (ag (mZ (pv 2) (mY rfl (aU (aK (i:=3) ee.nd rfl (Or.inl rfl)) (aU (aK (i:=4) ee.nd rfl (Or.inl rfl)) (aU (aK (i:=5) ee.nd rfl (Or.inr rfl)) (aU (aK (i:=6) ee.nd rfl (Or.inl rfl)) jH)))))) (ag (aD (i:=7) ee.nd rfl (Or.inl rfl) (fO (lC (d8 (pv 6)) ao ao))) (aj (aC (oG (cn:=["worth"]) rfl (dI.of rfl) (mz (ar IQ (hr.mono (by decide)) rfl T.Fq T.lU.kp T.vV .nil ay (aa (bo (pv 0) T.aL T.o6 Al (hr.mono (by decide)) T.j1 .nil ay (aa (pv 1) af)) (aa (pv 7) af)))) (fun _=>(aK (i:=0) B6 rfl (Or.inl rfl))) (fun _=>tD) (fun _=>(aE (qu.or qx) (pv 6) (pv 0)))))))))) ?_;obtain⟨L,D,U,all,M,Ps,Fs,es,us,b,iM,pp,pf,f⟩:=B.ex;obtain⟨dx,hx⟩:=b.hx;have wv:=B.wv vw (.inr (.inl rfl));refine⟨_,rfl,x,dx,_,rfl,hx,oI _ _ _,_,rfl,x,F,vw,ps,fs,n,rfl,B,?_⟩;cases hf:bC vw n with
  |none =>
   rw[hf]at q;exact(Bool.noConfusion (show false=true from q.1))
  |some th =>
   rw[hf]at q;cases th with
   |pl ss =>
    have gl:=(wv.gd _ _ (nW hf)).1;refine⟨_,rfl,rfl,_,rfl,?_⟩;refine cg (fun _=>?_) (fun h=>absurd (by decide) h);refine⟨_,rfl,x,dx,_,rfl,hx,qF _ _ _,_,rfl,x,F,vw,ps,fs,n,rfl,B,?_⟩;rw[hf];intro l ys H1 hl s1 h1 g1;rw[Iu hf]at g1;refine⟨l,3,ys,ss,rfl,aQ.of h1,g1,by omega,fun f' H2 s2 n2 h2=>?_⟩;exact q f' H2 (s1.free n2) (s1.trans s2) (by rw[BP hf];exact h2)
   |cn ld lt sl tn =>
    intro p hp;obtain⟨⟨ss,Wb⟩,lt0,lt1,sl0,sl1⟩:=wv.ld n ld lt sl tn (nW hf);have hfl:=wv.find Wb;have gl:=(wv.gd _ _ Wb).1;rw[Qd hf hfl]at q;refine⟨_,rfl,rfl,_,rfl,?_⟩;refine cg (fun h=>by have:=of_decide_eq_true h;cases this) (fun _=>?_);refine⟨_,rfl,p,_,rfl,qk.of hp,rfl,_,_,rfl,_,_,rfl,_,_,rfl,_,_,rfl,rfl,?_⟩;refine⟨fun v H'=>v=.int (if tn=true then 2 else 3)/\H'=H,?_,?_⟩
    ·refine⟨_,rfl,_,rfl,?_⟩;cases tn with
     |true=>exact qm ⟨rfl,rfl⟩
     |false=>exact mx ⟨rfl,rfl⟩
    intro v0 H0 ⟨e1,e2⟩;rw[e1,e2];refine⟨_,rfl,x,dx,_,rfl,hx,qF _ _ _,_,rfl,x,F,vw,ps,fs,n,rfl,B,?_⟩;rw[hf];intro l ys H1 hl s1 h1 g1;rw[Iv hf hfl]at g1;have Y5:(if tn=true then ss.map qH else ss).length<=400:=by
     split
     ·rw[length_map];omega
     ·omega
    refine⟨_,rfl,l,(if tn=true then 2 else 3),ys,_,rfl,aQ.of h1,g1,Y5,fun f' H2 s2 n2 h2=>?_⟩;generalize hW:(bJ (if tn=true then 2 else 3) (bL (if tn=true then ss.map qH else ss))).1=W at q h2;have hWl:W.length<=400:=by rw[<-hW,lj,length_map];exact Y5
    refine⟨f',rfl,⟨_,aQ.of h2⟩,fun D' b' hD'=>?_⟩;generalize hbz:(if tn=true then(2:Int) else 3)=bz;refine nQ (K:=K) (xs:=W.map V.int) (fun i ys σ H'=>∃ v,σ=[v,some (.ref x),some (.str n),some (.ref p),some (.str ld),some (.int lt),some (.int sl),some (.bl tn),some (.int bz)]/\H'=upd H2 D' (.lst ys)/\ys=((W.take i).map fun w=>sl * w).map V.int) ⟨none,rfl,rfl,by simp⟩ ?_ ?_ ?_
    ·rintro i ys σ H' ⟨v,rfl,rfl,_⟩;exact mB (aQ.of h2) hD'
    ·rintro i ys y σ H' hy ⟨v,rfl,rfl,rfl⟩ N hN;obtain⟨z,hz,rfl⟩:=FW hy;have hi:i<W.length:=(List.getElem?_eq_some_iff.mp hz).1;refine iZ ?_;refine⟨_,rfl,_,rfl,.inl ⟨_,_,rfl,rfl,.inl ⟨by omega,by omega⟩,ae,?_,?_⟩⟩
     ·rw[length_map,length_map,length_take];exact bq (by omega)
     ·refine hN _ _ _ ⟨_,rfl,dH,?_⟩;rw[take_succ,hz,map_append,map_append];rfl
    ·rintro ys σ H' ⟨v,rfl,rfl,rfl⟩;rw[length_map,take_length];exact q D' _ (s1.free (s2.free hD')) ((s1.trans s2).trans (aq.upd hD')) ae
theorem Wc {a b:TS}{D:Ends}{σ:St}{H:Hp}{rt:VK}{bk ct:St->Hp->Prop}(h:Rh a b D σ H):Ends.nx { nx:=Rh a b D,rt:=rt,bk:=bk,ct:=ct } σ H:=h
def DeW (H:Hp)(v:V)(d:De):Prop:=∃ p xs ps,v=.ref p/\H p=some (.tup xs)/\xs[0]? = some (.str d.wy.str)/\xs[4]? = some (.ref ps)/\H ps=some (.tup [.str d.sg.1,.int d.sg.2])
theorem wq (xs:List V)(n:Nat):tw xs (some (n:Int)) none=xs.drop n:=by
 rcases Nat.lt_or_ge xs.length n with h|h
 ·unfold tw;have e:HT.iT xs.length 0 (some (n:Int))=min n xs.length:=HT.FO xs.length 0 n;rw[HT.BA,e,Nat.min_eq_right (by omega),List.drop_eq_nil_of_le (Nat.le_refl _),List.take_nil,List.drop_eq_nil_of_le (by omega)]
 ·exact RF xs n h
theorem CF (ks:List Kd)(p met:Nat):cu ks (p+1) met=if(if(ks.getD p .dot).small=true then met else met+1)=2 then p else cu ks p (if(ks.getD p .dot).small=true then met else met+1):=rfl
theorem Fz {ks:List Kd}{j met:Nat}{k:Kd}(h:ks[j]? = some k)(hk:k.small=true)(hm:met<2):cu ks (j+1) met=cu ks j met:=by
 have e:ks.getD j .dot=k:=by rw[List.getD_eq_getElem?_getD,h];rfl
 rw[CF,e,if_pos hk,if_neg (by omega)]
theorem RZ {ks:List Kd}{j:Nat}{k:Kd}(h:ks[j]? = some k)(hk:k.small=false):cu ks (j+1) 1=j:=by
 have e:ks.getD j .dot=k:=by rw[List.getD_eq_getElem?_getD,h];rfl
 rw[CF,e,hk];rfl
theorem Qz {ks:List Kd}{j:Nat}{k:Kd}(h:ks[j]? = some k)(hk:k.small=false):cu ks (j+1) 0=cu ks j 1:=by
 have e:ks.getD j .dot=k:=by rw[List.getD_eq_getElem?_getD,h];rfl
 rw[CF,e,hk];rfl
theorem R0 {α:Type}(xs:List α)(b c:α):Q6 (xs++[b,c]) (-2)=some b:=by
 have hl:(xs++[b,c]).length=xs.length+2:=by simp
 have e:Pg (xs++[b,c]).length (-2)=some xs.length:=by
  unfold Pg;rw[hl]
  first|(rw[if_neg (by omega),if_pos (by omega)];congr 1;omega)|(simp;omega)|(split <;> simp <;> omega)
 unfold Q6;rw[e];simp
theorem R1 {ns:List Nat}(h:1<ns.length):∃ w b c,ns=w++[b,c]:=by
 rcases List.eq_nil_or_concat ns with rfl|⟨w,c,e⟩
 ·simp at h
 ·rw[List.concat_eq_append]at e;subst e;rcases List.eq_nil_or_concat w with rfl|⟨w',b,e⟩
  ·simp at h
  ·rw[List.concat_eq_append]at e;subst e;exact⟨w',b,c,by simp⟩
theorem Wd (k:Kd):RE k.str "sdr"=k.small:=by cases k <;> decide +kernel
theorem UI (k:Kd):RE k.str "32"=k.meas:=by cases k <;> decide +kernel
theorem We (k:Kd):RE k.str ".32" = k.parting:=by cases k <;> decide +kernel
inductive Am (K:Frag)(vs:List V)(H:Hp)(Q:VK)(E:XK):Prop
 |mk (l:Addr) (v:V) (ys:List V) (ss:List Sg) (de:De) (i:Nat) (ey:vs=[.ref l,v,.int (i:Int)]) (eA:H l=some (.lst ys)) (gn:jV H ys ss) (my:ss.length<=200) (tq:DeW H v de) (Q5:(de.wy=.put\/de.wy=.cut\/de.wy=.swap)) (V7:(de.wy≠.cut->kK de.sg=true)) (WQ:i<=ss.length) (WR:(de.wy≠.put->i<ss.length)) (Yi:∀(p:Addr)(ch:List Sg)(H':Hp),aq H H'->(de.wy=.put->ch=[kR de.sg])->(∀ s,ss[i]? = some s->(de.wy=.cut->ch=[s])/\(de.wy=.swap->ch=[s,kR de.sg]))->H' p=some (.tup (Kp (aT ss de.wy de.sg i) i (if de.wy=.cut then i else i+1) ch))->Q (.ref p) H'):Am K vs H Q E
theorem IS (T:Txt K w mg t):bB P w K mg base iS (0+1) t.gu t.tW ["_law_line_here","_law_deed","_law_at"] (Am K):=by
 refine T.jk.ok dr (fun vs H Q E h=>?_) (fun cdv A outer s H vs Q E hr h=>?_)
 ·obtain⟨_,_,_,_,_,_,rfl,_⟩:=h;rfl
 ·obtain⟨l,v,ys,ss,de,i,rfl,hl,g,aam,hde,QA,hgd,hi,hi2,q⟩:=h;obtain⟨p2,xs2,ps2,rfl,hp2,e0,e4,Wf⟩:=id hde;refine aF (ag (aD (i:=3) dr.nd rfl (Or.inr rfl) (aE (cU.or (aI.or cV)) (fX (jJ.or (m7.or m8)) (pv 0) jI (fZ (pv 2))) (fX (jJ.or (m7.or m8)) (pv 0) (fZ (aE (cU.or (aI.or cV)) (pv 2) ao)) jI))) (ag (aD (i:=4) dr.nd rfl (Or.inl rfl) (pv 2)) (ag (aD (i:=5) dr.nd rfl (Or.inr rfl) (fO (oz (cq (HS.or (BE (aY hr))) (bH aW (pv 1) ao (fun _ _=>rfl)) a9 (aR _)) (oy (cq (df.or dc) (bH aW (bH aW (pv 0) (pv 2) (fun _ _=>rfl)) ao (fun _ _=>rfl)) a9 rfl))))) (ag (xy (bM (aH (HS.or (BE (aY hr))) (bH aW (pv 1) ao (fun _ _=>rfl)) a9 (aR _)) (ag (aD (i:=3) dr.nd rfl (Or.inr rfl) (aE (cU.or (aI.or cV)) (aE (cU.or (aI.or cV)) (fX (jJ.or (m7.or m8)) (pv 0) jI (fZ (pv 2))) (cC (aa (bH aW (pv 1) ao (fun _ _=>rfl)) af))) (fX (jJ.or (m7.or m8)) (pv 0) (fZ (aE (cU.or (aI.or cV)) (pv 2) (gG (lh.or eB) rfl T.ub tE (aa (cq (ff.or (cW (aY hr))) (bH aW (pv 1) ao (fun _ _=>rfl)) a9 (aR _)) af)))) jI))) (ag (aD (i:=4) dr.nd rfl (Or.inl rfl) (aE (cU.or (aI.or cV)) (pv 2) ao)) (aj (aD (i:=5) dr.nd rfl (Or.inr rfl) (fO (Vn (pv 5) (oy (cq (df.or dc) (bH aW (bH aW (pv 1) ao (fun _ _=>rfl)) ao (fun _ _=>rfl)) a9 rfl)))))))) aN)) (ag (BH (i:=6) dr.nd rfl rfl (cn:=["_law_k"]) rfl (dI.of rfl) (EV rfl T.qZ (aa (pv 2) af)) (fun _=>(aK (i:=0) sR rfl (Or.inl rfl))) (fun _=>(Pq (aH (vE.or vF) (bH aW (bH aW (pv 4) (pv 0) (fun _ _=>rfl)) ao (fun _ _=>rfl)) a9 rfl))) (fun _=>(pv 0))) (ag (BH (i:=7) dr.nd rfl rfl (cn:=["_law_k"]) rfl (dI.of rfl) (EW rfl T.qZ (aa (pv 4) (aa (aJ (aA.or aB) rfl T.cL cJ (aa (pv 3) af)) af))) (fun _=>(aK (i:=0) sR rfl (Or.inl rfl))) (fun _=>(Pq (aH (df.or dc) (bH aW (bH aW (pv 4) (pv 0) (fun _ _=>rfl)) ao (fun _ _=>rfl)) (fO (lC (d8 (pv 6)) a9 a9)) rfl))) (fun _=>(pv 0))) (aj (aC (lF (aa (fO (lC (aH SA (aJ (aA.or aB) rfl T.cL cJ (aa (pv 6) af)) ao (aR _)) (bH aW (pv 6) (O4 JS ao) (fun _ _=>rfl)) ao)) (aa (fO (lC (aH (PQ (aY hr)) (pv 7) (cC af) (aR _)) (bH aW (pv 7) ao (fun _ _=>rfl)) (aJ (aA.or aB) rfl T.cL cJ (aa (pv 3) af)))) af))))))))))) ?_;have yl:=eM g;refine d9 fun N hN=>?_;refine⟨_,rfl,_,rfl,i,rfl,.inl ⟨l,ys,rfl,aQ.of hl,fun c1 hc1=>?_⟩⟩;rw[E8];have S1:=aq.upd (o:=.lst (ys.take i)) hc1;have k1:=ae (H:=H) (a:=c1) (o:=.lst (ys.take i));generalize upd H c1 (.lst (ys.take i))=H1 at S1 k1;refine⟨_,rfl,_,rfl,.inl ⟨_,_,rfl,rfl,_,rfl,.inl ⟨l,ys,rfl,aQ.of (S1 _ _ hl),fun c4 hc4=>?_⟩⟩⟩;rw[show tw ys (some ((i:Int)+1)) none=ys.drop (i+1) from wq ys (i+1)];have S4:=aq.upd (o:=.lst (ys.drop (i+1))) hc4;have k4:=ae (H:=H1) (a:=c4) (o:=.lst (ys.drop (i+1)));generalize upd H1 c4 (.lst (ys.drop (i+1)))=H4 at S4 k4;refine .inr (.inr ⟨c1,c4,_,_,rfl,rfl,S4 _ _ k1,k4,?_,fun c5 hc5=>?_⟩)
  ·exact big (by simp only [length_take,length_drop];omega)
  have S5:=aq.upd (o:=.lst (ys.take i++ys.drop (i+1))) hc5;have k5:=ae (H:=H4) (a:=c5) (o:=.lst (ys.take i++ys.drop (i+1)));generalize upd H4 c5 (.lst (ys.take i++ys.drop (i+1)))=H5 at S5 k5;have SS:=(S1.trans S4).trans S5;have g5:jV H5 (ys.take i++ys.drop (i+1)) (ss.take i++ss.drop (i+1)):=jV.same SS (D7 (zX i g) (E7 (i+1) g));refine hN _ _ ?_;clear hN N S1 S4 S5 k1 k4 hc1 hc4 hc5;tm_up;refine⟨fun v H'=>v=.bl (decide (de.wy≠.put)&&((ss[i]?.map fun s=>s.1.meas).getD false))/\H'=H5,?_,?_⟩
  ·refine⟨_,rfl,qJ (i:=0) (SS _ _ hp2) e0 ?_⟩;tm_up;rw[show decide (V.str de.wy.str=V.str (Str.ofString "put"))=decide (de.wy=.put) from Ff de.wy .put]
   by_cases z1:de.wy=.put
   ·rw[decide_eq_true z1,decide_eq_false (fun z=>z z1)];exact mx ⟨rfl,rfl⟩
   ·rw[decide_eq_false z1,decide_eq_true (show de.wy≠.put from z1)];refine qm ?_;obtain⟨sg,hsg⟩:∃ sg,ss[i]? = some sg:=⟨_,getElem?_eq_getElem (hi2 z1)⟩;obtain⟨vp,UJ,p0,rfl,hp0⟩:=nR g hsg;refine⟨_,rfl,_,rfl,S7 (aQ.of (SS _ _ hl)) (n:=i) rfl UJ ?_⟩;refine qJ (i:=0) (SS _ _ hp0) rfl ?_;tm_up;rw[hsg];exact⟨congrArg V.bl (UI sg.1),rfl⟩
  rintro _ H' ⟨rfl,eH⟩;have eH:=eH.symm;subst eH;refine Wc ?_;refine d9 fun N hN=>?_;refine⟨fun σ H'=>∃(bh:Addr)(zs:List V)(ch:List Sg),σ=[some (.ref l),some (.ref p2),some (.int (i:Int)),some (.ref bh),some (.int ((if de.wy=.cut then i else i+1:Nat):Int)),some (.bl (ch.any fun s=>s.1.meas)),none,none]/\aq H H'/\H' bh=some (.lst zs)/\jV H' zs (aT ss de.wy de.sg i)/\(de.wy=.put->ch=[kR de.sg])/\(∀ s,ss[i]? = some s->(de.wy=.cut->ch=[s])/\(de.wy=.swap->ch=[s,kR de.sg])),?_,?_⟩
  ·tm_up;refine qJ (i:=0) (SS _ _ hp2) e0 ?_;tm_up;rw[show decide (V.str de.wy.str=V.str (Str.ofString "cut"))=decide (de.wy=.cut) from Ff de.wy .cut]
   by_cases z1:de.wy=.cut
   ·rw[decide_eq_true z1];obtain⟨sg,hsg⟩:∃ sg,ss[i]? = some sg:=⟨_,getElem?_eq_getElem (hi2 (by rw[z1];decide))⟩;refine mx ⟨c5,_,[sg],?_,SS,k5,?_,(fun z=>by rw[z1]at z;cases z),fun s hs=>⟨fun _=>by rw[hsg]at hs;cases hs;rfl,fun z=>by rw[z1]at z;cases z⟩⟩
    ·rw[hsg,if_pos z1,decide_eq_true (show de.wy≠.put by rw[z1];decide)];show _=[some (V.ref l),some (V.ref p2),some (V.int (i:Int)),some (V.ref c5),some (V.int (i:Int)),some (V.bl (sg.1.meas||false)),none,none];rw[Bool.or_false];rfl
    ·unfold aT;rw[z1];show jV H5 _ (ss.take i++[]++ss.drop (i+1));rw[append_nil];exact g5
   ·rw[decide_eq_false z1];refine qm ?_;refine⟨_,rfl,_,rfl,i,rfl,.inl ⟨l,ys,rfl,aQ.of (SS _ _ hl),fun c1 hc1=>?_⟩⟩;rw[E8];have S1:=aq.upd (o:=.lst (ys.take i)) hc1;have k1:=ae (H:=H5) (a:=c1) (o:=.lst (ys.take i));generalize upd H5 c1 (.lst (ys.take i))=Vc at S1 k1;refine⟨_,rfl,qJ (i:=4) (S1 _ _ (SS _ _ hp2)) e4 ?_⟩;refine⟨big (by show 1<=1000;omega),fun c2 hc2=>?_⟩;have S2:=aq.upd (o:=.lst [V.ref ps2]) hc2;have k2:=ae (H:=Vc) (a:=c2) (o:=.lst [V.ref ps2]);generalize upd Vc c2 (.lst [V.ref ps2])=Wg at S2 k2;refine .inr (.inr ⟨c1,c2,_,_,rfl,rfl,S2 _ _ k1,k2,?_,fun c3 hc3=>?_⟩)
    ·exact big (by rw[length_take];show _+1<=1000;omega)
    have Y6:=aq.upd (o:=.lst (ys.take i++[V.ref ps2])) hc3;have k3:=ae (H:=Wg) (a:=c3) (o:=.lst (ys.take i++[V.ref ps2]));generalize upd Wg c3 (.lst (ys.take i++[V.ref ps2]))=WV at Y6 k3;have SS2:=SS.trans ((S1.trans S2).trans Y6);have Y7:=g.same SS2;obtain⟨es1,es2,_⟩:=Qh (hgd z1);have Yo:Ij WV (.ref ps2) (kR de.sg):=⟨ps2,rfl,by rw[es1,es2];exact SS2 _ _ Wf⟩;refine⟨_,rfl,_,rfl,_,rfl,qJ (i:=0) (SS2 _ _ hp2) e0 ?_⟩;tm_up;refine .inl (.inr ⟨_,rfl,?_⟩);rw[show decide (V.str de.wy.str=V.str (Str.ofString "swap"))=decide (de.wy=.swap) from Ff de.wy .swap];obtain⟨k,hk,hkb,hki⟩:∃ k:Nat,((i:Int)+(if decide (de.wy=.swap)=true then 1 else 0))=((i+k:Nat):Int)/\aT ss de.wy de.sg i=ss.take i++[kR de.sg]++ss.drop (i+k)/\i+k<=ss.length:=by
     by_cases z2:de.wy=.swap
     ·refine⟨1,by rw[decide_eq_true z2,if_pos rfl];omega,by unfold aT;rw[z2],hi2 (by rw[z2];decide)⟩
     ·have z3:de.wy=.put:=by rcases QA with z|z|z;exact z;exact absurd z z1;exact absurd z z2
      refine⟨0,by rw[decide_eq_false z2,if_neg (by decide)];omega,by unfold aT;rw[z3];try rfl,hi⟩
    refine .inl ⟨_,_,rfl,rfl,_,rfl,.inl ⟨l,ys,rfl,aQ.of (SS2 _ _ hl),fun c4 hc4=>?_⟩⟩;rw[show tw ys (some ((i:Int)+(if decide (de.wy=.swap)=true then 1 else 0))) none=ys.drop (i+k) by rw[hk];exact wq ys (i+k)];have S4:=aq.upd (o:=.lst (ys.drop (i+k))) hc4;have k4:=ae (H:=WV) (a:=c4) (o:=.lst (ys.drop (i+k)));generalize upd WV c4 (.lst (ys.drop (i+k)))=Y8 at S4 k4;refine .inr (.inr ⟨c3,c4,_,_,rfl,rfl,S4 _ _ k3,k4,?_,fun c6 hc6=>?_⟩)
    ·exact big (by simp only [length_append,length_take,length_drop,List.length_singleton];omega)
    have S6:=aq.upd (o:=.lst (ys.take i++[V.ref ps2]++ys.drop (i+k))) hc6;have k6:=ae (H:=Y8) (a:=c6) (o:=.lst (ys.take i++[V.ref ps2]++ys.drop (i+k)));generalize upd Y8 c6 (.lst (ys.take i++[V.ref ps2]++ys.drop (i+k)))=H17 at S6 k6;have WW:=(SS2.trans S4).trans S6;have Y9:jV H17 (ys.take i++[V.ref ps2]++ys.drop (i+k)) (aT ss de.wy de.sg i):=by
     rw[hkb];exact jV.same (S4.trans S6) (D7 (D7 (zX i Y7) (.cons Yo .nil)) (E7 (i+k) Y7))
    refine⟨_,rfl,.inl ⟨_,_,rfl,rfl,?_⟩⟩;refine Ke (.bl ((decide (de.wy≠.put)&&((ss[i]?.map fun s=>s.1.meas).getD false))||(kR de.sg).1.meas)) ?_ ?_
    ·refine⟨_,rfl,_,rfl,?_⟩;cases (decide (de.wy≠.put)&&((ss[i]?.map fun s=>s.1.meas).getD false)) with
     |true=>exact qm ⟨rfl,rfl⟩
     |false =>
      refine mx ?_;refine⟨_,rfl,qJ (i:=4) (WW _ _ hp2) e4 (qJ (i:=0) (WW _ _ Wf) rfl ?_)⟩;tm_up;rw[<-es1];exact⟨congrArg V.bl (UI (kR de.sg).1),rfl⟩
    ·have e1:((i:Int)+1)=((if de.wy=.cut then i else i+1:Nat):Int):=by rw[if_neg z1];omega
     by_cases z2:de.wy=.swap
     ·obtain⟨s,hs⟩:∃ s,ss[i]? = some s:=⟨_,getElem?_eq_getElem (hi2 (by rw[z2];decide))⟩;refine⟨c6,_,[s,kR de.sg],?_,WW,k6,Y9,(fun z=>by rw[z2]at z;cases z),fun s' hs'=>⟨fun z=>absurd z z1,fun _=>by rw[hs]at hs';cases hs';rfl⟩⟩;rw[hs,decide_eq_true (show de.wy≠.put by rw[z2];decide),<-e1];show _=[some (V.ref l),some (V.ref p2),some (V.int (i:Int)),some (V.ref c6),some (V.int ((i:Int)+1)),some (V.bl (s.1.meas||((kR de.sg).1.meas||false))),none,none];rw[Bool.or_false];rfl
     ·have z3:de.wy=.put:=by rcases QA with z|z|z;exact z;exact absurd z z1;exact absurd z z2
      refine⟨c6,_,[kR de.sg],?_,WW,k6,Y9,fun _=>rfl,fun s' hs'=>⟨fun z=>absurd z z1,fun z=>absurd z z2⟩⟩;rw[decide_eq_false (show ¬ de.wy≠.put from fun z=>z z3),<-e1];show _=[some (V.ref l),some (V.ref p2),some (V.int (i:Int)),some (V.ref c6),some (V.int ((i:Int)+1)),some (V.bl ((kR de.sg).1.meas||false)),none,none];rw[Bool.or_false];rfl
  rintro _ H6 ⟨bh,zs,ch,rfl,S6,WX,gz,hc1,hc2⟩;refine hN _ _ ?_;clear hN N;have zl:=eM gz;have ll:(aT ss de.wy de.sg i).length<=201:=by
   unfold aT;split
   ·simp;omega
   ·simp;omega
   ·simp;omega
  have fl:(if de.wy=.cut then i else i+1:Nat)<=(aT ss de.wy de.sg i).length:=by
   rcases QA with z|z|z
   ·rw[z,if_neg (by decide)];unfold aT;simp;omega
   ·have:=hi2 (by rw[z];decide);rw[z,if_pos rfl];unfold aT;simp;omega
   ·have:=hi2 (by rw[z];decide);rw[z,if_neg (by decide)];unfold aT;simp;omega
  have il:i<=(aT ss de.wy de.sg i).length:=by
   refine Nat.le_trans ?_ fl;split <;> omega
  generalize hw:(ch.any fun s=>s.1.meas)=wide at *;generalize (if de.wy=.cut then i else i+1:Nat)=fo at *;generalize aT ss de.wy de.sg i=bs at *;refine d9 fun N hN=>?_;refine⟨_,rfl,(i:Int),rfl,(by omega),(by omega),fun D b hD=>?_⟩;refine tF (lo:=0) (n:=((i:Int)).toNat) (fun j zz σ H'=>∃(v:Option V)(ns:List Nat),σ=[v,some (.ref l),some (.ref p2),some (.int (i:Int)),some (.ref bh),some (.int (fo:Int)),some (.bl wide),none,none]/\aq H6 H'/\H' D=some (.lst zz)/\zz=ns.map (fun n:Nat=>V.int (n:Int))/\ns.length<=j/\cu (bL bs) j 1=ns.getLast?.getD 0/\cu (bL bs) j 0=ns.dropLast.getLast?.getD 0) ⟨none,[],rfl,aq.upd hD,ae,rfl,Nat.le_refl _,rfl,rfl⟩ ?_ ?_
  ·rintro j zz σ H' hj ⟨v,ns,rfl,s7,MZ,rfl,nl,lo1,Wh⟩ N hN;obtain⟨sg,hsg⟩:∃ sg,bs[j]? = some sg:=⟨_,getElem?_eq_getElem (by omega)⟩;have hk:(bL bs)[j]? = some sg.1:=by rw[getElem?_map,hsg];rfl
   unfold BF;refine⟨_,rfl,_,rfl,P1 (aQ.of (s7 _ _ WX)) (gz.same s7) (n:=j) (by omega) hsg fun b hb=>?_⟩;refine qJ (i:=0) hb rfl ?_;tm_up;show(if(!RE sg.1.str "sdr")=true then _ else _);rw[Wd];cases hs:sg.1.small with
   |true=>exact mx (hN _ _ _ ⟨_,ns,rfl,s7,MZ,rfl,by omega,by rw[Fz hk hs (by decide)];exact lo1,by rw[Fz hk hs (by decide)];exact Wh⟩)
   |false =>
    refine qm ⟨_,rfl,MZ,by rw[length_map];exact bq (by omega),hN _ _ _ ⟨_,ns++[j],rfl,kP s7 hD,ae,?_,by rw[length_append];show _+1<=_;omega,by rw[RZ hk hs];simp,by rw[Qz hk hs,lo1];simp⟩⟩;rw[map_append];show _++[V.int (0+(j:Int))]=_++[V.int (j:Int)];rw[Int.zero_add]
  rintro zz σ H7 ⟨v,ns,rfl,s7,MZ,rfl,nl,lo1,Wh⟩;refine hN _ _ ?_;clear hN N;have nl':ns.length<=201:=by omega
  rw[show((i:Int)).toNat=i by omega]at lo1 Wh;refine d9 fun N hN=>?_;refine⟨_,rfl,_,rfl,.inl ⟨bh,zs,rfl,.inl (aQ.of (s7 _ _ WX)),?_⟩⟩;refine⟨(fo:Int),(zs.length:Int),rfl,⟨by omega,by omega,by omega,by omega⟩,fun D2 b2 hD2=>?_⟩;refine tF (lo:=(fo:Int)) (n:=((zs.length:Int)-(fo:Int)).toNat) (fun j zz σ H'=>∃(v:Option V)(ms:List Nat),σ=[v,some (.ref l),some (.ref p2),some (.int (i:Int)),some (.ref bh),some (.int (fo:Int)),some (.bl wide),some (.ref D),none]/\aq H7 H'/\H' D2=some (.lst zz)/\zz=ms.map (fun n:Nat=>V.int (n:Int))/\ms.length<=j/\(match ms with|[]=>∀(m:Nat)(x:Kd),m<j->(bL bs)[fo+m]? = some x->iV wide x=false|h::_=>h=jW (bL bs) fo wide)) ⟨none,[],rfl,aq.upd hD2,ae,rfl,Nat.le_refl _,fun m x hm=>by omega⟩ ?_ ?_
  ·rintro j zz σ H' hj ⟨v,ms,rfl,s8,QB,rfl,ml,hst⟩ N hN;obtain⟨sg,hsg⟩:∃ sg,bs[fo+j]? = some sg:=⟨_,getElem?_eq_getElem (by omega)⟩;have hk:(bL bs)[fo+j]? = some sg.1:=by rw[getElem?_map,hsg];rfl
   have Za:=s7.trans s8;unfold BF;refine⟨_,rfl,_,rfl,P1 (aQ.of (Za _ _ WX)) (gz.same Za) (n:=fo+j) (by omega) hsg fun b hb=>?_⟩;refine qJ (i:=0) hb rfl ?_;refine Ke (.str (if wide=true then "32" else ".32")) ?_ ?_
   ·refine⟨_,rfl,_,rfl,?_⟩;cases wide with
    |true=>exact qm ⟨rfl,rfl⟩
    |false=>exact mx ⟨rfl,rfl⟩
   tm_up;have ek:RE sg.1.str (if wide=true then "32" else ".32")=iV wide sg.1:=by
    unfold iV;cases wide with
    |true=>exact UI _
    |false=>exact We _
   show(if RE sg.1.str (if wide=true then "32" else ".32")=true then _ else _);rw[ek];cases hs:iV wide sg.1 with
   |false =>
    refine mx (hN _ _ _ ⟨_,ms,rfl,s8,QB,rfl,by omega,?_⟩);cases ms with
    |cons h r=>exact hst
    |nil =>
     intro m x hm hx;rcases Nat.lt_or_ge m j with z|z
     ·exact hst m x z hx
     ·have e:m=j:=by omega
      subst e;rw[hk]at hx;cases hx;exact hs
   |true =>
    refine qm ⟨_,rfl,QB,by rw[length_map];exact bq (by omega),hN _ _ _ ⟨_,ms++[fo+j],rfl,kP s8 hD2,ae,?_,by rw[length_append];show _+1<=_;omega,?_⟩⟩
    ·rw[map_append];show _++[V.int ((fo:Int)+(j:Int))]=_++[V.int ((fo+j:Nat):Int)];rw[show((fo+j:Nat):Int)=(fo:Int)+(j:Int) by omega]
    ·cases ms with
     |cons h r=>exact hst
     |nil=>exact(MP hst hk hs).symm
  rintro zz σ H8 ⟨v,ms,rfl,s8,QB,rfl,ml,hst⟩;refine hN _ _ ?_;clear hN N;have kl:(bL bs).length=bs.length:=length_map ..;have S8:=S6.trans (s7.trans s8);refine Ke (.int (cu (bL bs) i 0:Nat)) ?_ ?_
  ·refine⟨_,rfl,.inl ⟨D,_,rfl,.inl (aQ.of (s8 _ _ MZ)),?_⟩⟩;tm_up;rw[length_map];refine cg (fun h=>?_) (fun h=>?_)
   ·have h':=of_decide_eq_true h;obtain⟨w',b',c',rfl⟩:=R1 (ns:=ns) (by omega);refine⟨_,rfl,2,rfl,.inl ⟨D,_,-2,V.int (b':Int),rfl,rfl,aQ.of (s8 _ _ MZ),?_,?_,rfl⟩⟩
    ·rw[map_append];exact R0 _ _ _
    ·rw[Wh,show w'++[b',c']=(w'++[b'])++[c'] by simp,List.dropLast_concat];simp
   ·have h':ns.length<=1:=Nat.le_of_not_lt fun z=>h (decide_eq_true (by omega));refine⟨?_,rfl⟩;rw[Wh]
    match ns,h' with
    |[],_=>rfl
    |[_],_=>rfl
  refine⟨fun v H'=>v=.int (jW (bL bs) fo wide:Nat)/\aq H8 H',?_,?_⟩
  ·refine⟨_,rfl,big (by show 0<=1000;omega),fun e0 WY=>?_⟩;have T0:=aq.upd (o:=.lst []) WY;refine⟨D2,e0,_,rfl,rfl,aQ.of (T0 _ _ QB),aQ.of ae,_,rfl,?_⟩;cases ms with
   |nil =>
    refine mx ?_;refine⟨_,rfl,.inl ⟨bh,zs,rfl,.inl (aQ.of (T0 _ _ ((s7.trans s8) _ _ WX))),?_,T0⟩⟩;rw[Iy (by omega) fun m x hx=>hst m x (by have:=(List.getElem?_eq_some_iff.mp hx).1;omega) hx,kl,zl]
   |cons h r =>
    refine qm ?_;refine⟨_,rfl,S7 (aQ.of (T0 _ _ QB)) (n:=0) rfl rfl ⟨?_,T0⟩⟩;rw[hst]
  rintro _ H9 ⟨rfl,S9⟩;refine⟨by show 2<=sizeLine;decide,fun pp hpp=>?_⟩;have Wi:=aq.upd (o:=.tup [V.int (cu (bL bs) i 0:Nat),V.int (jW (bL bs) fo wide:Nat)]) hpp;refine q pp ch _ ((S8.trans S9).trans Wi) hc1 hc2 ?_;unfold Kp;rw[hw];exact ae
def Yp:List Kd:=[.G,.G,.G,.G,.G,.s,.s,.s,.s,.s,.s,.s,.s,.s,.d,.d,.r,.r,.D,.R,.dot,.dot,.three,.two]
theorem Wj:(Str.ofString "GGGGGsssssssssddrrDR..32").cps.toList=Yp.map Kd.cp:=by lk
theorem IT (k:Kd):RE k.str "GDsd"=k.m9:=by cases k <;> decide +kernel
inductive wt (vs:List V)(H:Hp)(Q:VK)(E:XK):Prop
 |mk (m:Int) (ey:vs=[.int m]) (eA:∀(p:Addr)(s:Sg),qG s->H p=none->Q (.ref p) (upd H p (.tup [.str s.1.str,.int s.2]))):wt vs H Q E
theorem wu (T:Txt K w mg t):bB P w K mg base iS (0+1) t.fi t.qS ["_law_number"] wt:=by
 refine T.gO.ok vS (fun vs H Q E h=>?_) (fun cdv A outer s H vs Q E hr h=>?_)
 ·obtain⟨_,rfl,_⟩:=h;rfl
 ·obtain⟨m,rfl,q⟩:=h;refine aF (ag (aD (i:=1) vS.nd rfl (Or.inl rfl) (bH aW a9 (aE gQ (pv 0) ao) (fun _ _=>rfl))) (ag (bM (aH (df.or dc) (pv 1) a9 rfl) (aj (aC (lF (aa (pv 1) (aa (aE gQ (aE r9 (pv 0) ao) ao) af))))) aN) (aj (aC (lF (aa (pv 1) (aa ao af))))))) ?_;obtain⟨k,hk⟩:∃ k,Yp[(m % 24).toNat]? = some k:=by
   have h1:(m % 24).toNat<Yp.length:=by
    show _<24;omega
   exact⟨_,getElem?_eq_getElem h1⟩
  have hat:Q6 (Str.ofString "GGGGGsssssssssddrrDR..32").cps.toList (m % 24)=some k.cp:=by
   have e0:m % 24=(((m % 24).toNat:Nat):Int):=by omega
   rw[e0,Wj];exact Bf (by rw[getElem?_map,hk];rfl)
  refine⟨_,rfl,_,_,rfl,rfl,(by decide:(0:Int)<24),.inr (.inr ⟨_,_,_,rfl,rfl,(by lk),hat,?_⟩)⟩;rw[<-VZ k];tm_up;refine cg (fun h=>?_) (fun h=>?_)
  ·have h4:k.m9=true:=by rw[<-IT];exact h
   tm_up;refine⟨(by show 2<=sizeLine;decide),fun p hp=>?_⟩;exact q p (k,m / 24 % 100) ⟨fun _=>by show 0<=m / 24 % 100/\m / 24 % 100<100;omega,fun z=>by rw[h4]at z;cases z⟩ hp
  ·have h4:k.m9=false:=by
    rw[<-IT];exact Bool.eq_false_iff.mpr h
   tm_up;refine⟨(by show 2<=sizeLine;decide),fun p hp=>?_⟩;exact q p (k,0) ⟨(fun z=>by rw[h4]at z;cases z),fun _=>rfl⟩ hp
inductive CG (vs:List V)(H:Hp)(Q:VK)(E:XK):Prop
 |mk (seed k:Int) (ey:vs=[.int seed,.int k]) (eA:∀ r:Int,0<=r->r<65521->Q (.int r) H):CG vs H Q E
theorem KY (T:Txt K w mg t):bB P w K mg base iS (0+1) t.jf t.xS ["_law_seed","_law_k"] CG:=by
 refine T.oh.ok tT (fun vs H Q E h=>?_) (fun cdv A outer s H vs Q E hr h=>?_)
 ·obtain⟨_,_,rfl,_⟩:=h;rfl
 ·obtain⟨seed,k,rfl,q⟩:=h;refine aF (ag (aD (i:=2) tT.nd rfl (Or.inl rfl) (aE gQ (aE (cU.or (aI.or cV)) (aE (cU.or (aI.or cV)) (aE (qu.or qx) (aE gQ (pv 0) ao) ao) (aE (qu.or qx) (pv 1) ao)) ao) ao)) (ag (aD (i:=3) tT.nd rfl (Or.inl rfl) (aE gQ (aE (cU.or (aI.or cV)) (aE (cU.or (aI.or cV)) (aE (qu.or qx) (pv 2) (pv 2)) (aE (qu.or qx) (pv 1) ao)) (aE gQ (aE r9 (pv 0) ao) ao)) ao)) (aj (aC (aE gQ (aE (cU.or (aI.or cV)) (aE r9 (aE (qu.or qx) (pv 3) (pv 3)) ao) (pv 3)) ao))))) ?_;have p2:(2:Int) ^ 64=18446744073709551616:=by decide
  refine⟨_,rfl,_,_,rfl,rfl,(by decide:(0:Int)<1000003),.inl ⟨_,_,rfl,rfl,.inr ⟨by decide,by decide⟩,_,rfl,.inl ⟨_,_,rfl,rfl,.inr ⟨by decide,by decide⟩,.inl ⟨_,_,rfl,rfl,.inl ⟨_,_,rfl,rfl,_,_,rfl,rfl,(by decide:(0:Int)<1000033),?_⟩⟩⟩⟩⟩;generalize hone:(seed % 1000003 * 48271+k * 30011+17) % 1000033=one;have b1:0<=one/\one<1000033:=by omega
  refine⟨_,rfl,_,rfl,.inl ⟨_,_,rfl,rfl,.inl ⟨by rw[p2];omega,by rw[p2];omega⟩,_,rfl,.inl ⟨_,_,rfl,rfl,.inr ⟨by decide,by decide⟩,.inl ⟨_,_,rfl,rfl,_,rfl,_,_,rfl,rfl,⟨by decide,by decide⟩,_,_,rfl,rfl,(by decide:(0:Int)<997),.inl ⟨_,_,rfl,rfl,_,_,rfl,rfl,(by decide:(0:Int)<999983),?_⟩⟩⟩⟩⟩;generalize aao:(one * one+k * 613+seed / 1000003 % 997) % 999983=two;have b2:0<=two/\two<999983:=by omega
  refine⟨_,rfl,_,rfl,.inl ⟨_,_,rfl,rfl,.inl ⟨by rw[p2];omega,by rw[p2];omega⟩,_,_,rfl,rfl,⟨by decide,by decide⟩,_,rfl,.inl ⟨_,_,rfl,rfl,_,_,rfl,rfl,(by decide:(0:Int)<65521),?_⟩⟩⟩;exact q _ (by omega) (by omega)
inductive wx (K:Frag)(vs:List V)(H:Hp)(Q:VK)(E:XK):Prop
 |mk (a:Addr) (ns:List Int) (k m:Nat) (ey:vs=[.ref a,.int (k:Int),.int (m:Int)]) (eA:aQ K H a (ns.map V.int)) (gn:ns.length<=63) (my:m<=48) (tq:∀(l:Addr)(ms:List Int)(H':Hp),aq H H'->H' l=some (.lst (ms.map V.int))->ms.length<=60->(∀ x∈ms,0<=x)->Q (.ref l) H'):wx K vs H Q E
theorem Gw (T:Txt K w mg t):bB P w K mg base iS (0+2) t.fk t.qT ["_law_script","_law_at","_law_many"] (wx K):=by
 have fz:=wc (P:=P) (base:=base) T;have N5:=KY (P:=P) (base:=base) T;refine T.j2.ok gT (fun vs H Q E h=>?_) (fun cdv A outer s H vs Q E hr h=>?_)
 ·obtain⟨_,_,_,_,rfl,_⟩:=h;rfl
 ·obtain⟨a,ns,k,m,rfl,hS,hl,hm,q⟩:=h;refine aF (ag (aD (i:=3) gT.nd rfl (Or.inr rfl) (ar fz (hr.mono (by decide)) rfl T.fI T.cP.kp T.d7 .nil ay (aa (pv 0) (aa (pv 1) af)))) (ag (bM (aH EX (pv 3) (aE O5 ao ao) (aR _)) (aj (aC (oG (cn:=["_law_k"]) rfl (dI.of rfl) (EV rfl T.qZ (aa (pv 2) af)) (fun _=>(aK (i:=0) B7 rfl (Or.inl rfl))) (fun _=>tD) (fun _=>(ar N5 (hr.mono (by decide)) rfl T.KN T.oh.kp T.x4 .nil ay (aa (aE (cU.or (aI.or cV)) (pv 4) (aE (qu.or qx) ao (ar fz (hr.mono (by decide)) rfl T.fI T.cP.kp T.d7 .nil ay (aa (pv 1) (aa (aE (cU.or (aI.or cV)) (aE (cU.or (aI.or cV)) (pv 2) ao) (pv 0)) af))))) (aa (pv 0) af))))))) aN) (ag (aD (i:=4) gT.nd rfl (Or.inl rfl) (aE iX (pv 3) (aE O5 ao ao))) (ag (aD (i:=5) gT.nd rfl (Or.inl rfl) (cC af)) (ag (OZ PassesOwn.never (qB (PW.pt (xq (aH SA (pv 4) ao (aR _)) (vA (aH EX (aJ (aA.or aB) rfl T.cL cJ (aa (pv 5) af)) ao (aR _)))))) (ag (bV (zW plainAttrs_list slot_list_append type_list_append fB (pv 5) (aa (aE gQ (pv 4) ao) af))) (aj (aD (i:=4) gT.nd rfl (Or.inl rfl) (aE r9 (pv 4) ao))))) (aj (aC (pv 5)))))))) ?_;refine⟨_,rfl,_,rfl,a,ns,k,rfl,hS,hl,?_⟩;refine⟨_,rfl,_,_,rfl,rfl,⟨by decide,by decide,by decide⟩,_,_,rfl,rfl,_,rfl,?_⟩;refine cg (fun _=>?_) (fun _=>?_)
  ·refine⟨_,rfl,(m:Int),rfl,(by omega),(by omega),fun D b hD=>?_⟩;refine tF (lo:=0) (n:=((m:Int)).toNat) (fun i ys σ H'=>∃(v:Option V)(ms:List Int),σ=[v,some (.ref a),some (.int (k:Int)),some (.int (m:Int)),some (.int (dZ ns k)),none,none]/\H'=upd H D (.lst ys)/\ys=ms.map V.int/\ms.length=i/\∀ x∈ms,0<=x) ⟨none,[],rfl,rfl,rfl,rfl,fun _ h=>nomatch h⟩ ?_ ?_
   ·rintro i ys σ H' hi ⟨v,ms,rfl,rfl,rfl,hlen,hpos⟩ N hN;refine iZ ?_;refine⟨_,rfl,_,rfl,_,rfl,.inl ⟨_,_,rfl,rfl,_,rfl,.inl ⟨_,_,rfl,rfl,a,ns,k+1+i,?_,mB hS hD,hl,.inl ⟨_,_,rfl,rfl,.inl ⟨by decide,by decide⟩,?_⟩⟩⟩⟩
    ·show [V.ref a,V.int ((k:Int)+1+(0+(i:Int)))]=[V.ref a,V.int ((k+1+i:Nat):Int)];have e:(k:Int)+1+(0+(i:Int))=((k+1+i:Nat):Int):=by omega
     rw[e]
    ·refine .inl ⟨_,_,rfl,rfl,_,rfl,_,_,rfl,fun r h0 h1=>⟨ae,?_,?_⟩⟩
     ·rw[length_map];exact bq (by omega)
     ·refine hN _ _ _ ⟨some _,ms++[r],rfl,dH,by simp,by simp[hlen],fun x hx=>?_⟩;rcases mem_append.mp hx with z|z
      ·exact hpos x z
      ·have:x=r:=by simpa using z
       omega
   ·rintro ys σ H' ⟨v,ms,rfl,rfl,rfl,hlen,hpos⟩;exact q D ms _ (aq.upd hD) ae (by omega) hpos
  ·refine⟨_,rfl,_,_,rfl,rfl,⟨by decide,by decide,by decide⟩,_,_,rfl,rfl,(by decide),fun l hl0=>?_⟩;refine⟨fun mm σ H'=>∃(left:Int)(ms:List Int),σ=[some (.ref a),some (.int (k:Int)),some (.int (m:Int)),some (.int (dZ ns k)),some (.int left),some (.ref l)]/\H'=upd H l (.lst (ms.map V.int))/\mm=60-ms.length/\ms.length<=60/\∀ x∈ms,0<=x,
    ⟨60,_,[],rfl,rfl,rfl,Nat.zero_le _,fun _ h=>nomatch h⟩,?_⟩
   rintro mm σ H' ⟨left,ms,rfl,rfl,rfl,hlen,hpos⟩;refine Kf (decide (0<left)&&decide ((ms.length:Int)<60)) ?_ ?_
   ·refine⟨_,rfl,_,_,rfl,rfl,_,rfl,?_⟩;refine cg (fun h=>?_) (fun h=>?_)
    ·refine⟨_,rfl,.inl ⟨l,_,rfl,.inl (aQ.of ae),_,_,rfl,rfl,_,rfl,?_⟩⟩;rw[length_map];exact⟨by rw[h,Bool.true_and],rfl⟩
    ·exact⟨by rw[Bool.eq_false_iff.mpr h];rfl,rfl⟩
   refine cg (fun h60=>?_) (fun _=>?_)
   ·have aaq:ms.length<60:=by
     have:=of_decide_eq_true (Bool.and_eq_true_iff.mp h60).2;omega
    refine⟨fun σ' H'=>∃ m',m'<60-ms.length/\∃(left:Int)(ms:List Int),σ'=[some (.ref a),some (.int (k:Int)),some (.int (m:Int)),some (.int (dZ ns k)),some (.int left),some (.ref l)]/\H'=upd H l (.lst (ms.map V.int))/\m'=60-ms.length/\ms.length<=60/\∀ x∈ms,0<=x,fun _ _ h=>h,?_⟩;refine⟨_,rfl,.inl ⟨rfl,_,aQ.of ae⟩,_,rfl,_,_,rfl,rfl,(by decide:(0:Int)<2400),l,_,_,rfl,rfl,ae,(by rw[length_map];exact bq (by omega)),_,rfl,_,_,rfl,rfl,⟨by decide,by decide⟩,60-(ms.length+1),by omega,_,ms++[left % 2400],rfl,?_,by simp,by simp;omega,fun x hx=>?_⟩
    ·rw[dH,map_append];rfl
    ·rcases mem_append.mp hx with z|z
     ·exact hpos x z
     ·have:x=left % 2400:=by simpa using z
      omega
   ·exact⟨_,rfl,q l ms _ (aq.upd hl0) ae (by omega) hpos⟩
inductive FA (K:Frag)(vs:List V)(H:Hp)(Q:VK)(E:XK):Prop
 |mk (a:Addr) (ns:List Int) (k m:Nat) (ey:vs=[.ref a,.int (k:Int),.int (m:Int)]) (eA:aQ K H a (ns.map V.int)) (gn:ns.length<=63) (my:m<=48) (tq:∀(l:Addr)(xs:List V)(ss:List Sg)(H':Hp),aq H H'->H l=none->H' l=some (.lst xs)->jV H' xs ss->(∀ s∈ss,qG s)->ss.length<=60->Q (.ref l) H'):FA K vs H Q E
theorem N6 (T:Txt K w mg t):bB P w K mg base iS (0+3) t.lR t.Cb ["_law_script","_law_at","_law_many"] (FA K):=by
 have q9:=wu (P:=P) (base:=base) T;have IU:=Gw (P:=P) (base:=base) T;refine T.qW.ok NW (fun vs H Q E h=>?_) (fun cdv A outer s H vs Q E hr h=>?_)
 ·obtain⟨_,_,_,_,rfl,_⟩:=h;rfl
 ·obtain⟨a,ns,k,m,rfl,hS,hl,hm,q⟩:=h;refine aF (aj (aC (oG (cn:=["_law_number"]) rfl (dI.of rfl) (mz (ar IU (hr.mono (by decide)) rfl T.Gh T.j2.kp T.qV .nil ay (aa (pv 0) (aa (pv 1) (aa (pv 2) af))))) (fun _=>(aK (i:=0) IF rfl (Or.inl rfl))) (fun _=>tD) (fun _=>(ar q9 (hr.mono (by decide)) rfl T.vY T.gO.kp T.mK .nil ay (aa (pv 0) af)))))) ?_;refine⟨_,rfl,_,rfl,_,rfl,a,ns,k,m,rfl,hS,hl,hm,fun l ms H1 s1 hl1 hlen hpos=>⟨l,rfl,⟨_,aQ.of hl1⟩,fun D b hD=>?_⟩⟩;refine nQ (K:=K) (xs:=ms.map V.int) (fun i ys σ H'=>∃(v:Option V)(ss:List Sg),σ=[v,some (.ref a),some (.int (k:Int)),some (.int (m:Int))]/\aq H1 H'/\H' D=some (.lst ys)/\jV H' ys ss/\ss.length=i/\i<=ms.length/\∀ s∈ss,qG s)
   ⟨none,[],rfl,aq.upd hD,ae,.nil,rfl,Nat.zero_le _,fun _ h=>nomatch h⟩ ?_ ?_ ?_
  ·rintro i ys σ H' ⟨v,ss,rfl,s2,_⟩;exact s2.seq (aQ.of hl1)
  ·rintro i ys x σ H' hx ⟨v,ss,rfl,s2,MZ,hsg,hsl,hi,hg⟩ N hN;have hil:i<ms.length:=by
    have:=(List.getElem?_eq_some_iff.mp hx).1;rw[length_map]at this;exact this
   obtain⟨z,hz,rfl⟩:=FW hx;refine iZ ?_;refine⟨_,rfl,z,rfl,fun p s gs hp=>⟨aq.upd hp _ _ MZ,?_,?_⟩⟩
   ·rw[eM hsg,hsl];exact bq (by omega)
   ·have Wk:=aq.upd (o:=.tup [.str s.1.str,.int s.2]) hp _ _ MZ;refine hN _ _ _ ⟨_,ss++[s],rfl,kP (s2.trans (aq.upd hp)) hD,ae,sP (P0 Wk (hsg.same (aq.upd hp))) (PZ Wk ⟨p,rfl,ae⟩),by simp[hsl],hil,fun y hy=>?_⟩;rcases mem_append.mp hy with z|z
    ·exact hg y z
    ·have:y=s:=by simpa using z
     rw[this];exact gs
  ·rintro ys σ H' ⟨v,ss,rfl,s2,MZ,hsg,hsl,hi,hg⟩;refine q D ys ss H' (s1.trans s2) (s1.free hD) MZ hsg hg ?_;rw[hsl,length_map];omega
inductive ib (c:Cs)(vs:List V)(H:Hp)(Q:VK)(E:XK):Prop
 |mk (i n:Int) (ey:vs=[.int i,.int n]) (eA:((0<=i/\i<=n->Q .non H)/\(¬(0<=i/\i<=n)->RX E c .sf H))):ib c vs H Q E
theorem en (T:Txt K w mg t):bB P w K mg base iS (0+1) t.a6 t.eO ["at","last"] (ib (cs t)):=by
 refine T.a7.ok oQ (fun vs H Q E h=>?_) (fun cdv A outer s H vs Q E hr h=>?_)
 ·obtain⟨_,_,rfl,_⟩:=h;rfl
 ·obtain⟨i,n,rfl,q1,q2⟩:=h;refine aF (aj (bM (mX (HV By By ao (pv 0) (pv 1))) (aj jU) aN)) ?_;refine⟨_,rfl,_,_,rfl,rfl,_,rfl,?_⟩;refine cg (fun h0=>?_) (fun h0=>?_)
  ·refine⟨_,rfl,_,_,rfl,rfl,_,rfl,?_⟩;refine cg (fun h=>?_) (fun h=>?_)
   ·have h':(!decide (i<=n))=true:=h;have q:=q2 fun z=>by rw[decide_eq_true z.2]at h';cases h'
    exact(Bool.noConfusion (show false=true from q.1))
   ·have h':¬(!decide (i<=n))=true:=h;refine q1 ⟨of_decide_eq_true h0,?_⟩
    by_cases z:i<=n
    ·exact z
    ·exact absurd (by rw[decide_eq_false z];rfl) h'
  ·have q:=q2 fun z=>h0 (decide_eq_true z.1);exact⟨_,rfl,qm (Bool.noConfusion (show false=true from q.1))⟩
inductive M0 (vs:List V)(H:Hp)(Q:VK)(E:XK):Prop
 |mk (p:Addr) (s:Sn) (ey:vs=[.ref p]) (eA:H p=some (.tup [.str s.1,.int s.2])) (gn:Q (.bl (kK s)) H):M0 vs H Q E
theorem R3 (T:Txt K w mg t):bB P w K mg base iS (0+1) t.tX t.KC ["sign"] M0:=by
 refine T.Cj.ok Gd (fun vs H Q E h=>?_) (fun cdv A outer s H vs Q E hr h=>?_)
 ·obtain⟨_,_,rfl,_⟩:=h;rfl
 ·obtain⟨p,s,rfl,hp,q⟩:=h;unfold kK at q;refine aF (ag (mZ (pv 0) (mY rfl (aU (aK (i:=1) Gd.nd rfl (Or.inl rfl)) (aU (aK (i:=2) Gd.nd rfl (Or.inl rfl)) jH)))) (ag (bM (aH (df.or dc) (pv 1) (bF (v:=.ref t.b7) rfl T.x8 rfl) rfl) (aj (aC (HU By By ao (pv 2) (bF (v:=.int 99) rfl T.Co ⟨_,rfl⟩)))) aN) (aj (aC (fO (oz (cq (df.or dc) (pv 1) (bF (v:=.ref t.c0) rfl T.Cm rfl) rfl) (oy (cq (ff.or (cW (aY hr))) (pv 2) ao (aR _))))))))) ?_;refine⟨_,rfl,_,_,rfl,qk.of hp,rfl,_,_,rfl,_,_,rfl,rfl,_,rfl,.inl ⟨_,_,rfl,.inr (T.x9 _),rfl,rfl,_,rfl,?_⟩⟩;refine cg (fun h=>?_) (fun h=>?_)
  ·rw[if_pos (show inV (.str s.1) xF=true from h)]at q;refine⟨_,rfl,_,_,rfl,rfl,_,rfl,?_⟩;refine cg (fun h2=>?_) (fun h2=>?_)
   ·rw[if_pos h2]at q;exact⟨_,_,rfl,rfl,q⟩
   ·rw[if_neg h2]at q;exact q
  ·rw[if_neg (show ¬ inV (.str s.1) xF=true from h)]at q;refine⟨fun v H'=>v=.bl (if inV (V.str s.fst) oK=true then decide (s.snd=0) else false)/\H'=H,?_,fun _ _ ⟨e1,e2⟩=>by rw[e1,e2];exact q⟩;refine⟨_,rfl,.inl ⟨_,_,rfl,.inr (T.Cn _),rfl,rfl,_,rfl,?_⟩⟩;refine cg (fun h2=>?_) (fun h2=>?_)
   ·rw[if_pos (show inV (.str s.1) oK=true from h2)];refine⟨_,rfl,.inl ⟨rfl,?_⟩⟩;rw[lI];exact⟨rfl,rfl⟩
   ·rw[if_neg (show ¬ inV (.str s.1) oK=true from h2)];exact⟨rfl,rfl⟩
inductive l3 (c:Cs)(vs:List V)(H:Hp)(Q:VK)(E:XK):Prop
 |mk (p:Addr) (s:Sn) (ey:vs=[.ref p]) (eA:H p=some (.tup [.str s.1,.int s.2])) (gn:((kK s=true->Q .non H)/\(kK s=false->RX E c .vL H))):l3 c vs H Q E
theorem l4 (T:Txt K w mg t):bB P w K mg base iS (0+2) t.bP t.gZ ["sign"] (l3 (cs t)):=by
 have UK:=R3 (P:=P) (base:=base) T;refine T.cB.ok tU (fun vs H Q E h=>?_) (fun cdv A outer s H vs Q E hr h=>?_)
 ·obtain⟨_,_,rfl,_⟩:=h;rfl
 ·obtain⟨p,g,rfl,hp,q1,q2⟩:=h;refine aF (aj (bM (mX (d8 (ar UK (hr.mono (by decide)) rfl T.RS T.Cj.kp T.KO .nil ay (aa (pv 0) af)))) (aj jU) aN)) ?_;refine⟨_,rfl,p,g,rfl,hp,_,rfl,?_⟩;cases hg:kK g with
  |true=>exact mx (q1 hg)
  |false =>
   have q:=q2 hg;exact qm (Bool.noConfusion (show false=true from q.1))
theorem KZ (ks:List Kd)(p met:Nat):cu ks (p+1) met=if(if(ks.getD p .dot).small=true then met else met+1)=2 then p else cu ks p (if(ks.getD p .dot).small=true then met else met+1):=rfl
inductive CH (K:Frag)(vs:List V)(H:Hp)(Q:VK)(E:XK):Prop
 |mk (l:Addr) (xs:List V) (ss:List Sg) (i:Nat) (ey:vs=[.ref l,.int (i:Int)]) (eA:aQ K H l xs) (gn:jV H xs ss) (my:ss.length<=200) (tq:i<=ss.length) (Q5:Q (.int (cu (bL ss) i 0:Nat)) H):CH K vs H Q E
theorem K0 (T:Txt K w mg t):bB P w K mg base iS (0+2) t.jg t.xV ["line","at"] (CH K):=by
 have Gp:=IP (P:=P) (base:=base) T;refine T.oi.ok oR (fun vs H Q E h=>?_) (fun cdv A outer s H vs Q E hr h=>?_)
 ·obtain⟨_,_,_,_,rfl,_⟩:=h;rfl
 ·obtain⟨l,xs,ss,i,rfl,hS,g,hl,hi,q⟩:=h;refine aF (ag (aD (i:=2) oR.nd rfl (Or.inl rfl) ao) (ag (qt PassesOwn.never rfl (Nz rfl T.qZ (aa (aE iX (pv 1) ao) (aa (O4 JS ao) (aa (O4 JS ao) af)))) (aK (i:=3) oR.nd rfl (Or.inl rfl)) (ag (xy (bM (mX (d8 (ar Gp (hr.mono (by decide)) rfl T.IH T.sv.kp T.Bm .nil ay (aa (bH aW (pv 0) (pv 3) (fun _ _=>rfl)) af)))) (aj (TJ (i:=2) oR.nd rfl (Or.inl rfl) ao TK)) aN)) (aj (bM (aH (ff.or (cW (aY hr))) (pv 2) ao (aR _)) (aj (aC (pv 3))) aN)))) (aj (aC ao)))) ?_;tm_up;have xl:=eM g;refine⟨(i:Int)-1,-1,rfl,⟨by omega,by omega,by omega,by omega⟩,PV (fun j σ H'=>∃(met:Nat)(v:Option V),σ=[some (.ref l),some (.int (i:Int)),some (.int (met:Int)),v]/\H'=H/\met<2/\cu (bL ss) i 0=cu (bL ss) (i-j) met) ⟨0,none,rfl,rfl,by decide,rfl⟩ ?_ ?_⟩
  ·rintro j σ H1 hj ⟨met,v,rfl,eH,hm2,hgo⟩;have eH:=eH.symm;subst eH;obtain⟨sg,hsg⟩:∃ sg,ss[i-1-j]? = some sg:=⟨_,getElem?_eq_getElem (by omega)⟩;have hk:(bL ss).getD (i-1-j) .dot=sg.1:=by rw[List.getD_eq_getElem?_getD,getElem?_map,hsg];rfl
   have hij:i-j=(i-1-j)+1:=by omega
   refine⟨fun σ H'=>σ=[some (.ref l),some (.int (i:Int)),some (.int ((if sg.1.small=true then met else met+1:Nat):Int)),some (.int ((i:Int)-1-(j:Int)))]/\H'=H,?_,?_⟩
   ·tm_up;refine P1 hS g (n:=i-1-j) (by omega) hsg fun b hb=>?_;refine⟨b,sg,rfl,hb,?_⟩;refine⟨_,rfl,?_⟩;refine cg (fun hc=>?_) (fun hc=>?_)
    ·have hc':sg.1.small=false:=by simpa using hc
     rw[hc'];tm_up;exact⟨by simp,rfl⟩
    ·have hc':sg.1.small=true:=by simpa using hc
     rw[hc'];exact⟨rfl,rfl⟩
   ·rintro _ H1 ⟨rfl,eH⟩;have eH:=eH.symm;subst eH;tm_up;have QC:cu (bL ss) i 0=if(if sg.1.small=true then met else met+1)=2 then i-1-j else cu (bL ss) (i-1-j) (if sg.1.small=true then met else met+1):=by
     rw[hgo,hij,KZ,hk]
    have hle:(if sg.1.small=true then met else met+1)<=2:=by split <;> omega
    generalize (if sg.1.small=true then met else met+1)=UL at QC hle;refine cg (fun hc=>?_) (fun hc=>?_)
    ·have e2:UL=2:=by have:=V.int.inj (of_decide_eq_true hc);omega
     rw[if_pos e2]at QC;refine⟨_,rfl,?_⟩;rw[QC]at q;have:((i:Int)-1-(j:Int))=((i-1-j:Nat):Int):=by omega
     rw[this];exact q
    ·have e2:¬ UL=2:=fun z=>hc (decide_eq_true (congrArg V.int (by omega)));rw[if_neg e2]at QC;exact⟨UL,_,rfl,rfl,by omega,by rw[QC];congr 1;omega⟩
  ·rintro σ H1 ⟨met,v,rfl,eH,hm2,hgo⟩;have eH:=eH.symm;subst eH;have:cu (bL ss) i 0=0:=by
    rw[hgo];have e:i-(↑i-1 - -1:Int).toNat=0:=by omega
    rw[e];rfl
   rw[this]at q;exact q
inductive An (K:Frag)(vs:List V)(H:Hp)(Q:VK)(E:XK):Prop
 |mk (l kp:Addr) (xs:List V) (ss:List Sg) (i:Nat) (wide:Bool) (ey:vs=[.ref l,.int (i:Int),.ref kp]) (eA:aQ K H l xs) (gn:jV H xs ss) (my:ss.length<=200) (tq:qk K H kp (Ko wide)) (Q5:i<=ss.length) (V7:Q (.int (jW (bL ss) i wide:Nat)) H):An K vs H Q E
theorem IV (T:Txt K w mg t):bB P w K mg base iS (0+1) t.gw t.tY ["line","first","kinds"] (An K):=by
 refine T.lW.ok Ac (fun vs H Q E h=>?_) (fun cdv A outer s H vs Q E hr h=>?_)
 ·obtain⟨_,_,_,_,_,_,rfl,_⟩:=h;rfl
 ·obtain⟨l,kp,xs,ss,i,wide,rfl,hS,g,hl,hT,hi,q⟩:=h;refine aF (ag (qt PassesOwn.never rfl (EW rfl T.qZ (aa (pv 1) (aa (aJ (aA.or aB) rfl T.cL cJ (aa (pv 0) af)) af))) (aK (i:=3) Ac.nd rfl (Or.inl rfl)) (aj (bM (aH (df.or dc) (bH aW (bH aW (pv 0) (pv 3) (fun _ _=>rfl)) ao (fun _ _=>rfl)) (pv 2) rfl) (aj (aC (pv 3))) aN))) (aj (aC (aJ (aA.or aB) rfl T.cL cJ (aa (pv 0) af))))) ?_;have xl:=eM g;tm_up;refine .inl ⟨l,xs,rfl,.inl hS,?_⟩;refine⟨(i:Int),(xs.length:Int),rfl,⟨by omega,by omega,by omega,by omega⟩,Nf (fun j σ H'=>∃(v:Option V),σ=[some (.ref l),some (.int (i:Int)),some (.ref kp),v]/\H'=H/\∀ m x,m<j->(bL ss)[i+m]? = some x->iV wide x=false) ⟨none,rfl,rfl,fun m x hm=>by omega⟩ ?_ ?_⟩
  ·rintro j σ H1 hj ⟨v,rfl,eH,hno⟩;have eH:=eH.symm;subst eH;obtain⟨sg,hsg⟩:∃ sg,ss[i+j]? = some sg:=⟨_,getElem?_eq_getElem (by omega)⟩;tm_up;refine P1 hS g (n:=i+j) (by omega) hsg fun b hb=>?_;tm_up;refine .inl ⟨kp,_,rfl,.inr hT,rfl,by cases wide <;> rfl,_,rfl,?_⟩;have hk:(bL ss)[i+j]? = some sg.1:=by rw[getElem?_map,hsg];rfl
   rw[Qf];refine cg (fun hc=>?_) (fun hc=>?_)
   ·rw[MP hno hk hc]at q;refine⟨_,rfl,?_⟩;have e:((i+j:Nat):Int)=(i:Int)+(j:Int):=by omega
    rw[e]at q;exact q
   ·refine⟨_,rfl,rfl,fun m x hm hx=>?_⟩;rcases Nat.lt_or_ge m j with z|z
    ·exact hno m x z hx
    ·have e:m=j:=by omega
     subst e;rw[hk]at hx;cases hx
     simpa using hc
  ·rintro σ H1 ⟨v,rfl,eH,hno⟩;have eH:=eH.symm;subst eH;refine⟨_,rfl,.inl ⟨l,_,rfl,.inl hS,?_⟩⟩;have kl:(bL ss).length=ss.length:=length_map ..;rw[Iy (by omega) fun m x hx=>hno m x (by have:=(List.getElem?_eq_some_iff.mp hx).1;omega) hx,kl,<-xl]at q;exact q
inductive FC (K:Frag)(vs:List V)(H:Hp)(Q:VK)(E:XK):Prop
 |mk (l ch:Addr) (xs cx:List V) (ss cs:List Sg) (i b:Nat) (ey:vs=[.ref l,.int (i:Int),.int (b:Int),.ref ch]) (eA:aQ K H l xs) (gn:jV H xs ss) (my:ss.length<=200) (tq:i<=ss.length) (Q5:b<=ss.length) (V7:aQ K H ch cx) (WQ:jV H cx cs) (WR:cs.length<=100) (Yi:∀(p:Addr)(H':Hp),aq H H'->H' p=some (.tup (Kp ss i b cs))->Q (.ref p) H'):FC K vs H Q E
theorem yc (T:Txt K w mg t):bB P w K mg base iS (0+3) t.lS t.Cc ["line","at","behind","changed"] (FC K):=by
 have N7:=K0 (P:=P) (base:=base) T;have K1:=IV (P:=P) (base:=base) T;have lZ:=qg (P:=P) (base:=base) T;refine T.lX.ok Fo (fun vs H Q E h=>?_) (fun cdv A outer s H vs Q E hr h=>?_)
 ·obtain⟨_,_,_,_,_,_,_,_,rfl,_⟩:=h;rfl
 ·obtain⟨l,ch,xs,cx,ss,cs,i,b,rfl,hS,g,hl,hi,hb,hC,gc,hcl,q⟩:=h;refine aF (ag (aD (i:=4) Fo.nd rfl (Or.inl rfl) (fO (lC (d8 (aJ Pu rfl T.Uw Ub (aa (oG (cn:=["sign"]) rfl (dI.of rfl) (mz (pv 3)) (fun _=>(aK (i:=0) IG rfl (Or.inl rfl))) (fun _=>tD) (fun _=>(ar lZ (hr.mono (by decide)) rfl T.qb T.dU.kp T.hV .nil ay (aa (pv 0) af)))) af))) (bF (v:=.ref t.bU) rfl T.qc rfl) (bF (v:=.ref t.cF) rfl T.AE rfl)))) (aj (aC (lF (aa (ar N7 (hr.mono (by decide)) rfl T.KP T.oi.kp T.x5 .nil ay (aa (pv 0) (aa (pv 1) af))) (aa (ar K1 (hr.mono (by decide)) rfl T.II T.lW.kp T.t7 .nil ay (aa (pv 0) (aa (pv 2) (aa (pv 4) af)))) af)))))) ?_;have cl:=eM gc;refine⟨fun v H'=>∃ kp,v=.ref kp/\(∀ Vd ,qk K Vd kp (Ko (cs.any fun s=>s.1.meas)))/\aq H H',?_,?_⟩
  ·refine⟨_,rfl,ch,rfl,⟨_,hC⟩,fun D b2 hD=>?_⟩;refine nQ (K:=K) (xs:=cx) (fun ii ys σ H'=>∃ v,σ=[v,some (.ref l),some (.int (i:Int)),some (.int (b:Int)),some (.ref ch),none]/\H'=upd H D (.lst ys)/\ys=((cs.take ii).map fun s=>s.1.meas).map V.bl) ⟨none,rfl,rfl,rfl⟩ ?_ ?_ ?_
   ·rintro ii ys σ H' ⟨v,rfl,rfl,_⟩;exact mB hC hD
   ·rintro ii ys x σ H' hx ⟨v,rfl,rfl,rfl⟩ N hN;obtain⟨sg,e1,p,rfl,hp⟩:=D6 gc hx;have hii:ii<cs.length:=(List.getElem?_eq_some_iff.mp e1).1;refine iZ ?_;refine⟨_,rfl,p,sg,rfl,(by rw[ai (ak hp hD)];exact hp),ae,?_,?_⟩
    ·rw[length_map,length_map,length_take];exact bq (by omega)
    ·refine hN _ _ _ ⟨_,rfl,dH,?_⟩;rw[take_succ,e1];simp
   ·rintro ys σ H' ⟨v,rfl,rfl,rfl⟩;refine⟨rfl,D,_,rfl,aQ.of ae,_,rfl,?_⟩;rw[cl,take_length,List.any_map];refine cg (fun hc=>?_) (fun hc=>?_)
    ·have e:(cs.any fun s=>s.1.meas)=true:=hc;refine⟨_,rfl,fun Vd=>?_,aq.upd hD⟩;rw[e];exact T.qd Vd
    ·have e:(cs.any fun s=>s.1.meas)=false:=by
      cases z:(cs.any fun s=>s.1.meas) with
      |false=>rfl
      |true=>exact absurd z hc
     refine⟨_,rfl,fun Vd=>?_,aq.upd hD⟩;rw[e];exact T.AF Vd
  ·rintro _ H1 ⟨kp,rfl,hk,s1⟩;refine⟨_,rfl,_,rfl,l,xs,ss,i,rfl,s1.seq hS,g.same s1,hl,hi,?_⟩;refine⟨_,rfl,_,rfl,_,rfl,l,kp,xs,ss,b,_,rfl,s1.seq hS,g.same s1,hl,hk _,hb,?_⟩;refine⟨by show 2<=sizeLine;decide,fun p hp=>q p _ (s1.trans (aq.upd hp)) ae⟩
inductive kM (c:Cs)(vs:List V)(H:Hp)(Q:VK)(E:XK):Prop
 |mk (x dx L D U:Addr) (xs:List V) (vx:List Vx) (n:Str) (ey:vs=[.ref x,.str n]) (eA:H x=some (.ins c.B dx (Az L D U))) (gn:H L=some (.lst xs)) (my:Paired (RJ c.V H) xs vx) (tq:match vx.find? (fun a=>decide (a.n=n)) with
 |none=>RX E c .jN H
 |some a=>(a.tm=.non->Q (.ref a.o) H)/\(∀ p,a.tm=.ref p->RX E c .nX H)/\(a.tm=.non\/∃ p,a.tm=.ref p)):kM c vs H Q E
theorem fS (T:Txt K w mg t):bB P w K mg base iS (0+2) t.bc t.gx ["self","name"] (kM (cs t)):=by
 have bj:=dB (P:=P) (base:=base) T;refine T.ej.ok kL (fun vs H Q E h=>?_) (fun cdv A outer s H vs Q E hr h=>?_)
 ·obtain⟨_,_,_,_,_,_,_,_,rfl,_⟩:=h;rfl
 ·obtain⟨x,dx,L,D,U,xs,vx,n,rfl,hx,hL,g,q⟩:=h;refine aF (ag (aD (i:=2) kL.nd rfl (Or.inl rfl) (bo (pv 0) T.aL T.dy bj (hr.mono (by decide)) T.bR .nil ay (aa (pv 1) af))) (ag (bM (aH Rk (dC (pv 2) rfl) Bt (aR _)) (aj jU) aN) (aj (aC (pv 2))))) ?_;refine⟨_,rfl,x,dx,_,rfl,hx,dJ _ _ _,_,rfl,x,dx,L,D,U,xs,vx,n,rfl,hx,hL,g,?_⟩;cases hf:vx.find? (fun a=>decide (a.n=n)) with
  |none =>
   rw[hf]at q;exact(Bool.noConfusion (show false=true from q.1))
  |some a =>
   rw[hf]at q;obtain⟨q1,q2,q3⟩:=q;obtain⟨j,hj⟩:=getElem?_of_mem (List.mem_of_find?_eq_some hf);obtain⟨v,hv,rfl,ha⟩:=nR g hj;refine⟨_,rfl,a.o,_,a.d,_,_,rfl,ha,T.et,T.c8,E9 _ _ _,?_⟩;rcases q3 with e|⟨p,e⟩
   ·rw[e];refine⟨rfl,_,rfl,?_⟩;exact cg (fun h=>absurd h (by decide)) (fun _=>⟨_,rfl,q1 e⟩)
   ·have q:=q2 p e;rw[e];refine⟨rfl,_,rfl,?_⟩;exact cg (fun _=>(Bool.noConfusion (show false=true from q.1))) (fun h=>absurd (show(!decide (V.ref p=V.non))=true by rw[decide_eq_false (fun z=>nomatch z)];rfl) h)
inductive Ao (c:Cs)(vs:List V)(H:Hp)(Q:VK)(E:XK):Prop
 |mk (x:Addr) (F:Addr->Prop) (vw:Vw) (ps fs:List Vw) (n:Str) (i:Int) (p:Addr) (sn:Sn) (ey:vs=[.ref x,.str n,.int i,.ref p]) (eA:Fb c H x F vw ps fs) (gn:H p=some (.tup [.str sn.1,.int sn.2])) (my:ps.length<=900) (tq:match bC vw n with
 |none=>RX E c .jN H
 |some (.cn _ _ _ _)=>RX E c .nX H
 |some (.pl ss)=>(¬(0<=i/\i<=(ss.length:Int))->RX E c .sf H)/\((0<=i/\i<=(ss.length:Int))->kK sn=false->RX E c .vL H)/\((0<=i/\i<=(ss.length:Int))->kK sn=true->200<=ss.length->RX E c .Full H) /\
  ((0<=i/\i<=(ss.length:Int))->kK sn=true->ss.length<200->∀(s:Sg)(w:Addr) F' H',s.1.str=sn.1->s.2=sn.2->H' w=some (.tup (Kp (ss.take i.toNat++[s]++ss.drop i.toNat) i.toNat (i.toNat+1) [s]))->Gr F F' H->Fr F H H'->Fb c H' x F' (xE vw n (.pl (ss.take i.toNat++[s]++ss.drop i.toNat))) (ps++[vw]) []->Q (.ref w) H')):Ao c vs H Q E
theorem IW (T:Txt K w mg t):bB P w K mg base iS (0+4) t.fm t.tZ ["self","name","at","sign"] (Ao (cs t)):=by
 have bY:=en (P:=P) (base:=base) T;have ic:=l4 (P:=P) (base:=base) T;have c9:=gm (P:=P) (base:=base) T;have rb:=yc (P:=P) (base:=base) T;have da:=fS (P:=P) (base:=base) T;have cG:=fL (P:=P) (base:=base) T;refine T.pb.ok Ad (fun vs H Q E h=>?_) (fun cdv A outer s H vs Q E hr h=>?_)
 ·obtain⟨_,_,_,_,_,_,_,_,_,rfl,_⟩:=h;rfl
 ·obtain⟨x,F,vw,ps,fs,n,iz,p,sn,rfl,B,hp,hps,q⟩:=h;refine aF (ag (aD (i:=4) Ad.nd rfl (Or.inl rfl) (dC (bo (pv 0) T.aL T.fR da (hr.mono (by decide)) T.c7 .nil ay (aa (pv 1) af)) rfl)) (ag (bV (ar bY (hr.mono (by decide)) rfl T.eh T.a7.kp T.bX .nil ay (aa (pv 2) (aa (aJ (aA.or aB) rfl T.cL cJ (aa (pv 4) af)) af)))) (ag (bV (ar ic (hr.mono (by decide)) rfl T.lV T.cB.kp T.e9 .nil ay (aa (pv 3) af))) (ag (bM (aH SD (aJ (aA.or aB) rfl T.cL cJ (aa (pv 4) af)) (bF (v:=.int 200) rfl T.Gm ⟨_,rfl⟩) (aR _)) (aj jU) aN) (ag (bV (bo (pv 0) T.aL T.gh c9 (hr.mono (by decide)) T.dS .nil ay (aa (vB T.Bo cG (hr.mono (by decide)) rfl T.Bn T.dj .nil ay (aa (pv 4) (aa (pv 2) (aa (cC af) (aa (cC (aa (pv 3) af)) af))))) af))) (aj (aC (ar rb (hr.mono (by decide)) rfl T.x6 T.lX.kp T.qX .nil ay (aa (pv 4) (aa (pv 2) (aa (aE (cU.or (aI.or cV)) (pv 2) ao) (aa (cC (aa (pv 3) af)) af)))))))))))) ?_;obtain⟨L,D,U,all,M,Ps,Fs,es,us,b,iM,pp,pf,f⟩:=B.ex;obtain⟨dx,hx⟩:=b.hx;obtain⟨vx,g,gv⟩:=b.tL iM;obtain⟨ds,hD,pD⟩:=b.hD;obtain⟨ux,hU,pU⟩:=b.hU;have dl:=eM pD;have pl:=eM pp;have pe:=b.past.len;refine⟨_,rfl,x,dx,_,rfl,hx,gp _ _ _,_,rfl,x,dx,L,D,U,M L,vx,n,rfl,hx,b.hL,g,?_⟩;rcases Fd gv (fun _ _ r=>r.2.1) n with ⟨f1,f2⟩|⟨a,th,j,f1,f2,r,an,fj,fw⟩
  ·rw[f1];rw[f2]at q;exact(Bool.noConfusion (show false=true from q.1))
  rw[f1];rw[f2]at q;subst an;cases th with
  |cn ld lt sl tn =>
   obtain⟨pt,Tj,_⟩:=r.2.2;refine⟨fun z=>?_,fun _ _=>(Bool.noConfusion (show false=true from q.1)),.inr ⟨pt,Tj⟩⟩;rw[Tj]at z;cases z
  |pl ss =>
   obtain⟨Kn,hg⟩:=r.2.2;obtain⟨q1,q2,q3,q4⟩:=q;have haa:=r.1;obtain⟨ha,hl⟩:=b.ha a haa;have yl:=eM hg;have hj:(M L)[j]? = some (.ref a.o):=by
    obtain⟨v,hv,e1,_⟩:=nR g fj;rw[<-e1];exact hv
   refine⟨fun _=>?_,(fun pz z=>by rw[Kn]at z;cases z),.inl Kn⟩;refine⟨a.o,_,a.d,_,_,rfl,ha,T.et,T.bx,nV _ _ _,?_⟩;refine⟨_,rfl,_,rfl,.inl ⟨a.l,M a.l,rfl,.inl (aQ.of hl),?_⟩⟩;refine⟨iz,((M a.l).length:Int),rfl,fun hi=>?_,fun hi=>?_⟩
   rotate_left
   ·have q:=q1 (by rw[<-yl];exact hi);exact(Bool.noConfusion (show false=true from q.1))
   rw[yl]at hi;refine⟨_,rfl,p,sn,rfl,hp,fun hgd=>?_,fun hgd=>?_⟩
   rotate_left
   ·have q:=q2 hi hgd;exact(Bool.noConfusion (show false=true from q.1))
   refine⟨_,rfl,.inl ⟨a.l,M a.l,rfl,.inl (aQ.of hl),?_⟩⟩;refine⟨_,_,rfl,rfl,_,rfl,?_⟩;refine cg (fun h=>?_) (fun h=>?_)
   ·have h':=of_decide_eq_true h;have q:=q3 hi hgd (by omega);exact(Bool.noConfusion (show false=true from q.1))
   have hlt:ss.length<200:=by
    rcases Nat.lt_or_ge ss.length 200 with z|z
    ·exact z
    ·exact absurd (decide_eq_true (by omega)) h
   obtain⟨sg,e1,e2,gt⟩:=F3 hgd;rw[<-e1,<-e2]at hp;obtain⟨i,rfl⟩:∃ i:Nat,iz=(i:Int):=⟨iz.toNat,by omega⟩;have hi:i<=ss.length:=by omega
   have q4:=q4 (by omega) hgd hlt sg;rw[Int.toNat_natCast]at q4;refine⟨_,rfl,x,dx,_,rfl,hx,gS _ _ _,?_⟩;refine⟨_,rfl,_,rfl,big (by show 0<=1000;omega),fun B' hB=>?_⟩;refine⟨_,rfl,big (by show 1<=1000;omega),fun A_ hA=>?_⟩;have Ra:=Bi hA;have sB:=(aq.upd (o:=.lst []) hB).trans (aq.upd (o:=.lst [V.ref p]) hA);have hB2:=aq.upd (o:=.lst [V.ref p]) hA _ _ (ae (H:=H) (a:=B') (o:=.lst []));have KU:=ae (H:=upd H B' (.lst [])) (a:=A_) (o:=.lst [V.ref p]);have lA:a.l≠A_:=ak hl Ra;generalize upd (upd H B' (.lst [])) A_ (.lst [V.ref p])=H2 at sB hB2 KU;intro d dd nd Uz ne;refine⟨d,dd,a.l,(i:Int),B',A_,rfl,ae,rfl,?_⟩;rw[dH];have s3:aq H2 (upd (upd H2 dd (.own d)) d (.ins t.aV dd (Eb a.l (i:Int) B' A_))):=fun y o hy=>by
    rw[ai (ak hy nd),ai (ak hy Uz)];exact hy
   have IL:=ae (H:=upd H2 dd (.own d)) (a:=d) (o:=.ins t.aV dd (Eb a.l (i:Int) B' A_));generalize upd (upd H2 dd (.own d)) d (.ins t.aV dd (Eb a.l (i:Int) B' A_))=H3 at s3 IL;have s4:=sB.trans s3;obtain⟨_,d1,d2⟩:=b.lists (.inr ⟨a,haa,rfl⟩);refine⟨x,dx,L,D,U,d,dd,a.l,B',A_,i,ds,ux,M a.l,[],[.ref p],rfl,s4 _ _ hx,s4 _ _ hD,s4 _ _ hU,IL,s4 _ _ hl,s3 _ _ hB2,s3 _ _ KU,lA,d1,d2,b.DU,by simp;omega,by simp;omega,by omega,?_⟩;have hM:BM ⟨d,dd,a.l,i,B',A_,[],[.ref p]⟩ M a.l=(M a.l).take i++[.ref p]++(M a.l).drop (i+0):=oJ;have keep:∀ y o,H3 y=some o->y≠a.l->y≠D->y≠U->(upd (upd (upd H3 a.l (.lst ((M a.l).take i++[.ref p]++(M a.l).drop (i+0)))) D (.lst (ds++[.ref d]))) U (.lst [])) y=some o:=fun y o hy y1 y2 y3=>by
    rw[ai y3,ai y2,ai y1];exact hy
   have k1:(upd (upd (upd H3 a.l (.lst ((M a.l).take i++[.ref p]++(M a.l).drop (i+0)))) D (.lst (ds++[.ref d]))) U (.lst [])) a.l=some (.lst ((M a.l).take i++[.ref p]++(M a.l).drop (i+0))):=by
    rw[ai d2,ai d1,ae]
   have k2:(upd (upd (upd H3 a.l (.lst ((M a.l).take i++[.ref p]++(M a.l).drop (i+0)))) D (.lst (ds++[.ref d]))) U (.lst [])) D=some (.lst (ds++[.ref d])):=by
    rw[ai b.DU,ae]
   have k3:(upd (upd (upd H3 a.l (.lst ((M a.l).take i++[.ref p]++(M a.l).drop (i+0)))) D (.lst (ds++[.ref d]))) U (.lst [])) U=some (.lst []):=ae;generalize (upd (upd (upd H3 a.l (.lst ((M a.l).take i++[.ref p]++(M a.l).drop (i+0)))) D (.lst (ds++[.ref d]))) U (.lst []))=H4 at keep k1 k2 k3;have g3:=hg.same s4;have Tn:jV H3 ((M a.l).take i++[.ref p]++(M a.l).drop (i+0)) (ss.take i++[sg]++ss.drop i):=D7 (D7 (zX i g3) (.cons ⟨p,rfl,s4 _ _ hp⟩ .nil)) (E7 i g3);obtain⟨F',gr,fr,B4⟩:=Bk.Qe b iM pp f B.wv haa hj fw Kn (e:=⟨d,dd,a.l,i,B',A_,[],[.ref p]⟩) rfl ⟨by simp;omega,by simp⟩ (by simp) (by simp) s4 hB Ra ⟨rfl,IL,s3 _ _ hB2,s3 _ _ KU⟩ (by rw[hM];exact Tn) (by simp;omega) (fun s hs=>by
    have wg:=((B.wv vw (.inr (.inl rfl))).gd _ _ (mem_of_getElem? fw)).2;rcases mem_append.mp hs with hs|hs
    ·rcases mem_append.mp hs with hs|hs
     ·exact wg s (List.mem_of_mem_take hs)
     ·rw[mem_singleton.mp hs];exact gt
    ·exact wg s (List.mem_of_mem_drop hs)) hD pD keep (by rw[hM];exact k1) k2 k3
   have nT:∀{y us},H3 y=some (.tup us)->H4 y=some (.tup us):=fun {y us} hy=>keep y _ hy (nN hy (s4 _ _ hl) (by intro z;cases z)) (nN hy (s4 _ _ hD) (by intro z;cases z)) (nN hy (s4 _ _ hU) (by intro z;cases z));have Wl:jV H4 ((M a.l).take i++[.ref p]++(M a.l).drop (i+0)) (ss.take i++[sg]++ss.drop i):=iU (fun _ _ ⟨z,e1,e2⟩=>⟨z,e1,nT e2⟩) Tn;refine⟨_,rfl,_,rfl,_,rfl,.inl ⟨_,_,rfl,rfl,_,rfl,big (by show 1<=1000;omega),fun lc Wm=>?_⟩⟩;have sc:=aq.upd (o:=.lst [V.ref p]) Wm;refine⟨a.l,lc,_,[.ref p],ss.take i++[sg]++ss.drop i,[sg],i,i+1,rfl,aQ.of (sc _ _ k1),Wl.same sc,by simp;omega,by simp;omega,by simp;omega,aQ.of ae,.cons ⟨p,rfl,sc _ _ (nT (s4 _ _ hp))⟩ .nil,by simp,fun w H5 s5 Wn=>?_⟩;have s6:=sc.trans s5;exact q4 w F' H5 e1 e2 Wn gr (fun y o hy hn=>s6 _ _ (fr y o hy hn)) (B4.same s6)
inductive CI (vs:List V)(H:Hp)(Q:VK)(E:XK):Prop
 |mk (n:Int) (ey:vs=[.int n]) (eA:Q (.bl true) H):CI vs H Q E
theorem K2 (T:Txt K w mg t):bB P w K mg base iS (0+1) t.jh t.xW ["_law_found"] CI:=by
 refine T.lB.ok KA (fun vs H Q E h=>?_) (fun cdv A outer s H vs Q E hr h=>?_)
 ·obtain⟨_,rfl,_⟩:=h;rfl
 ·obtain⟨n,rfl,q⟩:=h;refine aF (aj (aC (fO (oz (aJ vH rfl T.jQ jK (aa (pv 0) (aa (Bc (v:=.ty "int") rfl T.ub tE rfl) af))) (oy (Tz (aJ vH rfl T.jQ jK (aa (pv 0) (aa (Bc (v:=.ty "bool") rfl T.RT Rt rfl) af))))))))) ?_;refine Ke (.bl true) ?_ q;exact⟨_,rfl,_,_,_,_,rfl,qv.int _,rfl,_,rfl,qm ⟨_,rfl,_,_,_,_,rfl,qv.int _,rfl,_,rfl,PN rfl⟩⟩
inductive FD (K:Frag)(vs:List V)(H:Hp)(Q:VK)(E:XK):Prop
 |mk (p p2:Addr) (i j:Int) (ey:vs=[.ref p,.ref p2]) (eA:H p=some (.tup [.int i,.int j])) (gn:H p2=some (.tup [.int i,.int j])) (my:Q (.bl true) H):FD K vs H Q E
theorem UM {K:Frag}{H:Hp}{p p2:Addr}{i j:Int}(n:Nat)(h1:H p=some (.tup [.int i,.int j]))(h2:H p2=some (.tup [.int i,.int j])):Q8 K H (n+1) (.ref p) (.ref p2):=by
 refine .tup (qk.of h1) (qk.of h2) rfl fun k x y e1 e2=>?_;have e:x=y:=Option.some.inj (e1.symm.trans e2);subst e
 match k,e1 with
 |0,e1=>cases e1;exact .flat rfl
 |1,e1=>cases e1;exact .flat rfl
theorem N8 (T:Txt K w mg t):bB P w K mg base iS (0+2) t.lT t.Cd ["_law_found","_law_due"] (FD K):=by
 have FE:=K2 (P:=P) (base:=base) T;refine T.oj.ok NX (fun vs H Q E h=>?_) (fun cdv A outer s H vs Q E hr h=>?_)
 ·obtain⟨_,_,_,_,rfl,_⟩:=h;rfl
 ·obtain⟨p,p2,i,j,rfl,h1,h2,q⟩:=h;refine aF (ag (bM (qB (PW.pt (Mt (mX (d8 (aJ vH rfl T.jQ jK (aa (pv 0) (aa (Bc (v:=.ty "tuple") rfl T.Qt Py rfl) af))))) (JQ (aH (HS.or (BE (aY hr))) (aJ (aA.or aB) rfl T.cL cJ (aa (pv 0) af)) ao (aR _)))))) (aj (aC qp)) aN) (aj (aC (fO (oz (ar FE (hr.mono (by decide)) rfl T.Ck T.lB.kp T.sx .nil ay (aa (bH aW (pv 0) ao (fun _ _=>rfl)) af)) (oz (ar FE (hr.mono (by decide)) rfl T.Ck T.lB.kp T.sx .nil ay (aa (bH aW (pv 0) ao (fun _ _=>rfl)) af)) (oy (cq (ff.or (cW (aY hr))) (pv 0) (pv 1) (aR _))))))))) ?_;refine Kf false ?_ ?_
  ·refine⟨_,rfl,_,_,_,_,rfl,qv.tup h1,rfl,_,rfl,mx ?_⟩;refine⟨_,rfl,.inl ⟨p,_,rfl,.inr (qk.of h1),?_⟩⟩;tm_up;exact⟨rfl,rfl⟩
  refine mx ?_;refine Ke (.bl true) ?_ q;refine⟨_,rfl,qJ (i:=0) h1 rfl ⟨i,rfl,_,rfl,qm ?_⟩⟩;refine⟨_,rfl,qJ (i:=1) h1 rfl ⟨j,rfl,_,rfl,qm ?_⟩⟩;refine⟨_,rfl,_,rfl,.inr ⟨p,p2,rfl,rfl,UM 59 h1 h2,rfl,rfl⟩⟩
inductive Ap (c:Cs)(vs:List V)(H:Hp)(Q:VK)(E:XK):Prop
 |mk (x:Addr) (F:Addr->Prop) (vw:Vw) (ps fs:List Vw) (n:Str) (i:Int) (ey:vs=[.ref x,.str n,.int i]) (eA:Fb c H x F vw ps fs) (gn:ps.length<=900) (my:match bC vw n with
 |none=>RX E c .jN H
 |some (.cn _ _ _ _)=>RX E c .nX H
 |some (.pl ss)=>(¬(0<=i/\i<=(ss.length:Int)-1)->RX E c .sf H) /\
  ((0<=i/\i<=(ss.length:Int)-1)->∀(s:Sg)(w:Addr) F' H',ss[i.toNat]? = some s->H' w=some (.tup (Kp (ss.take i.toNat++[]++ss.drop (i.toNat+1)) i.toNat i.toNat [s]))->Gr F F' H->Fr F H H'->Fb c H' x F' (xE vw n (.pl (ss.take i.toNat++[]++ss.drop (i.toNat+1)))) (ps++[vw]) []->Q (.ref w) H')):Ap c vs H Q E
theorem UN {α:Type}{xs:List α}{i:Nat}{y:α}(h:xs[i]? = some y):xs.drop i=y::xs.drop (i+1):=by
 obtain⟨h1,h2⟩:=List.getElem?_eq_some_iff.mp h;rw[List.drop_eq_getElem_cons h1,h2]
theorem IX (T:Txt K w mg t):bB P w K mg base iS (0+4) t.fq t.t2 ["self","name","at"] (Ap (cs t)):=by
 have bY:=en (P:=P) (base:=base) T;have c9:=gm (P:=P) (base:=base) T;have rb:=yc (P:=P) (base:=base) T;have da:=fS (P:=P) (base:=base) T;have cG:=fL (P:=P) (base:=base) T;refine T.pj.ok qO (fun vs H Q E h=>?_) (fun cdv A outer s H vs Q E hr h=>?_)
 ·obtain⟨_,_,_,_,_,_,_,rfl,_⟩:=h;rfl
 ·obtain⟨x,F,vw,ps,fs,n,iz,rfl,B,hps,q⟩:=h;refine aF (ag (aD (i:=3) qO.nd rfl (Or.inl rfl) (dC (bo (pv 0) T.aL T.fR da (hr.mono (by decide)) T.c7 .nil ay (aa (pv 1) af)) rfl)) (ag (bV (ar bY (hr.mono (by decide)) rfl T.eh T.a7.kp T.bX .nil ay (aa (pv 2) (aa (aE iX (aJ (aA.or aB) rfl T.cL cJ (aa (pv 3) af)) ao) af)))) (ag (aD (i:=4) qO.nd rfl (Or.inl rfl) (bH aW (pv 3) (pv 2) (fun _ _=>rfl))) (ag (bV (bo (pv 0) T.aL T.gh c9 (hr.mono (by decide)) T.dS .nil ay (aa (vB T.Bo cG (hr.mono (by decide)) rfl T.Bn T.dj .nil ay (aa (pv 3) (aa (pv 2) (aa (cC (aa (pv 4) af)) (aa (cC af) af))))) af))) (aj (aC (ar rb (hr.mono (by decide)) rfl T.x6 T.lX.kp T.qX .nil ay (aa (pv 3) (aa (pv 2) (aa (pv 2) (aa (cC (aa (pv 4) af)) af))))))))))) ?_;obtain⟨L,D,U,all,M,Ps,Fs,es,us,b,iM,pp,pf,f⟩:=B.ex;obtain⟨dx,hx⟩:=b.hx;obtain⟨vx,g,gv⟩:=b.tL iM;obtain⟨ds,hD,pD⟩:=b.hD;obtain⟨ux,hU,pU⟩:=b.hU;have dl:=eM pD;have pl:=eM pp;have pe:=b.past.len;refine⟨_,rfl,x,dx,_,rfl,hx,gp _ _ _,_,rfl,x,dx,L,D,U,M L,vx,n,rfl,hx,b.hL,g,?_⟩;rcases Fd gv (fun _ _ r=>r.2.1) n with ⟨f1,f2⟩|⟨a,th,j,f1,f2,r,an,fj,fw⟩
  ·rw[f1];rw[f2]at q;exact(Bool.noConfusion (show false=true from q.1))
  rw[f1];rw[f2]at q;subst an;cases th with
  |cn ld lt sl tn =>
   obtain⟨pt,Tj,_⟩:=r.2.2;refine⟨fun z=>?_,fun _ _=>(Bool.noConfusion (show false=true from q.1)),.inr ⟨pt,Tj⟩⟩;rw[Tj]at z;cases z
  |pl ss =>
   obtain⟨Kn,hg⟩:=r.2.2;obtain⟨q1,q4⟩:=q;have haa:=r.1;obtain⟨ha,hl⟩:=b.ha a haa;have yl:=eM hg;have hj:(M L)[j]? = some (.ref a.o):=by
    obtain⟨v,hv,e1,_⟩:=nR g fj;rw[<-e1];exact hv
   refine⟨fun _=>?_,(fun pz z=>by rw[Kn]at z;cases z),.inl Kn⟩;refine⟨a.o,_,a.d,_,_,rfl,ha,T.et,T.bx,nV _ _ _,?_⟩;refine⟨_,rfl,_,rfl,.inl ⟨a.l,M a.l,rfl,.inl (aQ.of hl),?_⟩⟩;refine⟨_,_,rfl,rfl,?_⟩;refine⟨iz,((M a.l).length:Int)-1,rfl,fun hi=>?_,fun hi=>?_⟩
   rotate_left
   ·have q:=q1 (by rw[<-yl];exact hi);exact(Bool.noConfusion (show false=true from q.1))
   rw[yl]at hi;obtain⟨i,rfl⟩:∃ i:Nat,iz=(i:Int):=⟨iz.toNat,by omega⟩;have hi:i<ss.length:=by omega
   have hlt:ss.length<=200:=((B.wv vw (.inr (.inl rfl))).gd _ _ (mem_of_getElem? fw)).1;have q4:=q4 (by omega);rw[Int.toNat_natCast]at q4;obtain⟨Wo,hsg⟩:∃ sg,ss[i]? = some sg:=⟨_,getElem?_eq_getElem hi⟩;obtain⟨vp,UJ,p0,rfl,hp0⟩:=nR hg hsg;refine⟨_,rfl,_,rfl,S7 (aQ.of hl) (n:=i) rfl UJ ?_⟩;refine⟨_,rfl,x,dx,_,rfl,hx,gS _ _ _,?_⟩;refine⟨_,rfl,_,rfl,_,rfl,big (by show 1<=1000;omega),fun B' hB=>?_⟩;refine⟨big (by show 0<=1000;omega),fun A_ hA=>?_⟩;have Ra:=Bi hA;have sB:=(aq.upd (o:=.lst [V.ref p0]) hB).trans (aq.upd (o:=.lst []) hA);have hB2:=aq.upd (o:=.lst []) hA _ _ (ae (H:=H) (a:=B') (o:=.lst [V.ref p0]));have KU:=ae (H:=upd H B' (.lst [V.ref p0])) (a:=A_) (o:=.lst []);have lA:a.l≠A_:=ak hl Ra;generalize upd (upd H B' (.lst [V.ref p0])) A_ (.lst [])=H2 at sB hB2 KU;intro d dd nd Uz ne;refine⟨d,dd,a.l,(i:Int),B',A_,rfl,ae,rfl,?_⟩;rw[dH];have s3:aq H2 (upd (upd H2 dd (.own d)) d (.ins t.aV dd (Eb a.l (i:Int) B' A_))):=fun y o hy=>by
    rw[ai (ak hy nd),ai (ak hy Uz)];exact hy
   have IL:=ae (H:=upd H2 dd (.own d)) (a:=d) (o:=.ins t.aV dd (Eb a.l (i:Int) B' A_));generalize upd (upd H2 dd (.own d)) d (.ins t.aV dd (Eb a.l (i:Int) B' A_))=H3 at s3 IL;have s4:=sB.trans s3;obtain⟨_,d1,d2⟩:=b.lists (.inr ⟨a,haa,rfl⟩);refine⟨x,dx,L,D,U,d,dd,a.l,B',A_,i,ds,ux,M a.l,[.ref p0],[],rfl,s4 _ _ hx,s4 _ _ hD,s4 _ _ hU,IL,s4 _ _ hl,s3 _ _ hB2,s3 _ _ KU,lA,d1,d2,b.DU,by simp;omega,by simp;omega,by omega,?_⟩;have hM:BM ⟨d,dd,a.l,i,B',A_,[.ref p0],[]⟩ M a.l=(M a.l).take i++[]++(M a.l).drop (i+1):=oJ;have keep:∀ y o,H3 y=some o->y≠a.l->y≠D->y≠U->(upd (upd (upd H3 a.l (.lst ((M a.l).take i++[]++(M a.l).drop (i+1)))) D (.lst (ds++[.ref d]))) U (.lst [])) y=some o:=fun y o hy y1 y2 y3=>by
    rw[ai y3,ai y2,ai y1];exact hy
   have k1:(upd (upd (upd H3 a.l (.lst ((M a.l).take i++[]++(M a.l).drop (i+1)))) D (.lst (ds++[.ref d]))) U (.lst [])) a.l=some (.lst ((M a.l).take i++[]++(M a.l).drop (i+1))):=by
    rw[ai d2,ai d1,ae]
   have k2:(upd (upd (upd H3 a.l (.lst ((M a.l).take i++[]++(M a.l).drop (i+1)))) D (.lst (ds++[.ref d]))) U (.lst [])) D=some (.lst (ds++[.ref d])):=by
    rw[ai b.DU,ae]
   have k3:(upd (upd (upd H3 a.l (.lst ((M a.l).take i++[]++(M a.l).drop (i+1)))) D (.lst (ds++[.ref d]))) U (.lst [])) U=some (.lst []):=ae;generalize (upd (upd (upd H3 a.l (.lst ((M a.l).take i++[]++(M a.l).drop (i+1)))) D (.lst (ds++[.ref d]))) U (.lst []))=H4 at keep k1 k2 k3;have g3:=hg.same s4;have Tn:jV H3 ((M a.l).take i++[]++(M a.l).drop (i+1)) (ss.take i++[]++ss.drop (i+1)):=D7 (D7 (zX i g3) .nil) (E7 (i+1) g3);obtain⟨F',gr,fr,B4⟩:=Bk.Qe b iM pp f B.wv haa hj fw Kn (e:=⟨d,dd,a.l,i,B',A_,[.ref p0],[]⟩) rfl ⟨by show i+1<=(M a.l).length;omega,by rw[show([V.ref p0]:List V).length=1 from rfl,UN UJ];rfl⟩ (by simp) (by simp) s4 hB Ra ⟨rfl,IL,s3 _ _ hB2,s3 _ _ KU⟩ (by rw[hM];exact Tn) (by simp;omega) (fun s hs=>by
    have wg:=((B.wv vw (.inr (.inl rfl))).gd _ _ (mem_of_getElem? fw)).2;rcases mem_append.mp hs with hs|hs
    ·rcases mem_append.mp hs with hs|hs
     ·exact wg s (List.mem_of_mem_take hs)
     ·cases hs
    ·exact wg s (List.mem_of_mem_drop hs)) hD pD keep (by rw[hM];exact k1) k2 k3
   have nT:∀{y us},H3 y=some (.tup us)->H4 y=some (.tup us):=fun {y us} hy=>keep y _ hy (nN hy (s4 _ _ hl) (by intro z;cases z)) (nN hy (s4 _ _ hD) (by intro z;cases z)) (nN hy (s4 _ _ hU) (by intro z;cases z));have Wl:jV H4 ((M a.l).take i++[]++(M a.l).drop (i+1)) (ss.take i++[]++ss.drop (i+1)):=iU (fun _ _ ⟨z,e1,e2⟩=>⟨z,e1,nT e2⟩) Tn;refine⟨_,rfl,_,rfl,_,rfl,_,rfl,big (by show 1<=1000;omega),fun lc Wm=>?_⟩;have sc:=aq.upd (o:=.lst [V.ref p0]) Wm;refine⟨a.l,lc,_,[.ref p0],ss.take i++[]++ss.drop (i+1),[Wo],i,i,rfl,aQ.of (sc _ _ k1),Wl.same sc,by simp;omega,by simp;omega,by simp;omega,aQ.of ae,.cons ⟨p0,rfl,sc _ _ (nT (s4 _ _ hp0))⟩ .nil,by simp,fun w H5 s5 Wn=>?_⟩;have s6:=sc.trans s5;exact q4 Wo w F' H5 hsg Wn gr (fun y o hy hn=>s6 _ _ (fr y o hy hn)) (B4.same s6)
inductive wz (c:Cs)(vs:List V)(H:Hp)(Q:VK)(E:XK):Prop
 |mk (x:Addr) (F:Addr->Prop) (vw:Vw) (ps fs:List Vw) (n:Str) (i:Int) (p:Addr) (sn:Sn) (ey:vs=[.ref x,.str n,.int i,.ref p]) (eA:Fb c H x F vw ps fs) (gn:H p=some (.tup [.str sn.1,.int sn.2])) (my:ps.length<=900) (tq:match bC vw n with
 |none=>RX E c .jN H
 |some (.cn _ _ _ _)=>RX E c .nX H
 |some (.pl ss)=>(¬(0<=i/\i<=(ss.length:Int)-1)->RX E c .sf H)/\((0<=i/\i<=(ss.length:Int)-1)->kK sn=false->RX E c .vL H) /\
  ((0<=i/\i<=(ss.length:Int)-1)->kK sn=true->∀(s s0:Sg)(w:Addr) F' H',s.1.str=sn.1->s.2=sn.2->ss[i.toNat]? = some s0->H' w=some (.tup (Kp (ss.take i.toNat++[s]++ss.drop (i.toNat+1)) i.toNat (i.toNat+1) [s0,s]))->Gr F F' H->Fr F H H'->Fb c H' x F' (xE vw n (.pl (ss.take i.toNat++[s]++ss.drop (i.toNat+1)))) (ps++[vw]) []->Q (.ref w) H')):wz c vs H Q E
theorem Wq {α:Type}{xs:List α}{i:Nat}{y:α}(h:xs[i]? = some y):xs.drop i=y::xs.drop (i+1):=by
 obtain⟨h1,h2⟩:=List.getElem?_eq_some_iff.mp h;rw[List.drop_eq_getElem_cons h1,h2]
theorem Gx (T:Txt K w mg t):bB P w K mg base iS (0+4) t.d6 t.qU ["self","name","at","sign"] (wz (cs t)):=by
 have bY:=en (P:=P) (base:=base) T;have ic:=l4 (P:=P) (base:=base) T;have c9:=gm (P:=P) (base:=base) T;have rb:=yc (P:=P) (base:=base) T;have da:=fS (P:=P) (base:=base) T;have cG:=fL (P:=P) (base:=base) T;refine T.mL.ok oS (fun vs H Q E h=>?_) (fun cdv A outer s H vs Q E hr h=>?_)
 ·obtain⟨_,_,_,_,_,_,_,_,_,rfl,_⟩:=h;rfl
 ·obtain⟨x,F,vw,ps,fs,n,iz,p,sn,rfl,B,hp,hps,q⟩:=h;refine aF (ag (aD (i:=4) oS.nd rfl (Or.inl rfl) (dC (bo (pv 0) T.aL T.fR da (hr.mono (by decide)) T.c7 .nil ay (aa (pv 1) af)) rfl)) (ag (bV (ar bY (hr.mono (by decide)) rfl T.eh T.a7.kp T.bX .nil ay (aa (pv 2) (aa (aE iX (aJ (aA.or aB) rfl T.cL cJ (aa (pv 4) af)) ao) af)))) (ag (bV (ar ic (hr.mono (by decide)) rfl T.lV T.cB.kp T.e9 .nil ay (aa (pv 3) af))) (ag (aD (i:=5) oS.nd rfl (Or.inl rfl) (bH aW (pv 4) (pv 2) (fun _ _=>rfl))) (ag (bV (bo (pv 0) T.aL T.gh c9 (hr.mono (by decide)) T.dS .nil ay (aa (vB T.Bo cG (hr.mono (by decide)) rfl T.Bn T.dj .nil ay (aa (pv 4) (aa (pv 2) (aa (cC (aa (pv 5) af)) (aa (cC (aa (pv 3) af)) af))))) af))) (aj (aC (ar rb (hr.mono (by decide)) rfl T.x6 T.lX.kp T.qX .nil ay (aa (pv 4) (aa (pv 2) (aa (aE (cU.or (aI.or cV)) (pv 2) ao) (aa (cC (aa (pv 5) (aa (pv 3) af))) af)))))))))))) ?_;obtain⟨L,D,U,all,M,Ps,Fs,es,us,b,iM,pp,pf,f⟩:=B.ex;obtain⟨dx,hx⟩:=b.hx;obtain⟨vx,g,gv⟩:=b.tL iM;obtain⟨ds,hD,pD⟩:=b.hD;obtain⟨ux,hU,pU⟩:=b.hU;have dl:=eM pD;have pl:=eM pp;have pe:=b.past.len;refine⟨_,rfl,x,dx,_,rfl,hx,gp _ _ _,_,rfl,x,dx,L,D,U,M L,vx,n,rfl,hx,b.hL,g,?_⟩;rcases Fd gv (fun _ _ r=>r.2.1) n with ⟨f1,f2⟩|⟨a,th,j,f1,f2,r,an,fj,fw⟩
  ·rw[f1];rw[f2]at q;exact(Bool.noConfusion (show false=true from q.1))
  rw[f1];rw[f2]at q;subst an;cases th with
  |cn ld lt sl tn =>
   obtain⟨pt,Tj,_⟩:=r.2.2;refine⟨fun z=>?_,fun _ _=>(Bool.noConfusion (show false=true from q.1)),.inr ⟨pt,Tj⟩⟩;rw[Tj]at z;cases z
  |pl ss =>
   obtain⟨Kn,hg⟩:=r.2.2;obtain⟨q1,q2,q4⟩:=q;have haa:=r.1;obtain⟨ha,hl⟩:=b.ha a haa;have yl:=eM hg;have hj:(M L)[j]? = some (.ref a.o):=by
    obtain⟨v,hv,e1,_⟩:=nR g fj;rw[<-e1];exact hv
   refine⟨fun _=>?_,(fun pz z=>by rw[Kn]at z;cases z),.inl Kn⟩;refine⟨a.o,_,a.d,_,_,rfl,ha,T.et,T.bx,nV _ _ _,?_⟩;refine⟨_,rfl,_,rfl,.inl ⟨a.l,M a.l,rfl,.inl (aQ.of hl),?_⟩⟩;refine⟨_,_,rfl,rfl,?_⟩;refine⟨iz,((M a.l).length:Int)-1,rfl,fun hi=>?_,fun hi=>?_⟩
   rotate_left
   ·have q:=q1 (by rw[<-yl];exact hi);exact(Bool.noConfusion (show false=true from q.1))
   rw[yl]at hi;refine⟨_,rfl,p,sn,rfl,hp,fun hgd=>?_,fun hgd=>?_⟩
   rotate_left
   ·have q:=q2 hi hgd;exact(Bool.noConfusion (show false=true from q.1))
   obtain⟨sg,e1,e2,gt⟩:=F3 hgd;rw[<-e1,<-e2]at hp;obtain⟨i,rfl⟩:∃ i:Nat,iz=(i:Int):=⟨iz.toNat,by omega⟩;have hi:i<ss.length:=by omega
   have hlt:ss.length<=200:=((B.wv vw (.inr (.inl rfl))).gd _ _ (mem_of_getElem? fw)).1;have q4:=q4 (by omega) hgd sg;rw[Int.toNat_natCast]at q4;obtain⟨Wo,hsg⟩:∃ sg,ss[i]? = some sg:=⟨_,getElem?_eq_getElem hi⟩;obtain⟨vp,UJ,p0,rfl,hp0⟩:=nR hg hsg;refine⟨_,rfl,_,rfl,S7 (aQ.of hl) (n:=i) rfl UJ ?_⟩;refine⟨_,rfl,x,dx,_,rfl,hx,gS _ _ _,?_⟩;refine⟨_,rfl,_,rfl,_,rfl,big (by show 1<=1000;omega),fun B' hB=>?_⟩;refine⟨_,rfl,big (by show 1<=1000;omega),fun A_ hA=>?_⟩;have Ra:=Bi hA;have sB:=(aq.upd (o:=.lst [V.ref p0]) hB).trans (aq.upd (o:=.lst [V.ref p]) hA);have hB2:=aq.upd (o:=.lst [V.ref p]) hA _ _ (ae (H:=H) (a:=B') (o:=.lst [V.ref p0]));have KU:=ae (H:=upd H B' (.lst [V.ref p0])) (a:=A_) (o:=.lst [V.ref p]);have lA:a.l≠A_:=ak hl Ra;generalize upd (upd H B' (.lst [V.ref p0])) A_ (.lst [V.ref p])=H2 at sB hB2 KU;intro d dd nd Uz ne;refine⟨d,dd,a.l,(i:Int),B',A_,rfl,ae,rfl,?_⟩;rw[dH];have s3:aq H2 (upd (upd H2 dd (.own d)) d (.ins t.aV dd (Eb a.l (i:Int) B' A_))):=fun y o hy=>by
    rw[ai (ak hy nd),ai (ak hy Uz)];exact hy
   have IL:=ae (H:=upd H2 dd (.own d)) (a:=d) (o:=.ins t.aV dd (Eb a.l (i:Int) B' A_));generalize upd (upd H2 dd (.own d)) d (.ins t.aV dd (Eb a.l (i:Int) B' A_))=H3 at s3 IL;have s4:=sB.trans s3;obtain⟨_,d1,d2⟩:=b.lists (.inr ⟨a,haa,rfl⟩);refine⟨x,dx,L,D,U,d,dd,a.l,B',A_,i,ds,ux,M a.l,[.ref p0],[.ref p],rfl,s4 _ _ hx,s4 _ _ hD,s4 _ _ hU,IL,s4 _ _ hl,s3 _ _ hB2,s3 _ _ KU,lA,d1,d2,b.DU,by simp;omega,by simp;omega,by omega,?_⟩;have hM:BM ⟨d,dd,a.l,i,B',A_,[.ref p0],[.ref p]⟩ M a.l=(M a.l).take i++[.ref p]++(M a.l).drop (i+1):=oJ;have keep:∀ y o,H3 y=some o->y≠a.l->y≠D->y≠U->(upd (upd (upd H3 a.l (.lst ((M a.l).take i++[.ref p]++(M a.l).drop (i+1)))) D (.lst (ds++[.ref d]))) U (.lst [])) y=some o:=fun y o hy y1 y2 y3=>by
    rw[ai y3,ai y2,ai y1];exact hy
   have k1:(upd (upd (upd H3 a.l (.lst ((M a.l).take i++[.ref p]++(M a.l).drop (i+1)))) D (.lst (ds++[.ref d]))) U (.lst [])) a.l=some (.lst ((M a.l).take i++[.ref p]++(M a.l).drop (i+1))):=by
    rw[ai d2,ai d1,ae]
   have k2:(upd (upd (upd H3 a.l (.lst ((M a.l).take i++[.ref p]++(M a.l).drop (i+1)))) D (.lst (ds++[.ref d]))) U (.lst [])) D=some (.lst (ds++[.ref d])):=by
    rw[ai b.DU,ae]
   have k3:(upd (upd (upd H3 a.l (.lst ((M a.l).take i++[.ref p]++(M a.l).drop (i+1)))) D (.lst (ds++[.ref d]))) U (.lst [])) U=some (.lst []):=ae;generalize (upd (upd (upd H3 a.l (.lst ((M a.l).take i++[.ref p]++(M a.l).drop (i+1)))) D (.lst (ds++[.ref d]))) U (.lst []))=H4 at keep k1 k2 k3;have g3:=hg.same s4;have Tn:jV H3 ((M a.l).take i++[.ref p]++(M a.l).drop (i+1)) (ss.take i++[sg]++ss.drop (i+1)):=D7 (D7 (zX i g3) (.cons ⟨p,rfl,s4 _ _ hp⟩ .nil)) (E7 (i+1) g3);obtain⟨F',gr,fr,B4⟩:=Bk.Qe b iM pp f B.wv haa hj fw Kn (e:=⟨d,dd,a.l,i,B',A_,[.ref p0],[.ref p]⟩) rfl ⟨by show i+1<=(M a.l).length;omega,by rw[show([V.ref p0]:List V).length=1 from rfl,Wq UJ];rfl⟩ (by simp) (by simp) s4 hB Ra ⟨rfl,IL,s3 _ _ hB2,s3 _ _ KU⟩ (by rw[hM];exact Tn) (by simp;omega) (fun s hs=>by
    have wg:=((B.wv vw (.inr (.inl rfl))).gd _ _ (mem_of_getElem? fw)).2;rcases mem_append.mp hs with hs|hs
    ·rcases mem_append.mp hs with hs|hs
     ·exact wg s (List.mem_of_mem_take hs)
     ·rw[mem_singleton.mp hs];exact gt
    ·exact wg s (List.mem_of_mem_drop hs)) hD pD keep (by rw[hM];exact k1) k2 k3
   have nT:∀{y us},H3 y=some (.tup us)->H4 y=some (.tup us):=fun {y us} hy=>keep y _ hy (nN hy (s4 _ _ hl) (by intro z;cases z)) (nN hy (s4 _ _ hD) (by intro z;cases z)) (nN hy (s4 _ _ hU) (by intro z;cases z));have Wl:jV H4 ((M a.l).take i++[.ref p]++(M a.l).drop (i+1)) (ss.take i++[sg]++ss.drop (i+1)):=iU (fun _ _ ⟨z,e1,e2⟩=>⟨z,e1,nT e2⟩) Tn;refine⟨_,rfl,_,rfl,_,rfl,.inl ⟨_,_,rfl,rfl,_,rfl,_,rfl,big (by show 2<=1000;omega),fun lc Wm=>?_⟩⟩;have sc:=aq.upd (o:=.lst [V.ref p0,V.ref p]) Wm;refine⟨a.l,lc,_,[.ref p0,.ref p],ss.take i++[sg]++ss.drop (i+1),[Wo,sg],i,i+1,rfl,aQ.of (sc _ _ k1),Wl.same sc,by simp;omega,by simp;omega,by simp;omega,aQ.of ae,.cons ⟨p0,rfl,sc _ _ (nT (s4 _ _ hp0))⟩ (.cons ⟨p,rfl,sc _ _ (nT (s4 _ _ hp))⟩ .nil),by simp,fun w H5 s5 Wn=>?_⟩;have s6:=sc.trans s5;exact q4 Wo w F' H5 e1 e2 hsg Wn gr (fun y o hy hn=>s6 _ _ (fr y o hy hn)) (B4.same s6)
structure Bw (c:Cs)(H0 H:Hp)(x:Addr)(own:List Addr)(vw:Vw)(ps fs:List Vw):Prop where
 ex:∃ F,Fb c H x F vw ps fs/\(∀ y,F y->∃ xs,H y=some (.lst xs))/\(∀ y,F y->H0 y=none)/\∀ a∈own,¬ F a/\∃ o,H a=some o
 sm:aq H0 H
section
variable {c:Cs} {H0 H H' H1:Hp} {x:Addr} {own:List Addr} {vw Um:Vw} {ps ps' fs fs':List Vw} {F F':Addr->Prop}
theorem Bw.mk' (b:Fb c H' x F' Um ps' fs')(sm:aq H0 H)(hF:∀ y,F y->∃ xs,H y=some (.lst xs))(h0:∀ y,F y->H0 y=none)(ho:∀ a∈own,¬ F a/\∃ o,H a=some o)(g:Gr F F' H)(fr:Fr F H H'):Bw c H0 H' x own Um ps' fs'/\X7 own H H':=by
 obtain⟨F0,h1,h2,b0⟩:=b.V6;refine⟨⟨⟨F0,b0,h2,fun y z=>?_,fun a ha=>?_⟩,fun y o e=>fr y o (sm y o e) fun z=>?_⟩,fun y o e k=>fr y o e fun z=>?_⟩
 ·rcases g y (h1 y z) with q|q
  ·exact h0 y q
  ·exact sm.free q
 ·obtain⟨n,o,e⟩:=ho a ha;refine⟨fun z=>?_,o,fr a o e n⟩;rcases g a (h1 a z) with q|q
  ·exact n q
  ·rw[e]at q;cases q
 ·rw[h0 y z]at e;cases e
 ·rcases k with k|k
  ·obtain⟨xs,q⟩:=hF y z;rw[e]at q;cases q;exact k _ rfl
  ·exact(ho y k).1 z
theorem Bw.same (h:Bw c H0 H x own vw ps fs)(s:aq H H'):Bw c H0 H' x own vw ps fs:=by
 obtain⟨F,b,hF,h0,ho⟩:=h.ex;exact⟨⟨F,b.same s,fun y z=>let ⟨xs,e⟩:=hF y z;⟨xs,s _ _ e⟩,h0,fun a ha=>⟨(ho a ha).1,let ⟨o,e⟩:=(ho a ha).2;⟨o,s _ _ e⟩⟩⟩,h.sm.trans s⟩
theorem Bw.hx (h:Bw c H0 H x own vw ps fs):∃ dx L D U,H x=some (.ins c.B dx (Az L D U)):=by
 obtain⟨F,b,_⟩:=h.ex;obtain⟨L,D,U,all,M,Ps,Fs,es,us,b,_⟩:=b.ex;obtain⟨dx,e⟩:=b.hx;exact⟨dx,L,D,U,e⟩
theorem Bw.new {dx L D U:Addr}(hx:H' x=some (.ins c.B dx (Az L D U)))(hL:H' L=some (.lst []))(hD:H' D=some (.lst []))(hU:H' U=some (.lst []))(LD:L≠D)(LU:L≠U)(DU:D≠U)(s:aq H H')(nL:H L=none)(nD:H D=none)(nU:H U=none):Bw c H H' x [] [] [] []:=by
 refine⟨⟨_,Bk.new hx hL hD hU LD LU DU,fun y hy=>?_,fun y hy=>?_,fun a ha=>nomatch ha⟩,s⟩
 ·rcases hy with rfl|rfl|rfl
  ·exact⟨_,hL⟩
  ·exact⟨_,hD⟩
  ·exact⟨_,hU⟩
 ·rcases hy with rfl|rfl|rfl
  ·exact nL
  ·exact nD
  ·exact nU
end
def mix (H0 H H':Hp):Hp:=fun y=>match H y with
 |none=>H' y
 |some (.lst _)=>H0 y
 |some o=>some o
section
variable {H0 H H' Vd:Hp}
theorem M3 (s:aq H0 H):aq H0 (mix H0 H H'):=fun y o e=>by
 unfold mix;rw[s _ _ e];cases o with
 |lst xs=>exact e
 |_=>rfl
theorem R4 {y:Addr}{o:HO}(n:H y=none)(e:H' y=some o):mix H0 H H' y=some o:=by
 unfold mix;rw[n];exact e
theorem M4 (s:aq H H'){y:Addr}{o:HO}(e:H' y=some o)(k:∀ xs,o≠.lst xs):mix H0 H H' y=some o:=by
 unfold mix;cases h:H y with
 |none=>exact e
 |some u =>
  have:o=u:=Option.some.inj (e.symm.trans (s _ _ h));subst this;cases o with
  |lst xs=>exact absurd rfl (k xs)
  |_=>rfl
theorem R5 (s0:aq H0 H)(s:aq H H'):aq (mix H0 H H') H':=fun y o e=>by
 unfold mix at e;cases h:H y with
 |none=>rw[h]at e;exact e
 |some u =>
  rw[h]at e;cases u with
  |lst xs=>exact s _ _ (s0 _ _ e)
  |_=>exact(s _ _ h).trans e
theorem Bw.mix {c:Cs}{x:Addr}{vw:Vw}{ps fs:List Vw}(h:Bw c H0 H x [] vw ps fs)(s:aq H H'):Bw c (xA.mix H0 H H') H' x [] vw ps fs:=by
 obtain⟨F,b,hF,h0,ho⟩:=h.ex;refine⟨⟨F,b.same s,fun y z=>let ⟨xs,e⟩:=hF y z;⟨xs,s _ _ e⟩,fun y hy=>?_,fun a ha=>nomatch ha⟩,R5 h.sm s⟩;obtain⟨xs,e⟩:=hF y hy;unfold xA.mix;rw[e];exact h0 y hy
end
theorem j4 (th:Th):bC [(("ann":Str),th)] "ann"=some th:=by
 unfold bC;rw[List.find?_cons_of_pos (p:=fun q:Str×Th=>decide (q.1=("ann":Str))) (decide_eq_true rfl)];rfl
theorem Bp (th th':Th):xE [(("ann":Str),th)] "ann" th'=[(("ann":Str),th')]:=by
 unfold xE;rw[map_cons,if_pos rfl];rfl
theorem R6:qI [] "ann"=none:=by
 unfold qI;rw[if_neg (by lk),if_neg (by decide),if_neg (by decide)]
theorem yd {ss:List Sg}{i:Nat}{s:Sg}(h:ss[i]? = some s):(ss.take i).take i++[s]++(ss.take i).drop i=ss.take (i+1):=by
 rw[List.take_take,Nat.min_self,List.drop_eq_nil_of_le (by rw[length_take];omega),append_nil,take_succ,h];rfl
def To (wy:Wy):Int:=(if decide (wy=.put)=true then 1 else 0)-(if decide (wy=.cut)=true then 1 else 0)
theorem Gy (T c c' M:List Kd)(wide:Bool)(hw:wide=(c++c').any fun k=>k.meas){LB kb:List Kd}(e1:LB=T++c'++M)(e2:kb=T++c++M){i b:Nat}(ei:i=T.length)(eb:b=T.length+c'.length){mo:Int}(em:mo=(c'.length:Int)-(c.length:Int)) :
  (bJ 3 LB).1.take (cu LB i 0)=(bJ 3 kb).1.take (cu LB i 0)/\∃ v:Nat,(jW LB b wide:Int)-mo=(v:Int)/\(bJ 3 LB).1.drop (jW LB b wide)=(bJ 3 kb).1.drop v:=by
 subst e1 e2 ei eb em;refine⟨NQ (.inl rfl) (by rw[length_append,length_append];omega) ?_,T.length+c.length+(M.takeWhile fun k=>!iV wide k).length,?_,?_⟩
 ·rw[List.append_assoc,List.append_assoc,List.take_left' rfl,List.take_left' rfl]
 ·unfold jW;rw[List.drop_left' (by rw[length_append])];omega
 ·unfold jW;rw[List.drop_left' (by rw[length_append])];exact NT 3 T c c' M wide hw
theorem R7 {ss:List Sg}{wy:Wy}{sg:Sg}{i:Nat}{ch:List Sg}(QA:wy=.put\/wy=.cut\/wy=.swap)(hi1:i<=ss.length)(hi2:wy≠.put->i<ss.length)(hc1:wy=.put->ch=[sg])(hc2:∀ s,ss[i]? = some s->(wy=.cut->ch=[s])/\(wy=.swap->ch=[s,sg])) :
  (bJ 3 (bL (aT ss wy (sg.1.str,sg.2) i))).1.take (cu (bL (aT ss wy (sg.1.str,sg.2) i)) i 0)=(bJ 3 (bL ss)).1.take (cu (bL (aT ss wy (sg.1.str,sg.2) i)) i 0)/\∃ v:Nat,(jW (bL (aT ss wy (sg.1.str,sg.2) i)) (if wy=.cut then i else i+1) (ch.any fun s=>s.1.meas):Int)-To wy=(v:Int) /\
   (bJ 3 (bL (aT ss wy (sg.1.str,sg.2) i))).1.drop (jW (bL (aT ss wy (sg.1.str,sg.2) i)) (if wy=.cut then i else i+1) (ch.any fun s=>s.1.meas))=(bJ 3 (bL ss)).1.drop v:=by
 have tl:((ss.take i).map (·.1)).length=i:=by rw[length_map,length_take];omega
 rcases QA with rfl|rfl|rfl
 ·rw[hc1 rfl];refine Gy ((ss.take i).map (·.1)) [] [sg.1] ((ss.drop i).map (·.1)) _ (by simp) ?_ ?_ tl.symm (by rw[tl];rfl) rfl
  ·show List.map Prod.fst (ss.take i++[kR (sg.1.str,sg.2)]++ss.drop i)=_;rw[kS rfl rfl,map_append,map_append];rfl
  ·rw[append_nil,<-map_append,take_append_drop]
 ·obtain⟨s,hs⟩:∃ s,ss[i]? = some s:=⟨_,getElem?_eq_getElem (hi2 (by decide))⟩;rw[(hc2 s hs).1 rfl];refine Gy ((ss.take i).map (·.1)) [s.1] [] ((ss.drop (i+1)).map (·.1)) _ (by simp) ?_ ?_ tl.symm (by rw[tl];rfl) rfl
  ·show List.map Prod.fst (ss.take i++[]++ss.drop (i+1))=_;rw[map_append,map_append];rfl
  ·rw[show [s.1]=[s].map (·.1) from rfl,<-map_append,<-map_append,List.append_assoc,List.singleton_append,<-kQ hs,take_append_drop]
 ·obtain⟨s,hs⟩:∃ s,ss[i]? = some s:=⟨_,getElem?_eq_getElem (hi2 (by decide))⟩;rw[(hc2 s hs).2 rfl];refine Gy ((ss.take i).map (·.1)) [s.1] [sg.1] ((ss.drop (i+1)).map (·.1)) _ (by simp) ?_ ?_ tl.symm (by rw[tl];rfl) rfl
  ·show List.map Prod.fst (ss.take i++[kR (sg.1.str,sg.2)]++ss.drop (i+1))=_;rw[kS rfl rfl,map_append,map_append];rfl
  ·rw[show [s.1]=[s].map (·.1) from rfl,<-map_append,<-map_append,List.append_assoc,List.singleton_append,<-kQ hs,take_append_drop]
theorem QD {K:Frag}{H:Hp}{a b:Addr}{zs:List Int}{ys:List V}(e:ys=zs.map V.int)(ha:aQ K H a ys)(hb:aQ K H b ys):Q8 K H 60 (.ref a) (.ref b):=by
 subst e;refine .lst ha hb rfl fun i x y e1 e2=>?_;have e:x=y:=Option.some.inj (e1.symm.trans e2);subst e;obtain⟨z,_,rfl⟩:=mem_map.mp (mem_of_getElem? e1);exact .flat rfl
set_option maxHeartbeats 8000000 in
theorem UO (T:Txt K w mg t):bB P w K mg base iS (0+8) t.Ce t.Qs ["_law_script"] (BJ K):=by
 have AJ:=ya (P:=P) (base:=base) T;have ye:=v9 (P:=P) (base:=base) T;have fz:=wc (P:=P) (base:=base) T;have Aq:=Gv (P:=P) (base:=base) T;have CJ:=IS (P:=P) (base:=base) T;have QE:=N6 (P:=P) (base:=base) T;have q9:=wu (P:=P) (base:=base) T;have CK:=IW (P:=P) (base:=base) T;have IY:=N8 (P:=P) (base:=base) T;have K3:=IX (P:=P) (base:=base) T;have IZ:=Gx (P:=P) (base:=base) T;refine T.MW.ok fP (fun vs H Q E h=>?_) (fun cdv A outer s H vs Q E hr h=>?_)
 ·obtain⟨a,ns,rfl,_⟩:=h;rfl
 ·obtain⟨a,ns,rfl,hS,hl,q⟩:=h
  skip
  refine aF (ag (aD (i:=1) fP.nd rfl (Or.inl rfl) (fX (jJ.or (m7.or m8)) (ar QE (hr.mono (by decide)) rfl T.NY T.qW.kp T.Ci .nil ay (aa (pv 0) (aa ao (aa (aE gQ (ar fz (hr.mono (by decide)) rfl T.fI T.cP.kp T.d7 .nil ay (aa (pv 0) (aa ao af))) ao) af)))) jI (fZ ao))) (ag (aD (i:=2) fP.nd rfl (Or.inl rfl) (Pd T.RV AJ (hr.mono (by decide)) rfl T.RU T.kc .nil ay)) (ag (bV (bo (pv 2) T.aL T.vU ye (hr.mono (by decide)) T.jj .nil ay (aa a9 af))) (ag (qt PassesOwn.never rfl (MH rfl T.pk (pv 1)) (mY rfl (aU (aK (i:=3) fP.nd rfl (Or.inl rfl)) (aU (aK (i:=4) fP.nd rfl (Or.inl rfl)) jH))) (aj (bM (mX (d8 (ar IY (hr.mono (by decide)) rfl T.Fu T.oj.kp T.vZ .nil ay (aa (bo (pv 2) T.aL T.Ai CK (hr.mono (by decide)) T.ph .nil ay (aa a9 (aa (pv 3) (aa (pv 4) af)))) (aa (ar CJ (hr.mono (by decide)) rfl T.Ah T.jk.kp T.o7 .nil ay (aa (fX (jJ.or (m7.or m8)) (pv 1) jI (fZ (pv 3))) (aa (lF (aa a9 (aa a9 (aa a9 (aa ao (aa (pv 4) af)))))) (aa (pv 3) af)))) af))))) (aj (aC qp)) aN))) (ag (aD (i:=5) fP.nd rfl (Or.inl rfl) (bH aW (cC (aa a9 (aa a9 (aa a9 af)))) (aE (qu.or qx) (aE gQ (ar fz (hr.mono (by decide)) rfl T.fI T.cP.kp T.d7 .nil ay (aa (pv 0) (aa ao af))) ao) (gG (lh.or eB) rfl T.ub tE (aa (cq (PQ (aY hr)) (pv 1) (cC af) (aR _)) af))) (fun _ _=>rfl))) (ag (aD (i:=3) fP.nd rfl (Or.inl rfl) (aE gQ (ar fz (hr.mono (by decide)) rfl T.fI T.cP.kp T.d7 .nil ay (aa (pv 0) (aa ao af))) (aE (cU.or (aI.or cV)) (aJ (aA.or aB) rfl T.cL cJ (aa (pv 1) af)) (gG (lh.or eB) rfl T.ub tE (aa (cq (ff.or (cW (aY hr))) (pv 5) a9 (aR _)) af))))) (ag (aD (i:=6) fP.nd rfl (Or.inl rfl) (ar fz (hr.mono (by decide)) rfl T.fI T.cP.kp T.d7 .nil ay (aa (pv 0) (aa ao af)))) (ag (aD (i:=7) fP.nd rfl (Or.inl rfl) (lF (aa (pv 5) (aa a9 (aa a9 (aa ao (aa (ar q9 (hr.mono (by decide)) rfl T.vY T.gO.kp T.mK .nil ay (aa (bH aW (cC (aa (aE r9 (pv 6) ao) (aa (aE (cU.or (aI.or cV)) ao (aE gQ (aE r9 (pv 6) ao) ao)) (aa (pv 6) af)))) (aE gQ (pv 6) ao) (fun _ _=>rfl)) af)) af))))))) (ag (aD (i:=8) fP.nd rfl (Or.inl rfl) (bo (pv 2) T.aL T.vX Aq (hr.mono (by decide)) T.mJ .nil ay (aa a9 af))) (ag (xy (bM (aH (ff.or (cW (aY hr))) (pv 5) a9 (aR _)) (aj (aD (i:=9) fP.nd rfl (Or.inl rfl) (bo (pv 2) T.aL T.Ai CK (hr.mono (by decide)) T.ph .nil ay (aa a9 (aa (pv 3) (aa (bH aW (pv 7) ao (fun _ _=>rfl)) af)))))) (aj (bM (aH (ff.or (cW (aY hr))) (pv 5) a9 (aR _)) (aj (aD (i:=9) fP.nd rfl (Or.inl rfl) (bo (pv 2) T.aL T.IJ K3 (hr.mono (by decide)) T.ua .nil ay (aa a9 (aa (pv 3) af))))) (aj (aD (i:=9) fP.nd rfl (Or.inl rfl) (bo (pv 2) T.aL T.Gi IZ (hr.mono (by decide)) T.qY .nil ay (aa a9 (aa (pv 3) (aa (bH aW (pv 7) ao (fun _ _=>rfl)) af)))))))))) (ag (aD (i:=10) fP.nd rfl (Or.inl rfl) (ar CJ (hr.mono (by decide)) rfl T.Ah T.jk.kp T.o7 .nil ay (aa (pv 1) (aa (pv 7) (aa (pv 3) af))))) (ag (bM (mX (d8 (ar IY (hr.mono (by decide)) rfl T.Fu T.oj.kp T.vZ .nil ay (aa (pv 9) (aa (pv 10) af))))) (aj (aC qp)) aN) (ag (aD (i:=11) fP.nd rfl (Or.inl rfl) (bo (pv 2) T.aL T.vX Aq (hr.mono (by decide)) T.mJ .nil ay (aa a9 af))) (ag (aD (i:=12) fP.nd rfl (Or.inl rfl) (aE iX (gG (lh.or eB) rfl T.ub tE (aa (cq (ff.or (cW (aY hr))) (pv 5) a9 (aR _)) af)) (gG (lh.or eB) rfl T.ub tE (aa (cq (ff.or (cW (aY hr))) (pv 5) a9 (aR _)) af)))) (ag (bM (qB (PW.pt (Mt (mX (d8 (aJ vH rfl T.jQ jK (aa (pv 11) (aa (Bc (v:=.ty "list") rfl T.Gj FT rfl) af))))) (Mt (aH (HS.or (BE (aY hr))) (aJ (aA.or aB) rfl T.cL cJ (aa (pv 11) af)) (aE (cU.or (aI.or cV)) (aJ (aA.or aB) rfl T.cL cJ (aa (pv 1) af)) (pv 12)) (aR _)) (JQ (aH (HS.or (BE (aY hr))) (aJ (aA.or aB) rfl T.cL cJ (aa (pv 8) af)) (aJ (aA.or aB) rfl T.cL cJ (aa (pv 1) af)) (aR _))))))) (aj (aC qp)) aN) (aj (aC (fO (oz (cq (ff.or (cW (aY hr))) (fX (jJ.or (m7.or m8)) (pv 11) jI (fZ (bH aW (pv 10) ao (fun _ _=>rfl)))) (fX (jJ.or (m7.or m8)) (pv 8) jI (fZ (bH aW (pv 10) ao (fun _ _=>rfl)))) (aR _)) (oy (cq (ff.or (cW (aY hr))) (fX (jJ.or (m7.or m8)) (pv 11) (fZ (bH aW (pv 10) ao (fun _ _=>rfl))) jI) (fX (jJ.or (m7.or m8)) (pv 8) (fZ (aE iX (bH aW (pv 10) ao (fun _ _=>rfl)) (pv 12))) jI) (aR _)))))))))))))))))))))) ?_;refine d9 fun N hN=>?_;tm_up;refine⟨a,ns,1,rfl,hS,hl,?_⟩;tm_up;obtain⟨m,hm,aar⟩:=RK (dZ ns 1) (k:=41) (by decide);rw[hm];refine⟨a,ns,4,m,rfl,hS,hl,by omega,fun p1 Rb WZ H1 s1 n1 h1 g1 Zb Yq=>?_⟩;refine⟨40,rfl,.inl ⟨p1,Rb,rfl,aQ.of h1,fun l hl2=>?_⟩⟩;rw[show tw Rb none (some 40)=Rb.take 40 from E8 Rb 40];have s2:=s1.trans (aq.upd (o:=.lst (Rb.take 40)) hl2);have k2:=ae (H:=H1) (a:=l) (o:=.lst (Rb.take 40));have g2:jV (upd H1 l (.lst (Rb.take 40))) (Rb.take 40) (WZ.take 40):=jV.same (aq.upd hl2) (zX 40 g1);have Zc:∀ s∈WZ.take 40,qG s:=fun s hs=>Zb s (List.mem_of_mem_take hs);have Yr:(WZ.take 40).length<=40:=by rw[length_take];omega
  generalize upd H1 l (.lst (Rb.take 40))=H2 at s2 k2 g2;generalize Rb.take 40=xs at k2 g2;generalize WZ.take 40=ss at g2 Zc Yr;have xl:=eM g2;refine hN _ _ ?_;clear hN N h1 g1 Zb Yq hl2 s1 n1;refine d9 fun N hN=>?_;intro x dx nx ndx _;refine⟨x,dx,rfl,ae,fun L D U H4 Zd nL nD nU LD LU DU Wr Ze Wk Zf=>⟨rfl,?_⟩⟩;have s4:=Uo nx ndx Zd;have B4:Bw (cs t) H2 H4 x [] [] [] []:=Bw.new Wr Ze Wk Zf LD LU DU s4 (F6 nL) (F6 nD) (F6 nU);clear Zd nL nD nU LD LU DU Ze Wk Zf s4 nx ndx;refine hN _ _ ?_;clear hN N;refine d9 fun N hN=>?_;obtain⟨F4,b4,f4,z4,o4⟩:=B4.ex;refine⟨_,rfl,x,dx,_,rfl,Wr,xC _ _ _,?_⟩;refine⟨x,F4,_,[],[],"ann",rfl,b4,by lk,by decide,?_⟩;rw[R6];intro F5 H5 Zg U3 b5;obtain⟨B5,k5⟩:=Bw.mk' b5 B4.sm f4 z4 o4 Zg U3;refine hN _ _ ?_;clear hN N b4 f4 z4 o4 Zg U3 b5 k5 B4 Wr;refine d9 fun N hN=>?_;refine⟨_,rfl,l,rfl,⟨_,aQ.of (B5.sm _ _ k2)⟩,Ie (K:=K) (xs:=xs) (fun j σ H'=>∃(v3 v4:Option V)(ps:List Vw),σ=[some (.ref a),some (.ref l),some (.ref x),v3,v4,none,none,none,none,none,none,none,none]/\Bw (cs t) H2 H' x [] [(("ann":Str),.pl (ss.take j))] ps []/\ps.length=1+j/\j<=ss.length) ⟨_,_,[[]],rfl,B5,rfl,Nat.zero_le _⟩ ?_ ?_ ?_⟩
  ·rintro j σ H3 ⟨_,_,ps,rfl,B3,_⟩;exact aQ.of (B3.sm _ _ k2)
  ·rintro j y τ σ H3 hy3 ⟨_,_,ps,rfl,B3,pl3,jl⟩ hτ;obtain⟨sg,hsg,pp,rfl,hpp⟩:=D6 g2 hy3;have hj:j<ss.length:=(List.getElem?_eq_some_iff.mp hsg).1;have s4:=aq.upd (o:=.tup [.int (j:Int),.ref pp]) hτ;have Zh:=ae (H:=H3) (a:=τ) (o:=.tup [.int (j:Int),.ref pp]);generalize upd H3 τ (.tup [.int (j:Int),.ref pp])=H4 at s4 Zh;have B4:=B3.same s4;obtain⟨dx4,L4,D4,U4,Wr⟩:=B4.hx;obtain⟨F4,b4,f4,z4,o4⟩:=B4.ex;have Zi:(ss.take j).length=j:=by rw[length_take];omega
   refine⟨τ,_,rfl,qk.of Zh,rfl,_,_,rfl,_,_,rfl,rfl,?_⟩;refine⟨_,rfl,x,dx4,_,rfl,Wr,BK _ _ _,_,rfl,_,rfl,?_⟩;refine⟨x,F4,_,ps,[],"ann",(j:Int),pp,(sg.1.str,sg.2),rfl,b4,B4.sm _ _ hpp,by omega,?_⟩;rw[j4];have gd:=MO (Zc sg (mem_of_getElem? hsg));refine⟨(fun z=>absurd ⟨by omega,by rw[Zi];omega⟩ z),(fun _ z=>by rw[gd]at z;cases z),(fun _ _ z=>by rw[Zi]at z;omega),fun _ _ _ s9 w9 F9 H9 e1 e2 hw9 gr9 fr9 b9=>?_⟩;have es:s9=sg:=Prod.ext (str_inj.mp e1) e2;subst es;rw[Int.toNat_natCast,yd hsg,Bp]at b9;rw[Int.toNat_natCast,yd hsg]at hw9;obtain⟨B9,k9⟩:=Bw.mk' b9 B4.sm f4 z4 o4 gr9 fr9;refine⟨_,rfl,_,rfl,j,rfl,.inl ⟨l,xs,rfl,aQ.of (B9.sm _ _ k2),fun c hc=>?_⟩⟩;rw[E8];have Wi:=aq.upd (o:=.lst (xs.take j)) hc;have k10:=ae (H:=H9) (a:=c) (o:=.lst (xs.take j));generalize upd H9 c (.lst (xs.take j))=Ve at Wi k10;tm_up;refine⟨by show 5<=sizeLine;decide,fun pd hpd=>?_⟩;have UP:=aq.upd (o:=.tup [V.str "put",V.str "",V.str "",V.int 0,V.ref pp]) hpd;have k11:=ae (H:=Ve) (a:=pd) (o:=.tup [V.str "put",V.str "",V.str "",V.int 0,V.ref pp]);generalize upd Ve pd (.tup [V.str "put",V.str "",V.str "",V.int 0,V.ref pp])=H11 at UP k11;have B11:=(B9.same Wi).same UP;refine⟨_,rfl,c,_,xs.take j,ss.take j,⟨.put,"","",0,(s9.1.str,s9.2),0,0,false⟩,j,rfl,UP _ _ k10,jV.same B11.sm (zX j g2),by omega,⟨pd,_,pp,rfl,k11,rfl,rfl,B11.sm _ _ hpp⟩,.inl rfl,(fun _=>gd),by omega,(fun z=>absurd rfl z),fun p ch Ws Wt c1 c2 hp=>?_⟩;have ec:=c1 rfl;rw[kS rfl rfl]at ec;rw[ec,if_neg (show ¬(Wy.put=Wy.cut) by decide),show aT (ss.take j) .put (s9.1.str,s9.2) j=ss.take (j+1) by unfold aT;show(ss.take j).take j++[kR (s9.1.str,s9.2)]++(ss.take j).drop j=_;rw[kS rfl rfl];exact yd hsg]at hp;refine⟨w9,p,_,_,rfl,Wt _ _ (UP _ _ (Wi _ _ hw9)),hp,⟨_,rfl,mx ⟨_,_,_,rfl,B11.same Wt,by rw[length_append];show ps.length+1=_;omega,hj⟩⟩⟩
  ·rintro σ H3 ⟨v3,v4,ps,rfl,B3,pl3,jl⟩;rw[xl,take_length]at B3;refine hN _ _ ?_;clear hN N jl;refine d9 fun N hN=>?_;refine⟨big (by show 3<=1000;omega),fun m0 hm0=>?_⟩;have S1:=aq.upd (o:=.lst [V.str "put",V.str "cut",V.str "swap"]) hm0;have k1:=ae (H:=H3) (a:=m0) (o:=.lst [V.str "put",V.str "cut",V.str "swap"]);generalize upd H3 m0 (.lst [V.str "put",V.str "cut",V.str "swap"])=H4 at S1 k1;have B4:=B3.same S1;tm_up;refine⟨a,ns,0,rfl,(B4.sm.seq (s2.seq hS)),hl,?_⟩;tm_up;refine⟨big (by show 0<=1000;omega),fun e0 WY=>?_⟩;have S2:=aq.upd (o:=.lst []) WY;have Ys:=ae (H:=H4) (a:=e0) (o:=.lst []);have k1':=S2 _ _ k1;generalize upd H4 e0 (.lst [])=H5 at S2 Ys k1';have B5:=B4.same S2;refine⟨l,e0,xs,rfl,rfl,aQ.of (B5.sm _ _ k2),aQ.of Ys,?_⟩;refine .inl (.inr ⟨_,rfl,?_⟩);obtain⟨m3,UQ,QF⟩:=RK (dZ ns 0) (k:=3) (by decide);obtain⟨wy,k,QA,hne,hk,hix⟩:∃(wy:Wy)(k:Nat),(wy=.put\/wy=.cut\/wy=.swap)/\(wy≠.put->0<ss.length)/\(dZ ns 0 % 3 * (if(!xs.isEmpty)=true then 1 else 0))=(k:Int)/\[V.str "put",V.str "cut",V.str "swap"][k]? = some (.str wy.str):=by
    rw[UQ];cases xs with
    |nil=>exact⟨.put,0,.inl rfl,fun z=>absurd rfl z,by show(m3:Int) * 0=0;omega,rfl⟩
    |cons y ys =>
     have h0:0<ss.length:=by rw[<-xl];exact Nat.succ_pos _
     have e:(m3:Int) * (if(!(y::ys).isEmpty)=true then 1 else 0)=m3:=by show(m3:Int) * 1=m3;omega
     match m3,QF with
     |0,_=>exact⟨.put,0,.inl rfl,fun _=>h0,e,rfl⟩
     |1,_=>exact⟨.cut,1,.inr (.inl rfl),fun _=>h0,e,rfl⟩
     |2,_=>exact⟨.swap,2,.inr (.inr rfl),fun _=>h0,e,rfl⟩
     |n+3,z=>exact absurd z (by omega)
   refine .inl ⟨_,_,rfl,rfl,.inl ⟨by rw[UQ];omega,by rw[UQ];omega⟩,?_⟩;refine S7 (aQ.of k1') (n:=k) hk hix ?_;refine hN _ _ ?_;clear hN N Ys WY hm0 k1 k1' S1 S2 hix hk UQ QF B4;refine d9 fun N hN=>?_;tm_up;refine⟨a,ns,2,rfl,(B5.sm.seq (s2.seq hS)),hl,?_⟩;refine⟨_,rfl,.inl ⟨l,_,rfl,.inl (aQ.of (B5.sm _ _ k2)),?_⟩⟩;tm_up;refine .inl (.inr ⟨_,rfl,?_⟩);rw[show decide (V.str wy.str=V.str (Str.ofString "put"))=decide (wy=.put) from Ff wy .put];obtain⟨sz,hsz,hsz0,hsz1,hsz2⟩:∃ sz:Nat,((xs.length:Int)+(if decide (wy=.put)=true then 1 else 0))=(sz:Int)/\0<sz/\sz<=ss.length+1/\(wy≠.put->sz=ss.length):=by
    by_cases z:wy=.put
    ·exact⟨xs.length+1,by rw[decide_eq_true z];rfl,Nat.succ_pos _,by omega,fun y=>absurd z y⟩
    ·exact⟨xs.length,by rw[decide_eq_false z];show(xs.length:Int)+0=_;omega,by rw[xl];exact hne z,by omega,fun _=>xl⟩
   refine .inl ⟨_,_,rfl,rfl,?_⟩;refine⟨_,_,rfl,rfl,(by rw[hsz];omega),?_⟩;rw[hsz];obtain⟨i,hi,hi'⟩:=RK (dZ ns 2) (k:=(sz:Int)) (by omega);rw[hi];have hi1:i<=ss.length:=by omega
   have hi2:wy≠.put->i<ss.length:=fun z=>by have:=hsz2 z;omega
   refine hN _ _ ?_;clear hN N hi hi' hsz hsz0 hsz1 hsz2;refine d9 fun N hN=>?_;tm_up;refine⟨a,ns,3,rfl,(B5.sm.seq (s2.seq hS)),hl,?_⟩;refine hN _ _ ?_;clear hN N;refine d9 fun N hN=>?_;tm_up;refine⟨by show 3<=sizeLine;decide,fun m1 hm1=>?_⟩;have S1:=aq.upd (o:=.lst [V.int (dZ ns 3 / 3),V.int (20+dZ ns 3 / 3 % 4),V.int (dZ ns 3)]) hm1;have k1:=ae (H:=H5) (a:=m1) (o:=.lst [V.int (dZ ns 3 / 3),V.int (20+dZ ns 3 / 3 % 4),V.int (dZ ns 3)]);generalize upd H5 m1 (.lst [V.int (dZ ns 3 / 3),V.int (20+dZ ns 3 / 3 % 4),V.int (dZ ns 3)])=H6 at S1 k1;tm_up;obtain⟨m3,UQ,QF⟩:=RK (dZ ns 3) (k:=3) (by decide);obtain⟨z0,hz0⟩:∃ z0:Int,[V.int (dZ ns 3 / 3),V.int (20+dZ ns 3 / 3 % 4),V.int (dZ ns 3)][m3]? = some (.int z0):=by
    match m3,QF with
    |0,_=>exact⟨_,rfl⟩
    |1,_=>exact⟨_,rfl⟩
    |2,_=>exact⟨_,rfl⟩
    |n+3,z=>exact absurd z (by omega)
   refine S7 (aQ.of k1) (n:=m3) UQ hz0 ?_;refine⟨z0,rfl,fun pg sg gsg Zj=>?_⟩;have S2:=aq.upd (o:=.tup [.str sg.1.str,.int sg.2]) Zj;have k7:=ae (H:=H6) (a:=pg) (o:=.tup [.str sg.1.str,.int sg.2]);generalize upd H6 pg (.tup [.str sg.1.str,.int sg.2])=H7 at S2 k7;refine⟨by show 5<=sizeLine;decide,fun pd hpd=>?_⟩;have S3:=aq.upd (o:=.tup [V.str wy.str,V.str "",V.str "",V.int 0,V.ref pg]) hpd;have k8:=ae (H:=H7) (a:=pd) (o:=.tup [V.str wy.str,V.str "",V.str "",V.int 0,V.ref pg]);have Zk:=S3 _ _ k7;have B8:=B5.same ((S1.trans S2).trans S3)
   suffices hN':∀(H8:Hp),H8 pd=some (.tup [V.str wy.str,V.str "",V.str "",V.int 0,V.ref pg])->H8 pg=some (.tup [.str sg.1.str,.int sg.2])->Bw (cs t) H2 H8 x [] [(("ann":Str),.pl ss)] ps []->N [some (.ref a),some (.ref l),some (.ref x),some (.int (i:Int)),v4,some (.str wy.str),some (.int (dZ ns 3)),some (.ref pd),none,none,none,none,none] H8 from hN' _ k8 Zk B8
   clear k8 k7 Zk B8 S1 S2 S3 k1 hpd Zj hz0 UQ QF hm1 B5;intro H8 k8 k7 B8;refine hN _ _ ?_;clear hN N;have gk:=MO gsg;refine d9 fun N hN=>?_;obtain⟨Yt,L8,D8,U8,Wu⟩:=B8.hx;obtain⟨F8,b8,f8,z8,o8⟩:=B8.ex;refine⟨_,rfl,x,Yt,_,rfl,Wu,zY _ _ _,?_⟩;refine⟨x,F8,_,ps,[],"ann",rfl,b8,?_⟩;rw[j4];intro kb H9 Zl S9 hkb;have B9:=B8.mix S9;have Yu:mix H2 H8 H9 kb=some (.lst ((Fc [(("ann":Str),.pl ss)] "ann").map V.int)):=R4 Zl hkb;have W0:mix H2 H8 H9 pd=some (.tup [V.str wy.str,V.str "",V.str "",V.int 0,V.ref pg]):=M4 S9 (S9 _ _ k8) (fun _ z=>nomatch z);have W2:mix H2 H8 H9 pg=some (.tup [.str sg.1.str,.int sg.2]):=M4 S9 (S9 _ _ k7) (fun _ z=>nomatch z);have l0:mix H2 H8 H9 l=some (.lst xs):=M3 B8.sm _ _ k2;have g0:jV (mix H2 H8 H9) xs ss:=jV.same (M3 B8.sm) g2;generalize mix H2 H8 H9=H0 at B9 Yu W0 W2 l0 g0;rw[BP (j4 _)]at Yu;refine hN _ _ ?_;clear hN N b8 f8 z8 o8 Wu B8 k8 k7 Zl hkb S9 g2 k2;refine d9 fun N hN=>?_;obtain⟨Yv,L9,D9,U9,W3⟩:=B9.hx;obtain⟨F9,b9,f9,z9,o9⟩:=B9.ex;refine⟨fun σ H'=>∃(wd:Addr)(qs:List Vw)(ch:List Sg),σ=[some (.ref a),some (.ref l),some (.ref x),some (.int (i:Int)),v4,some (.str wy.str),some (.int (dZ ns 3)),some (.ref pd),some (.ref kb),some (.ref wd),none,none,none]/\Bw (cs t) H0 H' x [] [(("ann":Str),.pl (aT ss wy (sg.1.str,sg.2) i))] qs []/\H' wd=some (.tup (Kp (aT ss wy (sg.1.str,sg.2) i) i (if wy=.cut then i else i+1) ch))/\(wy=.put->ch=[sg])/\(∀ s,ss[i]? = some s->(wy=.cut->ch=[s])/\(wy=.swap->ch=[s,sg])),?_,?_⟩
   ·tm_up;rcases QA with rfl|rfl|rfl
    ·refine cg (fun _=>?_) (fun z=>absurd (by decide) z);refine⟨_,rfl,x,Yv,_,rfl,W3,BK _ _ _,_,rfl,_,rfl,qJ (i:=4) (B9.sm _ _ W0) rfl ?_⟩;refine⟨x,F9,_,ps,[],"ann",(i:Int),pg,(sg.1.str,sg.2),rfl,b9,B9.sm _ _ W2,by omega,?_⟩;rw[j4];refine⟨(fun z=>absurd ⟨by omega,by omega⟩ z),(fun _ z=>by rw[gk]at z;cases z),(fun _ _ z=>by omega),fun _ _ _ s9 w9 F10 Ve e1 e2 hw9 gr fr b10=>?_⟩;have es:s9=sg:=Prod.ext (str_inj.mp e1) e2;subst es;rw[Int.toNat_natCast,Bp]at b10;rw[Int.toNat_natCast]at hw9;obtain⟨B10,k10⟩:=Bw.mk' b10 B9.sm f9 z9 o9 gr fr;have el:aT ss .put (s9.1.str,s9.2) i=ss.take i++[s9]++ss.drop i:=by
      show ss.take i++[kR (s9.1.str,s9.2)]++ss.drop i=_;rw[kS rfl rfl]
     rw[el];exact⟨w9,_,[s9],rfl,B10,hw9,fun _=>rfl,fun s hs=>⟨(fun z=>nomatch z),(fun z=>nomatch z)⟩⟩
    ·have hi3:=hi2 (by decide);refine cg (fun z=>absurd z (by decide)) (fun _=>?_);refine⟨_,rfl,.inl ⟨rfl,_,rfl,?_⟩⟩;rw[show decide (V.str Wy.cut.str=V.str (Str.ofString "cut"))=true from decide_eq_true rfl];refine qm ?_;refine⟨_,rfl,x,Yv,_,rfl,W3,Kl _ _ _,_,rfl,?_⟩;refine⟨x,F9,_,ps,[],"ann",(i:Int),rfl,b9,by omega,?_⟩;rw[j4];refine⟨(fun z=>absurd ⟨by omega,by omega⟩ z),fun _ s9 w9 F10 Ve e1 hw9 gr fr b10=>?_⟩;rw[Int.toNat_natCast,Bp]at b10;rw[Int.toNat_natCast]at hw9 e1;obtain⟨B10,k10⟩:=Bw.mk' b10 B9.sm f9 z9 o9 gr fr;exact⟨w9,_,[s9],rfl,B10,hw9,(fun z=>nomatch z),fun s hs=>⟨(fun _=>by rw[e1]at hs;cases hs;rfl),(fun z=>nomatch z)⟩⟩
    ·have hi3:=hi2 (by decide);refine cg (fun z=>absurd z (by decide)) (fun _=>?_);refine⟨_,rfl,.inl ⟨rfl,_,rfl,?_⟩⟩;rw[show decide (V.str Wy.swap.str=V.str (Str.ofString "cut"))=false by lk];refine mx ?_;refine⟨_,rfl,x,Yv,_,rfl,W3,Ip _ _ _,_,rfl,_,rfl,qJ (i:=4) (B9.sm _ _ W0) rfl ?_⟩;refine⟨x,F9,_,ps,[],"ann",(i:Int),pg,(sg.1.str,sg.2),rfl,b9,B9.sm _ _ W2,by omega,?_⟩;rw[j4];refine⟨(fun z=>absurd ⟨by omega,by omega⟩ z),(fun _ z=>by rw[gk]at z;cases z),fun _ _ s9 s0 w9 F10 Ve e1 e2 e3 hw9 gr fr b10=>?_⟩;have es:s9=sg:=Prod.ext (str_inj.mp e1) e2;subst es;rw[Int.toNat_natCast,Bp]at b10;rw[Int.toNat_natCast]at hw9 e3;obtain⟨B10,k10⟩:=Bw.mk' b10 B9.sm f9 z9 o9 gr fr;have el:aT ss .swap (s9.1.str,s9.2) i=ss.take i++[s9]++ss.drop (i+1):=by
      show ss.take i++[kR (s9.1.str,s9.2)]++ss.drop (i+1)=_;rw[kS rfl rfl]
     rw[el];exact⟨w9,_,[s0,s9],rfl,B10,hw9,(fun z=>nomatch z),fun s hs=>⟨(fun z=>nomatch z),fun _=>by rw[e3]at hs;cases hs;rfl⟩⟩
   rintro _ Ve ⟨wd,qs,ch,rfl,B10,WO,hc1,hc2⟩;refine hN _ _ ?_;clear hN N b9 f9 z9 o9 W3 B9;refine d9 fun N hN=>?_;refine⟨_,rfl,_,rfl,_,rfl,l,_,xs,ss,⟨wy,"","",0,(sg.1.str,sg.2),0,0,false⟩,i,rfl,B10.sm _ _ l0,jV.same B10.sm g0,by omega,⟨pd,_,pg,rfl,B10.sm _ _ W0,rfl,rfl,B10.sm _ _ W2⟩,QA,(fun _=>gk),hi1,hi2,fun p Yw H11 UP c1 c2 hp=>?_⟩;have ech:Yw=ch:=by
    rcases QA with z|z|z
    ·rw[hc1 z,c1 z,kS rfl rfl]
    ·obtain⟨s,hs⟩:∃ s,ss[i]? = some s:=⟨_,getElem?_eq_getElem (hi2 (by rw[z];decide))⟩;rw[(hc2 s hs).1 z,(c2 s hs).1 z]
    ·obtain⟨s,hs⟩:∃ s,ss[i]? = some s:=⟨_,getElem?_eq_getElem (hi2 (by rw[z];decide))⟩;rw[(hc2 s hs).2 z,(c2 s hs).2 z,kS rfl rfl]
   subst ech;refine hN _ _ ?_;clear hN N;have B11:=B10.same UP;refine d9 fun N hN=>?_;refine⟨_,rfl,_,rfl,wd,p,_,_,rfl,UP _ _ WO,hp,⟨_,rfl,mx ?_⟩⟩;refine hN _ _ ?_;clear hN N;refine d9 fun N hN=>?_;obtain⟨Yt,L8,D8,U8,Wu⟩:=B11.hx;obtain⟨F8,b8,f8,z8,o8⟩:=B11.ex;refine⟨_,rfl,x,Yt,_,rfl,Wu,zY _ _ _,?_⟩;refine⟨x,F8,_,qs,[],"ann",rfl,b8,?_⟩;rw[j4];intro ka Ws nka Wt hka;rw[BP (j4 _)]at hka;have UR:=B11.sm.trans Wt;have Yx:=Wt _ _ hp;have R8:=UR _ _ Yu;refine hN _ _ ?_;clear hN N b8 f8 z8 o8 Wu B11 B10 hp;refine d9 fun N hN=>?_;tm_up;refine .inl (.inr ⟨_,rfl,?_⟩);rw[show decide (V.str wy.str=V.str (Str.ofString "put"))=decide (wy=.put) from Ff wy .put];refine⟨_,rfl,.inl ⟨rfl,?_⟩⟩;refine .inl (.inr ⟨_,rfl,?_⟩);rw[show decide (V.str wy.str=V.str (Str.ofString "cut"))=decide (wy=.cut) from Ff wy .cut];refine⟨_,_,rfl,rfl,?_⟩;have ll:((aT ss wy (sg.1.str,sg.2) i).length:Int)=(ss.length:Int)+((if decide (wy=.put)=true then 1 else 0)-(if decide (wy=.cut)=true then 1 else 0)):=by
    rcases QA with rfl|rfl|rfl
    ·show((ss.take i++[_]++ss.drop i).length:Int)=_+(1-0);simp;omega
    ·have:=hi2 (by decide);show((ss.take i++[]++ss.drop (i+1)).length:Int)=_+(0-1);simp;omega
    ·have:=hi2 (by decide);show((ss.take i++[_]++ss.drop (i+1)).length:Int)=_+(0-0);simp;omega
   generalize hmo:((if decide (wy=.put)=true then(1:Int) else 0)-(if decide (wy=.cut)=true then 1 else 0))=mo at ll;refine hN _ _ ?_;clear hN N;refine d9 fun N hN=>?_;refine⟨fun b H'=>b=false/\Ws=H',?_,?_⟩
   ·refine⟨_,rfl,_,_,_,_,rfl,qv.lst hka,rfl,_,rfl,mx ?_⟩;refine⟨_,rfl,.inl ⟨ka,_,rfl,.inl (aQ.of hka),?_⟩⟩;refine⟨_,rfl,.inl ⟨l,_,rfl,.inl (aQ.of (UR _ _ l0)),?_⟩⟩;refine⟨_,rfl,.inl ⟨_,_,rfl,rfl,?_⟩⟩;refine .inl ⟨rfl,_,rfl,?_⟩;rw[length_map,lj,length_map,ll,xl,show decide (V.int ((ss.length:Int)+mo)=V.int ((ss.length:Int)+mo))=true from decide_eq_true rfl];refine mx ?_;refine⟨_,rfl,.inl ⟨kb,_,rfl,.inl (aQ.of R8),?_⟩⟩;refine⟨_,rfl,.inl ⟨l,_,rfl,.inl (aQ.of (UR _ _ l0)),?_⟩⟩;tm_up;rw[length_map,lj,length_map,xl];exact⟨by rw[decide_eq_true rfl];rfl,rfl⟩
   rintro _ _ ⟨rfl,rfl⟩;refine mx ?_;refine hN _ _ ?_;clear hN N;obtain⟨eL,hv,ev,eR⟩:=R7 (sg:=sg) QA hi1 hi2 hc1 hc2;rw[show To wy=mo from hmo]at ev;have N9:Ws p=some (.tup [.int (cu (bL (aT ss wy (sg.1.str,sg.2) i)) i 0:Nat),.int (jW (bL (aT ss wy (sg.1.str,sg.2) i)) (if wy=.cut then i else i+1) (Yw.any fun s=>s.1.meas):Nat)]):=Yx;generalize cu (bL (aT ss wy (sg.1.str,sg.2) i)) i 0=lo at eL N9;generalize jW (bL (aT ss wy (sg.1.str,sg.2) i)) (if wy=.cut then i else i+1) (Yw.any fun s=>s.1.meas)=hh at eR ev N9;generalize (bJ 3 (bL (aT ss wy (sg.1.str,sg.2) i))).1=RA at hka eL eR;generalize (bJ 3 (bL ss)).1=RB at R8 eL eR;refine⟨fun v H'=>v=.bl true,?_,?_⟩
   ·refine⟨_,rfl,_,rfl,qJ (i:=0) N9 rfl ⟨_,rfl,.inl ⟨ka,_,rfl,aQ.of hka,fun d1 hd1=>?_⟩⟩⟩;rw[E8,<-map_take];have D1:=aq.upd (o:=.lst ((RA.take lo).map V.int)) hd1;have e1:=ae (H:=Ws) (a:=d1) (o:=.lst ((RA.take lo).map V.int));generalize upd Ws d1 (.lst ((RA.take lo).map V.int))=Vc at D1 e1;refine⟨_,rfl,_,rfl,qJ (i:=0) (D1 _ _ N9) rfl ⟨_,rfl,.inl ⟨kb,_,rfl,aQ.of (D1 _ _ R8),fun d2 hd2=>?_⟩⟩⟩;rw[E8,<-map_take,<-eL];have D2:=aq.upd (o:=.lst ((RA.take lo).map V.int)) hd2;have e2:=ae (H:=Vc) (a:=d2) (o:=.lst ((RA.take lo).map V.int));generalize upd Vc d2 (.lst ((RA.take lo).map V.int))=Wg at D2 e2;refine .inr ⟨d1,d2,rfl,rfl,QD rfl (aQ.of (D2 _ _ e1)) (aQ.of e2),?_⟩;have D12:=D1.trans D2;refine⟨_,rfl,qm ?_⟩;refine⟨_,rfl,_,rfl,qJ (i:=1) (D12 _ _ N9) rfl ⟨_,rfl,.inl ⟨ka,_,rfl,aQ.of (D12 _ _ hka),fun d3 IL=>?_⟩⟩⟩;rw[wq,<-List.map_drop];have D3:=aq.upd (o:=.lst ((RA.drop hh).map V.int)) IL;have e3:=ae (H:=Wg) (a:=d3) (o:=.lst ((RA.drop hh).map V.int));generalize upd Wg d3 (.lst ((RA.drop hh).map V.int))=WV at D3 e3;refine⟨_,rfl,_,rfl,qJ (i:=1) (D3 _ _ (D12 _ _ N9)) rfl ?_⟩;refine⟨_,rfl,_,_,rfl,rfl,?_⟩;rw[ev];refine⟨_,rfl,.inl ⟨kb,_,rfl,aQ.of (D3 _ _ (D12 _ _ R8)),fun d4 hd4=>?_⟩⟩;rw[wq,<-List.map_drop,<-eR];refine .inr ⟨d3,d4,rfl,rfl,QD rfl (aQ.of (aq.upd hd4 _ _ e3)) (aQ.of ae),rfl⟩
   ·rintro _ Vc rfl;exact q _
theorem M5 {us:List Value}(h:us.length=1):∃ a0,us=[a0]:=match us,h with|[a0],_=>⟨a0,rfl⟩
theorem qh {p:List Value->Prop}(h:∀ a0,p [a0])(us:List Value)(e:us.length=1):p us:=by obtain⟨_,rfl⟩:=M5 e;exact h _
theorem Tp {us:List Value}(h:us.length=2):∃ a0 a1,us=[a0,a1]:=match us,h with|[a0,a1],_=>⟨a0,a1,rfl⟩
theorem ie {p:List Value->Prop}(h:∀ a0 a1,p [a0,a1])(us:List Value)(e:us.length=2):p us:=by obtain⟨_,_,rfl⟩:=Tp e;exact h _ _
theorem QG {us:List Value}(h:(us++[]).length=2):∃ a0 a1,us=[a0,a1]:=Tp (by rw[append_nil]at h;exact h)
theorem Wv {us:List Value}(h:us.length=3):∃ a0 a1 a2,us=[a0,a1,a2]:=match us,h with|[a0,a1,a2],_=>⟨a0,a1,a2,rfl⟩
theorem CL {p:List Value->Prop}(h:∀ a0 a1 a2,p [a0,a1,a2])(us:List Value)(e:us.length=3):p us:=by obtain⟨_,_,_,rfl⟩:=Wv e;exact h _ _ _
theorem Ww {us:List Value}(h:us.length=4):∃ a0 a1 a2 a3,us=[a0,a1,a2,a3]:=match us,h with|[a0,a1,a2,a3],_=>⟨a0,a1,a2,a3,rfl⟩
theorem FF {p:List Value->Prop}(h:∀ a0 a1 a2 a3,p [a0,a1,a2,a3])(us:List Value)(e:us.length=4):p us:=by obtain⟨_,_,_,_,rfl⟩:=Ww e;exact h _ _ _ _
theorem Wx {us:List Value}(h:us.length=5):∃ a0 a1 a2 a3 a4,us=[a0,a1,a2,a3,a4]:=match us,h with|[a0,a1,a2,a3,a4],_=>⟨a0,a1,a2,a3,a4,rfl⟩
theorem Wz {p:List Value->Prop}(h:∀ a0 a1 a2 a3 a4,p [a0,a1,a2,a3,a4])(us:List Value)(e:us.length=5):p us:=by obtain⟨_,_,_,_,_,rfl⟩:=Wx e;exact h _ _ _ _ _
set_option maxHeartbeats 0 in
theorem all_mk {l:OpenLaw}{w:World}{K:Frag}{h:Heap}{mg:Str->Option Value}{fa cf aV aG bS i9 dt bp gN cj bT cN bD bE fh aZ du cZ gq mF jc dE a5 oW tV Bl cE b6 bN bO ef je lO sq lQ dw d5 gu fi jf fk lR a6 tX bP jg gw lS bc fm jh lT fq d6 Ce cO dF cF bU b7 c0 ck cm bf:Addr}(X:K.In h)(G:h.Ns mainGlobals mg)(hfa:mg "law"=some (.ref fa)){yf yg K4 K5 Ep Er ug uh K6 K7 AK AL yh yi CM CN wA wB wC wD Gz GA rf rg Es Et AM AN Ja Jb GB K8 K9 CO CP pA pB QH QI R9 Sa QJ yj yk wF wG ui uj uk um Eu Ew La Lb Oa Ob Lc Oc Od GC GD GF GG Jc Jd GH GI Ld Le GJ GK Oe Of pC pE Sb Sd uo uq Lf Lg Je Jf Og Oh sE sF Jg Jh Lh Li Oi Oj Ji Jj GL GN US UT CQ CS ym yn wH AO:Option Addr}{yo Lj Ex ur Lk AQ yp CT wI wJ GO rh Ey AR Jk GP Ll CU pF QK Se QL yq wK uv uw Ez Lm Ol Ln Om GQ GR Jl GS Lo GU Oo pG Sf uy Lp Jm Oq sG Jn Lq Ot Jo GW UU CW CY yr yt wL AS:Array (Option Value)}{yu yv yw yx ot yy Lr Ls Lu Lv CZ Lw EA EB EC ED sZ EF uz uA uB uC l5 uD Lx Ly Lz LC C0 LF AU AV AW AX qi AY yz yA yB yC ou yD C1 C2 C3 C4 rj C5 wN wO wQ wR mQ wU wV wW wX wY mR wZ GX GY GZ G0 w4 G1 rk rl rm rp j5 rq EG EH EI EJ tf EK AZ A0 A1 A2 qj A3 Jp Jq Jr Js Ar Jt G2 LG LH LI LJ C6 LK C7 C8 C9 Dc rA Df pH pI pJ pK ig pL QM QN QO QP Ju QR Si Sj Sk Sl M6 Sm QS yE yF yG yH ow yI w5 w6 xa xc mS xf uE uF uG uH l6 uI uJ uK uL uM l7 uN EL EM EN EO tj ER LL LM LN LO Dg LP Ou Ov Ow Ox FG Oy LQ Oz OA OB OC FH OD G3 G4 G5 G6 xg G7 G8 G9 Ha Hb xh Hc Jv Jw Jx Jy As Jz Hd He Hf Hg xi Hh LR LS LV LW Dh LX Hi Hj Hk Hl xj Hm OE OF OG OH FI OI pM pN pO pP ij pQ So Sq Sr Ss M7 Su uO uP uQ uR l8 uS LY LZ L0 L1 Di L3 JA JB JC JD Au JE OJ OK OL OM FJ ON sH sI sJ sL kO sM JF JG JH JI Av JJ L5 L6 L7 Ma Dj Mb OO OP OQ OR FK OS JK JL JM JN Aw JO Hn Ho Hq Hr xk Hs UW UX UY UZ QT U0:Value}{gW qQ lP Dk Dl Dm Dn Dp Dq yJ yK yL yM yN xm xn xo xp A4 A5 A6 A7 A8 g4 yO yP yQ yR yS yT yU yV yW yX yY yZ y8 y9 za zb zc zd ze zf zg zh uT uU uV uW kU e7 gb g6 sr g7 jO kW:Tok}{Ht QU Mc ES ET A9 Ba zi Dr Ds Dt zj:Nat}(Du:nsIn K mainGlobals "Voice"=some (some (.ref cf)))(Hu:nsIn K mainGlobals "Deed"=some (some (.ref aV)))(Hv:nsIn K mainGlobals "Book"=some (some (.ref aG)))(ke:findIn K (.ref aG) "__init__"=some (some (.ref bS)))(kf:K.lookup bS=some ⟨yu,yf,.func (fnOf "__init__" "Book.__init__" (av dg) (au dg) (ah dg) .none yv yw yx yg ot yy),yo⟩)(kg:codeIn K ot "Book.__init__" = true)(kh:keepIn K (.ref bS)=true)(jn:isFn K (.ref bS)=true)(zk:nsIn K mainGlobals "is_name"=some (some (.ref i9)))(zm:K.lookup i9=some ⟨Lr,K4,.func (fnOf "is_name" "is_name" (av lp) (au lp) (ah lp) .none Ls Lu Lv K5 CZ Lw),Lj⟩)(zo:codeIn K CZ "is_name"=true)(zp:keepIn K (.ref i9)=true)(pR:findIn K (.ref aG) "names"=some (some (.ref dt)))(pS:K.lookup dt=some ⟨EA,Ep,.func (fnOf "names" "Book.names" (av fD) (au fD) (ah fD) .none EB EC ED Er sZ EF),Ex⟩)(pT:codeIn K sZ "Book.names" = true)(kZ:keepIn K (.ref dt)=true)(nt:isFn K (.ref dt)=true)(ik:findIn K (.ref aG) "refuse_new"=some (some (.ref bp)))(ip:K.lookup bp=some ⟨uz,ug,.func (fnOf "refuse_new" "Book.refuse_new" (av cw) (au cw) (ah cw) .none uA uB uC uh l5 uD),ur⟩)(iq:codeIn K l5 "Book.refuse_new" = true)(fc:keepIn K (.ref bp)=true)(gB:isFn K (.ref bp)=true)(zq:findIn K (.ref aV) "do"=some (some (.ref gN)))(zr:K.lookup gN=some ⟨Lx,K6,.func (fnOf "do" "Deed.do" (av lq) (au lq) (ah lq) .none Ly Lz LC K7 C0 LF),Lk⟩)(zt:codeIn K C0 "Deed.do" = true)(sy:keepIn K (.ref gN)=true)(uX:isFn K (.ref gN)=true)(l9:findIn K (.ref aG) "perform"=some (some (.ref cj)))(ma:K.lookup cj=some ⟨AU,AK,.func (fnOf "perform" "Book.perform" (av dQ) (au dQ) (ah dQ) .none AV AW AX AL qi AY),AQ⟩)(md:codeIn K qi "Book.perform" = true)(ir:keepIn K (.ref cj)=true)(ki:isFn K (.ref cj)=true)(kj:findIn K (.ref aV) "__init__"=some (some (.ref bT)))(km:K.lookup bT=some ⟨yz,yh,.func (fnOf "__init__" "Deed.__init__" (av dh) (au dh) (ah dh) .none yA yB yC yi ou yD),yp⟩)(kn:codeIn K ou "Deed.__init__" = true)(ko:keepIn K (.ref bT)=true)(jo:isFn K (.ref bT)=true)(nu:findIn K (.ref aG) "put_in"=some (some (.ref cN)))(nC:K.lookup cN=some ⟨C1,CM,.func (fnOf "put_in" "Book.put_in" (av eE) (au eE) (ah eE) .none C2 C3 C4 CN rj C5),CT⟩)(nE:codeIn K rj "Book.put_in" = true)(jS:keepIn K (.ref cN)=true)(me:isFn K (.ref cN)=true)(jq:findIn K (.ref cf) "__init__"=some (some (.ref bD)))(jr:K.lookup bD=some ⟨wN,wA,.func (fnOf "__init__" "Voice.__init__" (av cQ) (au cQ) (ah cQ) .none wO wQ wR wB mQ wU),wI⟩)(js:codeIn K mQ "Voice.__init__" = true)(jt:keepIn K (.ref bD)=true)(iu:isFn K (.ref bD)=true)(ju:findIn K (.ref aG) "add_voice"=some (some (.ref bE)))(jv:K.lookup bE=some ⟨wV,wC,.func (fnOf "add_voice" "Book.add_voice" (av cR) (au cR) (ah cR) .none wW wX wY wD mR wZ),wJ⟩)(jw:codeIn K mR "Book.add_voice" = true)(fM:keepIn K (.ref bE)=true)(iw:isFn K (.ref bE)=true)(rB:nsIn K mainGlobals "_law_cell_at"=some (some (.ref fh)))(rC:K.lookup fh=some ⟨GX,Gz,.func (fnOf "_law_cell_at" "_law_cell_at" (av gH) (au gH) (ah gH) .none GY GZ G0 GA w4 G1),GO⟩)(rD:codeIn K w4 "_law_cell_at"=true)(rE:keepIn K (.ref fh)=true)(fT:findIn K (.ref aG) "voice_called"=some (some (.ref aZ)))(fU:K.lookup aZ=some ⟨rk,rf,.func (fnOf "voice_called" "Book.voice_called" (av bQ) (au bQ) (ah bQ) .none rl rm rp rg j5 rq),rh⟩)(fV:codeIn K j5 "Book.voice_called" = true)(dO:keepIn K (.ref aZ)=true)(fA:isFn K (.ref aZ)=true)(pV:findIn K (.ref aG) "canon"=some (some (.ref du)))(pW:K.lookup du=some ⟨EG,Es,.func (fnOf "canon" "Book.canon" (av fE) (au fE) (ah fE) .none EH EI EJ Et tf EK),Ey⟩)(pX:codeIn K tf "Book.canon" = true)(lg:keepIn K (.ref du)=true)(nF:isFn K (.ref du)=true)(mf:nsIn K mainGlobals "sets_measure"=some (some (.ref cZ)))(mh:K.lookup cZ=some ⟨AZ,AM,.func (fnOf "sets_measure" "sets_measure" (av dR) (au dR) (ah dR) .none A0 A1 A2 AN qj A3),AR⟩)(mi:codeIn K qj "sets_measure"=true)(mj:keepIn K (.ref cZ)=true)(uY:nsIn K mainGlobals "measures"=some (some (.ref gq)))(uZ:K.lookup gq=some ⟨Jp,Ja,.func (fnOf "measures" "measures" (av i4) (au i4) (ah i4) (.ref mF) Jq Jr Js Jb Ar Jt),Jk⟩)(va:codeIn K Ar "measures"=true)(vb:keepIn K (.ref gq)=true)(mT:K.lookup mF=some ⟨G2,GB,.seq #[.int 3 gW] Ht,GP⟩)(zu:nsIn K mainGlobals "kind_at"=some (some (.ref jc)))(zw:K.lookup jc=some ⟨LG,K8,.func (fnOf "kind_at" "kind_at" (av lr) (au lr) (ah lr) .none LH LI LJ K9 C6 LK),Ll⟩)(zx:codeIn K C6 "kind_at"=true)(zy:keepIn K (.ref jc)=true)(nG:nsIn K mainGlobals "plain_worth"=some (some (.ref dE)))(nH:K.lookup dE=some ⟨C7,CO,.func (fnOf "plain_worth" "plain_worth" (av eF) (au eF) (ah eF) .none C8 C9 Dc CP rA Df),CU⟩)(nI:codeIn K rA "plain_worth"=true)(nJ:keepIn K (.ref dE)=true)(eQ:nsIn K mainGlobals "worths_without_runs"=some (some (.ref a5)))(eU:K.lookup a5=some ⟨pH,pA,.func (fnOf "worths_without_runs" "worths_without_runs" (av br) (au br) (ah br) .none pI pJ pK pB ig pL),pF⟩)(eV:codeIn K ig "worths_without_runs"=true)(eW:keepIn K (.ref a5)=true)(Hw:nsIn K mainGlobals "small"=some (some (.ref oW)))(Hx:K.lookup oW=some ⟨QM,QH,.func (fnOf "small" "small" (av sj) (au sj) (ah sj) .none QN QO QP QI Ju QR),QK⟩)(Hy:codeIn K Ju "small"=true)(we:keepIn K (.ref oW)=true)(Md:nsIn K mainGlobals "runs"=some (some (.ref tV)))(Me:K.lookup tV=some ⟨Si,R9,.func (fnOf "runs" "runs" (av xI) (au xI) (ah xI) (.ref Bl) Sj Sk Sl Sa M6 Sm),Se⟩)(Mf:codeIn K M6 "runs"=true)(Mg:keepIn K (.ref tV)=true)(Br:K.lookup Bl=some ⟨QS,QJ,.seq #[.int 3 qQ] QU,QL⟩)(kq:nsIn K mainGlobals "has_left_note"=some (some (.ref cE)))(kr:K.lookup cE=some ⟨yE,yj,.func (fnOf "has_left_note" "has_left_note" (av di) (au di) (ah di) .none yF yG yH yk ow yI),yq⟩)(ku:codeIn K ow "has_left_note"=true)(kv:keepIn K (.ref cE)=true)(jx:nsIn K mainGlobals "has_right_note"=some (some (.ref b6)))(jy:K.lookup b6=some ⟨w5,wF,.func (fnOf "has_right_note" "has_right_note" (av cS) (au cS) (ah cS) .none w6 xa xc wG mS xf),wK⟩)(jz:codeIn K mS "has_right_note"=true)(jA:keepIn K (.ref b6)=true)(iy:nsIn K mainGlobals "settle_one_over"=some (some (.ref bN)))(iA:K.lookup bN=some ⟨uE,ui,.func (fnOf "settle_one_over" "settle_one_over" (av cy) (au cy) (ah cy) .none uF uG uH uj l6 uI),uv⟩)(iB:codeIn K l6 "settle_one_over"=true)(iC:keepIn K (.ref bN)=true)(iD:nsIn K mainGlobals "settle_two_over"=some (some (.ref bO)))(iE:K.lookup bO=some ⟨uJ,uk,.func (fnOf "settle_two_over" "settle_two_over" (av cz) (au cz) (ah cz) .none uK uL uM um l7 uN),uw⟩)(iF:codeIn K l7 "settle_two_over"=true)(iG:keepIn K (.ref bO)=true)(pY:nsIn K mainGlobals "settle_run"=some (some (.ref ef)))(pZ:K.lookup ef=some ⟨EL,Eu,.func (fnOf "settle_run" "settle_run" (av fF) (au fF) (ah fF) .none EM EN EO Ew tj ER),Ez⟩)(p3:codeIn K tj "settle_run"=true)(p4:keepIn K (.ref ef)=true)(zA:nsIn K mainGlobals "reading"=some (some (.ref je)))(zB:K.lookup je=some ⟨LL,La,.func (fnOf "reading" "reading" (av lu) (au lu) (ah lu) .none LM LN LO Lb Dg LP),Lm⟩)(zC:codeIn K Dg "reading"=true)(zD:keepIn K (.ref je)=true)(Dv:nsIn K mainGlobals "worths"=some (some (.ref lO)))(Dw:K.lookup lO=some ⟨Ou,Oa,.func (fnOf "worths" "worths" (av nY) (au nY) (ah nY) (.ref sq) Ov Ow Ox Ob FG Oy),Ol⟩)(Dx:codeIn K FG "worths"=true)(Dy:keepIn K (.ref lO)=true)(sA:K.lookup sq=some ⟨LQ,Lc,.seq #[.int 3 lP] Mc,Ln⟩)(Dz:nsIn K mainGlobals "turned"=some (some (.ref lQ)))(DA:K.lookup lQ=some ⟨Oz,Oc,.func (fnOf "turned" "turned" (av nZ) (au nZ) (ah nZ) .none OA OB OC Od FH OD),Om⟩)(DB:codeIn K FH "turned"=true)(DC:keepIn K (.ref lQ)=true)(rF:findIn K (.ref aG) "line"=some (some (.ref dw)))(rG:K.lookup dw=some ⟨G3,GC,.func (fnOf "line" "Book.line" (av gI) (au gI) (ah gI) .none G4 G5 G6 GD xg G7),GQ⟩)(rH:codeIn K xg "Book.line" = true)(mU:keepIn K (.ref dw)=true)(p5:isFn K (.ref dw)=true)(rJ:findIn K (.ref aG) "kept"=some (some (.ref d5)))(rK:K.lookup d5=some ⟨G8,GF,.func (fnOf "kept" "Book.kept" (av gJ) (au gJ) (ah gJ) .none G9 Ha Hb GG xh Hc),GR⟩)(rL:codeIn K xh "Book.kept" = true)(mV:keepIn K (.ref d5)=true)(p6:isFn K (.ref d5)=true)(vc:nsIn K mainGlobals "_law_window"=some (some (.ref gu)))(vd:K.lookup gu=some ⟨Jv,Jc,.func (fnOf "_law_window" "_law_window" (av i5) (au i5) (ah i5) .none Jw Jx Jy Jd As Jz),Jl⟩)(ve:codeIn K As "_law_window"=true)(vf:keepIn K (.ref gu)=true)(rM:nsIn K mainGlobals "_law_sign_by"=some (some (.ref fi)))(rN:K.lookup fi=some ⟨Hd,GH,.func (fnOf "_law_sign_by" "_law_sign_by" (av gK) (au gK) (ah gK) .none He Hf Hg GI xi Hh),GS⟩)(rO:codeIn K xi "_law_sign_by"=true)(rP:keepIn K (.ref fi)=true)(zE:nsIn K mainGlobals "_law_mixed"=some (some (.ref jf)))(zF:K.lookup jf=some ⟨LR,Ld,.func (fnOf "_law_mixed" "_law_mixed" (av lx) (au lx) (ah lx) .none LS LV LW Le Dh LX),Lo⟩)(zG:codeIn K Dh "_law_mixed"=true)(zH:keepIn K (.ref jf)=true)(rQ:nsIn K mainGlobals "_law_numbers"=some (some (.ref fk)))(rR:K.lookup fk=some ⟨Hi,GJ,.func (fnOf "_law_numbers" "_law_numbers" (av gL) (au gL) (ah gL) .none Hj Hk Hl GK xj Hm),GU⟩)(rS:codeIn K xj "_law_numbers"=true)(rT:keepIn K (.ref fk)=true)(DD:nsIn K mainGlobals "_law_line"=some (some (.ref lR)))(DE:K.lookup lR=some ⟨OE,Oe,.func (fnOf "_law_line" "_law_line" (av n0) (au n0) (ah n0) .none OF OG OH Of FI OI),Oo⟩)(DF:codeIn K FI "_law_line"=true)(DG:keepIn K (.ref lR)=true)(eX:nsIn K mainGlobals "refuse_other_places"=some (some (.ref a6)))(eY:K.lookup a6=some ⟨pM,pC,.func (fnOf "refuse_other_places" "refuse_other_places" (av bu) (au bu) (ah bu) .none pN pO pP pE ij pQ),pG⟩)(eZ:codeIn K ij "refuse_other_places"=true)(e5:keepIn K (.ref a6)=true)(Mh:nsIn K mainGlobals "good"=some (some (.ref tX)))(Mi:K.lookup tX=some ⟨So,Sb,.func (fnOf "good" "good" (av xJ) (au xJ) (ah xJ) .none Sq Sr Ss Sd M7 Su),Sf⟩)(Mj:codeIn K M7 "good"=true)(Ml:keepIn K (.ref tX)=true)(iH:nsIn K mainGlobals "refuse_bad_sign"=some (some (.ref bP)))(iI:K.lookup bP=some ⟨uO,uo,.func (fnOf "refuse_bad_sign" "refuse_bad_sign" (av cA) (au cA) (ah cA) .none uP uQ uR uq l8 uS),uy⟩)(iJ:codeIn K l8 "refuse_bad_sign"=true)(iK:keepIn K (.ref bP)=true)(zI:nsIn K mainGlobals "low_end"=some (some (.ref jg)))(zJ:K.lookup jg=some ⟨LY,Lf,.func (fnOf "low_end" "low_end" (av ly) (au ly) (ah ly) .none LZ L0 L1 Lg Di L3),Lp⟩)(zK:codeIn K Di "low_end"=true)(zL:keepIn K (.ref jg)=true)(vg:nsIn K mainGlobals "high_end"=some (some (.ref gw)))(vh:K.lookup gw=some ⟨JA,Je,.func (fnOf "high_end" "high_end" (av i6) (au i6) (ah i6) .none JB JC JD Jf Au JE),Jm⟩)(vi:codeIn K Au "high_end"=true)(vj:keepIn K (.ref gw)=true)(DH:nsIn K mainGlobals "window"=some (some (.ref lS)))(DI:K.lookup lS=some ⟨OJ,Og,.func (fnOf "window" "window" (av n5) (au n5) (ah n5) .none OK OL OM Oh FJ ON),Oq⟩)(DJ:codeIn K FJ "window"=true)(DK:keepIn K (.ref lS)=true)(gC:findIn K (.ref aG) "plain_voice"=some (some (.ref bc)))(gD:K.lookup bc=some ⟨sH,sE,.func (fnOf "plain_voice" "Book.plain_voice" (av b3) (au b3) (ah b3) .none sI sJ sL sF kO sM),sG⟩)(gE:codeIn K kO "Book.plain_voice" = true)(eo:keepIn K (.ref bc)=true)(fW:isFn K (.ref bc)=true)(vk:findIn K (.ref aG) "put"=some (some (.ref fm)))(vm:K.lookup fm=some ⟨JF,Jg,.func (fnOf "put" "Book.put" (av i7) (au i7) (ah i7) .none JG JH JI Jh Av JJ),Jn⟩)(vn:codeIn K Av "Book.put" = true)(p7:keepIn K (.ref fm)=true)(rV:isFn K (.ref fm)=true)(zM:nsIn K mainGlobals "_law_whole"=some (some (.ref jh)))(zN:K.lookup jh=some ⟨L5,Lh,.func (fnOf "_law_whole" "_law_whole" (av lz) (au lz) (ah lz) .none L6 L7 Ma Li Dj Mb),Lq⟩)(zO:codeIn K Dj "_law_whole"=true)(zP:keepIn K (.ref jh)=true)(DM:nsIn K mainGlobals "_law_pair"=some (some (.ref lT)))(DN:K.lookup lT=some ⟨OO,Oi,.func (fnOf "_law_pair" "_law_pair" (av n6) (au n6) (ah n6) .none OP OQ OR Oj FK OS),Ot⟩)(DO:codeIn K FK "_law_pair"=true)(DP:keepIn K (.ref lT)=true)(vo:findIn K (.ref aG) "cut"=some (some (.ref fq)))(vq:K.lookup fq=some ⟨JK,Ji,.func (fnOf "cut" "Book.cut" (av i8) (au i8) (ah i8) .none JL JM JN Jj Aw JO),Jo⟩)(vt:codeIn K Aw "Book.cut" = true)(p8:keepIn K (.ref fq)=true)(rW:isFn K (.ref fq)=true)(rX:findIn K (.ref aG) "swap"=some (some (.ref d6)))(rY:K.lookup d6=some ⟨Hn,GL,.func (fnOf "swap" "Book.swap" (av gM) (au gM) (ah gM) .none Ho Hq Hr GN xk Hs),GW⟩)(rZ:codeIn K xk "Book.swap" = true)(mW:keepIn K (.ref d6)=true)(p9:isFn K (.ref d6)=true)(M8:nsIn K mainGlobals "law"=some (some (.ref Ce)))(QV:K.lookup Ce=some ⟨UW,US,.func (fnOf "law" "law" (av Fn) (au Fn) (ah Fn) .none UX UY UZ UT QT U0),UU⟩)(QW:codeIn K QT "law"=true)(QX:keepIn K (.ref Ce)=true)(QY:nsIn K mainGlobals "all"=some none)(QZ:nsIn K mainGlobals "any"=some none)(Mm:nsIn K mainGlobals "bool"=some none)(r6:nsIn K mainGlobals "enumerate"=some none)(Q0:nsIn K mainGlobals "int"=some none)(qa:nsIn K mainGlobals "isinstance"=some none)(Q1:nsIn K mainGlobals "len"=some none)(Mn:nsIn K mainGlobals "list"=some none)(Q2:nsIn K mainGlobals "min"=some none)(Hz:nsIn K mainGlobals "range"=some none)(HA:nsIn K mainGlobals "tuple"=some none)(Q3:nsIn K mainGlobals "zip"=some none)(mn:nsIn K mainGlobals "GREAT_KINDS"=some (some (.ref cO)))(mq:K.lookup cO=some ⟨.type "tuple",CQ,.seq #[.str (Str.ofString "G") Dk,.str (Str.ofString "D") Dl,.str (Str.ofString "R") Dm] ES,CW⟩)(mr:nsIn K mainGlobals "SMALL_KINDS"=some (some (.ref dF)))(mv:K.lookup dF=some ⟨.type "tuple",CS,.seq #[.str (Str.ofString "s") Dn,.str (Str.ofString "d") Dp,.str (Str.ofString "r") Dq] ET,CY⟩)(jB:nsIn K mainGlobals "PARTING_KINDS"=some (some (.ref cF)))(jC:K.lookup cF=some ⟨.type "tuple",ym,.seq #[.str (Str.ofString ".") yJ,.str (Str.ofString "3") yK,.str (Str.ofString "2") yL] A9,yr⟩)(jD:nsIn K mainGlobals "MEASURE_KINDS"=some (some (.ref bU)))(jE:K.lookup bU=some ⟨.type "tuple",yn,.seq #[.str (Str.ofString "3") yM,.str (Str.ofString "2") yN] Ba,yt⟩)(iL:nsIn K mainGlobals "SOUNDING_KINDS"=some (some (.ref b7)))(iN:K.lookup b7=some ⟨.type "tuple",wH,.seq #[.str (Str.ofString "G") xm,.str (Str.ofString "D") xn,.str (Str.ofString "s") xo,.str (Str.ofString "d") xp] zi,wL⟩)(kx:nsIn K mainGlobals "SILENT_KINDS"=some (some (.ref c0)))(ky:K.lookup c0=some ⟨.type "tuple",AO,.seq #[.str (Str.ofString "R") A4,.str (Str.ofString "r") A5,.str (Str.ofString ".") A6,.str (Str.ofString "3") A7,.str (Str.ofString "2") A8] Dr,AS⟩)(kz:nsIn K mainGlobals "HIGHEST_TONE"=some (some (.int 99 g4)))(kA:nsIn K mainGlobals "TURNED_KINDS"=some (some (.ref ck)))(kB:K.lookup ck=some ⟨.type "dict",none,.dict #[⟨PyData.keyHash w.params (Str.ofString "3"),.str (Str.ofString "3") yQ,.str (Str.ofString "2") yO⟩,⟨PyData.keyHash w.params (Str.ofString "2"),.str (Str.ofString "2") yR,.str (Str.ofString "3") yP⟩] Ds,#[]⟩)(kC:(ck==sysModules)=false)(kD:nsIn K mainGlobals "PLAIN_WORTHS"=some (some (.ref cm)))(kE:K.lookup cm=some ⟨.type "dict",none,.dict #[⟨PyData.keyHash w.params (Str.ofString "G"),.str (Str.ofString "G") y9,.int 3 yS⟩,⟨PyData.keyHash w.params (Str.ofString "D"),.str (Str.ofString "D") za,.int 2 yT⟩,⟨PyData.keyHash w.params (Str.ofString "R"),.str (Str.ofString "R") zb,.int 3 yU⟩,⟨PyData.keyHash w.params (Str.ofString "s"),.str (Str.ofString "s") zc,.int 1 yV⟩,⟨PyData.keyHash w.params (Str.ofString "d"),.str (Str.ofString "d") zd,.int 1 yW⟩,⟨PyData.keyHash w.params (Str.ofString "r"),.str (Str.ofString "r") ze,.int 1 yX⟩,⟨PyData.keyHash w.params (Str.ofString "."),.str (Str.ofString ".") zf,.int 0 yY⟩,⟨PyData.keyHash w.params (Str.ofString "3"),.str (Str.ofString "3") zg,.int 0 yZ⟩,⟨PyData.keyHash w.params (Str.ofString "2"),.str (Str.ofString "2") zh,.int 0 y8⟩] Dt,#[]⟩)(kF:(cm==sysModules)=false)(iO:nsIn K mainGlobals "TWOFOLD_WORTHS"=some (some (.ref bf)))(iP:K.lookup bf=some ⟨.type "dict",none,.dict #[⟨PyData.keyHash w.params (Str.ofString "G"),.str (Str.ofString "G") uV,.int 2 uT⟩,⟨PyData.keyHash w.params (Str.ofString "R"),.str (Str.ofString "R") uW,.int 2 uU⟩] zj,#[]⟩)(iQ:(bf==sysModules)=false)(nK:nsIn K mainGlobals "FULL_WORTH"=some (some (.int 3 kU)))(gF:nsIn K mainGlobals "SHORTENED_WORTH"=some (some (.int 2 e7)))(jF:nsIn K mainGlobals "DOUBLED_WORTH"=some (some (.int 2 gb)))(kH:nsIn K mainGlobals "DOTTED_WORTH"=some (some (.int 3 g6)))(vv:nsIn K mainGlobals "LETTERS"=some (some (.str (Str.ofString "abcdefghijklmnopqrstuvwxyz") sr)))(kI:nsIn K mainGlobals "LONGEST_NAME"=some (some (.int 8 g7)))(mw:nsIn K mainGlobals "MOST_VOICES"=some (some (.int 12 jO)))(nM:nsIn K mainGlobals "MOST_SIGNS"=some (some (.int 200 kW)))(zQ:makesIn K cf=true)(zR:keepIn K (.ref cf)=true)(DQ:plainGet K cf Str.empty=true)(DR:hasDictIn K cf=true)(DS:plainOver K cf=true)(DT:findIn K (.ref cf) "__setattr__"=some (some (.builtin "object.__setattr__")))(dG:findIn K (.ref cf) "name"=some none)(c8:findIn K (.ref cf) "terms"=some none)(bx:findIn K (.ref cf) "signs"=some none)(DV:makesIn K aV=true)(DW:keepIn K (.ref aV)=true)(HB:plainGet K aV Str.empty=true)(HC:hasDictIn K aV=true)(HD:plainOver K aV=true)(HE:findIn K (.ref aV) "__setattr__"=some (some (.builtin "object.__setattr__")))(dW:findIn K (.ref aV) "things"=some none)(gA:findIn K (.ref aV) "at"=some none)(dX:findIn K (.ref aV) "before"=some none)(eI:findIn K (.ref aV) "after"=some none)(DX:makesIn K aG=true)(DY:keepIn K (.ref aG)=true)(HF:plainGet K aG Str.empty=true)(HG:hasDictIn K aG=true)(HH:plainOver K aG=true)(HI:findIn K (.ref aG) "__setattr__"=some (some (.builtin "object.__setattr__")))(bA:findIn K (.ref aG) "voices"=some none)(fK:findIn K (.ref aG) "done"=some none)(dY:findIn K (.ref aG) "undone"=some none) :
  ∃ fd:FuncData,(∀(s:Shared)(v:Value),BindsTo s fd ⟨[v],[]⟩ [("_law_script",v)])/\∀ base:Heap,K.In base->base.Ns mainGlobals mg->bB l.prog w K mg base iS 8 fa fd ["_law_script"] (BJ K):=by
 have e:=hfa.symm.trans (mg_of X G M8);cases e;have gf:=aP (st:=dg) kf kg kh;have kc:=gf.binds (ps:=["self"]) fun _ _ _ _ _ _=>qh fun _=>rfl;have n8:=aP (st:=lp) zm zo zp;have xX:=n8.binds (ps:=["name"]) fun _ _ _ _ _ _=>qh fun _=>rfl;have kX:=aP (st:=fD) pS pT kZ;have oY:=kX.binds (ps:=["self"]) fun _ _ _ _ _ _=>qh fun _=>rfl;have e8:=aP (st:=cw) ip iq fc;have g8:=e8.binds (ps:=["self","name"]) fun _ _ _ _ _ _=>ie fun _ _=>rfl;have su:=aP (st:=lq) zr zt sy;have xY:=su.binds (ps:=["self"]) fun _ _ _ _ _ _=>qh fun _=>rfl;have g9:=aP (st:=dQ) ma md ir;have dS:=g9.binds (ps:=["self","deed"]) fun _ _ _ _ _ _=>ie fun _ _=>rfl;have gi:=aP (st:=dh) km kn ko;have dj:=gi.binds (ps:=["self","things","at","before","after"]) fun _ _ _ _ _ _=>Wz fun _ _ _ _ _=>rfl;have jP:=aP (st:=eE) nC nE jS;have nj:=jP.binds (ps:=["self","voice"]) fun _ _ _ _ _ _=>ie fun _ _=>rfl;have fG:=aP (st:=cQ) jr js jt;have ji:=fG.binds (ps:=["self","name","terms"]) fun _ _ _ _ _ _=>CL fun _ _ _=>rfl;have fH:=aP (st:=cR) jv jw fM;have jj:=fH.binds (ps:=["self","name"]) fun _ _ _ _ _ _=>ie fun _ _=>rfl;have cP:=aP (st:=gH) rC rD rE;have d7:=cP.binds (ps:=["_law_script","_law_k"]) fun _ _ _ _ _ _=>ie fun _ _=>rfl;have dN:=aP (st:=bQ) fU fV dO;have bR:=dN.binds (ps:=["self","name"]) fun _ _ _ _ _ _=>ie fun _ _=>rfl;have kY:=aP (st:=fE) pW pX lg;have hI:=kY.binds (ps:=["self","name"]) fun _ _ _ _ _ _=>ie fun _ _=>rfl;have dU:=aP (st:=dR) mh mi mj;have hV:=dU.binds (ps:=["sign"]) fun _ _ _ _ _ _=>qh fun _=>rfl;have gy:=FV (st:=i4) uZ va vb;have oZ:Binds K _ ["line","begin"] []:=gy.binds (ds:=[]) mT rfl fun _ _ _ _ _ _ us hl=>by obtain⟨_,_,rfl⟩:=QG hl;exact⟨_,rfl,rfl⟩
 have Af:Binds K _ ["line","begin"] [.int 3 gW]:=gy.binds mT rfl fun _ _ _ _ _ _ us hl=>by have hl:us.length=1:=(by simpa using hl);obtain⟨_,rfl⟩:=M5 hl;exact⟨_,rfl,rfl⟩
 have dm:=aP (st:=lr) zw zx zy;have eG:=dm.binds (ps:=["line","at"]) fun _ _ _ _ _ _=>ie fun _ _=>rfl;have fY:=aP (st:=eF) nH nI nJ;have nq:=fY.binds (ps:=["kind","measure"]) fun _ _ _ _ _ _=>ie fun _ _=>rfl;have bW:=aP (st:=br) eU eV eW;have eP:=bW.binds (ps:=["line","begin"]) fun _ _ _ _ _ _=>ie fun _ _=>rfl;have sv:=aP (st:=sj) Hx Hy we;have Bm:=sv.binds (ps:=["sign"]) fun _ _ _ _ _ _=>qh fun _=>rfl;have xZ:=FV (st:=xI) Me Mf Mg;have KJ:Binds K _ ["line","begin"] []:=xZ.binds (ds:=[]) Br rfl fun _ _ _ _ _ _ us hl=>by obtain⟨_,_,rfl⟩:=QG hl;exact⟨_,rfl,rfl⟩
 have MV:Binds K _ ["line","begin"] [.int 3 qQ]:=xZ.binds Br rfl fun _ _ _ _ _ _ us hl=>by have hl:us.length=1:=(by simpa using hl);obtain⟨_,rfl⟩:=M5 hl;exact⟨_,rfl,rfl⟩
 have dn:=aP (st:=di) kr ku kv;have gj:=dn.binds (ps:=["line","found","first"]) fun _ _ _ _ _ _=>CL fun _ _ _=>rfl;have cT:=aP (st:=cS) jy jz jA;have fJ:=cT.binds (ps:=["line","behind"]) fun _ _ _ _ _ _=>ie fun _ _=>rfl;have dz:=aP (st:=cy) iA iB iC;have hZ:=dz.binds (ps:=["line","found","first","behind"]) fun _ _ _ _ _ _=>FF fun _ _ _ _=>rfl;have dA:=aP (st:=cz) iE iF iG;have h7:=dA.binds (ps:=["line","found","first","behind"]) fun _ _ _ _ _ _=>FF fun _ _ _ _=>rfl;have h8:=aP (st:=fF) pZ p3 p4;have o5:=h8.binds (ps:=["line","found","first","behind"]) fun _ _ _ _ _ _=>FF fun _ _ _ _=>rfl;have oa:=aP (st:=lu) zB zC zD;have x3:=oa.binds (ps:=["line","begin"]) fun _ _ _ _ _ _=>ie fun _ _=>rfl;have lU:=FV (st:=nY) Dw Dx Dy;have vV:Binds K _ ["line","begin"] []:=lU.binds (ds:=[]) sA rfl fun _ _ _ _ _ _ us hl=>by obtain⟨_,_,rfl⟩:=QG hl;exact⟨_,rfl,rfl⟩
 have Fp:Binds K _ ["line","begin"] [.int 3 lP]:=lU.binds sA rfl fun _ _ _ _ _ _ us hl=>by have hl:us.length=1:=(by simpa using hl);obtain⟨_,rfl⟩:=M5 hl;exact⟨_,rfl,rfl⟩
 have og:=aP (st:=nZ) DA DB DC;have vW:=og.binds (ps:=["line"]) fun _ _ _ _ _ _=>qh fun _=>rfl;have j0:=aP (st:=gI) rG rH mU;have j1:=j0.binds (ps:=["self","name"]) fun _ _ _ _ _ _=>ie fun _ _=>rfl;have mI:=aP (st:=gJ) rK rL mV;have mJ:=mI.binds (ps:=["self","name"]) fun _ _ _ _ _ _=>ie fun _ _=>rfl;have jk:=aP (st:=i5) vd ve vf;have o7:=jk.binds (ps:=["_law_line_here","_law_deed","_law_at"]) fun _ _ _ _ _ _=>CL fun _ _ _=>rfl;have gO:=aP (st:=gK) rN rO rP;have mK:=gO.binds (ps:=["_law_number"]) fun _ _ _ _ _ _=>qh fun _=>rfl;have oh:=aP (st:=lx) zF zG zH;have x4:=oh.binds (ps:=["_law_seed","_law_k"]) fun _ _ _ _ _ _=>ie fun _ _=>rfl;have j2:=aP (st:=gL) rR rS rT;have qV:=j2.binds (ps:=["_law_script","_law_at","_law_many"]) fun _ _ _ _ _ _=>CL fun _ _ _=>rfl;have qW:=aP (st:=n0) DE DF DG;have Ci:=qW.binds (ps:=["_law_script","_law_at","_law_many"]) fun _ _ _ _ _ _=>CL fun _ _ _=>rfl;have a7:=aP (st:=bu) eY eZ e5;have bX:=a7.binds (ps:=["at","last"]) fun _ _ _ _ _ _=>ie fun _ _=>rfl;have Cj:=aP (st:=xJ) Mi Mj Ml;have KO:=Cj.binds (ps:=["sign"]) fun _ _ _ _ _ _=>qh fun _=>rfl;have cB:=aP (st:=cA) iI iJ iK;have e9:=cB.binds (ps:=["sign"]) fun _ _ _ _ _ _=>qh fun _=>rfl;have oi:=aP (st:=ly) zJ zK zL;have x5:=oi.binds (ps:=["line","at"]) fun _ _ _ _ _ _=>ie fun _ _=>rfl;have lW:=aP (st:=i6) vh vi vj;have t7:=lW.binds (ps:=["line","first","kinds"]) fun _ _ _ _ _ _=>CL fun _ _ _=>rfl;have lX:=aP (st:=n5) DI DJ DK;have qX:=lX.binds (ps:=["line","at","behind","changed"]) fun _ _ _ _ _ _=>FF fun _ _ _ _=>rfl;have ej:=aP (st:=b3) gD gE eo;have c7:=ej.binds (ps:=["self","name"]) fun _ _ _ _ _ _=>ie fun _ _=>rfl;have pb:=aP (st:=i7) vm vn p7;have ph:=pb.binds (ps:=["self","name","at","sign"]) fun _ _ _ _ _ _=>FF fun _ _ _ _=>rfl;have lB:=aP (st:=lz) zN zO zP;have sx:=lB.binds (ps:=["_law_found"]) fun _ _ _ _ _ _=>qh fun _=>rfl;have oj:=aP (st:=n6) DN DO DP;have vZ:=oj.binds (ps:=["_law_found","_law_due"]) fun _ _ _ _ _ _=>ie fun _ _=>rfl;have pj:=aP (st:=i8) vq vt p8;have ua:=pj.binds (ps:=["self","name","at"]) fun _ _ _ _ _ _=>CL fun _ _ _=>rfl;have mL:=aP (st:=gM) rY rZ mW;have qY:=mL.binds (ps:=["self","name","at","sign"]) fun _ _ _ _ _ _=>FF fun _ _ _ _=>rfl;have MW:=aP (st:=Fn) QV QW QX;have Ti:=MW.binds (ps:=["_law_script"]) fun _ _ _ _ _ _=>qh fun _=>rfl;have T:Txt K w mg ⟨_,_,_,_,_,_,_,_,_,_,_,_,_,_,_,_,_,_,_,_,_,_,_,_,_,_,_,_,_,_,_,gW,_,_,_,_,_,_,_,_,_,_,_,qQ,_,_,_,_,_,_,_,_,_,_,_,_,_,_,_,lP,_,_,_,_,_,_,_,_,_,_,_,_,_,_,_,_,_,_,_,_,_,_,_,_,_,_,_,_,_,_,_,_,_,_,_,_,_,_,_,_,_,_,cO,dF,cF,bU,b7,c0,g4,ck,cm,bf,kU,e7,gb,g6,sr,g7,jO,kW,cf,aV,aG⟩:=⟨gf,kc,n8,xX,mg_of X G zk,kX,oY,⟨pR,nt,kZ⟩,e8,g8,⟨ik,gB,fc⟩,su,xY,⟨zq,uX,sy⟩,g9,dS,⟨l9,ki,ir⟩,gi,dj,jP,nj,⟨nu,me,jS⟩,fG,ji,fH,jj,⟨ju,iw,fM⟩,cP,d7,mg_of X G rB,dN,bR,⟨fT,fA,dO⟩,kY,hI,⟨pV,nF,lg⟩,dU,hV,mg_of X G mf,gy,Af,oZ,mg_of X G uY,dm,eG,mg_of X G zu,fY,nq,mg_of X G nG,bW,eP,mg_of X G eQ,sv,Bm,mg_of X G Hw,xZ,MV,KJ,mg_of X G Md,dn,gj,mg_of X G kq,cT,fJ,mg_of X G jx,dz,hZ,mg_of X G iy,dA,h7,mg_of X G iD,h8,o5,mg_of X G pY,oa,x3,mg_of X G zA,lU,Fp,vV,mg_of X G Dv,og,vW,mg_of X G Dz,j0,j1,⟨rF,p5,mU⟩,mI,mJ,⟨rJ,p6,mV⟩,jk,o7,mg_of X G vc,gO,mK,mg_of X G rM,oh,x4,mg_of X G zE,j2,qV,mg_of X G rQ,qW,Ci,mg_of X G DD,a7,bX,mg_of X G eX,Cj,KO,mg_of X G Mh,cB,e9,mg_of X G iH,oi,x5,mg_of X G zI,lW,t7,mg_of X G vg,lX,qX,mg_of X G DH,ej,c7,⟨gC,fW,eo⟩,pb,ph,⟨vk,rV,p7⟩,lB,sx,mg_of X G zM,oj,vZ,mg_of X G DM,pj,ua,⟨vo,rW,p8⟩,mL,qY,⟨rX,p9,mW⟩,MW,Ti,mg_of X G M8,mg_none_of X G QY,mg_none_of X G QZ,mg_none_of X G Mm,mg_none_of X G r6,mg_none_of X G Q0,mg_none_of X G qa,mg_none_of X G Q1,mg_none_of X G Mn,mg_none_of X G Q2,mg_none_of X G Hz,mg_none_of X G HA,mg_none_of X G Q3,mg_of X G mn,(fun H=>.inr ⟨_,_,_,mq,rfl,rfl,(by show 3<=sizeLine;decide),(.cons ⟨_,rfl⟩ (.cons ⟨_,rfl⟩ (.cons ⟨_,rfl⟩ .nil)))⟩),mg_of X G mr,(fun H=>.inr ⟨_,_,_,mv,rfl,rfl,(by show 3<=sizeLine;decide),(.cons ⟨_,rfl⟩ (.cons ⟨_,rfl⟩ (.cons ⟨_,rfl⟩ .nil)))⟩),mg_of X G jB,(fun H=>.inr ⟨_,_,_,jC,rfl,rfl,(by show 3<=sizeLine;decide),(.cons ⟨_,rfl⟩ (.cons ⟨_,rfl⟩ (.cons ⟨_,rfl⟩ .nil)))⟩),mg_of X G jD,(fun H=>.inr ⟨_,_,_,jE,rfl,rfl,(by show 2<=sizeLine;decide),(.cons ⟨_,rfl⟩ (.cons ⟨_,rfl⟩ .nil))⟩),mg_of X G iL,(fun H=>.inr ⟨_,_,_,iN,rfl,rfl,(by show 4<=sizeLine;decide),(.cons ⟨_,rfl⟩ (.cons ⟨_,rfl⟩ (.cons ⟨_,rfl⟩ (.cons ⟨_,rfl⟩ .nil))))⟩),mg_of X G kx,(fun H=>.inr ⟨_,_,_,ky,rfl,rfl,(by show 5<=sizeLine;decide),(.cons ⟨_,rfl⟩ (.cons ⟨_,rfl⟩ (.cons ⟨_,rfl⟩ (.cons ⟨_,rfl⟩ (.cons ⟨_,rfl⟩ .nil)))))⟩),mg_of X G kz,mg_of X G kA,⟨kC,_,_,kB,(.cons ⟨_,rfl⟩ (.cons ⟨_,rfl⟩ .nil)),by lk⟩,mg_of X G kD,⟨kF,_,_,kE,(.cons ⟨_,rfl⟩ (.cons ⟨_,rfl⟩ (.cons ⟨_,rfl⟩ (.cons ⟨_,rfl⟩ (.cons ⟨_,rfl⟩ (.cons ⟨_,rfl⟩ (.cons ⟨_,rfl⟩ (.cons ⟨_,rfl⟩ (.cons ⟨_,rfl⟩ .nil))))))))),by lk⟩,mg_of X G iO,⟨iQ,_,_,iP,(.cons ⟨_,rfl⟩ (.cons ⟨_,rfl⟩ .nil)),by lk⟩,mg_of X G nK,mg_of X G gF,mg_of X G jF,mg_of X G kH,mg_of X G vv,mg_of X G kI,mg_of X G mw,mg_of X G nM,mg_of X G Du,⟨zQ,jq,iu,zR⟩,⟨DQ,DR,DS,DT⟩,dG,c8,bx,mg_of X G Hu,⟨DV,kj,jo,DW⟩,⟨HB,HC,HD,HE⟩,dW,gA,dX,eI,mg_of X G Hv,⟨DX,ke,jn,DY⟩,⟨HF,HG,HH,HI⟩,bA,fK,dY⟩;exact⟨_,fun s v=>.of_eq rfl,fun base _ _=>UO T⟩
theorem walk {l:OpenLaw}{q:Program}{loose:List Str}{XP:(Str->Option Value)->Heap->Prop}{YP:World->Heap->Prop}{d:DefRec}{K:Params->Frag}(hn:l.most=some 63)(hdf:d.params.defaults=[])
  (hY:∀(w:World)(h:Heap),YP w h->(K w.params).In h)
  (F:∀(w:World)(mg:Str->Option Value)(fa:Addr)(h:Heap),(K w.params).In h->h.Ns mainGlobals mg->mg d.name=some (.ref fa) ->
   ∃ fd:FuncData,(∀(s:Shared)(u:Value),BindsTo s fd ⟨[u],[]⟩ [("_law_script",u)])/\∀ base:Heap,(K w.params).In base->base.Ns mainGlobals mg->bB l.prog w (K w.params) mg base iS 8 fa fd ["_law_script"] (BJ (K w.params))) :
  WalkO q loose XP YP l.row.toRowW d [] (fun f vs=>PySem.call f vs) :=
 L2.Rq (n:=63) (k:=8) (x:="_law_script") (CX:=fun _=>iS) (sp:=fun w=>BJ (K w.params)) hn (by decide) hdf ⟨rfl,by decide,by decide⟩ hY F (fun _ H a ns hl hO hS=>NB hl hO hS) fun _ _ _ _ _ z=>z
end xA
namespace PySem.W.Fast
def tw12646107036955060045:=()
def tw10324561656770360479:=()
def tw4270195511509747143:=()
def tw8927897376927647378:=()
def tw1227364167434698520:=()
def tw16681610679390396554:=()
def tw9084963413492012893:=()
def tw13872280691156271406:=()
def tw3584161003964205391:=()
def tw5110169637387912672:=()
def tw15055004472534045963:=()
def tw8152360291829750599:=()
def tw14590064744721407336:=()
def tw16818157679620972640:=()
def tw8847204144381663030:=()
def tw4388433217606347238:=()
def tw4558806639542551405:=()
def tw5191241320642916669:=()
def tw16888549361045975040:=()
def tw16886665211070840891:=()
def tw6439921680568176996:=()
def tw11453018129692727403:=()
def tw15599748126446316958:=()
def tw16807937495858475529:=()
def tw5746114766164225880:=()
def tw17640380356231116061:=()
def tw2641018232523856157:=()
def tw4390830288289853985:=()
def tw11082041760766971937:=()
def tw15283110542150237543:=()
def tw15896710372251643858:=()
def tw1314097530173417879:=()
def tw6271920509593281279:=()
def tw12776488707191772894:=()
def tw10196650670704660888:=()
def tw3988915178804054898:=()
def tw6771446014481495845:=()
def tw14752753725865459524:=()
def tw8097069978654130129:=()
def tw1469972510021376183:=()
def tw764299768974245949:=()
def tw12528744365943260959:=()
def tw15364638095504572340:=()
def tw5263678495965659924:=()
def tw16846481821985963558:=()
def tw9368780955260250834:=()
def tw13570036291759522956:=()
def tw14215768277115219222:=()
def tw12283276586167162463:=()
def tw2095693938894798164:=()
def tw8357257597271465705:=()
def tw11071672960582896708:=()
def tw15255758313965772352:=()
def tw2905810985310094182:=()
def tw11976869819959527234:=()
def tw6021378751255813861:=()
def tw14193715741984981920:=()
def tw15798707018710178113:=()
def tw8204636163284049335:=()
def tw12377626733029943014:=()
def tw350914051757445956:=()
def tw7506500912640264070:=()
def tw10095587051545465980:=()
def tw2311679407230073025:=()
def tw14104202284005088416:=()
def tw10843428510522696178:=()
def tw6743748861511636589:=()
def tw16451369210234465979:=()
def tw8209952839590032986:=()
def tw17826893267605930371:=()
def tw10384837000074364052:=()
def tw1099700963022885301:=()
def tw3170617746539016116:=()
def tw1386540676088978414:=()
def tw14102143665572678151:=()
def tw9014195272892007373:=()
def tw4533758422722781835:=()
def tw16222380787641889525:=()
def tw12151517392339451975:=()
def tw5713217992971458070:=()
def tw16657199118644235103:=()
def tw10979704214859213666:=()
def tw8778786506608990962:=()
def tw13026526178535220094:=()
def tw3335536680680097144:=()
def tw13962771736238946118:=()
def tw3011646902606399524:=()
def tw2268512360465306998:=()
def tw9195394693625637039:=()
def tw151437887863087898:=()
def tw375707149956477340:=()
def tw11113112673037445883:=()
def tw6011088572577599611:=()
def tw926121211834178160:=()
def tw11066600710143271232:=()
def tw14972355265377690269:=()
def tw12020713462483119524:=()
def tw11263039308940787996:=()
def tw10665311605635135881:=()
def tw2429402824095081539:=()
def tw12489508797324678323:=()
def tw16246968870658293024:=()
def tw4224909201146338244:=()
def tw17726335395834052914:=()
def tw7470831471323365689:=()
def tw13318392986907090930:=()
def tw10751205636649489129:=()
def tw2755940197705347099:=()
def tw14016821552303250245:=()
def tw8372888937483543729:=()
def tw6915287452443465207:=()
def tw9219145681019275013:=()
def tw16750533799074782668:=()
def tw5738760395068129962:=()
def tw1524435690290654181:=()
def tw5875088905860872474:=()
def tw560597057598936070:=()
def tw514516516584589376:=()
def tw2747977746381421929:=()
def tw17275458256746515019:=()
def tw2091314423378264999:=()
def tw17018758977707584082:=()
def tw4000140073928950146:=()
def tw4515891317825979108:=()
def tw7984868775252943388:=()
def tw10624042893480584019:=()
def tw2032617210719490794:=()
def tw16342354607475682522:=()
def tw18196788031896574771:=()
def tw13931575205580808304:=()
def tw12659433143020641848:=()
def tw8270444621058916443:=()
def tw17362809739144753740:=()
def tw9072441891470986262:=()
def tw8224702329755126146:=()
def tw17450601974423205634:=()
def tw16314633384360740055:=()
def tw7450885360210368145:=()
def tw8454311393244033247:=()
def tw11368391021920112002:=()
def tw800115240352492875:=()
def tw17142289383285519719:=()
def tw483304433597642926:=()
def tw5757869334913434497:=()
def tw3014813060857800551:=()
def tw9821972281250160853:=()
def tw1944889105929896655:=()
def tw1535735495994336874:=()
def tw2621790311260261207:=()
def tw7775187981747199661:=()
def tw6192936022941125023:=()
def tw15987932331212756894:=()
def tw13240804353836132:=()
def tw10893530317206137730:=()
def tw18272655407223265587:=()
def tw4583456313248562839:=()
def tw5356219193178623087:=()
def tw11054700119822223227:=()
def tw13161956832500492850:=()
def tw10451797193361050479:=()
def tw1199806960541369351:=()
def tw8864885274326416986:=()
def tw8140258985943681432:=()
def tw3364209803472334635:=()
def tw5699743683021448171:=()
def tw17255675982659705337:=()
def tw4947609918484711688:=()
def tw11527691750427720059:=()
def tw10740412082543204592:=()
def tw17252967625382832269:=()
def tw5508926658343054768:=()
def tw5542155543736031401:=()
def tw18307208516270089185:=()
def tw14877185658252189792:=()
def tw2795237456052991098:=()
def tw12356603397676043065:=()
def tw6369267563137060338:=()
def tw4455973152022018095:=()
def tw6611041273558462169:=()
def tw783508384509724745:=()
def tw15515357052152563546:=()
def tw316981807285190821:=()
def tw4312153065761414555:=()
def tw14720718570090232705:=()
def tw5144796534959704118:=()
def tw311778178760672553:=()
def tw5348210578161247696:=()
def tw11665662309557237248:=()
def tw15207542744436633368:=()
def tw12909628283047286137:=()
def tw7470029396742092905:=()
def tw5990785405642383696:=()
def tw8003265009926840557:=()
def tw14378340043847104523:=()
def tw12137152844370654808:=()
def tw3307402116724130832:=()
def tw14792361647692237636:=()
def tw9615880100704831497:=()
def tw2984094776672503585:=()
def tw9605646116734930758:=()
def tw17189249100617817764:=()
def tw8699612836250695428:=()
def tw7130709632493055480:=()
def tw1739724267531399937:=()
def tw16776371376999991831:=()
def tw10061459002915125493:=()
def tw12531132237589905802:=()
def tw14233169936512340925:=()
def tw4636594229837276605:=()
def tw2491216002798617786:=()
def tw484433478939734786:=()
def tw13595042510032577310:=()
def tw2562976056454283250:=()
def tw11905454889800277895:=()
def tw3504954751329087420:=()
def tw17906718561191567770:=()
def tw8605757731345282831:=()
def tw234287206406440972:=()
def tw17539714310755827961:=()
def tw638415505854212789:=()
def tw8450198252861991116:=()
def tw6846361080073837159:=()
def tw2864110193075080735:=()
def tw15582446902409922614:=()
def tw12297139826463365214:=()
def tw4432272200227911766:=()
def tw11177792351944423925:=()
def tw14841006232433570347:=()
def tw2672977703798494143:=()
def tw2850362456853734745:=()
def tw8128835245756508729:=()
def tw18362939713857883763:=()
def tw10358995222150124671:=()
def tw7676734272156145116:=()
def tw9790192647043247289:=()
def tw11723098836020592993:=()
def tw16084048388269251058:=()
def tw13079617784678039682:=()
def tw4434274114012701750:=()
def tw5518630952046393606:=()
def tw15370525257313769348:=()
def tw3601389192014570669:=()
def tw12407089050000611589:=()
def tw6841745249387252478:=()
def tw5405426820992023612:=()
def tw2048580352505488634:=()
def tw375316380689748440:=()
def tw15235487157861751900:=()
def tw13106464482888923839:=()
def tw17579176340761620721:=()
def tw15077030832965057051:=()
def tw14809395428492022785:=()
def tw10797233981698630193:=()
def tw6333487586002127595:=()
def tw4321250867336801888:=()
def tw11429438002942758264:=()
def tw643373024205289287:=()
def tw5807065304494953639:=()
def tw12512016115782710999:=()
def tw12090543231625364341:=()
def tw1413623266444486309:=()
def tw12203451828034722202:=()
def tw11509235912061275565:=()
def tw15664913999549600212:=()
def tw8423774531396745390:=()
def tw11833936133019887358:=()
def tw4159332352427123578:=()
def tw895817464201502699:=()
def tw3279358629722969736:=()
def tw15794996728358714703:=()
def tw7239788251480119527:=()
def tw10149534278021533523:=()
def tw3091770944881196466:=()
def tw17476588318303694035:=()
def tw10323217079533049353:=()
def tw6901678223147810565:=()
def tw6989751027061744174:=()
def tw9387245909378357759:=()
def tw2961656443103082092:=()
def tw2029654221975039952:=()
def tw6692126697140863131:=()
def tw13983981900755749562:=()
def tw9795183902414591626:=()
def tw1576353583373179451:=()
def tw3427290633711011369:=()
def tw7712720248119729222:=()
def tw14832298647912672359:=()
def tw2997466304895769809:=()
def tw8748277737899604687:=()
def tw15537503200009280065:=()
def tw4073816568810284243:=()
def tw10226983882665019094:=()
def tw4598447731761233438:=()
def tw11468280331698599304:=()
def tw17953453846390103203:=()
def tw8325804690990494509:=()
def tw7697672412010968017:=()
def tw11355140875312759221:=()
def tw4741335485577655628:=()
def tw10859360174973200231:=()
def tw16351209033771308786:=()
def tw4498832718979558318:=()
def tw14741748812923446862:=()
def tw15363671757326933757:=()
def tw14086810494567482393:=()
def tw3444991732109068136:=()
def tw3712320840367779585:=()
def tw11512298752353300782:=()
def tw578502468260435546:=()
def tw10443898201363332808:=()
def tw8240887084304603497:=()
def tw11010089067277447126:=()
def tw7467198744891509234:=()
def tw10381811417872389126:=()
def tw380564016609801198:=()
def tw1194884218722920846:=()
def tw14871957887832340701:=()
def tw1846027533923662020:=()
def tw3759333612454959532:=()
def tw2326272450605440207:=()
def tw11470585707439827726:=()
def tw1790983188682031768:=()
def tw16275679606395934436:=()
def tw16995787810166273838:=()
def tw7032388657244837843:=()
def tw12570105769823484907:=()
def tw12813885561468468635:=()
def tw16728567532570038694:=()
def tw10157352123215008040:=()
def tw10831128408778868390:=()
def tw4839647031899130797:=()
def tw1729287631901300865:=()
def tw4208965106578215983:=()
def tw15550446319090857945:=()
def tw1963606038461471426:=()
def tw7148641316436754438:=()
def tw11219830793678858919:=()
def tw3532022882610592777:=()
def tw8337410625218906418:=()
def tw12292414844110128262:=()
def tw7982595006638923756:=()
def tw2866498904440686651:=()
def tw9407744146601078597:=()
def tw1288789837686520996:=()
def tw12089539354875191575:=()
def tw3293894026206782386:=()
def tw1771934216704262614:=()
def tw5668819466258615536:=()
def tw582731631091244023:=()
def tw5940715578447134986:=()
def tw16714561287685092262:=()
def tw17813812489398644845:=()
def tw106354055819024550:=()
def tw17791493052457898023:=()
def tw17363568604127322915:=()
def tw12582627725332117599:=()
def tw4741660601703527367:=()
def tw12150147409342019255:=()
def tw14689055187500830235:=()
def tw14425427841405511749:=()
def tw17096604677010244650:=()
def tw10274599986979834820:=()
def tw3809015806467961081:=()
def tw3080464313294308248:=()
def tw15631047537555695876:=()
def tw9740158402085756388:=()
def tw11925153253077290138:=()
def tw3271742722682501261:=()
def tw15661579388843711963:=()
def tw1352304719370740516:=()
def tw13368620504453818000:=()
def tw17170037286442633225:=()
def tw17619959540396152190:=()
def tw10332725408727948393:=()
def tw14113595388423099555:=()
def tw6749127844400488477:=()
def tw17663868712228215662:=()
def tw7633479989017928610:=()
def tw11280748756274716890:=()
def tw4794097527686917962:=()
def tw16660963699583688969:=()
def tw6771160817597562800:=()
def tw6657809399575668278:=()
end PySem.W.Fast
open PySem PySem.W PyProof.Rows
set_option maxRecDepth 100000 in
set_option maxHeartbeats 0 in
theorem PySem.Challenge.cw_noteworth_k32_whole_windows_holds : PySem.Challenge.rw_noteworth_k32_whole_windows.Holds := by
 w_on;o_law;k_head;(case hw=>w_witness2)
 k_fill
 refine xA.walk (l:=PySem.Challenge.rw_noteworth_k32_whole_windows) rfl rfl (fun w h Y=>PySem.W.kIn_of Y) ?F
 case F =>
  intro w mg fa h KX G hmg
  refine' xA.all_mk KX G hmg ?Du ?Hu ?Hv ?ke ?kf ?kg ?kh ?jn ?zk ?zm ?zo ?zp ?pR ?pS ?pT ?kZ ?nt ?ik ?ip ?iq ?fc ?gB ?zq ?zr ?zt ?sy ?uX ?l9 ?ma ?md ?ir ?ki ?kj ?km ?kn ?ko ?jo ?nu ?nC ?nE ?jS ?me ?jq ?jr ?js ?jt ?iu ?ju ?jv ?jw ?fM ?iw ?rB ?rC ?rD ?rE ?fT ?fU ?fV ?dO ?fA ?pV ?pW ?pX ?lg ?nF ?mf ?mh ?mi ?mj ?uY ?uZ ?va ?vb ?mT ?zu ?zw ?zx ?zy ?nG ?nH ?nI ?nJ ?eQ ?eU ?eV ?eW ?Hw ?Hx ?Hy ?we ?Md ?Me ?Mf ?Mg ?Br ?kq ?kr ?ku ?kv ?jx ?jy ?jz ?jA ?iy ?iA ?iB ?iC ?iD ?iE ?iF ?iG ?pY ?pZ ?p3 ?p4 ?zA ?zB ?zC ?zD ?Dv ?Dw ?Dx ?Dy ?sA ?Dz ?DA ?DB ?DC ?rF ?rG ?rH ?mU ?p5 ?rJ ?rK ?rL ?mV ?p6 ?vc ?vd ?ve ?vf ?rM ?rN ?rO ?rP ?zE ?zF ?zG ?zH ?rQ ?rR ?rS ?rT ?DD ?DE ?DF ?DG ?eX ?eY ?eZ ?e5 ?Mh ?Mi ?Mj ?Ml ?iH ?iI ?iJ ?iK ?zI ?zJ ?zK ?zL ?vg ?vh ?vi ?vj ?DH ?DI ?DJ ?DK ?gC ?gD ?gE ?eo ?fW ?vk ?vm ?vn ?p7 ?rV ?zM ?zN ?zO ?zP ?DM ?DN ?DO ?DP ?vo ?vq ?vt ?p8 ?rW ?rX ?rY ?rZ ?mW ?p9 ?M8 ?QV ?QW ?QX ?QY ?QZ ?Mm ?r6 ?Q0 ?qa ?Q1 ?Mn ?Q2 ?Hz ?HA ?Q3 ?mn ?mq ?mr ?mv ?jB ?jC ?jD ?jE ?iL ?iN ?kx ?ky ?kz ?kA ?kB ?kC ?kD ?kE ?kF ?iO ?iP ?iQ ?nK ?gF ?jF ?kH ?vv ?kI ?mw ?nM ?zQ ?zR ?DQ ?DR ?DS ?DT ?dG ?c8 ?bx ?DV ?DW ?HB ?HC ?HD ?HE ?dW ?gA ?dX ?eI ?DX ?DY ?HF ?HG ?HH ?HI ?bA ?fK ?dY
  (case Du|Hu|Hv|ke|kf|kg|kh|jn|zk|zm|zo|zp|pR|pS|pT|kZ|nt|ik|ip|iq|fc|gB|zq|zr|zt|sy|uX|l9|ma|md|ir|ki|kj|km|kn|ko|jo|nu|nC|nE|jS|me|jq|jr|js|jt|iu|ju|jv|jw|fM|iw|rB|rC|rD|rE|fT|fU|fV|dO|fA|pV|pW|pX|lg|nF|mf|mh|mi|mj|uY|uZ|va|vb|mT|zu|zw|zx|zy|nG|nH|nI|nJ|eQ|eU|eV|eW|Hw|Hx|Hy|we|Md|Me|Mf|Mg|Br|kq|kr|ku|kv|jx|jy|jz|jA|iy|iA|iB|iC|iD|iE|iF|iG|pY|pZ|p3|p4|zA|zB|zC|zD|Dv|Dw|Dx|Dy|sA|Dz|DA|DB|DC|rF|rG|rH|mU|p5|rJ|rK|rL|mV|p6|vc|vd|ve|vf|rM|rN|rO|rP|zE|zF|zG|zH|rQ|rR|rS|rT|DD|DE|DF|DG|eX|eY|eZ|e5|Mh|Mi|Mj|Ml|iH|iI|iJ|iK|zI|zJ|zK|zL|vg|vh|vi|vj|DH|DI|DJ|DK|gC|gD|gE|eo|fW|vk|vm|vn|p7|rV|zM|zN|zO|zP|DM|DN|DO|DP|vo|vq|vt|p8|rW|rX|rY|rZ|mW|p9|M8|QV|QW|QX|QY|QZ|Mm|r6|Q0|qa|Q1|Mn|Q2|Hz|HA|Q3|mn|mq|mr|mv|jB|jC|jD|jE|iL|iN|kx|ky|kz|kA|kB=>k_is)
  (case kC=>rfl)
  (case kD|kE=>k_is)
  (case kF=>rfl)
  (case iO|iP=>k_is)
  (case iQ=>rfl)
  (case nK|gF|jF|kH|vv|kI|mw|nM|zQ|zR|DQ|DR|DS|DT|dG|c8|bx|DV|DW|HB|HC|HD|HE|dW|gA|dX|eI|DX|DY|HF|HG|HH|HI|bA|fK|dY=>k_is)
