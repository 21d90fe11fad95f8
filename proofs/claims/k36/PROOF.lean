import PyProof.Rows.All
import Wide.All
import OpenK.AllK
import Wide.FinOn
import Lean
import PyProof.EqAt
import PyProof.EqKinds
import PyProof.TupleCall
import PySem.Challenge.RW_noteworth_k36_bounds_of_a_book
set_option Elab.async false
set_option linter.all false
set_option maxRecDepth 100000
open PySem.W (Frag OpenLaw WalkO callWith_K callWith_K0 codeIn emptyDict excIn exmOne exm_one findIn fnOf handedIn hasDictIn hideAll hideAll_get hideAll_none instObj isFn keepIn kia_one kitOne kitx_dict kitx_list lookIn makesIn methodCall_KW methodObj mg_none_of mg_of mroIn nsIn of_hideAll plainGet plainGet_of plainOver specialIn takerIn)
open List (length_map length_append length_take length_drop mem_append mem_singleton mem_cons_self mem_cons_of_mem mem_append_left mem_append_right mem_of_getElem? size_toArray take_length getElem?_map map_append map_cons length_cons take_succ getElem?_eq_getElem getElem?_append_right mem_map any_eq_true all_eq_true mem_range getElem?_drop append_nil nil_append getElem?_of_mem)
open PySem.F (entry_zip_next plainAttrs_list slot_dict_get slot_enumerate_next slot_list_pop slot_zip_next type_list_pop)
local macro_rules | `(tactic| lk) => `(tactic| decide +kernel)
local macro_rules | `(tactic| z_go) => `(tactic| first | (exact fun _ _ _ _ _ _ us hl => match us, hl with | [_], _ => rfl) | (exact fun _ _ _ _ _ _ us hl => match us, hl with | [_, _], _ => rfl) | (exact fun _ _ _ _ _ _ us hl => match us, hl with | [_, _, _], _ => rfl) | (exact fun _ _ _ _ _ _ us hl => match us, hl with | [_, _, _, _], _ => rfl) | (exact fun _ _ _ _ _ _ us hl => match us, hl with | [_, _, _, _, _], _ => rfl) | (exact fun _ _ _ _ _ _ us hl => match us, hl with | [_, _, _, _, _, _], _ => rfl))
namespace L2
open PySem PySem.Spec PyProof.Rows
abbrev Key:=Sum Int Str
def OS:Key->Value->Bool
 |.inl k,v=>Value.isInt k v
 |.inr x,v=>Value.isStrOf x v
def ajU (w:World):Key->Int
 |.inl k=>hashInt k
 |.inr x=>hashStr w x
theorem fL:∀{k:Key} {v:Value},OS k v=true->(∃ i t,k=Sum.inl i/\v=Value.int i t)\/(∃ x t,k=Sum.inr x/\v=Value.str x t)
 |.inl i,v,h=>by
  obtain⟨t,e⟩:=Value.isInt_shape (k:=i) (v:=v) h;exact .inl ⟨i,t,rfl,e⟩
 |.inr x,v,h=>by
  obtain⟨t,e⟩:=Value.isStrOf_shape (x:=x) (v:=v) h;exact .inr ⟨x,t,rfl,e⟩
theorem Zt (i:Int)(t:Tok):OS (.inl i) (.int i t)=true:=by simp[OS,Value.isInt]
theorem Zu (x:Str)(t:Tok):OS (.inr x) (.str x t)=true:=by simp[OS,Value.isStrOf]
theorem afN (a b:Int):decide ((Sum.inl a:Key)=Sum.inl b)=(a==b):=by
 by_cases e:a=b
 ·subst e;simp
 ·have h:¬(Sum.inl a:Key)=Sum.inl b:=fun q=>e (Sum.inl.inj q);rw[decide_eq_false h];exact(beq_eq_false_iff_ne.mpr e).symm
theorem afO (a b:Str):decide ((Sum.inr a:Key)=Sum.inr b)=decide (a=b):=by
 by_cases e:a=b
 ·subst e;simp
 ·have h:¬(Sum.inr a:Key)=Sum.inr b:=fun q=>e (Sum.inr.inj q);rw[decide_eq_false h,decide_eq_false e]
theorem afP (a:Int)(b:Str):decide ((Sum.inl a:Key)=Sum.inr b)=false:=decide_eq_false (fun q=>nomatch q)
theorem afQ (a:Str)(b:Int):decide ((Sum.inr a:Key)=Sum.inl b)=false:=decide_eq_false (fun q=>nomatch q)
def c0 (prog:Program)(w:World):PySem.KeyKind prog w Key where
 is:=OS
 hash:=ajU w
 inj:=fun v a b ha hb=>by
  rcases fL ha with ⟨i,t,rfl,rfl⟩|⟨x,t,rfl,rfl⟩
  ·rcases fL hb with ⟨j,u,rfl,e⟩|⟨y,u,rfl,e⟩
   ·injection e with e1 _;rw[e1]
   ·exact nomatch e
  ·rcases fL hb with ⟨j,u,rfl,e⟩|⟨y,u,rfl,e⟩
   ·exact nomatch e
   ·injection e with e1 _;rw[e1]
 byValue:=fun k v h=>by
  rcases fL h with ⟨i,t,rfl,rfl⟩|⟨x,t,rfl,rfl⟩ <;> rfl
 pyHash:=fun hv h=>by
  rcases fL hv with ⟨i,t,rfl,rfl⟩|⟨x,t,rfl,rfl⟩
  ·exact wpAny_pyHash_int h
  ·exact wpAny_pyHash_str h
 eqBool:=fun hu hv h=>by
  rcases fL hu with ⟨i,t,rfl,rfl⟩|⟨x,t,rfl,rfl⟩
  ·rcases fL hv with ⟨j,u,rfl,rfl⟩|⟨y,u,rfl,rfl⟩
   ·rw[afN]at h;exact wpAny_eqBool_int h
   ·rw[afP]at h;exact SeqAt.EqAt.int_str i t y u _ _ _ _ h
  ·rcases fL hv with ⟨j,u,rfl,rfl⟩|⟨y,u,rfl,rfl⟩
   ·rw[afQ]at h;exact SeqAt.EqAt.str_int x t j u _ _ _ _ h
   ·rw[afO]at h;exact wpAny_eqBool_str h
 «strs»:=fun k x t v h=>by
  rcases fL h with ⟨i,u,rfl,e⟩|⟨y,u,rfl,e⟩
  ·exact nomatch e
  ·injection e with e1 _
   subst e1;cases v <;> rfl
theorem Tn (prog:Program)(w:World)(i:Int)(t:Tok):(c0 prog w).is (.inl i) (.int i t)=true:=Zt i t
theorem lh (prog:Program)(w:World)(x:Str)(t:Tok):(c0 prog w).is (.inr x) (.str x t)=true:=Zu x t
end L2
namespace L2
open PySem PySem.Spec PyProof.Rows
inductive V where
 |non|bl (b:Bool)|int (i:Int)|str (x:Str)|byt (b:Array UInt8)|flt (b:UInt64)|ref (a:Addr)|ty (n:String)
 deriving DecidableEq
def RelV:V->Value->Prop
 |.non,u=>u=Value.none
 |.bl b,u=>u=Value.bool b
 |.int i,u=>∃ t,u=Value.int i t
 |.str x,u=>∃ t,u=Value.str x t
 |.byt b,u=>∃ t,u=Value.bytes b t
 |.flt b,u=>∃ t,u=Value.float b t
 |.ref a,u=>u=Value.ref a
 |.ty n,u=>u=Value.type n
abbrev Vals:List V->List Value->Prop:=Paired RelV
theorem Vals.length {xs:List V}{us:List Value}(r:Vals xs us):xs.length=us.length:=Paired.length r
theorem Vals.get:∀{xs:List V} {us:List Value} {i:Nat} {x:V},Vals xs us->xs[i]? = some x->∃ u,us[i]? = some u/\RelV x u
 |_,_,_,_,.nil,e=>by simp at e
 |_,_,0,_,.cons r _,e=>by simp at e;subst e;exact⟨_,rfl,r⟩
 |_,_,i+1,x,.cons _ t,e=>by
  obtain⟨u,h1,h2⟩:=Vals.get (i:=i) (x:=x) t (by simpa using e);exact⟨u,by simpa using h1,h2⟩
theorem Vals.set {x:V}{u:Value}(r:RelV x u):∀{xs:List V} {us:List Value} (i:Nat),Vals xs us->Vals (xs.set i x) (us.set i u)
 |_,_,_,.nil=>.nil
 |_,_,0,.cons _ t=>.cons r t
 |_,_,i+1,.cons q t=>.cons q (Vals.set r i t)
theorem Vals.append:∀{xs ys:List V} {us ws:List Value},Vals xs us->Vals ys ws->Vals (xs++ys) (us++ws)
 |_,_,_,_,.nil,s=>s
 |_,_,_,_,.cons r t,s=>.cons r (Vals.append t s)
theorem Vals.take:∀{xs:List V} {us:List Value} (n:Nat),Vals xs us->Vals (xs.take n) (us.take n)
 |_,_,0,_=>.nil
 |_,_,_+1,.nil=>.nil
 |_,_,n+1,.cons r t=>.cons r (Vals.take n t)
theorem Vals.drop:∀{xs:List V} {us:List Value} (n:Nat),Vals xs us->Vals (xs.drop n) (us.drop n)
 |_,_,0,r=>r
 |_,_,_+1,.nil=>.nil
 |_,_,n+1,.cons _ t=>Vals.drop n t
def rS:Option V->Option Value->Prop
 |some v,some u=>RelV v u
 |none,none=>True
 |_,_=>False
def KV {κ:Type}:List (κ×V)->List (κ×Value)->Prop:=Paired fun(p:κ×V)(q:κ×Value)=>p.1=q.1/\RelV p.2 q.2
def kV:Key->V
 |.inl i=>.int i
 |.inr x=>.str x
inductive HO where
 /-- a list -/
 |lst (xs:List V)
 /-- a tuple (never changes) -/
 |tup (xs:List V)
 /-- a dict whose keys are ints and texts;one whose keys are tuples of ints and texts (the empty one is both) -/
 |dK (kvs:List (Key×V))|dT (kvs:List (List Key×V))
 /-- a set of ints: its members,its size -/
 |set (S:Int->Bool) (n:Nat)
 /-- an instance of the class at C,its dict at dx,its attributes -/
 |ins (C dx:Addr) (fs:List (Str×V))
 /-- the dict of the instance at x -/
 |own (x:Addr)
 /-- the dict of an exception -/
 |xd (fs:List (Str×V))
 /-- a bound method,f of x -/
 |met (f x:Addr)
 /-- a range object lo,lo+1,.. below hi -/
 |rng (lo hi:Int)
 /-- a thing that is known to the object (the script;a dict while a loop walks it): read,never written while it is so -/
 |YB (o:Obj) (u:HO)
 /-- a code object's table -/
 |tbl (ps:Array Value)
 /-- any other thing,by what is true of its one object (a def of one's own: am3 a S n:=HO.ext fun h=>..) -/
 |ext (φ:Heap->Prop)
abbrev Hp:=Addr->Option HO
def upd (H:Hp)(a:Addr)(o:HO):Hp:=fun b=>if b=a then some o else H b
theorem ae {H:Hp}{a:Addr}{o:HO}:upd H a o a=some o:=by unfold upd;rw[if_pos rfl]
theorem ao {H:Hp}{a b:Addr}{o:HO}(h:b≠a):upd H a o b=H b:=by unfold upd;rw[if_neg h]
theorem cI {H:Hp}{a:Addr}{o u:HO}:upd (upd H a o) a u=upd H a u:=by
 funext b;unfold upd;split <;> rfl
theorem mZ {H:Hp}{a b:Addr}{o u:HO}(h:H a=some o)(h':H b=some u)(d:o≠u):a≠b:=by
 intro e;subst e;rw[h]at h';exact d (Option.some.inj h')
theorem aq {H:Hp}{a b:Addr}{o:HO}(h:H a=some o)(h':H b=none):a≠b:=by
 intro e;subst e;rw[h]at h';cases h'
section
variable (P:Program) (w:World)
def ia (H:Hp)(h:Heap)(a:Addr):HO->Prop
 |.lst xs=>xs.length<=sizeLine/\∃(its:List Value)(n:Nat),Vals xs its/\h.get? a=some { cls:=.type "list",data:=.seq its.toArray n }
 |.tup xs=>xs.length<=sizeLine/\∃ its:List Value,Vals xs its/\IsTup h a its.toArray
 |.dK kvs=>kvs.length<=sizeLine/\(a==sysModules)=false/\∃ vs,KV kvs vs/\h.DictOf (c0 P w) a vs
 |.dT kvs=>kvs.length<=sizeLine/\(a==sysModules)=false/\∃ xs:List (List Key×Addr×Value),
   Paired (fun(p:List Key×V)(q:List Key×Addr×Value)=>p.1=q.1/\H q.2.1=some (.tup (p.1.map kV))/\RelV p.2 q.2.2) kvs xs /\
   ∃ o es ep,h.get? a=some o/\o.ExactDict/\o.data=.dict es ep/\es.toList=xs.map (entryOfKey (tupleKind (c0 P w)))/\(xs.map (·.1)).Nodup
 |.set S n=>h.SetOf (intKind P w) a S n
 |.ins C dx fs=>H dx=some (.own a)/\fs.length<=1000/\dx≠a/\h.get? a=some (instObj C dx) /\
   ∃ mA,h.Ns1 dx mA/\(∀ f,rS (fs.lookup f) (mA f))/\PySem.Within mA (fs.map (·.1))
 |.own _=>∃ o,h.get? a=some o
 |.xd fs=>∃ mA,h.Ns1 a mA/\∀ f,rS (fs.lookup f) (mA f)
 |.rng lo hi=>∃ t u v,h.get? a=some { cls:=.type "range",data:=.fields #[.int lo t,.int hi u,.int 1 v] }
 |.YB o u=>h.get? a=some o/\ia H h a u
 |.tbl ps=>h.get? a=some { cls:=.none,data:=.fields ps }
 |.met f x=>h.get? a=some (methodObj (.ref f) (.ref x))
 |.ext φ=>φ h/\(∃ o,h.get? a=some o)/\∀ h1 h2:Heap,φ h1->(∀ o,h1.get? a=some o->h2.get? a=some o)->φ h2
def xI (H:Hp)(h:Heap):Prop:=∀ a o,H a=some o->ia P w H h a o
end
section
variable {P:Program} {w:World} {H H':Hp} {h h':Heap} {a:Addr} {o:HO}
theorem ia.lt (x:ia P w H h a o):a<h.objs.size:=by
 cases o with
 |lst xs=>obtain⟨_,_,_,_,e⟩:=x;exact Heap.lt_size e
 |tup xs=>obtain⟨_,_,_,p⟩:=x;exact p.lt
 |dK kvs=>obtain⟨_,_,_,_,o,_,_,e,_⟩:=x;exact Heap.lt_size e
 |dT kvs=>obtain⟨_,_,_,_,o,_,_,e,_⟩:=x;exact Heap.lt_size e
 |set S n=>obtain⟨o,_,_,_,e,_⟩:=x;exact Heap.lt_size e
 |ins C dx fs=>obtain⟨_,_,_,e,_⟩:=x;exact Heap.lt_size e
 |own y=>obtain⟨_,e⟩:=x;exact Heap.lt_size e
 |xd fs=>obtain⟨_,⟨_,_,_,e,_⟩,_⟩:=x;exact Heap.lt_size e
 |rng lo hi=>obtain⟨_,_,_,e⟩:=x;exact Heap.lt_size e
 |YB ob u=>obtain⟨e,_⟩:=x;exact Heap.lt_size e
 |tbl ps=>exact Heap.lt_size (show h.get? a=some _ from x)
 |met f y=>exact Heap.lt_size (show h.get? a=some _ from x)
 |ext φ=>obtain⟨_,⟨_,e⟩,_⟩:=x;exact Heap.lt_size e
theorem Paired.afS {α β:Type}{F G:α->β->Prop}:∀{l₁:List α} {l₂:List β},Paired F l₁ l₂->(∀ a b,F a b->G a b)->Paired G l₁ l₂
 |_,_,.nil,_=>.nil
 |_,_,.cons r t,f=>.cons (f _ _ r) (Paired.afS t f)
theorem ia.stay (x:ia P w H h a o)(k:∀ b u,(b=a\/H b=some (.own a))->h.get? b=some u->h'.get? b=some u)
  (ho:∀ b,H b=some (.own a)->H' b=some (.own a)) (ht:∀ b xs,H b=some (.tup xs)->H' b=some (.tup xs)):ia P w H' h' a o:=by
 induction o with
 |lst xs=>obtain⟨z,its,n,r,e⟩:=x;exact⟨z,its,n,r,k _ _ (.inl rfl) e⟩
 |tup xs=>obtain⟨z,its,r,ob,e,c⟩:=x;exact⟨z,its,r,ob,k _ _ (.inl rfl) e,c⟩
 |dK kvs=>obtain⟨z,y,vs,r,ob,es,ep,e,c⟩:=x;exact⟨z,y,vs,r,ob,es,ep,k _ _ (.inl rfl) e,c⟩
 |dT kvs =>
  obtain⟨z,y,xs,r,ob,es,ep,e,c⟩:=x;exact⟨z,y,xs,Paired.afS r fun p q z=>⟨z.1,ht _ _ z.2.1,z.2.2⟩,ob,es,ep,k _ _ (.inl rfl) e,c⟩
 |set S n=>obtain⟨ob,es,ep,t,e,c⟩:=x;exact⟨ob,es,ep,t,k _ _ (.inl rfl) e,c⟩
 |ins C dx fs =>
  obtain⟨d,z,ne,e,mA,⟨od,es,ep,e2,c⟩,r⟩:=x;exact⟨ho _ d,z,ne,k _ _ (.inl rfl) e,mA,⟨od,es,ep,k _ _ (.inr d) e2,c⟩,r⟩
 |own y=>obtain⟨ob,e⟩:=x;exact⟨ob,k _ _ (.inl rfl) e⟩
 |xd fs=>obtain⟨mA,⟨od,es,ep,e,c⟩,r⟩:=x;exact⟨mA,⟨od,es,ep,k _ _ (.inl rfl) e,c⟩,r⟩
 |rng lo hi=>obtain⟨t,u,v,e⟩:=x;exact⟨t,u,v,k _ _ (.inl rfl) e⟩
 |YB ob u ih=>obtain⟨e,q⟩:=x;exact⟨k _ _ (.inl rfl) e,ih q⟩
 |tbl ps =>
  have e:h.get? a=some { cls:=.none,data:=.fields ps }:=x;show h'.get? a=some { cls:=.none,data:=.fields ps };exact k a _ (.inl rfl) e
 |met f y =>
  have e:h.get? a=some (methodObj (.ref f) (.ref y)):=x;show h'.get? a=some (methodObj (.ref f) (.ref y));exact k a _ (.inl rfl) e
 |ext φ=>obtain⟨p,⟨o,e⟩,st⟩:=x;exact⟨st _ _ p fun o q=>k _ _ (.inl rfl) q,⟨o,k _ _ (.inl rfl) e⟩,st⟩
theorem xI.lt (x:xI P w H h)(e:H a=some o):a<h.objs.size:=(x a o e).lt
theorem xI.fresh (x:xI P w H h)(e:h.objs.size<=a):H a=none:=by
 cases q:H a with
 |none=>rfl
 |some u=>exact absurd (Nat.lt_of_lt_of_le (x.lt q) e) (Nat.lt_irrefl _)
theorem xI.kept (x:xI P w H h)(k:∀ b u,h.get? b=some u->h'.get? b=some u):xI P w H h':=fun a o e =>
 (x a o e).stay (fun b u _ q=>k b u q) (fun _ q=>q) fun _ _ q=>q
theorem xI.laid (x:xI P w H h)(k:∀ b u,h.get? b=some u->h'.get? b=some u)(hp:h.objs.size<=a)(new:ia P w (upd H a o) h' a o):xI P w (upd H a o) h':=fun b u e=>by
 have hn:=x.fresh hp
 by_cases hb:b=a
 ·subst hb;rw[ae]at e;cases e;exact new
 ·rw[ao hb]at e;exact(x b u e).stay (fun c v _ q=>k c v q) (fun c q=>by rw[ao (aq q hn)];exact q) fun c xs q=>by rw[ao (aq q hn)];exact q
end
def Rd (H:Hp)(a:Addr)(u:HO):Prop:=H a=some u\/∃ o,H a=some (.YB o u)
theorem Rd.ok {P:Program}{w:World}{H:Hp}{h:Heap}{a:Addr}{u:HO}(r:Rd H a u)(x:xI P w H h):ia P w H h a u:=by
 rcases r with r|⟨o,r⟩
 ·exact x a u r
 ·obtain⟨_,q⟩:=x a _ r;exact q
def Mut:Option HO->Prop
 |some (.lst _)=>True
 |some (.dK _)=>True
 |some (.dT _)=>True
 |some (.set _ _)=>True
 |some (.ins _ _ _)=>True
 |some (.ext _)=>True
 |_=>False
section
variable {P:Program} {w:World} {H:Hp} {h h':Heap} {x e:Addr} {o':HO}
theorem xI.write (ok:xI P w H h)(mu:Mut (H x))(he:e=x\/H e=some (.own x))(k:∀ b u,b≠e->h.get? b=some u->h'.get? b=some u)(heo:∃ u,h'.get? e=some u)
  (new:ia P w (upd H x o') h' x o'):xI P w (upd H x o') h':=fun b u q=>by
 have ahH:∀ c y,H c=some (.own y)->c≠x:=fun c y r z=>by subst z;rw[r]at mu;exact mu
 have ajW:∀ c xs,H c=some (.tup xs)->c≠x:=fun c xs r z=>by subst z;rw[r]at mu;exact mu
 by_cases hb:b=x
 ·subst hb;rw[ae]at q;cases q;exact new
 ·rw[ao hb]at q
  by_cases hbe:b=e
  ·have q':H b=some (.own x):=by
    rcases he with z|z
    ·exact absurd (hbe.trans z) hb
    ·rw[hbe];exact z
   rw[q]at q';cases q';obtain⟨v,hv⟩:=heo;exact⟨v,by rw[hbe];exact hv⟩
  ·refine(ok b u q).stay (fun c v hc r=>k c v ?_ r) (fun c r=>by rw[ao (ahH c b r)];exact r) fun c xs r=>by rw[ao (ajW c xs r)];exact r
   rcases hc with rfl|hc
   ·exact hbe
   ·rintro rfl;rcases he with z|z
    ·exact ahH c b hc z
    ·rw[hc]at z;cases z;exact hb rfl
end
structure Un (fs ex:List Addr)(H H':Hp)(h h':Heap):Prop where
 keep:∀ b o,h.get? b=some o->H b=none->b ∉ fs->b ∉ ex->h'.get? b=some o
 slot:∀ b o,h.get? b=some o->H b=none->b∈fs->b ∉ ex->∃ sl,h'.get? b=some { o with slots:=sl }
 free:∀ b o,h.get? b=some o->H b=none->b ∉ ex->H' b=none
 there:∀ b o,h.get? b=some o->b ∉ ex->∃ o',h'.get? b=some o'
 tups:∀ b xs,H b=some (.tup xs)->H' b=some (.tup xs)
 K8:∀ b o u,H b=some (.YB o u)->H' b=some (.YB o u)
 NR:∀ b ps,H b=some (.tbl ps)->∃ more,H' b=some (.tbl (ps++more))
section
variable {fs fs' ex ex':List Addr} {H H1 H2:Hp} {h h1 h2 h':Heap} {a x e:Addr} {o:HO}
theorem Un.any (u:Un fs ex H H1 h h1){b:Addr}{ob:Obj}(q:h.get? b=some ob)(n:H b=none)(hx:b ∉ ex):∃ sl,h1.get? b=some { ob with slots:=sl }:=by
 by_cases hb:b∈fs
 ·exact u.slot b ob q n hb hx
 ·exact⟨ob.slots,u.keep b ob q n hb hx⟩
theorem Un.kept (k:∀ b u,h.get? b=some u->h'.get? b=some u):Un fs ex H H h h' :=
 ⟨fun b ob q _ _ _=>k b ob q,fun b ob q _ _ _=>⟨ob.slots,k b ob q⟩,fun _ _ _ n _=>n,fun b ob q _=>⟨ob,k b ob q⟩,fun _ _ q=>q,fun _ _ _ q=>q,fun _ ps q=>⟨#[],by rw[q];simp⟩⟩
theorem Un.refl:Un fs ex H H h h:=Un.kept fun _ _ q=>q
theorem Un.laid (k:∀ b u,h.get? b=some u->h'.get? b=some u)(hp:h.objs.size<=a)(hn:H a=none):Un fs ex H (upd H a o) h h' where
 keep:=fun b u q _ _ _=>k b u q
 slot:=fun b u q _ _ _=>⟨u.slots,k b u q⟩
 free:=fun b u q n _=>by rw[ao (Nat.ne_of_lt (Nat.lt_of_lt_of_le (Heap.lt_size q) hp))];exact n
 there:=fun b u q _=>⟨u,k b u q⟩
 tups:=fun b xs q=>by rw[ao (aq q hn)];exact q
 K8:=fun b u xs q=>by rw[ao (aq q hn)];exact q
 NR:=fun b ps q=>⟨#[],by rw[ao (aq q hn),q];simp⟩
theorem Un.write (mu:Mut (H x))(he:e=x\/H e=some (.own x))(k:∀ b u,b≠e->h.get? b=some u->h'.get? b=some u)(heo:∃ u,h'.get? e=some u):Un fs ex H (upd H x o) h h':=by
 have hx:∀ b,H b=none->b≠x:=fun b n z=>by subst z;rw[n]at mu;exact mu
 have hb:∀ b,H b=none->b≠e:=fun b n z=>by
  subst z;rcases he with r|r
  ·exact hx b n r
  ·rw[n]at r;cases r
 have hm:∀ b u,H b=some u->¬ Mut (some u)->b≠x:=fun b u q nm z=>by subst z;rw[q]at mu;exact nm mu
 refine⟨fun b u q n _ _=>k b u (hb b n) q,fun b u q n _ _=>⟨u.slots,k b u (hb b n) q⟩,fun b u q n _=>by rw[ao (hx b n)];exact n,fun b u q _=>?_,
  fun b xs q=>by rw[ao (hm b _ q fun z=>z)];exact q,fun b u xs q=>by rw[ao (hm b _ q fun z=>z)];exact q,fun b ps q=>⟨#[],by rw[ao (hm b _ q fun z=>z),q];simp⟩⟩
 by_cases hbe:b=e
 ·subst hbe;exact heo
 ·exact⟨u,k b u hbe q⟩
end
def trk (h:Heap)(H:Hp):List Addr:=(List.range h.objs.size).filter fun a=>(H a).isSome
def PK (h:Heap)(H:Hp):Heap:=hideAll h (trk h H)
theorem Zv (h:Heap)(H:Hp):(PK h H).objs.size=h.objs.size:=PySem.W.hideAll_size _ _
theorem abf {h:Heap}{H:Hp}{b:Addr}{o:Obj}(e:h.get? b=some o)(n:H b=none):(PK h H).get? b=some o :=
 hideAll_get _ e fun hm=>by
  have q:(H b).isSome=true:=(List.mem_filter.mp hm).2;rw[n]at q;simp at q
theorem adD {h:Heap}{H:Hp}{b:Addr}{o:Obj}(e:(PK h H).get? b=some o):h.get? b=some o/\H b=none:=by
 have e':h.get? b=some o:=of_hideAll (trk h H) e;refine⟨e',?_⟩;cases q:H b with
 |none=>rfl
 |some x =>
  have hm:b∈trk h H:=List.mem_filter.mpr ⟨mem_range.mpr (Heap.lt_size e'),by simp[q]⟩;have z:(PK h H).get? b=none:=hideAll_none (trk h H) hm;rw[z]at e;cases e
def adE (g h:Heap)(L:Addr):List (Addr×Obj):=(List.range h.objs.size).filterMap fun a=>if a=L\/(g.get? a).isSome=true then none else(h.get? a).map fun o=>(a,o)
def rest (g h:Heap)(L d:Addr):List (Addr×Obj):=(adE g h L).filter fun p=>decide (p.1≠d)
end L2
namespace L2
open PySem PySem.Spec PyProof.Rows
structure Mod (K:Frag)(mg:Str->Option Value)(base:Heap):Prop where
 kin:K.In base
 glob:base.Ns mainGlobals mg
 blt:∃ mb,base.Ns builtinsNs mb/\∀ x:Str,x ≠ "__name__"->mb x=bootBuiltins x
 nolimit:base.NoLimit
structure Cx where
 prog:Program
 w:World
 K:Frag
 mg:Str->Option Value
 base:Heap
 A:Around
 N:List Str
 s₀:Shared
 H₀:Hp
 env:Env
 outer:List Env
 stack:List Env
 ex:List Addr
 fn:Str->Bool
 calm:Bool
 pn:List (Addr×Obj)
 xe:Value->Shared->Prop
def frs (l:List Env):List Addr:=l.filterMap (·.frame)
abbrev Cx.fs (X:Cx):List Addr:=frs X.outer
def Vis (sc:Scope)(x:Str):Prop:=sc.names.lookup x=some .local\/sc.names.lookup x=some .cell\/sc.names.lookup x=some .free
def Loc (sc:Scope)(x:Str):Prop:=sc.names.lookup x=some .local\/sc.names.lookup x=some .cell
def Look (env:Env)(h:Heap)(m:Str->Option Value)(x:Str)(u:Value):Prop :=
 (env.kindOf x=some .local/\m x=some u)\/((env.kindOf x=some .cell\/env.kindOf x=some .free)/\∃ c,env.cells.lookup x=some c/\h.IsCell c (some u))
structure Cx.Ok (X:Cx):Prop where
 mod:Mod X.K X.mg X.base
 kind:X.env.scope.kind=.function
 glob:X.env.globals=mainGlobals
 blt:X.env.builtins=builtinsNs
 above:X.s₀.heap.objs.size<=X.env.locals
 inj:∀ x y c,X.env.cells.lookup x=some c->X.env.cells.lookup y=some c->x=y
 has:∀ x,(X.env.kindOf x=some .cell\/X.env.kindOf x=some .free)->∃ c,X.env.cells.lookup x=some c
 cab:∀ x c,X.fn x=true->X.env.cells.lookup x=some c->X.s₀.heap.objs.size<=c
 hd:X.calm=true->X.A.handled=none
 frames:X.A.frames=some X.stack
 stk:X.stack=X.outer\/(X.stack=X.env::X.outer/\X.env.frame=some X.env.locals)
 exf:∀ b∈X.ex,b≠X.env.locals/\∀ x c,X.env.cells.lookup x=some c->c≠b
 bs:∀ b o,X.base.get? b=some o->X.s₀.heap.get? b=some o/\X.H₀ b=none
 YC:X.base.objs.size<=X.s₀.heap.objs.size
 PL:∀ b o,X.base.get? b=some o->b ∉ X.ex
 PM:∀ b∈X.ex,b ∉ X.fs
 Aj:X.s₀.heap.FunFrames X.base X.outer
 frf:∀ b∈X.fs,X.H₀ b=none
structure Inv (X:Cx)(pins:List (Addr×Obj))(σ:List (Option V))(H:Hp)(s:Shared):Prop where
 ok:X.Ok
 os:s.os=X.s₀.os
 bare:AllBare s.gens
 base:Un X.fs X.ex X.H₀ H X.s₀.heap s.heap
 loc:∃ m,s.heap.Ns X.env.locals m/\∀(i:Nat)(x:Str)(v:V),X.N[i]? = some x->σ[i]? = some (some v)->Vis X.env.scope x->∃ u,RelV v u/\Look X.env s.heap m x u
 cell:∀ x c,X.env.cells.lookup x=some c->∃ v,s.heap.IsCell c v
 free:H X.env.locals=none
 pV:∀ x c,X.env.cells.lookup x=some c->H c=none
 pin:∀ p∈X.pn++pins,s.heap.get? p.1=some p.2/\H p.1=none/\p.1≠X.env.locals/\p.1 ∉ X.fs/\∀ v,p.2.data≠.cell v
 hok:xI X.prog X.w H s.heap
 len:σ.length=X.N.length
section
variable {X:Cx} {pins:List (Addr×Obj)} {σ:List (Option V)} {H H':Hp} {s:Shared} {h':Heap}
theorem Cx.Ok.ajX (ok:X.Ok){b:Addr}{o:Obj}(e:X.base.get? b=some o):b ∉ X.fs:=fun hb=>by
 have:=(ok.Aj.mem hb).1;rw[e]at this;cases this
theorem Inv.bs (I:Inv X pins σ H s):∀ b o,X.base.get? b=some o->s.heap.get? b=some o/\H b=none:=fun b o e =>
 ⟨I.base.keep b o (I.ok.bs b o e).1 (I.ok.bs b o e).2 (I.ok.ajX e) (I.ok.PL b o e),I.base.free b o (I.ok.bs b o e).1 (I.ok.bs b o e).2 (I.ok.PL b o e)⟩
theorem Inv.bk (I:Inv X pins σ H s):∀ b o,X.base.get? b=some o->s.heap.get? b=some o:=fun b o e=>(I.bs b o e).1
theorem Inv.mod (I:Inv X pins σ H s):Mod X.K X.mg X.base:=I.ok.mod
theorem Inv.xG (I:Inv X pins σ H s):X.K.In s.heap:=I.ok.mod.kin.keeps I.bk
theorem Inv.lt (I:Inv X pins σ H s):X.env.locals<s.heap.objs.size:=let ⟨_,hn,_⟩:=I.loc;hn.lt
theorem Inv.sz (I:Inv X pins σ H s):X.s₀.heap.objs.size<=s.heap.objs.size:=Nat.le_trans I.ok.above (Nat.le_of_lt I.lt)
theorem Inv.ajY (I:Inv X pins σ H s){a:Addr}(h:s.heap.objs.size<=a):a ∉ X.fs:=fun hb=>by
 obtain⟨_,o,ho,_⟩:=I.ok.Aj.mem hb;exact absurd (Nat.lt_of_lt_of_le (Heap.lt_size ho) (Nat.le_trans I.sz h)) (Nat.lt_irrefl _)
theorem Inv.cne (I:Inv X pins σ H s):∀ x c,X.env.cells.lookup x=some c->c≠X.env.locals:=fun x c e z=>by
 obtain⟨v,o,ho,hd⟩:=I.cell x c e;obtain⟨m,⟨o',es,ep,ho',hd',_⟩,_⟩:=I.loc;rw[z,ho']at ho;cases ho;rw[hd']at hd;cases hd
theorem Inv.Aj (I:Inv X pins σ H s):s.heap.FunFrames X.base X.outer:=by
 have all:∀(l:List Env),(∀ b∈frs l,b∈X.fs)->X.s₀.heap.FunFrames X.base l->s.heap.FunFrames X.base l:=by
  intro l
  induction l with
  |nil=>intro _ _;trivial
  |cons env r ih =>
   intro hs hl;obtain⟨hk,⟨L,o,hf,hn,ho,hd⟩,hr⟩:=hl;have hL:L∈X.fs:=hs L (by unfold frs;rw[List.filterMap_cons,hf];exact mem_cons_self);obtain⟨sl,e⟩:=I.base.slot L o ho (I.ok.frf L hL) hL fun z=>I.ok.PM L z hL;exact⟨hk,⟨L,_,hf,hn,e,hd⟩,ih (fun b hb=>hs b (by unfold frs;rw[List.filterMap_cons,hf];exact mem_cons_of_mem _ hb)) hr⟩
 exact all X.outer (fun _ hb=>hb) I.ok.Aj
theorem Inv.stack (I:Inv X pins σ H s):s.heap.FunFrames X.base X.stack:=by
 rcases I.ok.stk with e|⟨e,hf⟩
 ·rw[e];exact I.Aj
 ·rw[e];obtain⟨m,hn,_⟩:=I.loc;refine .cons (by rw[I.ok.kind];decide) hf hn ?_ I.Aj;exact Heap.get?_none_of_le (Nat.le_trans I.ok.YC I.ok.above)
theorem Inv.VE (I:Inv X pins σ H s):∀ b∈frs X.stack,b∈X.env.locals::X.fs:=fun b hb=>by
 rcases I.ok.stk with e|⟨e,hf⟩
 ·rw[e]at hb;exact mem_cons_of_mem _ hb
 ·rw[e]at hb;unfold frs at hb;rw[List.filterMap_cons,hf]at hb;exact hb
theorem Inv.PN (I:Inv X pins σ H s):∀ b∈frs X.stack,H b=none:=fun b hb=>by
 rcases List.mem_cons.mp (I.VE b hb) with e|hb
 ·rw[e];exact I.free
 ·obtain⟨_,o,ho,_⟩:=I.ok.Aj.mem hb;exact I.base.free b o ho (I.ok.frf b hb) fun z=>I.ok.PM b z hb
theorem Inv.step {g':Array GenState}{t':Nat}{d':Drawn}{ch:List Addr}(I:Inv X pins σ H s)
  (hch:∀ b∈ch,(b∈X.ex\/X.s₀.heap.objs.size<=b)/\b≠X.env.locals/\(∀ x c,X.env.cells.lookup x=some c->c≠b)/\∀ p∈X.pn++pins,p.1≠b)
  (keep:∀ b o,b≠X.env.locals->b ∉ X.fs->b ∉ ch->s.heap.get? b=some o->H b=none->h'.get? b=some o)
  (slot:∀ b o,b≠X.env.locals->b∈X.fs->b ∉ ch->s.heap.get? b=some o->H b=none->∃ sl,h'.get? b=some { o with slots:=sl }) (free:∀ b o,b ∉ ch->s.heap.get? b=some o->H b=none->H' b=none)
  (there:∀ b o,b ∉ ch->s.heap.get? b=some o->∃ o',h'.get? b=some o')
  (tups:∀ b xs,H b=some (.tup xs)->H' b=some (.tup xs)) (K8:∀ b o u,H b=some (.YB o u)->H' b=some (.YB o u)) (NR:∀ b ps,H b=some (.tbl ps)->∃ more,H' b=some (.tbl (ps++more)))
  (ns:∀ m,s.heap.Ns X.env.locals m->h'.Ns X.env.locals m) (hok:xI X.prog X.w H' h') (hg:AllBare g') :
  Inv X pins σ H' { s with heap:=h',gens:=g',drawn:=d',toks:=t' }:=by
 have neL:∀ b o,X.s₀.heap.get? b=some o->b≠X.env.locals:=fun b o e=>Nat.ne_of_lt (Nat.lt_of_lt_of_le (Heap.lt_size e) I.ok.above);have neC:∀ b o,X.s₀.heap.get? b=some o->b ∉ X.ex->b ∉ ch:=fun b o e hx hb=>by
  rcases (hch b hb).1 with z|z
  ·exact hx z
  ·exact absurd (Nat.lt_of_lt_of_le (Heap.lt_size e) z) (Nat.lt_irrefl _)
 have cellK:∀ x c,X.env.cells.lookup x=some c->∀ v,s.heap.IsCell c v->h'.IsCell c v:=fun x c e v ⟨o,ho,hd⟩=>by
  have nch:c ∉ ch:=fun z=>(hch c z).2.2.1 x c e rfl
  by_cases hc:c∈X.fs
  ·obtain⟨sl,q⟩:=slot c o (I.cne x c e) hc nch ho (I.pV x c e);exact⟨_,q,hd⟩
  ·exact⟨o,keep c o (I.cne x c e) hc nch ho (I.pV x c e),hd⟩
 refine⟨I.ok,I.os,hg,⟨fun b o e n hb hx=>?_,fun b o e n hb hx=>?_,fun b o e n hx=>?_,fun b o e hx=>?_,fun b xs e=>tups b xs (I.base.tups b xs e),fun b o xs e=>K8 b o xs (I.base.K8 b o xs e),fun b ps e=>?_⟩,?_,fun x c e=>?_,?_,fun x c e=>?_,fun p hp=>?_,hok,I.len⟩
 ·exact keep b o (neL b o e) hb (neC b o e hx) (I.base.keep b o e n hb hx) (I.base.free b o e n hx)
 ·obtain⟨sl,e1⟩:=I.base.slot b o e n hb hx;obtain⟨sl',e2⟩:=slot b _ (neL b o e) hb (neC b o e hx) e1 (I.base.free b o e n hx);exact⟨sl',e2⟩
 ·obtain⟨o',e1⟩:=I.base.there b o e hx;exact free b o' (neC b o e hx) e1 (I.base.free b o e n hx)
 ·obtain⟨o',e1⟩:=I.base.there b o e hx;exact there b o' (neC b o e hx) e1
 ·obtain⟨m1,e1⟩:=I.base.NR b ps e;obtain⟨m2,e2⟩:=NR b _ e1;exact⟨m1++m2,by rw[e2,Array.append_assoc]⟩
 ·obtain⟨m,hn,hl⟩:=I.loc;refine⟨m,ns m hn,fun i x v e1 e2 e3=>?_⟩;obtain⟨u,r,l⟩:=hl i x v e1 e2 e3;refine⟨u,r,?_⟩;rcases l with l|⟨k,c,e,z⟩
  ·exact .inl l
  ·exact .inr ⟨k,c,e,cellK x c e _ z⟩
 ·obtain⟨v,z⟩:=I.cell x c e;exact⟨v,cellK x c e v z⟩
 ·obtain⟨m,⟨o,_,_,ho,_⟩,_⟩:=I.loc;exact free _ o (fun z=>(hch _ z).2.1 rfl) ho I.free
 ·obtain⟨v,o,ho,hd⟩:=I.cell x c e;exact free c o (fun z=>(hch c z).2.2.1 x c e rfl) ho (I.pV x c e)
 ·obtain⟨e,n,ne,nf,d⟩:=I.pin p hp;have nch:p.1 ∉ ch:=fun z=>(hch p.1 z).2.2.2 p hp rfl;exact⟨keep p.1 p.2 ne nf nch e n,free p.1 p.2 nch e n,ne,nf,d⟩
theorem Inv.un {t':Nat}(I:Inv X pins σ H s)(u:Un X.fs [] H H' s.heap h')(hok:xI X.prog X.w H' h'):Inv X pins σ H' { s with heap:=h',toks:=t' }:=by
 obtain⟨m,⟨o,es,ep,ho,r⟩,_⟩:=id I.loc;obtain⟨sl,hL⟩:=u.any ho I.free (by simp);exact I.step (g':=s.gens) (d':=s.drawn) (ch:=[]) (fun _ z=>nomatch z) (fun b o _ hb _ e n=>u.keep b o e n hb (by simp)) (fun b o _ hb _ e n=>u.slot b o e n hb (by simp)) (fun b o _ e n=>u.free b o e n (by simp)) (fun b o _ e=>u.there b o e (by simp)) u.tups u.K8 u.NR (fun m' hm=>by
  obtain⟨o',es',ep',ho',r'⟩:=hm;rw[ho]at ho';cases ho';exact⟨_,es',ep',hL,r'⟩) hok I.bare
theorem Inv.call {g':Array GenState}{t':Nat}{d':Drawn}{ch:List Addr}(I:Inv X pins σ H s)(u:Un (frs X.stack) ch H H' s.heap h')(hok:xI X.prog X.w H' h')(hg:AllBare g')
  (hch:∀ b∈ch,(b∈X.ex\/X.s₀.heap.objs.size<=b)/\b≠X.env.locals/\(∀ x c,X.env.cells.lookup x=some c->c≠b)/\∀ p∈X.pn++pins,p.1≠b) :
  Inv X pins σ H' { s with heap:=h',gens:=g',drawn:=d',toks:=t' }:=by
 obtain⟨m,⟨o,es,ep,ho,r⟩,_⟩:=id I.loc;obtain⟨sl,hL⟩:=u.any ho I.free fun z=>(hch _ z).2.1 rfl;exact I.step (ch:=ch) hch (fun b o hL hb hc e n=>u.keep b o e n (fun z=>(List.mem_cons.mp (I.VE b z)).elim hL hb) hc) (fun b o _ _ hc e n=>u.any e n hc) (fun b o hc e n=>u.free b o e n hc) (fun b o hc e=>u.there b o e hc) u.tups u.K8 u.NR (fun m' hm=>by
  obtain⟨o',es',ep',ho',r'⟩:=hm;rw[ho]at ho';cases ho';exact⟨_,es',ep',hL,r'⟩) hok hg
theorem Inv.turned {t':Nat}{it:Addr}(I:Inv X pins σ H s)(k:∀ b o,b≠it->s.heap.get? b=some o->h'.get? b=some o)(hn:H it=none)(hL:it≠X.env.locals)
  (h1:it∈X.ex\/X.s₀.heap.objs.size<=it) (h2:∀ x c,X.env.cells.lookup x=some c->c≠it) (h3:∀ p∈X.pn++pins,p.1≠it):Inv X pins σ H { s with heap:=h',toks:=t' }:=by
 have nit:∀ b u,H b=some u->b≠it:=fun b u e z=>by rw[z,hn]at e;cases e
 refine I.step (g':=s.gens) (d':=s.drawn) (ch:=[it]) (fun b hb=>?_) (fun b o _ _ hc e _=>k b o (fun z=>hc (by simp[z])) e) (fun b o _ _ hc e _=>⟨o.slots,k b o (fun z=>hc (by simp[z])) e⟩) (fun _ _ _ _ n=>n)
  (fun b o hc e=>⟨o,k b o (fun z=>hc (by simp[z])) e⟩) (fun _ _ e=>e) (fun _ _ _ e=>e) (fun b ps e=>⟨#[],by rw[e];simp⟩) (fun m hm=>?_) (fun b u e=>?_) I.bare
 ·have e:b=it:=by simpa using hb
  subst e;exact⟨h1,hL,h2,h3⟩
 ·obtain⟨o,es,ep,ho,r⟩:=hm;exact⟨o,es,ep,k _ o (Ne.symm hL) ho,r⟩
 ·refine(I.hok b u e).stay (fun c v hc q=>k c v ?_ q) (fun _ q=>q) fun _ _ q=>q;rcases hc with z|z
  ·rw[z];exact nit b u e
  ·exact nit c _ z
theorem Inv.tok (I:Inv X pins σ H s)(t:Nat):Inv X pins σ H { s with toks:=t }:=I.un (h':=s.heap) (t':=t) Un.refl I.hok
theorem Inv.kept {t':Nat}(I:Inv X pins σ H s)(k:∀ b u,s.heap.get? b=some u->h'.get? b=some u):Inv X pins σ H { s with heap:=h',toks:=t' }:=I.un (Un.kept k) (I.hok.kept k)
theorem Inv.laid {a:Addr}{o:HO}{t':Nat}(I:Inv X pins σ H s)(k:∀ b u,s.heap.get? b=some u->h'.get? b=some u)(hp:s.heap.objs.size<=a)(new:ia X.prog X.w (upd H a o) h' a o) :
  Inv X pins σ (upd H a o) { s with heap:=h',toks:=t' }:=I.un (Un.laid k hp (I.hok.fresh hp)) (I.hok.laid k hp new)
theorem Inv.write {x e:Addr}{o:HO}{t':Nat}(I:Inv X pins σ H s)(mu:Mut (H x))(he:e=x\/H e=some (.own x))(k:∀ b u,b≠e->s.heap.get? b=some u->h'.get? b=some u)(heo:∃ u,h'.get? e=some u)
  (new:ia X.prog X.w (upd H x o) h' x o):Inv X pins σ (upd H x o) { s with heap:=h',toks:=t' }:=I.un (Un.write mu he k heo) (I.hok.write mu he k heo new)
theorem Inv.YD {To:List (Addr×Obj)}(I:Inv X pins σ H s)(h:∀ p∈To,s.heap.get? p.1=some p.2/\H p.1=none/\p.1≠X.env.locals/\p.1 ∉ X.fs/\∀ v,p.2.data≠.cell v):Inv X To σ H s :=
 ⟨I.ok,I.os,I.bare,I.base,I.loc,I.cell,I.free,I.pV,fun p hp=>(mem_append.mp hp).elim (fun z=>I.pin p (mem_append_left _ z)) (h p),I.hok,I.len⟩
theorem Tp {N:List Str}(hN:N.Nodup){i j:Nat}{x:Str}(a:N[i]? = some x)(b:N[j]? = some x):i=j:=by
 obtain⟨h1,e1⟩:=List.getElem?_eq_some_iff.mp a;obtain⟨h2,e2⟩:=List.getElem?_eq_some_iff.mp b;exact(List.getElem_inj hN).mp (e1.trans e2.symm)
theorem OT {M:Model}{A:Around}{E:Value->Shared->Prop}{i:Nat}{x:Str}{v:V}{u:Value}{Q:Unit->Shared->Prop}(I:Inv X pins σ H s)(hN:X.N.Nodup)(hi:X.N[i]? = some x)(hx:Loc X.env.scope x)(r:RelV v u)
  (h:∀ s',Inv X pins (σ.set i (some v)) H s'->(∃ a,Heap.SameBut a s.heap s'.heap/\(a=X.env.locals\/X.env.cells.lookup x=some a))->Q () s') (hf:X.fn x=true\/X.env.scope.names.lookup x=some .local:=by first|exact .inl rfl|exact .inr rfl|assumption):wpAny M A (storeName X.env x u) Q E s:=by
 obtain⟨m,hn,hl⟩:=id I.loc;have hcls:(X.env.scope.kind == .class||(X.env.scope.kind == .module&&X.env.locals != X.env.globals))=false:=by rw[I.ok.kind];rfl
 have alL:i<σ.length:=by rw[I.len];exact(List.getElem?_eq_some_iff.mp hi).1
 have cne:=I.cne;have tracked:∀{a:Addr} {h':Heap},(∃ o,s.heap.get? a=some o/\H a=none)->Heap.SameBut a s.heap h'->xI X.prog X.w H h':=fun {a h'} ha hs b ob e=>by
  obtain⟨_,_,hfree⟩:=ha;refine(I.hok b ob e).stay (fun c w' hc q=>(hs.2 c ?_).trans q) (fun _ q=>q) fun _ _ q=>q;rintro rfl;rcases hc with rfl|hc
  ·rw[hfree]at e;cases e
  ·rw[hfree]at hc;cases hc
 rcases hx with hk|hk
 ·refine wpAny_storeName_local hk hn (fun h' hn' hs=>?_) hcls;obtain⟨oL,_,_,hoL,_⟩:=id hn;refine h _ ⟨I.ok,I.os,I.bare,⟨fun b o e n hb hx=>?_,fun b o e n hb hx=>?_,I.base.free,fun b o e hx=>?_,I.base.tups,I.base.K8,I.base.NR⟩,⟨_,hn',fun j y v' e1 e2 e3=>?_⟩,fun y c e=>?_,I.free,I.pV,fun p hp=>?_,tracked ⟨oL,hoL,I.free⟩ hs,by simpa using I.len⟩ ⟨_,hs,.inl rfl⟩
  ·exact(hs.2 b (Nat.ne_of_lt (Nat.lt_of_lt_of_le (Heap.lt_size e) I.ok.above))).trans (I.base.keep b o e n hb hx)
  ·obtain⟨sl,e1⟩:=I.base.slot b o e n hb hx;exact⟨sl,(hs.2 b (Nat.ne_of_lt (Nat.lt_of_lt_of_le (Heap.lt_size e) I.ok.above))).trans e1⟩
  ·obtain⟨o',e1⟩:=I.base.there b o e hx;exact⟨o',(hs.2 b (Nat.ne_of_lt (Nat.lt_of_lt_of_le (Heap.lt_size e) I.ok.above))).trans e1⟩
  ·by_cases hj:j=i
   ·subst hj;rw[hi]at e1;cases e1;rw[List.getElem?_set_self alL]at e2;cases e2;exact⟨u,r,.inl ⟨hk,by simp⟩⟩
   ·rw[List.getElem?_set_ne (Ne.symm hj)]at e2;obtain⟨u',r',q⟩:=hl j y v' e1 e2 e3;refine⟨u',r',?_⟩;rcases q with ⟨k,e⟩|⟨k,c,e,z⟩
    ·refine .inl ⟨k,?_⟩;have:y≠x:=fun e=>hj (Tp hN e1 (e ▸ hi));simp[this,e]
    ·exact .inr ⟨k,c,e,z.sameBut hs (cne y c e)⟩
  ·obtain⟨w',z⟩:=I.cell y c e;exact⟨w',z.sameBut hs (cne y c e)⟩
  ·obtain⟨e,n,ne,nf,d⟩:=I.pin p hp;exact⟨(hs.2 p.1 ne).trans e,n,ne,nf,d⟩
 ·have hfn:X.fn x=true:=by
   rcases hf with z|z
   ·exact z
   ·rw[z]at hk;cases hk
  obtain⟨c,hc⟩:=I.ok.has x (.inl hk);obtain⟨w',z⟩:=I.cell x c hc;refine wpAny_storeName_cell I.ok.kind hk hc z (fun h' hc' hs=>?_);obtain⟨oc,hoc,ajZ⟩:=id z;refine h { s with heap:=h' } ⟨I.ok,I.os,I.bare,⟨fun b o e n hb hx=>?_,fun b o e n hb hx=>?_,I.base.free,fun b o e hx=>?_,I.base.tups,I.base.K8,I.base.NR⟩,⟨m,hn.sameBut hs (Ne.symm (cne x c hc)),fun j y v' e1 e2 e3=>?_⟩,fun y c' e=>?_,I.free,I.pV,fun p hp=>?_,tracked ⟨oc,hoc,I.pV x c hc⟩ hs,by simpa using I.len⟩ ⟨c,hs,.inr hc⟩
  ·exact(hs.2 b (Nat.ne_of_lt (Nat.lt_of_lt_of_le (Heap.lt_size e) (I.ok.cab x c hfn hc)))).trans (I.base.keep b o e n hb hx)
  ·obtain⟨sl,e1⟩:=I.base.slot b o e n hb hx;exact⟨sl,(hs.2 b (Nat.ne_of_lt (Nat.lt_of_lt_of_le (Heap.lt_size e) (I.ok.cab x c hfn hc)))).trans e1⟩
  ·obtain⟨o',e1⟩:=I.base.there b o e hx;exact⟨o',(hs.2 b (Nat.ne_of_lt (Nat.lt_of_lt_of_le (Heap.lt_size e) (I.ok.cab x c hfn hc)))).trans e1⟩
  ·by_cases hj:j=i
   ·subst hj;rw[hi]at e1;cases e1;rw[List.getElem?_set_self alL]at e2;cases e2;exact⟨u,r,.inr ⟨.inl hk,c,hc,hc'⟩⟩
   ·rw[List.getElem?_set_ne (Ne.symm hj)]at e2;obtain⟨u',r',q⟩:=hl j y v' e1 e2 e3;refine⟨u',r',?_⟩;rcases q with q|⟨k,c',e,z'⟩
    ·exact .inl q
    ·refine .inr ⟨k,c',e,z'.sameBut hs ?_⟩;rintro rfl;exact hj (Tp hN e1 (I.ok.inj _ _ _ e hc ▸ hi))
  ·by_cases hcc:c'=c
   ·subst hcc;exact⟨_,hc'⟩
   ·obtain⟨w2,z2⟩:=I.cell y c' e;exact⟨w2,z2.sameBut hs hcc⟩
  ·obtain⟨e,n,ne,nf,d⟩:=I.pin p hp;refine⟨(hs.2 p.1 ?_).trans e,n,ne,nf,d⟩;intro q;rw[q,hoc]at e;have q':oc=p.2:=Option.some.inj e;exact d w' (by rw[<-q'];exact ajZ)
theorem xJ {M:Model}{A:Around}{E:Value->Shared->Prop}{i:Nat}{x:Str}{v:V}{u:Value}{Q:Unit->Shared->Prop}(I:Inv X pins σ H s)(hN:X.N.Nodup)(hi:X.N[i]? = some x)(hx:Loc X.env.scope x)(r:RelV v u)
  (h:∀ s',Inv X pins (σ.set i (some v)) H s'->Q () s') (hf:X.fn x=true\/X.env.scope.names.lookup x=some .local:=by first|exact .inl rfl|exact .inr rfl|assumption):wpAny M A (storeName X.env x u) Q E s :=
 OT I hN hi hx r (fun s' I' _=>h s' I') hf
theorem Inv.call' {s':Shared}{ch:List Addr}(I:Inv X pins σ H s)(ho:s'.os=s.os)(u:Un (frs X.stack) ch H H' s.heap s'.heap)(hok:xI X.prog X.w H' s'.heap)(hg:AllBare s'.gens)
  (hch:∀ b∈ch,(b∈X.ex\/X.s₀.heap.objs.size<=b)/\b≠X.env.locals/\(∀ x c,X.env.cells.lookup x=some c->c≠b)/\∀ p∈X.pn++pins,p.1≠b):Inv X pins σ H' s':=by
 obtain⟨h',g',d',t',o'⟩:=s';have e:o'=s.os:=ho;subst e;exact I.call (g':=g') (t':=t') (d':=d') u hok hg hch
end
abbrev XK:=Value->Option Addr->Hp->Prop
abbrev St:=List (Option V)
abbrev VK:=V->Hp->Prop
abbrev TE:=St->Hp->VK->Prop
abbrev TT:=St->Hp->(Bool->Hp->Prop)->Prop
abbrev TA:=St->Hp->(List V->Hp->Prop)->Prop
structure Ends where
 nx:St->Hp->Prop
 rt:VK
 bk:St->Hp->Prop:=fun _ _=>False
 ct:St->Hp->Prop:=fun _ _=>False
abbrev TS:=Ends->St->Hp->Prop
def EP (X:Cx)(pins:List (Addr×Obj))(σ:St)(Q:VK)(u:Value)(s':Shared):Prop:=∃ v H',Inv X pins σ H' s'/\RelV v u/\Q v H'
def TP (X:Cx)(pins:List (Addr×Obj))(σ:St)(Q:Bool->Hp->Prop)(b:Bool)(s':Shared):Prop:=∃ H',Inv X pins σ H' s'/\Q b H'
def AP (X:Cx)(pins:List (Addr×Obj))(σ:St)(Q:List V->Hp->Prop)(us:List Value)(s':Shared):Prop:=∃ vs H',Inv X pins σ H' s'/\Vals vs us/\Q vs H'
def SP (X:Cx)(pins:List (Addr×Obj))(D:Ends)(f:Flow)(s':Shared):Prop :=
 match f with
 |.next=>∃ σ' H',Inv X pins σ' H' s'/\D.nx σ' H'
 |.brk=>∃ σ' H',Inv X pins σ' H' s'/\D.bk σ' H'
 |.cont=>∃ σ' H',Inv X pins σ' H' s'/\D.ct σ' H'
 |.ret u=>∃ v σ' H',Inv X pins σ' H' s'/\RelV v u/\D.rt v H'
def PE (X:Cx)(e:Expr)(t:TE):Prop :=
 ∀(pins:List (Addr×Obj)) (s:Shared) (σ:St) (H:Hp) (Q:VK),Inv X pins σ H s->t σ H Q->wpAny (model X.prog X.w) X.A (eval e X.env) (EP X pins σ Q) X.xe s
def PT (X:Cx)(e:Expr)(t:TT):Prop :=
 ∀(pins:List (Addr×Obj)) (s:Shared) (σ:St) (H:Hp) (Q:Bool->Hp->Prop),Inv X pins σ H s->t σ H Q->wpAny (model X.prog X.w) X.A (isTrue e X.env (eval e X.env)) (TP X pins σ Q) X.xe s
def PW (X:Cx)(e:Expr)(t:TT):Prop :=
 ∀(whole:Sem Value)(pins:List (Addr×Obj)) (s:Shared) (σ:St) (H:Hp) (Q:Bool->Hp->Prop),Inv X pins σ H s->t σ H Q->wpAny (model X.prog X.w) X.A (isTrue e X.env whole) (TP X pins σ Q) X.xe s
theorem PW.pt {X:Cx}{e:Expr}{t:TT}(h:PW X e t):PT X e t:=h _
def PA (X:Cx)(es:List Expr)(t:TA):Prop :=
 ∀(pos:Pos)(pins:List (Addr×Obj)) (s:Shared) (σ:St) (H:Hp) (Q:List V->Hp->Prop),Inv X pins σ H s->t σ H Q->wpAny (model X.prog X.w) X.A (spliced (backTo pos (starEach es X.env))) (AP X pins σ Q) X.xe s
def PS (X:Cx)(st:Stmt)(t:TS):Prop :=
 ∀(pins:List (Addr×Obj)) (s:Shared) (σ:St) (H:Hp) (D:Ends),Inv X pins σ H s->t D σ H->wpAny (model X.prog X.w) X.A (exec st X.env) (SP X pins D) X.xe s
def KS (X:Cx)(st:List Stmt)(t:TS):Prop :=
 ∀(pins:List (Addr×Obj)) (s:Shared) (σ:St) (H:Hp) (D:Ends),Inv X pins σ H s->t D σ H->wpAny (model X.prog X.w) X.A (execs st X.env) (SP X pins D) X.xe s
theorem cJ {α:Type}{t:Sem α}{Q Q':α->Shared->Prop}{M:Model}{A:Around}{E:Value->Shared->Prop}{s:Shared}(h:wpAny M A t Q E s)(hQ:∀ a s,Q a s->Q' a s):wpAny M A t Q' E s:=wpAny_mono h hQ fun _ _ x=>x
end L2
namespace L2
open PySem PySem.Spec PyProof.Rows
section
variable {X:Cx}
inductive ae3 (i:Nat)(σ:St)(H:Hp)(Q:VK):Prop
 |mk (v:_) (gw:σ[i]? = some (some v)) (gx:Q v H):ae3 i σ H Q
def ahK (i:Nat):TE:=fun σ H Q=>ae3 i σ H Q
def tC (v:V):TE:=fun _ H Q=>Q v H
theorem afU {i:Nat}{x:Str}{pos:Pos}(hN:X.N[i]? = some x)(hv:Vis X.env.scope x)(hd:(x==("__debug__":Str))=false:=by decide)(hcd:(x==("__classdict__":Str))=false:=by decide):PE X (.Name x pos) (ahK i):=by
 intro pins s σ H Q I h;obtain⟨v,e,h⟩:=h;obtain⟨m,hn,hl⟩:=I.loc;obtain⟨u,r,l⟩:=hl i x v hN e hv;have fin:EP X pins σ Q u s:=⟨v,H,I,r,h⟩;rcases l with ⟨hk,hm⟩|⟨hk,c,hc,hcell⟩
 ·exact wpAny_Name (wpAny_loadName_local I.ok.kind hk hn hm fin) hd
 ·rcases hk with hk|hk
  ·exact wpAny_Name (wpAny_loadName_cell I.ok.kind hk hc hcell fin) hd
  ·exact wpAny_Name (wpAny_loadName_free I.ok.kind hk hc hcell fin hcd) hd
theorem ai {i j pos}:PE X (.Constant (.int i) j pos) (tC (.int i)):=fun _ _ _ H _ I h=>wpAny_Constant_int ⟨.int i,H,I.tok _,⟨_,rfl⟩,h⟩
theorem fM {b j pos}:PE X (.Constant (.bool b) j pos) (tC (.bl b)):=fun _ _ _ H _ I h=>Constant_bool ⟨.bl b,H,I,rfl,h⟩
theorem j4 {j pos}:PE X (.Constant .none j pos) (tC .non):=fun _ _ _ H _ I h=>Constant_none ⟨.non,H,I,rfl,h⟩
theorem av {x j pos}:PE X (.Constant (.str x) j pos) (tC (.str x)):=fun _ _ _ H _ I h=>Calls.Constant_str ⟨.str x,H,I.tok _,⟨_,rfl⟩,h⟩
def Gl (X:Cx)(x:Str):Prop:=X.env.kindOf x=some .globalImplicit
theorem ve {E:Value->Shared->Prop}{pins:List (Addr×Obj)}{s:Shared}{σ:St}{H:Hp}{x:Str}{u:Value}{pos:Pos}{Q:Value->Shared->Prop}(I:Inv X pins σ H s)(hg:Gl X x)(hm:X.mg x=some u)(h:Q u s)
  (hd:(x==("__debug__":Str))=false:=by decide):wpAny (model X.prog X.w) X.A (eval (.Name x pos) X.env) Q E s :=
 Calls.Name_function_global I.ok.kind hg (Calls.loadGlobal_global (by rw[I.ok.glob];exact I.mod.glob.keeps I.bk) hm h) hd
theorem vf {E:Value->Shared->Prop}{pins:List (Addr×Obj)}{s:Shared}{σ:St}{H:Hp}{x:Str}{u:Value}{pos:Pos}{Q:Value->Shared->Prop}(I:Inv X pins σ H s)(hg:Gl X x)(hm:X.mg x=none)(hv:bootBuiltins x=some u)(h:Q u s)
  (hn:x ≠ "__name__":=by decide) (hd:(x==("__debug__":Str))=false:=by decide):wpAny (model X.prog X.w) X.A (eval (.Name x pos) X.env) Q E s:=by
 obtain⟨mb,h1,h2⟩:=I.mod.blt;exact Calls.Name_function_global I.ok.kind hg (Calls.loadGlobal_builtin (by rw[I.ok.glob];exact I.mod.glob.keeps I.bk) hm (by rw[I.ok.blt];exact h1.keeps I.bk) ((h2 x hn).trans hv) h) hd
theorem cv {x:Str}{v:V}{u:Value}{pos:Pos}(hg:Gl X x)(hm:X.mg x=some u)(r:RelV v u)(hd:(x==("__debug__":Str))=false:=by decide):PE X (.Name x pos) (tC v) :=
 fun _ _ _ H _ I h=>ve I hg hm ⟨v,H,I,r,h⟩ hd
theorem DI {x:Str}{v:V}{u:Value}{pos:Pos}(hg:Gl X x)(hm:X.mg x=none)(hv:bootBuiltins x=some u)(r:RelV v u)(hn:x ≠ "__name__":=by decide)(hd:(x==("__debug__":Str))=false:=by decide):PE X (.Name x pos) (tC v) :=
 fun _ _ _ H _ I h=>vf I hg hm hv ⟨v,H,I,r,h⟩ hn hd
def t2I (ta tb:TE)(k:Int->Int->Hp->Prop):St->Hp->Prop:=fun σ H=>ta σ H fun x H1=>tb σ H1 fun y H2=>∃ i j,x=.int i/\y=.int j/\k i j H2
variable {a b:Expr} {ta tb:TE} {pos:Pos}
def PC (X:Cx)(op:CmpOp)(a b:Expr)(t:TE):Prop :=
 ∀(pins:List (Addr×Obj)) (s:Shared) (σ:St) (H:Hp) (Q:VK),Inv X pins σ H s->t σ H Q ->
  wpAny (model X.prog X.w) X.A (eval a X.env) (fun v s₁=>wpAny (model X.prog X.w) X.A (eval b X.env) (fun u s₂=>wpAny (model X.prog X.w) X.A (compareOp op v u) (EP X pins σ Q) X.xe s₂) X.xe s₁) X.xe s
def Zw (p:Int->Int->Bool)(ta tb:TE):TE:=fun σ H Q=>t2I ta tb (fun i j H2=>Q (.bl (p i j)) H2) σ H
abbrev tLt:TE->TE->TE:=Zw fun i j=>decide (i<j)
abbrev tLe:TE->TE->TE:=Zw fun i j=>decide (i<=j)
abbrev tGt:TE->TE->TE:=Zw fun i j=>decide (j<i)
abbrev tGe:TE->TE->TE:=Zw fun i j=>decide (j<=i)
abbrev am5:TE->TE->TE:=Zw fun i j=>decide (i=j)
abbrev am6:TE->TE->TE:=Zw fun i j=>!decide (i=j)
def tB (t:TE):TT:=fun σ H Q=>t σ H fun x H1=>∃ c,x=.bl c/\Q c H1
theorem afV {op:CmpOp}{t:TE}(h:PC X op a b t)(h1:behindInMarks op b=false:=by first|exact ahL _ (by decide) (by decide)|rfl):PT X (.Compare a [op] [b] pos) (tB t):=by
 intro pins s σ H Q I hw;refine wpAny_isTrue_Compare1 (cJ (h pins s σ H _ I hw) fun v s1 h1=>cJ h1 fun u s2 h2=>cJ h2 fun c s3 ⟨x,H1,I1,r1,q1⟩=>?_) h1;obtain⟨d,rfl,q⟩:=q1;cases r1;exact wpAny_truthy_bool ⟨H1,I1,q⟩
theorem bZ {e:Expr}{t:TE}(h:PE X e t)(he:∀ whole,isTrue e X.env whole=(do let v <-whole;standAt e.pos;holding [v] (truthy v)):=by intro _;rfl):PT X e (tB t):=by
 intro pins s σ H Q I hw;refine isTrue_plain (cJ (h pins s σ H _ I hw) fun v s1 ⟨x,H1,I1,r1,q1⟩=>?_) (he _);obtain⟨d,rfl,q⟩:=q1;cases r1;exact wpAny_truthy_bool ⟨H1,I1,q⟩
variable {tA tB':TT} {rest:List Expr}
def aj0 (t u:TT):TT:=fun σ H Q=>t σ H fun c H1=>if c=true then u σ H1 Q else Q false H1
def tOr (t u:TT):TT:=fun σ H Q=>t σ H fun c H1=>if c=true then Q true H1 else u σ H1 Q
def aj1 (t:TT):TT:=fun σ H Q=>t σ H fun c H1=>Q (!c) H1
theorem gM (ha:PT X a tA):PW X (.BoolOp .And [a] pos) tA:=by
 intro wh pins s σ H Q I h;refine isTrue_and (cJ (ha pins s σ H Q I h) fun c s1 e=>?_);cases c with
 |true=>exact isTrue_and_nil e
 |false=>exact e
theorem qA (ha:PT X a tA):PW X (.BoolOp .Or [a] pos) tA:=by
 intro wh pins s σ H Q I h;refine isTrue_or (cJ (ha pins s σ H Q I h) fun c s1 e=>?_);cases c with
 |false=>exact isTrue_or_nil e
 |true=>exact e
theorem dX (ha:PT X a tA)(hb:PW X (.BoolOp .And (b::rest) pos) tB'):PW X (.BoolOp .And (a::b::rest) pos) (aj0 tA tB'):=by
 intro wh pins s σ H Q I h;refine isTrue_and (cJ (ha pins s σ H _ I h) fun c s1 ⟨H1,I1,q1⟩=>?_);cases c with
 |true=>exact hb wh pins s1 σ H1 Q I1 q1
 |false=>exact⟨H1,I1,q1⟩
theorem xK (ha:PT X a tA)(hb:PW X (.BoolOp .Or (b::rest) pos) tB'):PW X (.BoolOp .Or (a::b::rest) pos) (tOr tA tB'):=by
 intro wh pins s σ H Q I h;refine isTrue_or (cJ (ha pins s σ H _ I h) fun c s1 ⟨H1,I1,q1⟩=>?_);cases c with
 |true=>exact⟨H1,I1,q1⟩
 |false=>exact hb wh pins s1 σ H1 Q I1 q1
theorem kG (ha:PT X a tA):PT X (.UnaryOp .Not a pos) (aj1 tA):=by
 intro pins s σ H Q I h;exact isTrue_not (ha pins s σ H (fun c H1=>Q (!c) H1) I h)
def ahM (ta tb:TE):TE:=fun σ H Q=>ta σ H fun x H1=>∃ c,x=.bl c/\if c=true then tb σ H1 Q else Q (.bl false) H1
def aj2 (ta tb:TE):TE:=fun σ H Q=>ta σ H fun x H1=>∃ c,x=.bl c/\if c=true then Q (.bl true) H1 else tb σ H1 Q
def ahN (ta:TE):TE:=fun σ H Q=>ta σ H fun x H1=>∃ c,x=.bl c/\Q (.bl (!c)) H1
theorem j5 {op}{t:TE}(h:PE X a t):PE X (.BoolOp op [a] pos) t:=fun pins s σ H Q I hw=>BoolOp_one (h pins s σ H Q I hw)
theorem kH (ha:PE X a ta)(hb:PE X (.BoolOp .And (b::rest) pos) tb):PE X (.BoolOp .And (a::b::rest) pos) (ahM ta tb):=by
 intro pins s σ H Q I h;refine BoolOp_and (cJ (ha pins s σ H _ I h) fun v s1 ⟨x,H1,I1,r1,q1⟩=>?_);obtain⟨c,rfl,q1⟩:=q1;cases r1;refine wpAny_truthy_bool ?_;cases c with
 |true=>exact hb pins s1 σ H1 Q I1 q1
 |false=>exact⟨.bl false,H1,I1,rfl,q1⟩
theorem YE (ha:PE X a ta)(hb:PE X (.BoolOp .Or (b::rest) pos) tb):PE X (.BoolOp .Or (a::b::rest) pos) (aj2 ta tb):=by
 intro pins s σ H Q I h;refine BoolOp_or (cJ (ha pins s σ H _ I h) fun v s1 ⟨x,H1,I1,r1,q1⟩=>?_);obtain⟨c,rfl,q1⟩:=q1;cases r1;refine wpAny_truthy_bool ?_;cases c with
 |false=>exact hb pins s1 σ H1 Q I1 q1
 |true=>exact⟨.bl true,H1,I1,rfl,q1⟩
theorem afW (ha:PE X a ta):PE X (.UnaryOp .Not a pos) (ahN ta):=by
 intro pins s σ H Q I h;refine UnaryOp_ (cJ (ha pins s σ H _ I h) fun v s1 ⟨x,H1,I1,r1,q1⟩=>?_);obtain⟨c,rfl,q1⟩:=q1;cases r1;exact not_of (wpAny_truthy_bool ⟨.bl (!c),H1,I1,rfl,q1⟩)
def tIf (t:TT)(ta tb:TE):TE:=fun σ H Q=>t σ H fun c H1=>if c=true then ta σ H1 Q else tb σ H1 Q
theorem gR {c:Expr}(hc:PT X c tA)(ha:PE X a ta)(hb:PE X b tb):PE X (.IfExp c a b pos) (tIf tA ta tb):=by
 intro pins s σ H Q I h;refine wpAny_IfExp (cJ (hc pins s σ H _ I h) fun d s1 ⟨H1,I1,q1⟩=>?_);cases d with
 |true=>exact ha pins s1 σ H1 Q I1 q1
 |false=>exact hb pins s1 σ H1 Q I1 q1
end
end L2
namespace L2
open PySem PySem.Spec PyProof.Rows
def aZ (K:Frag)(H:Hp)(a:Addr)(xs:List V):Prop :=
 Rd H a (.lst xs) \/
  ∃(o:Obj)(its:Array Value)(n:Nat),K.lookup a=some o/\o.cls=.type "list"/\o.dict=none/\o.data=.seq its n/\its.size<=sizeLine/\Vals xs its.toList
def uo (K:Frag)(H:Hp)(a:Addr)(xs:List V):Prop :=
 Rd H a (.tup xs) \/
  ∃(o:Obj)(its:Array Value)(n:Nat),K.lookup a=some o/\o.cls=.type "tuple"/\o.data=.seq its n/\its.size<=sizeLine/\Vals xs its.toList
def aj3:Value->Option V
 |.none=>some .non
 |.bool b=>some (.bl b)
 |.int i _=>some (.int i)
 |.str x _=>some (.str x)
 |.bytes b _=>some (.byt b)
 |.float b _=>some (.flt b)
 |.ref a=>some (.ref a)
 |.type n=>some (.ty n)
 |_=>none
theorem RelV.abs {x:V}{u:Value}(r:RelV x u):aj3 u=some x:=by
 cases x with
 |non=>cases r;rfl
 |bl _=>cases r;rfl
 |int _=>obtain⟨t,rfl⟩:=r;rfl
 |str _=>obtain⟨t,rfl⟩:=r;rfl
 |byt _=>obtain⟨t,rfl⟩:=r;rfl
 |flt _=>obtain⟨t,rfl⟩:=r;rfl
 |ref _=>cases r;rfl
 |ty _=>cases r;rfl
theorem RelV.inj {x y:V}{u:Value}(r:RelV x u)(q:RelV y u):x=y:=Option.some.inj (r.abs.symm.trans q.abs)
theorem Vals.inj:∀{xs ys:List V} {us:List Value},Vals xs us->Vals ys us->xs=ys
 |_,_,_,.nil,.nil=>rfl
 |_,_,_,.cons r t,.cons r' t'=>by rw[r.inj r',Vals.inj t t']
section
variable {X:Cx} {pins:List (Addr×Obj)} {σ:St} {H:Hp} {s:Shared} {a:Addr} {xs ys:List V}
theorem aZ.of {K:Frag}(h:H a=some (.lst xs)):aZ K H a xs:=.inl (.inl h)
theorem uo.of {K:Frag}(h:H a=some (.tup xs)):uo K H a xs:=.inl (.inl h)
theorem Inv.list (I:Inv X pins σ H s)(h:aZ X.K H a xs):∃ its:List Value,Vals xs its/\PlainL s.heap a its.toArray/\xs.length<=sizeLine:=by
 rcases h with h|⟨o,its,n,hk,hc,hd,hs,hz,r⟩
 ·obtain⟨z,its,n,r,e⟩:=h.ok I.hok;exact⟨its,r,⟨_,n,e,rfl,rfl,rfl⟩,z⟩
 ·refine⟨its.toList,r,⟨o,n,I.xG a o hk,hc,hd,by simpa using hs⟩,?_⟩;have e:=r.length;simp only [Array.length_toList]at e;omega
theorem Inv.tuple (I:Inv X pins σ H s)(h:uo X.K H a xs):∃ its:List Value,Vals xs its/\IsTup s.heap a its.toArray/\xs.length<=sizeLine:=by
 rcases h with h|⟨o,its,n,hk,hc,hs,hz,r⟩
 ·obtain⟨z,its,r,p⟩:=h.ok I.hok;exact⟨its,r,p,z⟩
 ·refine⟨its.toList,r,⟨o,I.xG a o hk,hc,n,by simpa using hs⟩,?_⟩;have e:=r.length;simp only [Array.length_toList]at e;omega
theorem Inv.Tq (I:Inv X pins σ H s)(h:aZ X.K H a xs)(h':aZ X.K H a ys):xs=ys:=by
 obtain⟨its,r,⟨o,n,e,_,_,d⟩,_⟩:=I.list h;obtain⟨its',r',⟨o',n',e',_,_,d'⟩,_⟩:=I.list h';rw[e]at e';cases e';rw[d]at d'
 injection d' with d1 _
 have:its=its':=by simpa using congrArg Array.toList d1
 subst this;exact r.inj r'
end
abbrev Cx.wish (X:Cx)(E:Value->Shared->Prop):Cx:={ X with xe:=E }
abbrev Cx.nox (X:Cx):Cx:=X.wish fun _ _=>False
theorem Cx.Ok.wish {X:Cx}(ok:X.Ok)(E:Value->Shared->Prop):(X.wish E).Ok :=
 ⟨ok.mod,ok.kind,ok.glob,ok.blt,ok.above,ok.inj,ok.has,ok.cab,ok.hd,ok.frames,ok.stk,ok.exf,ok.bs,ok.YC,ok.PL,ok.PM,ok.Aj,ok.frf⟩
theorem Cx.Ok.nc {X:Cx}{E:Value->Shared->Prop}(ok:(X.wish E).Ok):X.Ok :=
 ⟨ok.mod,ok.kind,ok.glob,ok.blt,ok.above,ok.inj,ok.has,ok.cab,ok.hd,ok.frames,ok.stk,ok.exf,ok.bs,ok.YC,ok.PL,ok.PM,ok.Aj,ok.frf⟩
section
variable {X:Cx} {pins:List (Addr×Obj)} {σ:St} {H:Hp} {s:Shared} {E:Value->Shared->Prop}
theorem Inv.wish (I:Inv X pins σ H s)(E:Value->Shared->Prop):Inv (X.wish E) pins σ H s:=⟨I.ok.wish E,I.os,I.bare,I.base,I.loc,I.cell,I.free,I.pV,I.pin,I.hok,I.len⟩
theorem Inv.nc (I:Inv (X.wish E) pins σ H s):Inv X pins σ H s:=⟨I.ok.nc,I.os,I.bare,I.base,I.loc,I.cell,I.free,I.pV,I.pin,I.hok,I.len⟩
theorem SP.nc {D:Ends}{f:Flow}{s':Shared}(h:SP (X.wish E) pins D f s'):SP X pins D f s':=by
 cases f with
 |next=>obtain⟨σ',H',I,q⟩:=h;exact⟨σ',H',I.nc,q⟩
 |brk=>obtain⟨σ',H',I,q⟩:=h;exact⟨σ',H',I.nc,q⟩
 |cont=>obtain⟨σ',H',I,q⟩:=h;exact⟨σ',H',I.nc,q⟩
 |ret u=>obtain⟨v,σ',H',I,r,q⟩:=h;exact⟨v,σ',H',I.nc,r,q⟩
theorem KS.nox {st:List Stmt}{t:TS}(h:KS X.nox st t):KS X st t:=fun pins s σ H D I hw =>
 wpAny_mono (h pins s σ H D (I.wish _) hw) (fun _ _ q=>q.nc) fun _ _ z=>False.elim z
end
section
variable {X:Cx} {st:Stmt} {rest:List Stmt} {t u:TS} {e:Expr} {te:TE} {pos:Pos}
def ahO:TS:=fun D σ H=>D.nx σ H
def adF (t u:TS):TS:=fun D σ H=>t { D with nx:=u D } σ H
theorem aF:KS X [] ahO:=fun _ _ σ H _ I h=>wpAny_execs_nil ⟨σ,H,I,h⟩
theorem ah (h1:PS X st t)(h2:KS X rest u):KS X (st::rest) (adF t u):=by
 intro pins s σ H D I h;refine wpAny_execs_cons (cJ (h1 pins s σ H { D with nx:=u D } I h) fun f s1 q=>?_);cases f with
 |next =>
  obtain⟨σ',H',I',q⟩:=q;exact h2 pins s1 σ' H' D I' q
 |ret v=>exact q
 |brk=>exact q
 |cont=>exact q
theorem ak (h1:PS X st t):KS X [st] t:=by
 intro pins s σ H D I h;refine wpAny_execs_cons (cJ (h1 pins s σ H D I h) fun f s1 q=>?_);cases f with
 |next=>exact wpAny_execs_nil q
 |ret v=>exact q
 |brk=>exact q
 |cont=>exact q
theorem Inv.quiet {pins:List (Addr×Obj)}{σ:St}{H:Hp}{s:Shared}(I:Inv X pins σ H s):interactive X.env=false:=by simp[interactive,I.ok.kind]
def ahP (te:TE):TS:=fun D σ H=>te σ H fun _ H1=>D.nx σ H1
theorem bo (he:PE X e te)(hs:swapsWith e none pos.line X.env=pure false:=by rfl):PS X (.Expr e pos) (ahP te):=by
 intro pins s σ H D I h;exact wpAny_Expr_any (cJ (he pins s σ H _ I h) fun v s1 ⟨x,H1,I1,r1,q1⟩=>⟨σ,H1,I1,q1⟩) I.quiet hs
def aj4 (te:TE):TS:=fun D σ H=>te σ H D.rt
theorem ax (he:PE X e te):PS X (.Return (some e) pos) (aj4 te):=by
 intro pins s σ H D I h;exact wpAny_Return_some (cJ (he pins s σ H _ I h) fun v s1 ⟨x,H1,I1,r1,q1⟩=>⟨x,σ,H1,I1,r1,q1⟩)
def aj5 (c:TT)(t u:TS):TS:=fun D σ H=>c σ H fun b H1=>if b=true then t D σ H1 else u D σ H1
theorem bf {c:Expr}{a b:List Stmt}{tc:TT}(hc:PT X c tc)(ha:KS X a t)(hb:KS X b u):PS X (.If c a b pos) (aj5 tc t u):=by
 intro pins s σ H D I h;refine wpAny_If (cJ (hc pins s σ H _ I h) fun d s1 ⟨H1,I1,q1⟩=>?_);cases d with
 |true=>exact ha pins s1 σ H1 D I1 q1
 |false=>exact hb pins s1 σ H1 D I1 q1
end
abbrev TG:=V->St->Hp->(St->Hp->Prop)->Prop
abbrev TGs:=List V->St->Hp->(St->Hp->Prop)->Prop
def PG (X:Cx)(target:Expr)(t:TG):Prop :=
 ∀(pins:List (Addr×Obj)) (s:Shared) (σ:St) (H:Hp) (v:V) (u:Value) (Q:St->Hp->Prop),Inv X pins σ H s->RelV v u->t v σ H Q ->
  wpAny (model X.prog X.w) X.A (assign target X.env u) (fun _ s'=>∃ σ' H',Inv X pins σ' H' s'/\Q σ' H') X.xe s
def PGs (X:Cx)(ts:List Expr)(t:TGs):Prop :=
 ∀(pins:List (Addr×Obj)) (s:Shared) (σ:St) (H:Hp) (vs:List V) (us:List Value) (Q:St->Hp->Prop),Inv X pins σ H s->Vals vs us->t vs σ H Q ->
  wpAny (model X.prog X.w) X.A (assignInOrder ((assignEach ts X.env).map (·.2)) us) (fun _ s'=>∃ σ' H',Inv X pins σ' H' s'/\Q σ' H') X.xe s
abbrev afX:=V->V->V->Hp->(Hp->Prop)->Prop
def ahQ (X:Cx)(t:afX):Prop :=
 ∀(pins:List (Addr×Obj)) (s:Shared) (σ:St) (H:Hp) (o i v:V) (ov iv u:Value) (Q:Hp->Prop),Inv X pins σ H s->RelV o ov->RelV i iv->RelV v u->t o i v H Q ->
  wpAny (model X.prog X.w) X.A (setItem ov iv u) (fun _ s'=>∃ H',Inv X pins σ H' s'/\Q H') X.xe s
abbrev TIp:=V->V->Hp->VK->Prop
def PIp (X:Cx)(op:Operator)(t:TIp):Prop :=
 ∀(pins:List (Addr×Obj)) (s:Shared) (σ:St) (H:Hp) (x y:V) (v u:Value) (Q:VK),Inv X pins σ H s->RelV x v->RelV y u->t x y H Q ->
  wpAny (model X.prog X.w) X.A (inplaceOp op v u) (EP X pins σ Q) X.xe s
section
variable {X:Cx} {pos:Pos}
def Tr (i:Nat):TG:=fun v σ H Q=>Q (σ.set i (some v)) H
theorem aP {i:Nat}{x:Str}(hN:X.N.Nodup)(hi:X.N[i]? = some x)(hx:Loc X.env.scope x)(hf:X.fn x=true\/X.env.scope.names.lookup x=some .local:=by first|exact .inl rfl|exact .inr rfl|assumption):PG X (.Name x pos) (Tr i):=by
 intro pins s σ H v u Q I r h;exact wpAny_assign_Name (xJ I hN hi hx r (fun s' I'=>⟨_,H,I',h⟩) hf)
def aj6:TGs:=fun vs σ H Q=>vs=[]/\Q σ H
inductive abh (t:TG)(u:TGs)(vs:List V)(σ:St)(H:Hp)(Q:(St->Hp->Prop)):Prop
 |mk (v:_) (r:_) (gw:vs=v::r) (gx:t v σ H fun σ' H'=>u r σ' H' Q):abh t u vs σ H Q
def ahR (t:TG)(u:TGs):TGs:=fun vs σ H Q=>abh t u vs σ H Q
theorem ky:PGs X [] aj6:=by
 intro pins s σ H vs us Q I r h;obtain⟨e,h⟩:=h;subst e;cases r;exact assignInOrder_nil ⟨σ,H,I,h⟩
theorem bA {e:Expr}{es:List Expr}{t:TG}{u:TGs}(h1:PG X e t)(h2:PGs X es u)
  (hs:(assignEach (e::es) X.env).map (·.2)=assign e X.env::(assignEach es X.env).map (·.2):=by rfl):PGs X (e::es) (ahR t u):=by
 intro pins s σ H vs us Q I r h;obtain⟨v,vr,e1,h⟩:=h;subst e1;cases r with
 |cons r rr =>
  rw[hs];refine assignInOrder_cons (cJ (h1 pins s σ H _ _ _ I r h) fun _ s1 ⟨σ1,H1,I1,q1⟩=>?_);exact h2 pins s1 σ1 H1 _ _ Q I1 rr q1
inductive ae5 (K:Frag)(n:Nat)(t:TGs)(v:V)(σ:St)(H:Hp)(Q:(St->Hp->Prop)):Prop
 |mk (a:_) (xs:_) (gw:v=.ref a) (gx:uo K H a xs) (iW:xs.length=n) (m7:t xs σ H Q):ae5 K n t v σ H Q
def aj7 (K:Frag)(n:Nat)(t:TGs):TG:=fun v σ H Q=>ae5 K n t v σ H Q
theorem oV {es:List Expr}{k:Nat}{t:TGs}{n:Nat}(hc:X.calm=true)(h:PGs X es t)
  (hn:(assignEach es X.env).length=n:=by rfl) (hst:(assignEach es X.env).findIdx? (·.1)=none:=by rfl):PG X (.Tuple es k pos) (aj7 X.K n t):=by
 intro pins s σ H v u Q I r hw;obtain⟨a,xs,e1,hq,hl,hw⟩:=hw;subst e1;cases r;obtain⟨its,rv,ht,hz⟩:=I.tuple hq;refine assign_Tuple_tuple (I.ok.hd hc) ht (by simp[hn,<-hl,rv.length]) hst fun h' hx=>?_;have I1:Inv X pins σ H { s with heap:=h' }:=I.kept (t':=s.toks) fun b o e=>hx b o (Nat.ne_of_lt (Heap.lt_size e)) e;exact h pins _ σ H xs _ Q I1 (by simpa using rv) hw
def aj8 (to ti:TE)(t:afX):TG:=fun v σ H Q=>to σ H fun o H1=>ti σ H1 fun i H2=>t o i v H2 fun H3=>Q σ H3
theorem xM {o i:Expr}{to ti:TE}{t:afX}(ho:PE X o to)(hi:PE X i ti)(hs:ahQ X t)
  (ha:∀ v,assign (.Subscript o i pos) X.env v=(do
   let ov <-holding [v] (eval o X.env)
   let iv <-holding [v,ov] (eval i X.env)
   standAt pos
   holding [v,ov,iv] (setItem ov iv v)
   release [v,ov,iv] []):=by intro _;rfl):PG X (.Subscript o i pos) (aj8 to ti t):=by
 intro pins s σ H v u Q I r h;rw[ha];refine wpAny_bind (wpAny_holding (cJ (ho pins s σ H _ I h) fun ov s1 ⟨x,H1,I1,r1,q1⟩=>?_));refine wpAny_bind (wpAny_holding (cJ (hi pins s1 σ H1 _ I1 q1) fun iv s2 ⟨y,H2,I2,r2,q2⟩=>?_));refine wpAny_bind (wpAny_standAt (wpAny_bind (wpAny_holding (cJ (hs pins s2 σ H2 x y v ov iv u _ I2 r1 r2 r q2) fun _ s3 ⟨H3,I3,q3⟩=>?_))));exact wpAny_release ⟨σ,H3,I3,q3⟩
def afY (te:TE)(g:TG):TS:=fun D σ H=>te σ H fun x H1=>g x σ H1 D.nx
theorem lF {tg e:Expr}{te:TE}{g:TG}(he:PE X e te)(hg:PG X tg g)(hs:swapsWithSole [tg] e pos.line X.env=pure false:=by rfl)(hw:swappedStores [tg] e X.env=pure none:=by rfl)
  (h1:(assignEach [tg] X.env).map (·.2)=[assign tg X.env]:=by rfl):PS X (.Assign [tg] e pos) (afY te g):=by
 intro pins s σ H D I h;refine wpAny_Assign_stores (cJ (he pins s σ H _ I h) fun v s1 ⟨x,H1,I1,r1,q1⟩=>?_) hs hw;rw[h1];exact cJ (hg pins s1 σ H1 x v _ I1 r1 q1) fun _ s2 q=>q
theorem aH {i:Nat}{x:Str}{e:Expr}{te:TE}{pos':Pos}(hN:X.N.Nodup)(hi:X.N[i]? = some x)(hx:Loc X.env.scope x)(he:PE X e te)(hs:swapsWith e (some (.Name x pos')) pos.line X.env=pure false:=by rfl)(hf:X.fn x=true\/X.env.scope.names.lookup x=some .local:=by first|exact .inl rfl|exact .inr rfl|assumption) :
  PS X (.Assign [.Name x pos'] e pos) (afY te (Tr i)):=by
 intro pins s σ H D I h;refine wpAny_Assign_Name (cJ (he pins s σ H _ I h) fun v s1 ⟨y,H1,I1,r1,q1⟩=>?_) hs;exact xJ I1 hN hi hx r1 (fun s2 I2=>⟨_,H1,I2,q1⟩) hf
def aj9 (i j:Nat)(ta:TA):TS:=fun D σ H=>ta σ H fun vs H1=>∃ v w,vs=[v,w]/\D.nx ((σ.set i (some v)).set j (some w)) H1
theorem afZ {i j:Nat}{x y:Str}{a b:Expr}{ta:TA}{px py pt:Pos}{kt k2 pt2}(hc:X.calm=true)(hN:X.N.Nodup)(hi:X.N[i]? = some x)(hj:X.N[j]? = some y)(hij:i≠j)
  (hx:X.env.scope.names.lookup x=some .local) (hy:X.env.scope.names.lookup y=some .local) (ha:PA X [a,b] ta)
  (hw:swappedStores [.Tuple [.Name x px,.Name y py] kt pt] (.Tuple [a,b] k2 pt2) X.env=pure (some [x,y]))
  (hs:swapsWithSole [.Tuple [.Name x px,.Name y py] kt pt] (.Tuple [a,b] k2 pt2) pos.line X.env=pure false:=by rfl) :
  PS X (.Assign [.Tuple [.Name x px,.Name y py] kt pt] (.Tuple [a,b] k2 pt2) pos) (aj9 i j ta):=by
 intro pins s σ H D I h;rw[exec_Assign_arm];refine wpAny_bind (wpAny_standAt ?_);rw[hs];refine wpAny_bind (wpAny_pure ?_);rw[if_neg (by decide)];refine wpAny_bind (Tuple_ (cJ (ha _ pins s σ H _ I h) fun us s1 ⟨vs,H1,I1,r1,q1⟩=>?_));obtain⟨v,w,e1,q1⟩:=q1;subst e1;obtain⟨u1,u2,rfl,rv,rw'⟩:∃ u1 u2,us=[u1,u2]/\RelV v u1/\RelV w u2:=by
  cases r1 with
  |cons p q =>
   cases q with
   |cons p' q' =>
    cases q';exact⟨_,_,rfl,p,p'⟩
 refine wpAny_newObj_type ?_ (by show 2<=sizeLine;decide);have I2:Inv X pins σ H1 { s1 with heap:=s1.heap.push { cls:=.type "tuple",data:=.seq [u1,u2].toArray } }:=I1.kept (t':=s1.toks) fun b o e=>Heap.get?_push_of_some _ e;rw[hw];refine wpAny_bind (wpAny_pure ?_);show wpAny (model X.prog X.w) X.A (do rule "assign.swapped-stores";let items <-unpackItems (.ref s1.heap.objs.size) 2 none;assignInOrder [fun v=>bindName X.env y v,fun v=>bindName X.env x v] items.reverse;pure Flow.next) _ _ _;refine wpAny_bind (wpAny_rule (wpAny_bind (unpackItems_tuple (items:=#[u1,u2]) (I.ok.hd hc) (IsTup.new s1.heap _) fun h' hx'=>?_)));have I3:=I2.kept (h':=h') (t':=s1.toks) fun b o e=>hx' b o (Nat.ne_of_lt (Heap.lt_size e)) e;show wpAny _ _ (assignInOrder [fun v=>bindName X.env y v,fun v=>bindName X.env x v] [u2,u1] >>= fun _=>pure Flow.next) _ _ _;refine wpAny_bind (assignInOrder_cons (wpAny_bindName (xJ I3 hN hj (.inl hy) rw' (fun s2 I4=>?_) (.inr hy))));refine assignInOrder_cons (wpAny_bindName (xJ I4 hN hi (.inl hx) rv (fun s3 I5=>assignInOrder_nil (wpAny_pure ?_)) (.inr hx)));rw[List.set_comm _ _ (Ne.symm hij)]at I5;exact⟨_,H1,I5,q1⟩
def akb (i:Nat)(te:TE)(ti:TIp):TS:=fun D σ H=>∃ x,σ[i]? = some (some x)/\te σ H fun y H1=>ti x y H1 fun z H2=>D.nx (σ.set i (some z)) H2
theorem af0 {i:Nat}{x:Str}{e:Expr}{te:TE}{op:Operator}{ti:TIp}{pos':Pos}(hN:X.N.Nodup)(hi:X.N[i]? = some x)(hx:Loc X.env.scope x)(he:PE X e te)(ho:PIp X op ti)(hf:X.fn x=true\/X.env.scope.names.lookup x=some .local:=by first|exact .inl rfl|exact .inr rfl|assumption) :
  PS X (.AugAssign (.Name x pos') op e pos) (akb i te ti):=by
 intro pins s σ H D I h;obtain⟨v,e1,h⟩:=h;obtain⟨m,hn,hl⟩:=I.loc;have vis:Vis X.env.scope x:=by rcases hx with k|k;exact .inl k;exact .inr (.inl k)
 obtain⟨u,r,l⟩:=hl i x v hi e1 vis;refine wpAny_AugAssign_Name ?_;have go:wpAny (model X.prog X.w) X.A (eval e X.env) (fun w s₂=>wpAny (model X.prog X.w) X.A (inplaceOp op u w) (fun r s₃=>wpAny (model X.prog X.w) X.A (storeName X.env x r) (fun _=>SP X pins D .next) X.xe s₃) X.xe s₂) X.xe s:=by
  refine cJ (he pins s σ H _ I h) fun w s1 ⟨y,H1,I1,r1,q1⟩=>?_;refine cJ (ho pins s1 σ H1 v y u w _ I1 r r1 q1) fun z s2 ⟨zv,H2,I2,r2,q2⟩=>?_;exact xJ I2 hN hi hx r2 (fun s3 I3=>⟨_,H2,I3,q2⟩) hf
 rcases l with ⟨hk,hm⟩|⟨hk,c,hc,hcell⟩
 ·exact wpAny_loadName_local I.ok.kind hk hn hm go
 ·rcases hk with hk|hk
  ·exact wpAny_loadName_cell I.ok.kind hk hc hcell go
  ·rcases hx with k|k
   ·have:X.env.scope.names.lookup x=some .free:=hk;rw[k]at this;cases this
   ·have:X.env.scope.names.lookup x=some .free:=hk;rw[k]at this;cases this
def ipI (f:Int->Int->Int):TIp:=fun x y H Q=>∃ i j,x=.int i/\y=.int j/\Q (.int (f i j)) H
theorem af1:PIp X .Add (ipI fun i j=>i+j):=by
 intro pins s σ H x y v u Q I r1 r2 h;obtain⟨i,j,e1,e2,q⟩:=h;subst e1;subst e2;obtain⟨t,rfl⟩:=r1;obtain⟨t',rfl⟩:=r2;exact iadd_int ⟨.int _,H,I.tok _,⟨_,rfl⟩,q⟩
end
section
variable {X:Cx} {pos:Pos}
def af2 (c:TT)(tb:TS):TS:=fun D σ H=>∃ W:Nat->St->Hp->Prop,(∃ m,W m σ H)/\∀ m σ H,W m σ H ->
 c σ H fun b H1=>if b=true then ∃ N:St->Hp->Prop,(∀ σ' H',N σ' H'->∃ m',m'<m/\W m' σ' H')/\tb { D with nx:=N,ct:=N,bk:=D.nx } σ H1 else D.nx σ H1
theorem Ts {c:Expr}{body:List Stmt}{tc:TT}{tb:TS}(hp:PassesOwn (model X.prog X.w) X.A X.env X.xe)(hc:PT X c tc)(hb:KS X body tb):PS X (.While c body [] pos) (af2 tc tb):=by
 intro pins s σ H D I h;obtain⟨W,⟨m0,w0⟩,turn⟩:=h;refine wpAny_While (codeAny_whileLoop (fun n s'=>∃ σ' H',Inv X pins σ' H' s'/\W n σ' H') ?_ m0 ⟨σ,H,I,w0⟩);rintro n s1 ⟨σ1,H1,I1,w1⟩;refine wpAny_passesOwn hp (cJ (hc pins s1 σ1 H1 _ I1 (turn n σ1 H1 w1)) fun b s2 ⟨H2,I2,q2⟩=>?_);cases b with
 |true =>
  obtain⟨N,hN,q2⟩:=q2;rw[if_pos rfl];refine wpAny_passesOwn hp (cJ (hb pins s2 σ1 H2 _ I2 q2) fun f s3 q3=>?_);cases f with
  |next =>
   obtain⟨σ3,H3,I3,n3⟩:=q3;obtain⟨m',hm,w3⟩:=hN σ3 H3 n3;exact⟨m',hm,σ3,H3,I3,w3⟩
  |cont =>
   obtain⟨σ3,H3,I3,n3⟩:=q3;obtain⟨m',hm,w3⟩:=hN σ3 H3 n3;exact⟨m',hm,σ3,H3,I3,w3⟩
  |brk=>exact q3
  |ret v=>exact q3
 |false =>
  rw[if_neg Bool.false_ne_true];exact wpAny_execs_nil ⟨σ1,H2,I2,q2⟩
end
structure It where
 go:Nat->Hp->Prop
 yld:Nat->Hp->V->Hp->Prop
 stop:Nat->Hp->Prop
def qB (X:Cx)(pins:List (Addr×Obj))(H:Hp)(b:Addr):Prop :=
 H b=none/\b≠X.env.locals/\b ∉ X.fs/\(b∈X.ex\/X.s₀.heap.objs.size<=b)/\(∀ x c,X.env.cells.lookup x=some c->c≠b)/\∀ p∈X.pn++pins,p.1≠b
theorem Inv.Tt {X:Cx}{pins:List (Addr×Obj)}{σ:St}{H H':Hp}{s:Shared}{b:Addr}(I:Inv X pins σ H s)(hb:s.heap.objs.size<=b)(hn:H' b=none):qB X pins H' b:=by
 refine⟨hn,Nat.ne_of_gt (Nat.lt_of_lt_of_le I.lt hb),I.ajY hb,.inr (Nat.le_trans I.sz hb),fun x c e z=>?_,fun p hp z=>?_⟩
 ·obtain⟨v,q⟩:=I.cell x c e;exact absurd (Nat.lt_of_lt_of_le q.lt (by rw[z];exact hb)) (Nat.lt_irrefl _)
 ·exact absurd (Nat.lt_of_lt_of_le (Heap.lt_size (I.pin p hp).1) (by rw[z];exact hb)) (Nat.lt_irrefl _)
structure Turn (P:Program)(w:World)(K:Frag)(tg:Expr)(J:It)(fp:List Addr)(it:Addr)(tn:Nat->Heap->Prop):Prop where
 mem:it∈fp
 obj:∀ i h,tn i h->∀ b∈fp,∃ o,h.get? b=some o/\∀ v,o.data≠.cell v
 keep:∀ i h h',tn i h->(∀ b∈fp,∀ o,h.get? b=some o->h'.get? b=some o)->tn i h'
 item:∀(X:Cx),X.prog=P->X.w=w->X.K=K->X.calm=true->∀(i:Nat)(pins:List (Addr×Obj)) (s:Shared) (σ:St) (H:Hp) (E:Value->Shared->Prop),Inv X pins σ H s->(∀ b∈fp,qB X pins H b)->tn i s.heap->J.go i H ->
  wpAny (model P w) X.A (pyNext (.ref it)) (fun r s1=>∃ u,r=some u /\
   wpAny (model P w) X.A (letOwnedTupleGo tg (.ref it) u) (fun _ s2=>∃ x H',Inv X pins σ H' s2/\RelV x u/\J.yld i H x H'/\tn (i+1) s2.heap/\∀ b∈fp,H' b=none) E s1) E s
 done:∀(X:Cx),X.prog=P->X.w=w->X.K=K->X.calm=true->∀(i:Nat)(pins:List (Addr×Obj)) (s:Shared) (σ:St) (H:Hp) (E:Value->Shared->Prop),Inv X pins σ H s->(∀ b∈fp,qB X pins H b)->tn i s.heap->J.stop i H ->
  wpAny (model P w) X.A (pyNext (.ref it)) (fun r s1=>r=none/\Inv X pins σ H s1) E s
 self:∀(A:Around)(i:Nat)(s:Shared)(Q:Value->Shared->Prop)(E:Value->Shared->Prop),tn i s.heap->Q (.ref it) s->wpAny (model P w) A (pyIter (.ref it)) Q E s
abbrev TI:=St->Hp->(It->Hp->Prop)->Prop
def PIE (X:Cx)(pins:List (Addr×Obj))(σ:St)(tg:Expr)(R:It->Hp->Prop)(itv:Value)(s2:Shared):Prop :=
 ∃(it:Addr)(fp:List Addr)(tn:Nat->Heap->Prop)(J:It)(H':Hp),itv=.ref it/\Inv X pins σ H' s2/\Turn X.prog X.w X.K tg J fp it tn/\tn 0 s2.heap/\(∀ b∈fp,qB X pins H' b)/\R J H'
def PI (X:Cx)(tg iter:Expr)(wi:TI):Prop :=
 ∀(pins:List (Addr×Obj)) (s:Shared) (σ:St) (H:Hp) (R:It->Hp->Prop),Inv X pins σ H s->wi σ H R ->
  wpAny (model X.prog X.w) X.A (eval iter X.env) (fun v s1=>wpAny (model X.prog X.w) X.A (pyIter v) (PIE X pins σ tg R) X.xe s1) X.xe s
theorem YF {M:Model}{A:Around}{E:Value->Shared->Prop}{s:Shared}{tg:Expr}{it:Addr}{u:Value}{o:Obj}{n:String}{vs:Array Value}{Q:Unit->Shared->Prop}(ho:s.heap.get? it=some o)(hc:o.cls=.type n)(hd:o.data=.fields vs)
  (hn:["enumerate","zip","dict_itemiterator","dict_reverseitemiterator","odict_iterator","itertools.zip_longest","itertools.pairwise"].contains n=false) (hQ:Q () s):wpAny M A (letOwnedTupleGo tg (.ref it) u) Q E s:=by
 unfold letOwnedTupleGo;cases tg <;> first
  |exact wpAny_pure hQ
  |(cases u <;> first
    |exact wpAny_pure hQ
    |(refine wpAny_bind (wpAny_load ho ?_);rw[hc,hd];show wpAny M A (if(["enumerate","zip","dict_itemiterator","dict_reverseitemiterator","odict_iterator","itertools.zip_longest","itertools.pairwise"].contains n&&vs[0]? == some (rawInt _))=true then _ else _) Q E s;rw[if_neg (by intro h;rw[hn,Bool.false_and]at h;cases h)];exact wpAny_pure hQ))
def Itl (K:Frag)(a:Addr):It :=
 ⟨fun i H=>∃ xs x,aZ K H a xs/\xs[i]? = some x,fun i H x H'=>H'=H/\∀ xs,aZ K H a xs->xs[i]? = some x,fun i H=>∃ xs,aZ K H a xs/\xs.length<=i⟩
def Itt (K:Frag)(a:Addr):It :=
 ⟨fun i H=>∃ xs x,uo K H a xs/\xs[i]? = some x,fun i H x H'=>H'=H/\∀ xs,uo K H a xs->xs[i]? = some x,fun i H=>∃ xs,uo K H a xs/\xs.length<=i⟩
def Itr (lo:Int)(n:Nat):It:=⟨fun i _=>i<n,fun i H x H'=>H'=H/\x=.int (lo+i),fun i _=>n<=i⟩
theorem Zx {P:Program}{w:World}{K:Frag}{tg:Expr}(a it:Addr):Turn P w K tg (Itl K a) [it] it (fun i h=>h.IsListIter it a i) where
 mem:=by simp
 obj:=fun i h st b hb=>by
  have e:b=it:=by simpa using hb
  subst e;obtain⟨o,e,c,d⟩:=st;exact⟨o,e,fun v z=>by rw[d]at z;cases z⟩
 keep:=fun i h h' st k=>st.at fun o e=>k it (by simp) o e
 item:=by
  intro X hP hw hK hc i pins s σ H E I hf st hg;subst hP hw hK;obtain⟨xs,x,hq,hx⟩:=hg;obtain⟨its,rv,p,hz⟩:=I.list hq;obtain⟨u,hu,ru⟩:=rv.get hx;obtain⟨f0,f1,f2,f3,f4,f5⟩:=hf it (by simp);refine wpAny_pyNext_list_item st p.isList (x:=u) (by simpa using hu) fun h' st' sb=>?_;have I1:Inv X pins σ H { s with heap:=h' }:=I.turned (t':=s.toks) (fun b o hb e=>(sb.2 b hb).trans e) f0 f1 f3 f4 f5;obtain⟨o,e,c,d⟩:=id st';exact⟨u,rfl,YF (s:={ s with heap:=h' }) e c d (by decide) ⟨x,H,I1,ru,⟨rfl,fun ys hy=>by rw[I.Tq hy hq];exact hx⟩,st',fun b hb=>(hf b hb).1⟩⟩
 done:=by
  intro X hP hw hK hc i pins s σ H E I hf st hg;subst hP hw hK;obtain⟨xs,hq,hx⟩:=hg;obtain⟨its,rv,p,hz⟩:=I.list hq;obtain⟨f0,f1,f2,f3,f4,f5⟩:=hf it (by simp);have hl:=rv.length;exact wpAny_pyNext_list_end (I.ok.hd hc) st p.isList (by simp;omega) fun h' eb=>⟨rfl,I.turned (t':=s.toks) (fun b o hb e=>eb b o hb e) f0 f1 f3 f4 f5⟩
 self:=fun _ _ _ _ _ st h=>wpAny_pyIter_listiter st h
theorem VF {P:Program}{w:World}{K:Frag}{tg:Expr}(it:Addr)(lo:Int)(n:Nat):Turn P w K tg (Itr lo n) [it] it (fun i h=>IsRangeIter h it (lo+(i:Nat) * 1) ((n:Int)-(i:Nat)) 1) where
 mem:=by simp
 obj:=fun i h st b hb=>by
  have e:b=it:=by simpa using hb
  subst e;exact⟨_,st,fun v z=>by
   have z':Data.fields _=Data.cell v:=z;cases z'⟩
 keep:=fun i h h' st k=>k it (by simp) _ st
 item:=by
  intro X hP hw hK hc i pins s σ H E I hf st hg;subst hP hw hK;obtain⟨f0,f1,f2,f3,f4,f5⟩:=hf it (by simp);have W:=Walks.range (prog:=X.prog) (w:=X.w) (I.ok.hd hc) it lo 1 n;refine W.item i s _ _ hg st fun v h' tk hv st' kk=>?_;obtain⟨t,rfl⟩:=hv;have I1:Inv X pins σ H { s with heap:=h',toks:=tk }:=I.turned (fun b o hb e=>kk b o (by simpa using hb) e) f0 f1 f3 f4 f5;refine⟨_,rfl,YF (s:={ s with heap:=h',toks:=tk }) (n:="range_iterator") st' rfl rfl (by decide) ⟨.int (lo+i),H,I1,⟨t,?_⟩,⟨rfl,rfl⟩,st',fun b hb=>(hf b hb).1⟩⟩;rw[Int.mul_one]
 done:=by
  intro X hP hw hK hc i pins s σ H E I hf st hg;subst hP hw hK;obtain⟨f0,f1,f2,f3,f4,f5⟩:=hf it (by simp);exact wpAny_pyNext_range_end (I.ok.hd hc) st (by have:n<=i:=hg;omega) fun h' eb=>⟨rfl,I.turned (t':=s.toks) (fun b o hb e=>eb b o hb e) f0 f1 f3 f4 f5⟩
 self:=fun _ _ _ _ _ st h=>wpAny_pyIter_rangeiter st h
end L2
namespace L2
open PySem PySem.Spec PyProof.Rows
section
variable {X:Cx} {tg:Expr}
inductive abk (K:Frag)(R:(It->Hp->Prop))(x:V)(H1:Hp):Prop
 |mk (a:_) (gw:x=.ref a) (gx:(∃ xs,aZ K H1 a xs)/\R (Itl K a) H1):abk K R x H1
def ahS (K:Frag)(tl:TE):TI:=fun σ H R=>tl σ H fun x H1=>abk K R x H1
inductive ahT (K:Frag)(R:(It->Hp->Prop))(x:V)(H1:Hp):Prop
 |mk (a:_) (gw:x=.ref a) (gx:(∃ xs,uo K H1 a xs)/\R (Itt K a) H1):ahT K R x H1
theorem fN {l:Expr}{tl:TE}(hl:PE X l tl):PI X tg l (ahS X.K tl):=by
 intro pins s σ H R I h;refine cJ (hl pins s σ H _ I h) fun v s1 ⟨x,H1,I1,r1,q1⟩=>?_;obtain⟨a,e,⟨xs,hq⟩,q⟩:=q1;subst e;cases r1;obtain⟨its,rv,p,hz⟩:=I1.list hq;refine wpAny_pyIter_list p.isList ?_;refine⟨s1.heap.objs.size,[s1.heap.objs.size],_,_,H1,rfl,I1.kept (t':=s1.toks) fun b o e=>Heap.get?_push_of_some _ e,Zx a _,⟨_,Heap.get?_push_size _ rfl,rfl,rfl⟩,fun b hb=>?_,q⟩;have e:b=s1.heap.objs.size:=by simpa using hb
 subst e;exact I1.Tt (Nat.le_refl _) (I1.hok.fresh (Nat.le_refl _))
theorem Tu {pins:List (Addr×Obj)}{σ:St}{H:Hp}{s:Shared}{R:It->Hp->Prop}{E:Value->Shared->Prop}{lo hi:Int}{t u v:Tok}{tk:Nat}(I:Inv X pins σ H s)(h1:-(2 ^ 62)<=lo)(h2:lo<2 ^ 62)(h3:-(2 ^ 62)<=hi)(h4:hi<2 ^ 62)
  (q:R (Itr lo (hi-lo).toNat) H):wpAny (model X.prog X.w) X.A (pyIter (.ref s.heap.objs.size)) (PIE X pins σ tg R) E { s with heap:=s.heap.push { cls:=.type "range",data:=.fields #[.int lo t,.int hi u,.int 1 v] },toks:=tk }:=by
 refine wpAny_pyIter_range (IsRange.new ..) (small_one h1 h2 h3 h4) ?_;have I1:Inv X pins σ H { s with heap:=s.heap.push { cls:=.type "range",data:=.fields #[.int lo t,.int hi u,.int 1 v] },toks:=tk }:=I.kept fun b o e=>Heap.get?_push_of_some _ e;refine⟨(s.heap.push { cls:=.type "range",data:=.fields #[.int lo t,.int hi u,.int 1 v] }).objs.size,[(s.heap.push { cls:=.type "range",data:=.fields #[.int lo t,.int hi u,.int 1 v] }).objs.size],_,_,H,rfl,
  I1.kept (t':=tk) fun b o e=>Heap.get?_push_of_some _ e,VF _ lo (hi-lo).toNat,?_,fun b hb=>?_,q⟩
 ·have e1:lo+((0:Nat):Int) * 1=lo:=by simp
  have e2:(((hi-lo).toNat:Nat):Int)-((0:Nat):Int)=Builtin.Range.rangeSize lo hi 1:=by rw[rangeSize_one];split <;> omega
  show IsRangeIter _ _ (lo+((0:Nat):Int) * 1) ((((hi-lo).toNat:Nat):Int)-((0:Nat):Int)) 1;rw[e1,e2];exact Heap.get?_push_size _ rfl
 ·have e:b=(s.heap.push { cls:=.type "range",data:=.fields #[.int lo t,.int hi u,.int 1 v] }).objs.size:=by simpa using hb
  subst e;exact I1.Tt (Nat.le_refl _) (I1.hok.fresh (Nat.le_refl _))
inductive abl (R:(It->Hp->Prop))(vs:List V)(H1:Hp):Prop
 |mk (j:Int) (gw:vs=[.int j]) (gx:-(2 ^ 62)<=j/\j<2 ^ 62/\R (Itr 0 j.toNat) H1):abl R vs H1
def ahU (ta:TA):TI:=fun σ H R=>ta σ H fun vs H1=>abl R vs H1
inductive abm (R:(It->Hp->Prop))(vs:List V)(H1:Hp):Prop
 |mk (i j:Int) (gw:vs=[.int i,.int j]) (gx:(-(2 ^ 62)<=i/\i<2 ^ 62/\-(2 ^ 62)<=j/\j<2 ^ 62)) (iW:R (Itr i (j-i).toNat) H1):abm R vs H1
def ahV (ta:TA):TI:=fun σ H R=>ta σ H fun vs H1=>abm R vs H1
theorem lj {a:Expr}{ta:TA}{p pos:Pos}(hg:Gl X "range")(hm:X.mg "range"=none)(ha:PA X [a] ta)(hs:starEach [a] X.env=[(false,eval a X.env)]:=by rfl):PI X tg (.Call (.Name "range" p) [a] [] pos) (ahU ta):=by
 intro pins s σ H R I h;refine Call_ (vf I hg hm boot_range (PyProof.Rows.callWith_type1 (cJ (ha pos pins s σ H _ I h) fun us s1 ⟨vs,H1,I1,r1,q1⟩=>?_) hs rfl));obtain⟨j,e,q1,q2,q⟩:=q1;subst e;cases r1 with
 |cons r rr =>
  cases rr;obtain⟨t,rfl⟩:=r;exact call_range_1 (Tu I1 (by omega) (by omega) q1 q2 (by simpa using q))
theorem OU {a b:Expr}{ta:TA}{p pos:Pos}(hg:Gl X "range")(hm:X.mg "range"=none)(ha:PA X [a,b] ta)(hs:starEach [a,b] X.env=[(false,eval a X.env),(false,eval b X.env)]:=by rfl)(hs2:starEach [b] X.env=[(false,eval b X.env)]:=by rfl) :
  PI X tg (.Call (.Name "range" p) [a,b] [] pos) (ahV ta):=by
 intro pins s σ H R I h;refine Call_ (vf I hg hm boot_range (PyProof.Rows.callWith_type1 (cJ (ha pos pins s σ H _ I h) fun us s1 ⟨vs,H1,I1,r1,q1⟩=>?_) (by rw[hs,hs2]) (by rw[hs2];rfl)));obtain⟨i,j,e,⟨q1,q2,q3,q4⟩,q⟩:=q1;subst e;cases r1 with
 |cons r rr =>
  cases rr with
  |cons r' rr =>
   cases rr;obtain⟨t,rfl⟩:=r;obtain⟨t',rfl⟩:=r';exact call_range_2 (Tu I1 q1 q2 q3 q4 q)
def akd (wi:TI)(g:TG)(tb:TS):TS:=fun D σ H=>wi σ H fun J H1=>∃ W:Nat->Nat->St->Hp->Prop,(∃ m,W 0 m σ H1)/\∀ i m σ H,W i m σ H ->
 (J.stop i H/\D.nx σ H)\/(J.go i H/\∃ N:St->Hp->Prop,(∀ σ' H',N σ' H'->∃ m',m'<m/\W (i+1) m' σ' H')/\∀ x H',J.yld i H x H'->g x σ H' fun σ2 H2=>tb { D with nx:=N,ct:=N,bk:=D.nx } σ2 H2)
def K9 (fp:List Addr)(h:Heap):List (Addr×Obj):=fp.filterMap fun b=>(h.get? b).map fun o=>(b,o)
theorem vg {fp:List Addr}{h:Heap}{b:Addr}{o:Obj}(hb:b∈fp)(e:h.get? b=some o):(b,o)∈K9 fp h:=List.mem_filterMap.mpr ⟨b,hb,by rw[e];rfl⟩
theorem Zy {fp:List Addr}{h:Heap}{p:Addr×Obj}(hp:p∈K9 fp h):p.1∈fp/\h.get? p.1=some p.2:=by
 obtain⟨b,hb,e⟩:=List.mem_filterMap.mp hp;cases q:h.get? b with
 |none=>rw[q]at e;cases e
 |some o =>
  rw[q]at e;have e':(b,o)=p:=Option.some.inj e;subst e';exact⟨hb,q⟩
theorem Inv.pinned {pins:List (Addr×Obj)}{σ:St}{H:Hp}{s:Shared}{fp:List Addr}(I:Inv X pins σ H s)(hf:∀ b∈fp,qB X pins H b)(ho:∀ b∈fp,∃ o,s.heap.get? b=some o/\∀ v,o.data≠.cell v):Inv X (pins++K9 fp s.heap) σ H s :=
 I.YD fun p hp=>(mem_append.mp hp).elim (fun z=>I.pin p (mem_append_right _ z)) fun z=>by
  obtain⟨hb,e⟩:=Zy z;obtain⟨f0,f1,f2,_⟩:=hf p.1 hb;obtain⟨o,e',d⟩:=ho p.1 hb;rw[e]at e';cases e';exact⟨e,f0,f1,f2,d⟩
theorem Inv.xN {pins pl:List (Addr×Obj)}{σ:St}{H:Hp}{s:Shared}(I:Inv X (pins++pl) σ H s):Inv X pins σ H s:=I.YD fun p hp=>I.pin p (mem_append_right _ (mem_append_left _ hp))
theorem ij {iter:Expr}{body:List Stmt}{wi:TI}{g:TG}{tb:TS}{pos:Pos}(hp:PassesOwn (model X.prog X.w) X.A X.env X.xe)(hc:X.calm=true)(hi:PI X tg iter wi)(hg:PG X tg g)(hb:KS X body tb)
  (hs:∀ x,foldedSetIterable iter X.env x=pure x:=by intro _;rfl):PS X (.For tg iter body [] pos) (akd wi g tb):=by
 intro pins s σ H D I h;refine wpAny_For (cJ (hi pins s σ H _ I h) fun v s1 h1=>cJ h1 fun itv s2 h2=>?_) hs;obtain⟨it,fp,tn,J,H2,e,I2,T,st2,f2,W,⟨m0,w0⟩,turn⟩:=h2;subst e;have stat:∀{H':Hp},(∀ b∈fp,H' b=none)->∀ b∈fp,qB X pins H' b:=fun hn b hb=>⟨hn b hb,(f2 b hb).2⟩;refine codeAny_forLoop_any (fun n s'=>∃ i σ' H',Inv X pins σ' H' s'/\tn i s'.heap/\(∀ b∈fp,H' b=none)/\W i n σ' H') ?_ m0 ⟨0,σ,H2,I2,st2,fun b hb=>(f2 b hb).1,w0⟩;rintro n s3 ⟨i,σ3,H3,I3,st3,fr3,w3⟩;rcases turn i n σ3 H3 w3 with ⟨stop,qn⟩|⟨go,N,hN,step⟩
 ·refine wpAny_passesOwn hp (cJ (T.done X rfl rfl rfl hc i pins s3 σ3 H3 X.xe I3 (stat fr3) st3 stop) fun r s4 ⟨hr,I4⟩=>?_);subst hr;exact wpAny_execs_nil ⟨σ3,H3,I4,qn⟩
 ·refine wpAny_passesOwn hp (cJ (T.item X rfl rfl rfl hc i pins s3 σ3 H3 X.xe I3 (stat fr3) st3 go) fun r s4 ⟨u,hr,h4⟩=>?_);subst hr;refine wpAny_passesOwn hp (cJ h4 fun _ s5 ⟨x,H5,I5,r5,y5,st5,fr5⟩=>?_);have I5':=I5.pinned (stat fr5) (T.obj _ _ st5);refine wpAny_passesOwn hp (cJ (hg _ s5 σ3 H5 x u _ I5' r5 (step x H5 y5)) fun _ s6 ⟨σ6,H6,I6,q6⟩=>?_);refine wpAny_passesOwn hp (cJ (hb _ s6 σ6 H6 _ I6 q6) fun f s7 q7=>?_);have again:∀{σ7:St} {H7:Hp},Inv X (pins++K9 fp s5.heap) σ7 H7 s7->N σ7 H7->∃ m,m<n/\∃ i σ' H',Inv X pins σ' H' s7/\tn i s7.heap/\(∀ b∈fp,H' b=none)/\W i m σ' H':=fun {σ7 H7} I7 n7=>by
   obtain⟨m',hm,w7⟩:=hN σ7 H7 n7;refine⟨m',hm,i+1,σ7,H7,I7.xN,T.keep _ _ _ st5 fun b hb o e=>(I7.pin (b,o) (mem_append_right _ (mem_append_right _ (vg hb e)))).1,fun b hb=>?_,w7⟩;obtain⟨o,e,d⟩:=T.obj _ _ st5 b hb;exact(I7.pin (b,o) (mem_append_right _ (mem_append_right _ (vg hb e)))).2.1
  cases f with
  |next=>obtain⟨σ7,H7,I7,n7⟩:=q7;exact again I7 n7
  |cont=>obtain⟨σ7,H7,I7,n7⟩:=q7;exact again I7 n7
  |brk=>obtain⟨σ7,H7,I7,q7⟩:=q7;exact⟨σ7,H7,I7.xN,q7⟩
  |ret v=>obtain⟨x7,σ7,H7,I7,r7,q7⟩:=q7;exact⟨x7,σ7,H7,I7.xN,r7,q7⟩
end
theorem lG {K:Frag}{a:Addr}{xs:List V}{g:TG}{tb:TS}{D:Ends}{σ:St}{H:Hp}(Pv:Nat->St->Hp->Prop)(h0:Pv 0 σ H)(hl:∀ i σ H,i<=xs.length->Pv i σ H->aZ K H a xs)
  (hs:∀ i x σ H,xs[i]? = some x->Pv i σ H->g x σ H fun σ2 H2=>tb { D with nx:=Pv (i+1),ct:=Pv (i+1),bk:=D.nx } σ2 H2) (hd:∀ σ H,Pv xs.length σ H->D.nx σ H) :
  ∃ W:Nat->Nat->St->Hp->Prop,(∃ m,W 0 m σ H)/\∀ i m σ H,W i m σ H ->
   ((Itl K a).stop i H/\D.nx σ H)\/((Itl K a).go i H/\∃ N:St->Hp->Prop,(∀ σ' H',N σ' H'->∃ m',m'<m/\W (i+1) m' σ' H')/\∀ x H',(Itl K a).yld i H x H'->g x σ H' fun σ2 H2=>tb { D with nx:=N,ct:=N,bk:=D.nx } σ2 H2):=by
 refine⟨fun i m σ H=>m=xs.length-i/\i<=xs.length/\Pv i σ H,⟨xs.length,by simp,Nat.zero_le _,h0⟩,?_⟩;rintro i m σ H ⟨rfl,hi,p⟩;have q:=hl i σ H hi p
 by_cases hlt:i<xs.length
 ·refine .inr ⟨⟨xs,xs[i],q,by simp[hlt]⟩,Pv (i+1),fun σ' H' p'=>⟨xs.length-(i+1),by omega,rfl,hlt,p'⟩,fun x H' y=>?_⟩;obtain⟨e,y⟩:=y;subst e;exact hs i x σ _ (y xs q) p
 ·have e:i=xs.length:=by omega
  subst e;exact .inl ⟨⟨xs,q,Nat.le_refl _⟩,hd σ H p⟩
theorem qj {lo:Int}{n:Nat}{g:TG}{tb:TS}{D:Ends}{σ:St}{H:Hp}(Pv:Nat->St->Hp->Prop)(h0:Pv 0 σ H)
  (hs:∀ i σ H,i<n->Pv i σ H->g (.int (lo+i)) σ H fun σ2 H2=>tb { D with nx:=Pv (i+1),ct:=Pv (i+1),bk:=D.nx } σ2 H2) (hd:∀ σ H,Pv n σ H->D.nx σ H) :
  ∃ W:Nat->Nat->St->Hp->Prop,(∃ m,W 0 m σ H)/\∀ i m σ H,W i m σ H ->
   ((Itr lo n).stop i H/\D.nx σ H)\/((Itr lo n).go i H/\∃ N:St->Hp->Prop,(∀ σ' H',N σ' H'->∃ m',m'<m/\W (i+1) m' σ' H')/\∀ x H',(Itr lo n).yld i H x H'->g x σ H' fun σ2 H2=>tb { D with nx:=N,ct:=N,bk:=D.nx } σ2 H2):=by
 refine⟨fun i m σ H=>m=n-i/\i<=n/\Pv i σ H,⟨n,by simp,Nat.zero_le _,h0⟩,?_⟩;rintro i m σ H ⟨rfl,hi,p⟩
 by_cases hlt:i<n
 ·refine .inr ⟨hlt,Pv (i+1),fun σ' H' p'=>⟨n-(i+1),by omega,rfl,hlt,p'⟩,fun x H' y=>?_⟩;obtain⟨e,y⟩:=y;subst e y;exact hs i σ _ hlt p
 ·have e:i=n:=by omega
  subst e;exact .inl ⟨Nat.le_refl _,hd σ H p⟩
end L2
namespace L2
open PySem PySem.Spec PyProof.Rows
abbrev R2:=V->V->Hp->VK->Prop
def uq (X:Cx)(f:Value->Value->Sem Value)(r:R2):Prop :=
 ∀(pins:List (Addr×Obj)) (s:Shared) (σ:St) (H:Hp) (x y:V) (v u:Value) (Q:VK),Inv X pins σ H s->RelV x v->RelV y u->r x y H Q ->
  wpAny (model X.prog X.w) X.A (f v u) (EP X pins σ Q) X.xe s
def UnR (X:Cx)(f:Value->Sem Value)(r:V->Hp->VK->Prop):Prop :=
 ∀(pins:List (Addr×Obj)) (s:Shared) (σ:St) (H:Hp) (x:V) (v:Value) (Q:VK),Inv X pins σ H s->RelV x v->r x H Q ->
  wpAny (model X.prog X.w) X.A (f v) (EP X pins σ Q) X.xe s
def pW (X:Cx)(f:Value)(r:List V->Hp->VK->Prop):Prop :=
 ∀(pins:List (Addr×Obj)) (s:Shared) (σ:St) (H:Hp) (xs:List V) (us:List Value) (Q:VK),Inv X pins σ H s->Vals xs us->r xs H Q ->
  wpAny (model X.prog X.w) X.A (call f us) (EP X pins σ Q) X.xe s
def tOp (r:R2)(ta tb:TE):TE:=fun σ H Q=>ta σ H fun x H1=>tb σ H1 fun y H2=>r x y H2 Q
def tUn (r:V->Hp->VK->Prop)(ta:TE):TE:=fun σ H Q=>ta σ H fun x H1=>r x H1 Q
inductive rII (C:Int->Int->Prop)(g:Int->Int->V)(x:V)(y:V)(H:Hp)(Q:VK):Prop
 |mk (i:_) (j:_) (gw:x=.int i) (gx:y=.int j) (iW:C i j/\Q (g i j) H):rII C g x y H Q
def rI (C:Int->Int->Prop)(g:Int->Int->V):R2:=fun x y H Q=>rII C g x y H Q
inductive ahW (g:Int->Int->V)(x:V)(y:V)(H:Hp)(Q:VK):Prop
 |mk (i:_) (j:_) (gw:x=.int i) (gx:y=.int j) (iW:Q (g i j) H):ahW g x y H Q
def rI0 (g:Int->Int->V):R2:=fun x y H Q=>ahW g x y H Q
def rU (g:Int->V):V->Hp->VK->Prop:=fun x H Q=>∃ i,x=.int i/\Q (g i) H
section
variable {X:Cx} {a b c:Expr} {ta tb tc:TE} {pos:Pos}
theorem af4 (ha:PE X a ta)(hb:PE X b tb){pins:List (Addr×Obj)}{s:Shared}{σ:St}{H:Hp}{R:V->V->Hp->Prop}(I:Inv X pins σ H s)
  (h:ta σ H fun x H1=>tb σ H1 fun y H2=>R x y H2) {Q:Value->Shared->Prop} {f:Value->Value->Sem Value}
  (hf:∀ v u s2 x y H2,Inv X pins σ H2 s2->RelV x v->RelV y u->R x y H2->wpAny (model X.prog X.w) X.A (f v u) Q X.xe s2) :
  wpAny (model X.prog X.w) X.A (eval a X.env) (fun v s₁=>wpAny (model X.prog X.w) X.A (eval b X.env) (fun u s₂=>wpAny (model X.prog X.w) X.A (f v u) Q X.xe s₂) X.xe s₁) X.xe s:=by
 refine cJ (ha pins s σ H _ I h) fun v s1 ⟨x,H1,I1,r1,q1⟩=>?_;refine cJ (hb pins s1 σ H1 _ I1 q1) fun u s2 ⟨y,H2,I2,r2,q2⟩=>?_;exact hf v u s2 x y H2 I2 r1 r2 q2
theorem aR {op:Operator}{r:R2}(ho:uq X (binaryOp op) r)(ha:PE X a ta)(hb:PE X b tb):PE X (.BinOp a op b pos) (tOp r ta tb):=by
 intro pins s σ H Q I h;exact wpAny_BinOp (af4 ha hb I h fun v u s2 x y H2 I2 rx ry q=>ho pins s2 σ H2 x y v u Q I2 rx ry q)
theorem YG {op:UnaryOp}{r:V->Hp->VK->Prop}(ho:UnR X (unaryOp op) r)(ha:PE X a ta):PE X (.UnaryOp op a pos) (tUn r ta):=by
 intro pins s σ H Q I h;exact UnaryOp_ (cJ (ha pins s σ H _ I h) fun v s1 ⟨x,H1,I1,r1,q1⟩=>ho pins s1 σ H1 x v Q I1 r1 q1)
theorem opI {f:Value->Value->Sem Value}{C:Int->Int->Prop}{g:Int->Int->Int}
  (rule:∀(i j:Int)(t u:Tok)(s:Shared)(Q:Value->Shared->Prop)(E:Value->Shared->Prop),C i j->Q (.int (g i j) s.toks) { s with toks:=s.toks+1 }->wpAny (model X.prog X.w) X.A (f (.int i t) (.int j u)) Q E s) :
  uq X f (rI C fun i j=>.int (g i j)):=by
 intro pins s σ H x y v u Q I rx ry h;obtain⟨i,j,rfl,rfl,hc,q⟩:=h;obtain⟨t,rfl⟩:=rx;obtain⟨t',rfl⟩:=ry;exact rule i j t t' s _ _ hc ⟨.int (g i j),H,I.tok _,⟨_,rfl⟩,q⟩
theorem ahX {f:Value->Value->Sem Value}{g:Int->Int->Int}
  (rule:∀(i j:Int)(t u:Tok)(s:Shared)(Q:Value->Shared->Prop)(E:Value->Shared->Prop),Q (.int (g i j) s.toks) { s with toks:=s.toks+1 }->wpAny (model X.prog X.w) X.A (f (.int i t) (.int j u)) Q E s) :
  uq X f (rI0 fun i j=>.int (g i j)):=by
 intro pins s σ H x y v u Q I rx ry h;obtain⟨i,j,rfl,rfl,q⟩:=h;obtain⟨t,rfl⟩:=rx;obtain⟨t',rfl⟩:=ry;exact rule i j t t' s _ _ ⟨.int (g i j),H,I.tok _,⟨_,rfl⟩,q⟩
theorem adH {f:Value->Value->Sem Value}{g:Int->Int->Bool}
  (rule:∀(i j:Int)(t u:Tok)(s:Shared)(Q:Value->Shared->Prop)(E:Value->Shared->Prop),Q (.bool (g i j)) s->wpAny (model X.prog X.w) X.A (f (.int i t) (.int j u)) Q E s) :
  uq X f (rI0 fun i j=>.bl (g i j)):=by
 intro pins s σ H x y v u Q I rx ry h;obtain⟨i,j,rfl,rfl,q⟩:=h;obtain⟨t,rfl⟩:=rx;obtain⟨t',rfl⟩:=ry;exact rule i j t t' s _ _ ⟨.bl (g i j),H,I,rfl,q⟩
def akh (i j:Int):Prop:=0<j/\j<1073741824
def aki (i j:Int):Prop:=0<=j/\j<=1000000/\i.natAbs<2 ^ 64
def af5 (i j:Int):Prop:=(-(2 ^ 64)<i/\i<2 ^ 64)\/(-(2 ^ 64)<j/\j<2 ^ 64)
theorem af5.ok {i j:Int}(h:af5 i j):IntMulOk i j:=by
 rcases h with ⟨h1,h2⟩|⟨h1,h2⟩
 ·exact .of_left (intBits_le_64 h1 h2)
 ·exact .of_right (intBits_le_64 h1 h2)
theorem bW:uq X (binaryOp .Add) (rI0 fun i j=>.int (i+j)):=ahX fun _ _ _ _ _ _ _ q=>add_int q
theorem js:uq X (binaryOp .Sub) (rI0 fun i j=>.int (i-j)):=ahX fun _ _ _ _ _ _ _ q=>sub_int q
theorem vh:uq X (binaryOp .Mult) (rI af5 fun i j=>.int (i * j)):=opI fun _ _ _ _ _ _ _ hc q=>mul_int q hc.ok
theorem KU:uq X (binaryOp .FloorDiv) (rI akh fun i j=>.int (i / j)):=opI fun i j _ _ _ _ _ hc q=>by
 have h1:(0:Int)<j:=hc.1;have h2:j<1073741824:=hc.2;exact floordiv_int (by omega) (by rw[Int.fdiv_eq_ediv_of_nonneg i (by omega)];exact q) (.inl (PyProof.noPylong_small (by omega)))
theorem j6:uq X (binaryOp .Mod) (rI (fun _ j=>0<j) fun i j=>.int (i % j)):=opI fun i j _ _ _ _ _ hc q=>by
 have h1:(0:Int)<j:=hc;exact mod_int' (by omega) (by rw[Int.fmod_eq_emod_of_nonneg i (by omega)];exact q)
theorem af6:uq X (binaryOp .Pow) (rI aki fun i j=>.int (i ^ j.toNat)):=opI fun _ _ _ _ _ _ _ hc q=>pow_int_small hc.1 hc.2.1 hc.2.2 q
theorem unI {f:Value->Sem Value}{g:Int->Int}
  (rule:∀(i:Int)(t:Tok)(s:Shared)(Q:Value->Shared->Prop)(E:Value->Shared->Prop),Q (.int (g i) s.toks) { s with toks:=s.toks+1 }->wpAny (model X.prog X.w) X.A (f (.int i t)) Q E s) :
  UnR X f (rU fun i=>.int (g i)):=by
 intro pins s σ H x v Q I rx h;obtain⟨i,rfl,q⟩:=h;obtain⟨t,rfl⟩:=rx;exact rule i t s _ _ ⟨.int (g i),H,I.tok _,⟨_,rfl⟩,q⟩
theorem PQ:UnR X (unaryOp .USub) (rU fun i=>.int (-i)):=unI fun _ _ _ _ _ q=>neg_int q
end
def ahY:V->V->Bool
 |.non,.non=>true|.non,.int _=>true|.int _,.non=>true|.non,.bl _=>true|.bl _,.non=>true|.non,.str _=>true|.str _,.non=>true
 |.int _,.int _=>true|.bl _,.bl _=>true|.str _,.str _=>true|.byt _,.byt _=>true
 |.int _,.str _=>true|.str _,.int _=>true|.bl _,.str _=>true|.str _,.bl _=>true
 |_,_=>false
def rEq:R2:=fun x y H Q=>ahY x y=true/\Q (.bl (decide (x=y))) H
def rNe:R2:=fun x y H Q=>ahY x y=true/\Q (.bl (!decide (x=y))) H
theorem YH {i j:Int}:decide (V.int i=V.int j)=(i==j):=by
 rw[Bool.eq_iff_iff];simp
theorem abn {i j:Bool}:decide (V.bl i=V.bl j)=(i==j):=by
 rw[Bool.eq_iff_iff];simp
theorem YI {i j:Str}:decide (V.str i=V.str j)=(i==j):=by
 rw[Bool.eq_iff_iff];simp
theorem YJ {i j:Array UInt8}:decide (V.byt i=V.byt j)=(i.toList==j.toList):=by
 rw[Bool.eq_iff_iff];cases i;cases j;simp
section
variable {X:Cx} {a b c:Expr} {ta tb tc:TE} {pos:Pos}
theorem cj {pins:List (Addr×Obj)}{σ:St}{H:Hp}{s:Shared}{Q:VK}{k k':Bool}(I:Inv X pins σ H s)(q:Q (.bl k) H)(e:k=k'):EP X pins σ Q (.bool k') s:=by
 subst e;exact⟨.bl k,H,I,rfl,q⟩
theorem bH:uq X (compareOp .Eq) rEq:=by
 intro pins s σ H x y v u Q I rx ry h;obtain⟨hs,q⟩:=h;cases x with
 |non =>
  cases rx;cases y with
  |non=>cases ry;exact PySem.EqNone.eq_none_none (cj I q (by simp))
  |bl j=>cases ry;exact PySem.EqNone.eq_none_bool (cj I q (by simp))
  |int j=>obtain⟨t',rfl⟩:=ry;exact PySem.EqNone.eq_none_int (cj I q (by simp))
  |str j=>obtain⟨t',rfl⟩:=ry;exact PySem.EqNone.eq_none_str (cj I q (by simp))
  |_=>exact absurd (show false=true from hs) Bool.false_ne_true
 |bl i =>
  cases rx;cases y with
  |non=>cases ry;exact PySem.EqNone.eq_bool_none (cj I q (by simp))
  |bl j=>cases ry;exact eq_bool (cj I q abn)
  |str j=>obtain⟨t',rfl⟩:=ry;exact PySem.EqMixed.eq_bool_str (cj I q (by simp))
  |_=>exact absurd (show false=true from hs) Bool.false_ne_true
 |int i =>
  obtain⟨t,rfl⟩:=rx;cases y with
  |non=>cases ry;exact PySem.EqNone.eq_int_none (cj I q (by simp))
  |int j=>obtain⟨t',rfl⟩:=ry;exact eq_int (cj I q YH)
  |str j=>obtain⟨t',rfl⟩:=ry;exact PySem.EqMixed.eq_int_str (cj I q (by simp))
  |_=>exact absurd (show false=true from hs) Bool.false_ne_true
 |str i =>
  obtain⟨t,rfl⟩:=rx;cases y with
  |non=>cases ry;exact PySem.EqNone.eq_str_none (cj I q (by simp))
  |bl j=>cases ry;exact PySem.EqMixed.eq_str_bool (cj I q (by simp))
  |int j=>obtain⟨t',rfl⟩:=ry;exact PySem.EqMixed.eq_str_int (cj I q (by simp))
  |str j=>obtain⟨t',rfl⟩:=ry;exact eq_str (cj I q YI)
  |_=>exact absurd (show false=true from hs) Bool.false_ne_true
 |byt i =>
  obtain⟨t,rfl⟩:=rx;cases y with
  |byt j=>obtain⟨t',rfl⟩:=ry;exact PySem.W.eq_bytes (cj I q YJ)
  |_=>exact absurd (show false=true from hs) Bool.false_ne_true
 |_=>cases y <;> exact absurd (show false=true from hs) Bool.false_ne_true
theorem lH:uq X (compareOp .NotEq) rNe:=by
 intro pins s σ H x y v u Q I rx ry h;obtain⟨hs,q⟩:=h;cases x with
 |non =>
  cases rx;cases y with
  |non=>cases ry;exact PySem.EqNone.ne_none_none (cj I q (by simp))
  |bl j=>cases ry;exact PySem.EqNone.ne_none_bool (cj I q (by simp))
  |int j=>obtain⟨t',rfl⟩:=ry;exact PySem.EqNone.ne_none_int (cj I q (by simp))
  |str j=>obtain⟨t',rfl⟩:=ry;exact PySem.EqNone.ne_none_str (cj I q (by simp))
  |_=>exact absurd (show false=true from hs) Bool.false_ne_true
 |bl i =>
  cases rx;cases y with
  |non=>cases ry;exact PySem.EqNone.ne_bool_none (cj I q (by simp))
  |bl j=>cases ry;exact ne_bool (cj I q (congrArg not abn))
  |str j=>obtain⟨t',rfl⟩:=ry;exact PySem.EqMixed.ne_bool_str (cj I q (by simp))
  |_=>exact absurd (show false=true from hs) Bool.false_ne_true
 |int i =>
  obtain⟨t,rfl⟩:=rx;cases y with
  |non=>cases ry;exact PySem.EqNone.ne_int_none (cj I q (by simp))
  |int j=>obtain⟨t',rfl⟩:=ry;exact ne_int (cj I q (congrArg not YH))
  |str j=>obtain⟨t',rfl⟩:=ry;exact PySem.EqMixed.ne_int_str (cj I q (by simp))
  |_=>exact absurd (show false=true from hs) Bool.false_ne_true
 |str i =>
  obtain⟨t,rfl⟩:=rx;cases y with
  |non=>cases ry;exact PySem.EqNone.ne_str_none (cj I q (by simp))
  |bl j=>cases ry;exact PySem.EqMixed.ne_str_bool (cj I q (by simp))
  |int j=>obtain⟨t',rfl⟩:=ry;exact PySem.EqMixed.ne_str_int (cj I q (by simp))
  |str j=>obtain⟨t',rfl⟩:=ry;exact ne_str (cj I q (congrArg not YI))
  |_=>exact absurd (show false=true from hs) Bool.false_ne_true
 |byt i =>
  obtain⟨t,rfl⟩:=rx;cases y with
  |byt j=>obtain⟨t',rfl⟩:=ry;exact PySem.W.ne_bytes (cj I q (congrArg not YJ))
  |_=>exact absurd (show false=true from hs) Bool.false_ne_true
 |_=>cases y <;> exact absurd (show false=true from hs) Bool.false_ne_true
theorem DJ:uq X (compareOp .Lt) (rI0 fun i j=>.bl (decide (i<j))):=adH fun _ _ _ _ _ _ _ q=>lt_int q
theorem xO:uq X (compareOp .LtE) (rI0 fun i j=>.bl (decide (i<=j))):=adH fun _ _ _ _ _ _ _ q=>le_int q
theorem Tv:uq X (compareOp .Gt) (rI0 fun i j=>.bl (decide (j<i))):=adH fun _ _ _ _ _ _ _ q=>gt_int q
theorem ae8:uq X (compareOp .GtE) (rI0 fun i j=>.bl (decide (j<=i))):=adH fun _ _ _ _ _ _ _ q=>ge_int q
theorem cU:uq X (compareOp .In) (fun x y H Q=>∃ i j,x=.str i/\y=.str j/\Q (.bl (!(Builtin.Str.occurrences j i 0 j.length 1).isEmpty)) H):=by
 intro pins s σ H x y v u Q I rx ry h;obtain⟨i,j,rfl,rfl,q⟩:=h;obtain⟨t,rfl⟩:=rx;obtain⟨t',rfl⟩:=ry;exact in_str (cj I q rfl)
theorem VG:uq X (compareOp .Is) (fun x y H Q=>y=.non/\Q (.bl (decide (x=.non))) H):=by
 intro pins s σ H x y v u Q I rx ry h;obtain⟨rfl,q⟩:=h;cases ry;refine is_none_gen (cj I q ?_);cases x <;> first
  |(cases rx;rfl)
  |(obtain⟨t,rfl⟩:=rx;rfl)
theorem YK:uq X (compareOp .IsNot) (fun x y H Q=>y=.non/\Q (.bl (!decide (x=.non))) H):=by
 intro pins s σ H x y v u Q I rx ry h;obtain⟨rfl,q⟩:=h;cases ry;refine isnot_none_gen (cj I q ?_);cases x <;> first
  |(cases rx;rfl)
  |(obtain⟨t,rfl⟩:=rx;rfl)
theorem uq.or {f:Value->Value->Sem Value}{r r':R2}(h:uq X f r)(h':uq X f r'):uq X f (fun x y H Q=>r x y H Q\/r' x y H Q):=by
 intro pins s σ H x y v u Q I rx ry q;rcases q with q|q
 ·exact h pins s σ H x y v u Q I rx ry q
 ·exact h' pins s σ H x y v u Q I rx ry q
theorem ay (b:Expr){op:CmpOp}(h:op≠.In:=by decide)(h2:op≠.NotIn:=by decide):behindInMarks op b=false:=by
 have e1:(op==CmpOp.In)=false:=by cases op <;> first|rfl|exact absurd rfl h
 have e2:(op==CmpOp.NotIn)=false:=by cases op <;> first|rfl|exact absurd rfl h2
 cases b <;> simp[behindInMarks,e1,e2]
theorem bS {op:CmpOp}{r:R2}(ho:uq X (compareOp op) r)(ha:PE X a ta)(hb:PE X b tb)(hm:behindInMarks op b=false):PE X (.Compare a [op] [b] pos) (tOp r ta tb):=by
 intro pins s σ H Q I h;exact wpAny_Compare1 (af4 ha hb I h fun v u s2 x y H2 I2 rx ry q=>ho pins s2 σ H2 x y v u Q I2 rx ry q) hm
inductive abo (Q:(Bool->Hp->Prop))(x:V)(H':Hp):Prop
 |mk (k:_) (gw:x=.bl k) (gx:Q k H'):abo Q x H'
def ae9 (t:TE):TT:=fun σ H Q=>t σ H fun x H'=>abo Q x H'
theorem au {op:CmpOp}{r:R2}(ho:uq X (compareOp op) r)(ha:PE X a ta)(hb:PE X b tb)(hm:behindInMarks op b=false):PT X (.Compare a [op] [b] pos) (ae9 (tOp r ta tb)):=by
 intro pins s σ H Q I h;refine wpAny_isTrue_Compare1 (cJ (ha pins s σ H _ I h) fun v s1 ⟨x,H1,I1,r1,q1⟩=>cJ (hb pins s1 σ H1 _ I1 q1) fun u s2 ⟨y,H2,I2,r2,q2⟩ =>
  cJ (ho pins s2 σ H2 x y v u _ I2 r1 r2 q2) fun c s3 ⟨z,H3,I3,r3,k,e,q3⟩=>?_) hm
 subst e;cases r3;exact wpAny_truthy_bool ⟨H3,I3,q3⟩
def abp (r r':R2)(ta tb tc:TE):TE:=fun σ H Q=>ta σ H fun x H1=>tb σ H1 fun y H2=>r x y H2 fun z H3=>∃ k,z=.bl k /\
 (if k=true then tc σ H3 fun w' H4=>r' y w' H4 Q else Q (.bl false) H3)
theorem Tw {op op':CmpOp}{r r':R2}(ho:uq X (compareOp op) r)(ho':uq X (compareOp op') r')(ha:PE X a ta)(hb:PE X b tb)(hc:PE X c tc)
  (hm:lastMarks [op,op'] [b,c]=false:=by with_unfolding_all rfl):PE X (.Compare a [op,op'] [b,c] pos) (abp r r' ta tb tc):=by
 intro pins s σ H Q I h;refine Compare_chain (cJ (ha pins s σ H _ I h) fun v s1 ⟨x,H1,I1,r1,q1⟩=>chain_link (cJ (hb pins s1 σ H1 _ I1 q1) fun u s2 ⟨y,H2,I2,r2,q2⟩ =>
  cJ (ho pins s2 σ H2 x y v u _ I2 r1 r2 q2) fun d s3 ⟨z,H3,I3,r3,k,e,q3⟩=>?_)) hm
 subst e;cases r3;refine wpAny_truthy_bool ?_;cases k with
 |false=>exact ite_ff ⟨.bl false,H3,I3,rfl,q3⟩
 |true=>exact ite_tt (chain_last (cJ (hc pins s3 σ H3 _ I3 q3) fun w' s4 ⟨z',H4,I4,r4,q4⟩=>ho' pins s4 σ H4 y z' u w' Q I4 r2 r4 q4))
theorem DK {op op':CmpOp}{r r':R2}(ho:uq X (compareOp op) r)(ho':uq X (compareOp op') r')(ha:PE X a ta)(hb:PE X b tb)(hc:PE X c tc)
  (hm:lastMarks [op,op'] [b,c]=false:=by with_unfolding_all rfl):PT X (.Compare a [op,op'] [b,c] pos) (ae9 (abp r r' ta tb tc)):=by
 intro pins s σ H Q I h;refine isTrue_chain (cJ (ha pins s σ H _ I h) fun v s1 ⟨x,H1,I1,r1,q1⟩=>test_link (cJ (hb pins s1 σ H1 _ I1 q1) fun u s2 ⟨y,H2,I2,r2,q2⟩ =>
  cJ (ho pins s2 σ H2 x y v u _ I2 r1 r2 q2) fun d s3 ⟨z,H3,I3,r3,k,e,q3⟩=>?_)) hm
 subst e;cases r3;refine wpAny_truthy_bool ?_;cases k with
 |false =>
  obtain⟨k',e',q'⟩:=q3;cases e';exact ite_ff ⟨H3,I3,q'⟩
 |true =>
  refine ite_tt (test_last (cJ (hc pins s3 σ H3 _ I3 q3) fun w' s4 ⟨z',H4,I4,r4,q4⟩=>cJ (ho' pins s4 σ H4 y z' u w' _ I4 r2 r4 q4) fun d' s5 ⟨z2,H5,I5,r5,k2,e2,q5⟩=>?_));subst e2;cases r5;exact wpAny_truthy_bool ⟨H5,I5,q5⟩
theorem Gd:(sizeLine:Nat)<2 ^ 63:=by rw[sizeLine_eq];decide
theorem aJ:uq X (binaryOp .Add) (fun x y H Q=>∃ i j,x=.str i/\y=.str j/\i.length+j.length<=sizeLine/\Q (.str (i++j)) H):=by
 intro pins s σ H x y v u Q I rx ry h;obtain⟨i,j,rfl,rfl,hz,q⟩:=h;obtain⟨t,rfl⟩:=rx;obtain⟨t',rfl⟩:=ry;exact add_str (fun t' tk=>⟨.str (i++j),H,I.tok _,⟨_,rfl⟩,q⟩) hz
theorem vals1 {x:V}{us:List Value}(r:Vals [x] us):∃ u,us=[u]/\RelV x u:=by
 cases r with
 |cons r1 r2=>cases r2;exact⟨_,rfl,r1⟩
theorem vals2 {x y:V}{us:List Value}(r:Vals [x,y] us):∃ u w',us=[u,w']/\RelV x u/\RelV y w':=by
 cases r with
 |cons r1 r2 =>
  cases r2 with
  |cons r3 r4=>cases r4;exact⟨_,_,rfl,r1,r3⟩
theorem Zz (hc:X.calm=true):pW X (.builtin "max") (fun xs H Q=>∃ i j,xs=[.int i,.int j]/\Q (.int (if j > i then j else i)) H):=by
 intro pins s σ H xs us Q I r h;obtain⟨i,j,rfl,q⟩:=h;obtain⟨u,w',rfl,⟨t,rfl⟩,⟨t',rfl⟩⟩:=vals2 r;refine max_two_ints (I.ok.hd hc) fun h' tk k=>⟨_,H,I.kept k,?_,q⟩
 by_cases hj:j > i
 ·rw[if_pos hj,if_pos hj];exact⟨_,rfl⟩
 ·rw[if_neg hj,if_neg hj];exact⟨_,rfl⟩
theorem ZA (hc:X.calm=true):pW X (.builtin "min") (fun xs H Q=>∃ i j,xs=[.int i,.int j]/\Q (.int (if j<i then j else i)) H):=by
 intro pins s σ H xs us Q I r h;obtain⟨i,j,rfl,q⟩:=h;obtain⟨u,w',rfl,⟨t,rfl⟩,⟨t',rfl⟩⟩:=vals2 r;refine min_two_ints (I.ok.hd hc) fun h' tk k=>⟨_,H,I.kept k,?_,q⟩
 by_cases hj:j<i
 ·rw[if_pos hj,if_pos hj];exact⟨_,rfl⟩
 ·rw[if_neg hj,if_neg hj];exact⟨_,rfl⟩
theorem ng:pW X (.type "int") (fun xs H Q=>(∃ i,xs=[.int i]/\Q (.int i) H)\/∃ k,xs=[.bl k]/\Q (.int (if k then 1 else 0)) H):=by
 intro pins s σ H xs us Q I r h;rcases h with ⟨i,rfl,q⟩|⟨k,rfl,q⟩
 ·obtain⟨u,rfl,t,rfl⟩:=vals1 r;exact call_int_int ⟨.int i,H,I,⟨_,rfl⟩,q⟩
 ·obtain⟨u,rfl,r1⟩:=vals1 r;cases r1;exact call_int_bool ⟨.int (if k then 1 else 0),H,I.tok _,⟨_,rfl⟩,q⟩
end
end L2
namespace L2
open PySem PySem.Spec PyProof.Rows
structure VH (h:Heap)(x dx C:Addr)(mA:Str->Option Value):Prop where
 obj:h.get? x=some (instObj C dx)
 ns:h.Ns1 dx mA
 ne:dx≠x
theorem ZC {h:Heap}{dx:Addr}{mA:Str->Option Value}(n:h.Ns1 dx mA):∃ od,h.get? dx=some od/\∀ name,lookIn name od=some (mA name):=by
 obtain⟨o,es,ep,ho,hd,hk,_,hm⟩:=n;refine⟨o,ho,fun name=>?_⟩;have e:=hm name;unfold nsFind findBy at e;rw[<-Array.find?_toList]at e;unfold lookIn;rw[hd];dsimp only;split
 ·rename_i y q
  rw[q]at e;exact congrArg some e
 ·rename_i q
  rw[q]at e;have a:es.toList.any (·.refKey)=false:=by
   rw[List.any_eq_false];intro y hy;obtain⟨z,t,hkey⟩:=hk y (Array.mem_toList_iff.mp hy);simp[DictEntry.refKey,hkey]
  have a':¬ es.toList.any (·.refKey)=true:=by rw[a];exact Bool.false_ne_true
  rw[if_neg a'];exact congrArg some e
theorem VH.look {h:Heap}{x dx C:Addr}{mA:Str->Option Value}(I:VH h x dx C mA):∃ od,PySem.W.InstAt h x (instObj C dx) C (some od)/\∀ name,lookIn name od=some (mA name) :=
 let ⟨od,ho,hl⟩:=ZC I.ns
 ⟨od,⟨I.obj,rfl,rfl,ho⟩,hl⟩
section
variable {prog:Program} {w:World} {A:Around} {E:Value->Shared->Prop} {s:Shared} {K:Frag} {x dx C f:Addr} {mA:Str->Option Value} {name:Str} {v:Value}
theorem get_map {expr:Bool}{Q:Value->Shared->Prop}(X:K.In s.heap)(I:VH s.heap x dx C mA)(hg:plainGet K C name=true)(hh:hasDictIn K C=true)
  (ha:findIn K (.ref C) name=some none) (hv:mA name=some v) (hv':handedIn v=true) (h:Q v { s with toks:=s.toks+1 }) :
  wpAny (model prog w) A (getAttr (.ref x) name expr) Q E s:=by
 obtain⟨od,J,hl⟩:=I.look;exact PySem.W.get_value X J (plainGet_of hg).1 (PySem.W.findObj_own hh ha rfl (by rw[hl,hv])) hv' h
theorem abq {pl:Sem Bool}{Q:Value×List Value->Shared->Prop}(X:K.In s.heap)(I:VH s.heap x dx C mA)(hg:plainGet K C name=true)
  (hf:findIn K (.ref C) name=some (some (.ref f))) (ht:isFn K (.ref f)=true) (hv:mA name=none) (h:Q (.ref f,[.ref x]) s) :
  wpAny (model prog w) A (getMethod (.ref x) name pl) Q E s:=by
 obtain⟨od,J,hl⟩:=I.look;exact PySem.W.method_fn X J (plainGet_of hg).1 (plainGet_of hg).2 hf (beq_iff_eq.mp ht) (by show(lookIn name od).map (·.isSome)=some false;rw[hl,hv];rfl) h
theorem oB {ns:List Str}{Q:Unit->Shared->Prop}(X:K.In s.heap)(I:VH s.heap x dx C mA)
  (hs:findIn K (.ref C) "__setattr__"=some (some (.builtin "object.__setattr__"))) (hp:plainOver K C=true) (ht:takerIn K C name=some none) (hh:hasDictIn K C=true)
  (hw:PySem.Within mA ns) (hsz:ns.length<=sizeLine)
  (h:∀ h',VH h' x dx C (fun y=>if y=name then some v else mA y)->Heap.SameBut dx s.heap h'->Q () { s with heap:=h',toks:=s.toks+2 }) :
  wpAny (model prog w) A (setAttr (.ref x) name v) Q E s:=by
 obtain⟨od,J,hl⟩:=I.look;refine PySem.W.set_plain X J hs (PySem.W.osa_open (s:={ s with toks:=s.toks+1 }) (r:=none) X J hp ht fun b=>?_);obtain⟨cd,hc,hd'⟩:=PySem.W.any_some hh;have hx:s.heap.get? x=some ⟨.ref C,some dx,.plain,#[]⟩:=I.obj;refine wpAny_bind (wpAny_pure (wpAny_bind (wpAny_bind (wpAny_loadPart hx (wpAny_bind (PySem.W.Looks.here (s:={ s with toks:=s.toks+1 }) (PySem.W.looks_clsIn X hc) ?_))))));rw[hd'];refine wpAny_pure (a:=some dx) (wpAny_bind (wpAny_pure (wpAny_bind ?_)));refine wpAny_nsSet1 (s:={ s with toks:=s.toks+1 }) I.ns fun h' hn2 hs2=>?_;obtain⟨oD,esD,epD,hoD,hdD,hcD⟩:=hn2.count (PySem.Within.cons name v hw);refine wpAny_bind (wpAny_lookBehind hoD (by rw[hdD];exact pastItsLine_dict (Nat.le_trans hcD (by rw[length_cons];omega))) ?_);exact wpAny_pure (h _ ⟨(hs2.2 _ (Ne.symm I.ne)).trans I.obj,hn2,I.ne⟩ hs2)
theorem abr {R:Result->Shared->Prop}{vs:List Value}{kw:List (Str×Value)}(X:K.In s.heap)(hm:makesIn K C=true)
  (hi:findIn K (.ref C) "__init__"=some (some (.ref f))) (hf:PySem.W.typeIn K (.ref f)=some (.type "function"))
  (h:codeAny (model prog w) (A.under (.builtin "type.__call__" ⟨.ref C::vs,kw⟩)) (.call (.ref f) ⟨.ref (s.heap.objs.size+1)::vs,kw⟩) (PySem.W.InitBack (s.heap.objs.size+1) R)
   { s with heap:=(s.heap.push emptyDict).push (instObj C s.heap.objs.size) }) :
  codeAny (model prog w) A (.call (.ref C) ⟨vs,kw⟩) R s:=by
 obtain⟨hh,g,d,t,os⟩:=s;exact PySem.W.make_core (PySem.W.makes_of X hm) (PySem.W.looks_findIn X hi) (fun self=>PySem.W.bind_fn X self hf) (.inl rfl) h
end
def mX (f:Str)(v:V):List (Str×V)->List (Str×V)
 |[]=>[(f,v)]
 |(g,x)::r=>if g=f then(g,v)::r else(g,x)::mX f v r
theorem Ju (f g:Str)(v:V):∀ fs:List (Str×V),(mX f v fs).lookup g=if g=f then some v else fs.lookup g
 |[]=>by
  show List.lookup g [(f,v)]=_
  by_cases h:g=f
  ·have hb:(g==f)=true:=beq_iff_eq.mpr h;simp only [List.lookup,hb,if_pos h]
  ·have hb:(g==f)=false:=beq_eq_false_iff_ne.mpr h;simp only [List.lookup,hb,if_neg h]
 |(k,x)::r=>by
  have ih:=Ju f g v r;rw[show mX f v ((k,x)::r)=(if k=f then(k,v)::r else(k,x)::mX f v r) from rfl]
  by_cases hk:k=f
  ·rw[if_pos hk]
   by_cases h:g=k
   ·have hb:(g==k)=true:=beq_iff_eq.mpr h;simp only [List.lookup,hb,if_pos (h.trans hk)]
   ·have hb:(g==k)=false:=beq_eq_false_iff_ne.mpr h;simp only [List.lookup,hb,if_neg (fun e:g=f=>h (e.trans hk.symm))]
  ·rw[if_neg hk]
   by_cases h:g=k
   ·have hb:(g==k)=true:=beq_iff_eq.mpr h;simp only [List.lookup,hb,if_neg (fun e:g=f=>hk (h.symm.trans e))]
   ·have hb:(g==k)=false:=beq_eq_false_iff_ne.mpr h;simp only [List.lookup,hb];exact ih
theorem Ge (f:Str)(v:V):∀ fs:List (Str×V),f∈(mX f v fs).map (·.1)/\∀ g,g∈fs.map (·.1)->g∈(mX f v fs).map (·.1)
 |[]=>⟨by simp[mX],fun g h=>by simp at h⟩
 |(k,x)::r=>by
  obtain⟨i1,i2⟩:=Ge f v r;rw[show mX f v ((k,x)::r)=(if k=f then(k,v)::r else(k,x)::mX f v r) from rfl]
  by_cases hk:k=f
  ·rw[if_pos hk];subst hk;exact⟨by simp,fun g h=>by simpa using h⟩
  ·rw[if_neg hk];refine⟨?_,fun g h=>?_⟩
   ·rw[map_cons];exact mem_cons_of_mem _ i1
   ·rw[map_cons]at h ⊢;rcases List.mem_cons.mp h with e|e
    ·exact List.mem_cons.mpr (.inl e)
    ·exact mem_cons_of_mem _ (i2 g e)
theorem Jv (f:Str)(v:V):∀ fs:List (Str×V),(mX f v fs).length<=fs.length+1
 |[]=>by simp[mX]
 |(k,x)::r=>by
  have ih:=Jv f v r;rw[show mX f v ((k,x)::r)=(if k=f then(k,v)::r else(k,x)::mX f v r) from rfl]
  by_cases hk:k=f
  ·rw[if_pos hk,length_cons,length_cons];omega
  ·rw[if_neg hk,length_cons,length_cons];omega
theorem rS.some_of {v:V}{o:Option Value}(r:rS (some v) o):∃ u,o=some u/\RelV v u:=by
 cases o with
 |none=>exact(show False from r).elim
 |some u=>exact⟨u,rfl,r⟩
theorem rS.none_of {o:Option Value}(r:rS none o):o=none:=by
 cases o with
 |none=>rfl
 |some u=>exact(show False from r).elim
theorem ZD {v:V}{u:Value}(r:RelV v u):handedIn u=true:=by
 cases v with
 |non=>cases (show u=Value.none from r);rfl
 |bl b=>cases (show u=Value.bool b from r);rfl
 |int i=>obtain⟨t,e⟩:=(show ∃ t,u=Value.int i t from r);cases e;rfl
 |str x=>obtain⟨t,e⟩:=(show ∃ t,u=Value.str x t from r);cases e;rfl
 |byt b=>obtain⟨t,e⟩:=(show ∃ t,u=Value.bytes b t from r);cases e;rfl
 |flt b=>obtain⟨t,e⟩:=(show ∃ t,u=Value.float b t from r);cases e;rfl
 |ref a=>cases (show u=Value.ref a from r);rfl
 |ty n=>cases (show u=Value.type n from r);rfl
section
variable {P:Program} {w:World} {H H':Hp} {h h':Heap} {a C dx:Addr} {fs fs':List (Str×V)}
theorem KW (hok:xI P w H h)(e:H a=some (.ins C dx fs)):∃ mA,VH h a dx C mA/\(∀ f,rS (fs.lookup f) (mA f))/\PySem.Within mA (fs.map (·.1))/\fs.length<=1000/\H dx=some (.own a):=by
 obtain⟨d,z,ne,ob,mA,n,r,q⟩:=(show ia P w H h a (.ins C dx fs) from hok a _ e);exact⟨mA,⟨ob,n,ne⟩,r,q,z,d⟩
end
structure VI (K:Frag)(C:Addr):Prop where
 pg:plainGet K C Str.empty=true
 hd:hasDictIn K C=true
 po:plainOver K C=true
 sa:findIn K (.ref C) "__setattr__"=some (some (.builtin "object.__setattr__"))
theorem VI.get {K:Frag}{C:Addr}(c:VI K C)(f:Str):plainGet K C f=true:=c.pg
def j7 (K:Frag)(C:Addr)(f:Str):Prop:=findIn K (.ref C) f=some none
theorem j7.taker {K:Frag}{C:Addr}{f:Str}(n:j7 K C f):takerIn K C f=some none:=by
 unfold takerIn;rw[show findIn K (.ref C) f=some none from n];rfl
structure Con (K:Frag)(C:Addr)(f:Str)(v:V)(u:Value):Prop where
 at_:findIn K (.ref C) f=some (some u)
 rel:RelV v u
 get:specialIn K u "__get__"=some none
 cp:PySem.W.copiedNames.contains f=false
structure Meth (K:Frag)(C:Addr)(m:Str)(f:Addr):Prop where
 at_:findIn K (.ref C) m=some (some (.ref f))
 fn:isFn K (.ref f)=true
 kp:keepIn K (.ref f)=true
section
variable {X:Cx} {pins:List (Addr×Obj)} {σ:St} {H:Hp} {s:Shared} {a C dx:Addr} {fs:List (Str×V)} {f:Str} {v:V} {A:Around} {E:Value->Shared->Prop}
theorem VJ {b:Bool}{Q:Value->Shared->Prop}(I:Inv X pins σ H s)(e:H a=some (.ins C dx fs))(c:VI X.K C)(n:j7 X.K C f)(l:fs.lookup f=some v)
  (h:∀ u s',Inv X pins σ H s'->RelV v u->Q u s'):wpAny (model X.prog X.w) A (getAttr (.ref a) f b) Q E s:=by
 obtain⟨mA,O,r,_,_,_⟩:=KW I.hok e;obtain⟨u,hu,ru⟩:=rS.some_of (v:=v) (o:=mA f) (by rw[<-l];exact r f);exact get_map I.xG O (c.get f) c.hd n hu (ZD ru) (h u _ (I.tok _) ru)
theorem vi {m:Str}{g:Addr}{pl:Sem Bool}{Q:Value×List Value->Shared->Prop}(I:Inv X pins σ H s)(e:H a=some (.ins C dx fs))(c:VI X.K C)(k:Meth X.K C m g)(l:fs.lookup m=none)
  (h:Q (.ref g,[.ref a]) s):wpAny (model X.prog X.w) A (getMethod (.ref a) m pl) Q E s:=by
 obtain⟨mA,O,r,_,_,_⟩:=KW I.hok e;have hn:mA m=none:=rS.none_of (by rw[<-l];exact r m);exact abq I.xG O (c.get m) k.at_ k.fn hn h
theorem VL {y:V}{u:Value}{Q:Unit->Shared->Prop}(I:Inv X pins σ H s)(e:H a=some (.ins C dx fs))(c:VI X.K C)(n:j7 X.K C f)(hl:fs.length<1000)(ry:RelV y u)
  (h:∀ s',Inv X pins σ (upd H a (.ins C dx (mX f y fs))) s'->Q () s'):wpAny (model X.prog X.w) A (setAttr (.ref a) f u) Q E s:=by
 obtain⟨mA,O,r,wi,_,ho⟩:=KW I.hok e;have hz:(fs.map (·.1)).length<=sizeLine:=by rw[length_map,sizeLine_eq];omega
 refine oB I.xG O c.sa c.po n.taker c.hd wi hz fun h' O' sb=>h _ ?_;have hd:∃ o,h'.get? dx=some o:=let ⟨o,_,_,e',_⟩:=O'.ns;⟨o,e'⟩;refine I.write (x:=a) (e:=dx) (by rw[e];exact True.intro) (.inr ho) (fun b q hb z=>(sb.2 b hb).trans z) hd ?_;refine⟨by rw[ao O.ne];exact ho,?_,O.ne,O'.obj,_,O'.ns,fun g=>?_,fun g hg=>?_⟩
 ·have:=Jv f y fs;omega
 ·show rS ((mX f y fs).lookup g) (if g=f then some u else mA g);rw[Ju]
  by_cases q:g=f
  ·rw[if_pos q,if_pos q];exact ry
  ·rw[if_neg q,if_neg q];exact r g
 ·by_cases q:g=f
  ·rw[q];exact(Ge f y fs).1
  ·refine(Ge f y fs).2 g (wi g fun z=>hg ?_);show(if g=f then some u else mA g)=none;rw[if_neg q];exact z
theorem Inv.made (I:Inv X pins σ H s):Inv X pins σ (upd (upd H s.heap.objs.size (.own (s.heap.objs.size+1))) (s.heap.objs.size+1) (.ins C s.heap.objs.size []))
  { s with heap:=(s.heap.push emptyDict).push (instObj C s.heap.objs.size) }:=by
 have e1:(s.heap.push emptyDict).get? s.heap.objs.size=some emptyDict:=Heap.get?_push_size s.heap rfl;have e2:((s.heap.push emptyDict).push (instObj C s.heap.objs.size)).get? (s.heap.objs.size+1)=some (instObj C s.heap.objs.size):=by
  have:=Heap.get?_push_size (s.heap.push emptyDict) (o:=instObj C s.heap.objs.size) rfl
  rwa [Heap.size_push]at this
 have e3:(s.heap.push emptyDict).Ns s.heap.objs.size (fun _=>none):=⟨emptyDict,#[],_,e1,rfl,(fun e he=>absurd he (by simp)),fun _=>rfl⟩;have I1:=I.laid (a:=s.heap.objs.size) (o:=.own (s.heap.objs.size+1)) (h':=s.heap.push emptyDict) (t':=s.toks) (fun b u q=>Heap.get?_push_of_some _ q) (Nat.le_refl _) ⟨_,e1⟩;refine I1.laid (a:=s.heap.objs.size+1) (o:=.ins C s.heap.objs.size []) (t':=s.toks) (fun b u q=>Heap.get?_push_of_some _ q) (Nat.le_of_eq (Heap.size_push _ _)) ?_;have ne:s.heap.objs.size≠s.heap.objs.size+1:=Nat.ne_of_lt (Nat.lt_succ_self _);refine⟨by rw[ao ne,ae],Nat.zero_le _,ne,e2,fun _=>none,(Heap.Ns1.of_empty e3).at fun o q=>Heap.get?_push_of_some _ q,fun _=>True.intro,fun y hy=>absurd rfl hy⟩
theorem adI {prog:Program}{w:World}{env:Env}{e:Expr}{f:Str}{pos:Pos}{s:Shared}{Q:Value->Shared->Prop}(hb:attributeBase e f env (eval e env)=eval e env)
  (h:wpAny (model prog w) A (eval e env) (fun o s₁=>wpAny (model prog w) A (getAttr o f true) Q E s₁) E s):wpAny (model prog w) A (eval (.Attribute e f pos) env) Q E s :=
 Attribute_any_ h (by rw[arm_eval_Attribute,hb])
end
inductive afa (K:Frag)(f:Str)(Q:VK)(x:V)(H1:Hp):Prop
 |mk (a:_) (C:_) (dx:_) (fs:_) (v:_) (gw:x=.ref a) (gx:H1 a=some (.ins C dx fs)) (iW:VI K C) (m7:j7 K C f) (tJ:fs.lookup f=some v) (Tx:Q v H1):afa K f Q x H1
def akj (K:Frag)(ta:TE)(f:Str):TE:=fun σ H Q=>ta σ H fun x H1=>afa K f Q x H1
inductive afb (K:Frag)(f:Str)(D:Ends)(σ:St)(y:V)(x:V)(H2:Hp):Prop
 |mk (a:_) (C:_) (dx:_) (fs:_) (gw:x=.ref a) (gx:H2 a=some (.ins C dx fs)) (iW:VI K C) (m7:j7 K C f) (tJ:fs.length<1000) (Tx:D.nx σ (upd H2 a (.ins C dx (mX f y fs)))):afb K f D σ y x H2
def akk (K:Frag)(ta tv:TE)(f:Str):TS:=fun D σ H=>tv σ H fun y H1=>ta σ H1 fun x H2=>afb K f D σ y x H2
section
variable {X:Cx} {o e value:Expr} {f:Str} {pos pos' tpos:Pos} {ta tv:TE}
theorem bX (he:PE X e ta)(hb:attributeBase e f X.env (eval e X.env)=eval e X.env):PE X (.Attribute e f pos) (akj X.K ta f):=by
 intro pins s σ H Q I h;refine adI hb (cJ (he pins s σ H _ I h) fun u s1 ⟨x,H1,I1,rx,a,C,dx,fs,v,ex,ea,c,n,l,q⟩=>?_);subst ex;obtain rfl:u=Value.ref a:=rx;exact VJ I1 ea c n l fun u' s2 I2 ru=>⟨v,H1,I2,ru,q⟩
theorem tK (ha:PE X o ta)(hv:PE X value tv)(hs:swapsWith value (some (.Attribute o f pos')) pos.line X.env=pure false):PS X (.Assign [.Attribute o f pos'] value pos) (akk X.K ta tv f):=by
 intro pins s σ H D I h;refine plainObj_wpAny_Assign_Attribute (cJ (hv pins s σ H _ I h) fun u s1 ⟨y,H1,I1,ry,q⟩=>cJ (ha pins s1 σ H1 _ I1 q) fun ov s2 ⟨x,H2,I2,rx,a,C,dx,fs,ex,ea,c,n,l,q2⟩=>?_) hs;subst ex;obtain rfl:ov=Value.ref a:=rx;exact VL I2 ea c n l ry fun s3 I3=>⟨σ,_,I3,q2⟩
end
section
variable {X:Cx} {pins:List (Addr×Obj)} {σ:St} {H:Hp} {s:Shared} {A:Around} {E:Value->Shared->Prop} {Q:Value->Shared->Prop} {c:Value} {b:Bool}
inductive ur (K:Frag)(H:Hp):V->Value->Prop where
 |non:ur K H .non (.type "NoneType")
 |bl (x:Bool):ur K H (.bl x) (.type "bool")
 |int (i:Int):ur K H (.int i) (.type "int")
 |str (x:Str):ur K H (.str x) (.type "str")
 |flt (x:UInt64):ur K H (.flt x) (.type "float")
 |lst {a:Addr} {xs:List V} (e:H a=some (.lst xs)):ur K H (.ref a) (.type "list")
 |YB {a:Addr} {o:Obj} {xs:List V} (e:H a=some (.YB o (.lst xs))):ur K H (.ref a) (.type "list")
 |tup {a:Addr} {xs:List V} (e:H a=some (.tup xs)):ur K H (.ref a) (.type "tuple")
 |dK {a:Addr} {kvs:List (Key×V)} (e:H a=some (.dK kvs)):ur K H (.ref a) (.type "dict")
 |dT {a:Addr} {kvs:List (List Key×V)} (e:H a=some (.dT kvs)):ur K H (.ref a) (.type "dict")
 |ins {a C dx:Addr} {fs:List (Str×V)} (e:H a=some (.ins C dx fs)) (cl:VI K C) (ha:findIn K (.ref C) "__class__"=some (some (.builtin "object.__class__")))
   (hn:specialIn K (.builtin "object.__class__") "__get__"=some (some (.builtin "getset_descriptor.__get__"))) (htk:PySem.W.takesIn K (.builtin "object.__class__")=some true)
   (hm:mroIn K C (.type "object")=some true):ur K H (.ref a) (.ref C)
theorem ZE {x:V}{u t:Value}(I:Inv X pins σ H s)(rx:RelV x u)(ty:ur X.K H x t)(e:kitOne X.K t c=some b)(h:∀ tk,Q (.bool b) { s with toks:=tk }) :
  wpAny (model X.prog X.w) A (call (.builtin "isinstance") [u,c]) Q E s:=by
 cases ty with
 |non=>cases (show u=Value.none from rx);exact kia_one PySem.W.kitx_none I.xG True.intro e (fun z=>nomatch z) h
 |bl y=>cases (show u=Value.bool y from rx);exact kia_one PySem.W.kitx_bool I.xG True.intro e (fun z=>nomatch z) h
 |int i=>obtain⟨t,q⟩:=(show ∃ t,u=Value.int i t from rx);cases q;exact kia_one PySem.W.kitx_int I.xG True.intro e (fun z=>nomatch z) h
 |str y=>obtain⟨t,q⟩:=(show ∃ t,u=Value.str y t from rx);cases q;exact kia_one PySem.W.kitx_str I.xG True.intro e (fun z=>nomatch z) h
 |flt y=>obtain⟨t,q⟩:=(show ∃ t,u=Value.float y t from rx);cases q;exact kia_one PySem.W.kitx_float I.xG True.intro e (fun z=>nomatch z) h
 | @lst a xs ea =>
  cases (show u=Value.ref a from rx);obtain⟨_,_,n,_,h1⟩:=(show ia X.prog X.w H s.heap a (.lst xs) from I.hok a _ ea);exact kia_one kitx_list I.xG ⟨_,h1,rfl⟩ e (fun z=>nomatch z) h
 | @YB a ob xs ea =>
  cases (show u=Value.ref a from rx);obtain⟨_,_,_,n,_,h1⟩:=(show ia X.prog X.w H s.heap a (.YB ob (.lst xs)) from I.hok a _ ea);exact kia_one kitx_list I.xG ⟨_,h1,rfl⟩ e (fun z=>nomatch z) h
 | @tup a xs ea =>
  cases (show u=Value.ref a from rx);obtain⟨_,_,_,p⟩:=(show ia X.prog X.w H s.heap a (.tup xs) from I.hok a _ ea);obtain⟨o,h1,h2,_⟩:=p;exact kia_one PySem.W.kitx_tuple I.xG ⟨o,h1,h2⟩ e (fun z=>nomatch z) h
 | @dK a kvs ea =>
  cases (show u=Value.ref a from rx);obtain⟨_,_,vs,_,p⟩:=(show ia X.prog X.w H s.heap a (.dK kvs) from I.hok a _ ea);obtain⟨o,es,ep,h1,h2,_⟩:=p;exact kia_one kitx_dict I.xG ⟨o,h1,h2.1⟩ e (fun z=>nomatch z) h
 | @dT a kvs ea =>
  cases (show u=Value.ref a from rx);obtain⟨_,_,xs,_,o,es,ep,h1,h2,_⟩:=(show ia X.prog X.w H s.heap a (.dT kvs) from I.hok a _ ea);exact kia_one kitx_dict I.xG ⟨o,h1,h2.1⟩ e (fun z=>nomatch z) h
 | @ins a C dx fs ea cl ha hn htk hm =>
  cases (show u=Value.ref a from rx);obtain⟨mA,O,_⟩:=KW I.hok ea;obtain⟨od,J,_⟩:=O.look;exact kia_one (PySem.W.kitx_own (cl.get _) cl.hd ha hn htk hm) I.xG J e (fun z=>nomatch z) h
end
end L2
namespace L2
open PySem PySem.Spec PyProof.Rows
structure jL (k:Nat)(A:Around):Prop where
 hd:A.handled=none
 dp:A.depth+3 * k+5<recursionLimit
 un:A.units+16 * k+200<cLine
theorem jL.mono {j k:Nat}{A:Around}(r:jL k A)(h:j<=k):jL j A:=⟨r.hd,by have:=r.dp;omega,by have:=r.un;omega⟩
theorem jL.deeper {k:Nat}{A:Around}(r:jL (k+1) A)(env:Env):jL k (A.deeper env) :=
 ⟨r.hd,by have:=r.dp;show A.depth+1+3 * k+5<_;omega,by have:=r.un;show A.units+3+16 * k+200<_;omega⟩
theorem VM {A:Around}{C:Addr}{us:List Value}{kw:List (Str×Value)}:(A.under (.builtin "type.__call__" ⟨.ref C::us,kw⟩)).depth=A.depth+1:=by
 first|rfl|simp[Around.under,Code.weight,Code.isCreation,Code.isGuard,Code.isCaller,Code.frames,Code.isFrame,guardIds]
theorem VN {A:Around}{C:Addr}{us:List Value}{kw:List (Str×Value)}:(A.under (.builtin "type.__call__" ⟨.ref C::us,kw⟩)).units=A.units+1:=by
 first|rfl|simp[Around.under,Code.cUnits,Code.frames,Code.isFrame]
theorem jL.make {k:Nat}{A:Around}(r:jL (k+1) A)(C:Addr)(us:List Value)(kw:List (Str×Value)):jL k (A.under (.builtin "type.__call__" ⟨.ref C::us,kw⟩)) :=
 ⟨r.hd,by have:=r.dp;rw[VM];omega,by have:=r.un;rw[VN];omega⟩
theorem jL.depth {k:Nat}{A:Around}(r:jL k A):A.depth<recursionLimit:=by have:=r.dp;omega
theorem jL.units {k:Nat}{A:Around}(r:jL k A):A.units+64<cLine:=by have:=r.un;omega
def aT:TA:=fun _ H Q=>Q [] H
def aj (ta:TE)(tr:TA):TA:=fun σ H Q=>ta σ H fun x H1=>tr σ H1 fun xs H2=>Q (x::xs) H2
section
variable {X:Cx} {e:Expr} {es:List Expr} {te:TE} {t:TA} {pos:Pos}
theorem af:PA X [] aT:=fun _ _ _ _ H Q I h=>Calls.spliced_nil ⟨[],H,I,.nil,h⟩
theorem aa (ha:PE X e te)(hr:PA X es t)(hs:starEach (e::es) X.env=(false,eval e X.env)::starEach es X.env:=by rfl):PA X (e::es) (aj te t):=by
 intro pos pins s σ H Q I h;rw[hs];show wpAny _ _ (spliced ((false,eval e X.env)::backTo pos (starEach es X.env))) _ _ s;refine Calls.spliced_cons (cJ (ha pins s σ H _ I h) fun u s1 ⟨x,H1,I1,r1,q1⟩=>?_);exact cJ (hr pos pins s1 σ H1 _ I1 q1) fun us s2 ⟨xs,H2,I2,r2,q2⟩=>⟨x::xs,H2,I2,.cons r1 r2,q2⟩
def bJ (t:TA):TE:=fun σ H Q=>t σ H fun xs H1=>xs.length<=sizeLine/\∀ p,H1 p=none->Q (.ref p) (upd H1 p (.tup xs))
def NS (t:TA):TE:=fun σ H Q=>t σ H fun xs H1=>xs.length<=sizeLine/\∀ p,H1 p=none->Q (.ref p) (upd H1 p (.lst xs))
theorem bB {x1}(h:PA X es t):PE X (.Tuple es x1 pos) (bJ t):=by
 intro pins s σ H Q I hq;refine wpAny_Tuple_spliced (cJ (h pos pins s σ H _ I hq) fun us s1 ⟨xs,H1,I1,r,z,q⟩=>⟨by rw[<-r.length];exact z,?_⟩);have hf:H1 s1.heap.objs.size=none:=I1.hok.fresh (Nat.le_refl _);refine⟨.ref s1.heap.objs.size,upd H1 s1.heap.objs.size (.tup xs),I1.laid (t':=s1.toks) (fun b u e=>Heap.get?_push_of_some _ e) (Nat.le_refl _) ?_,rfl,q _ hf⟩;exact⟨z,us,r,⟨_,Heap.get?_push_size _ rfl,rfl,_,rfl⟩⟩
theorem bM (h:PA X es t):PE X (.List es pos) (NS t):=by
 intro pins s σ H Q I hq;refine wpAny_List_spliced (cJ (h pos pins s σ H _ I hq) fun us s1 ⟨xs,H1,I1,r,z,q⟩=>⟨by rw[<-r.length];exact z,?_⟩);have hf:H1 s1.heap.objs.size=none:=I1.hok.fresh (Nat.le_refl _);refine⟨.ref s1.heap.objs.size,upd H1 s1.heap.objs.size (.lst xs),I1.laid (t':=s1.toks) (fun b u e=>Heap.get?_push_of_some _ e) (Nat.le_refl _) ?_,rfl,q _ hf⟩;exact⟨z,us,0,r,Heap.get?_push_size _ rfl⟩
end
abbrev Sp:=List V->Hp->VK->XK->Prop
abbrev CXT:=List Env->Hp->Shared->XK->Value->Shared->Prop
structure VO (P:Program)(w:World)(K:Frag)(mg:Str->Option Value)(base:Heap)(A:Around)(outer:List Env)(s:Shared)(H:Hp):Prop where
 frames:A.frames=some outer
 mod:Mod K mg base
 bs:∀ b o,base.get? b=some o->s.heap.get? b=some o/\H b=none
 YC:base.objs.size<=s.heap.objs.size
 Aj:s.heap.FunFrames base outer
 frf:∀ b∈frs outer,H b=none
 hok:xI P w H s.heap
 bare:AllBare s.gens
def CE (outer:List Env)(P:Program)(w:World)(H:Hp)(s:Shared)(Q:VK)(u:Value)(s':Shared):Prop :=
 ∃ v H',s'.os=s.os/\AllBare s'.gens/\Un (frs outer) [] H H' s.heap s'.heap/\xI P w H' s'.heap/\RelV v u/\Q v H'
def CR (CX:CXT)(outer:List Env)(P:Program)(w:World)(H:Hp)(s:Shared)(Q:VK)(E:XK)(r:Result)(s':Shared):Prop :=
 match r with
 |.ok (.ret u)=>CE outer P w H s Q u s'
 |.ok _=>False
 |.error e=>CX outer H s E e s'
structure bK (P:Program)(w:World)(K:Frag)(mg:Str->Option Value)(base:Heap)(CX:CXT)(k:Nat)(f:Addr)(fd:FuncData)(ps:List Str)(sp:Sp):Prop where
 len:∀ vs H Q E,sp vs H Q E->vs.length=ps.length
 run:∀(A:Around)(outer:List Env)(s:Shared)(H:Hp)(args:Args)(us:List Value)(vs:List V)(Q:VK)(E:XK),jL k A->VO P w K mg base A outer s H->BindsTo s fd args (ps.zip us)->Vals vs us->sp vs H Q E ->
  codeAny (model P w) A (.call (.ref f) args) (CR CX outer P w H s Q E) s
theorem VO.make {P:Program}{w:World}{K:Frag}{mg:Str->Option Value}{base:Heap}{A:Around}{outer:List Env}{s:Shared}{H:Hp}(e:VO P w K mg base A outer s H)(C:Addr)(us:List Value)(kw:List (Str×Value)) :
  VO P w K mg base (A.under (.builtin "type.__call__" ⟨.ref C::us,kw⟩)) outer s H:=⟨by first|exact e.frames|(simpa [Around.under,Code.envs,Code.isFrame,pushEnvs] using e.frames),e.mod,e.bs,e.YC,e.Aj,e.frf,e.hok,e.bare⟩
section
variable {X:Cx} {pins:List (Addr×Obj)} {σ:St} {H:Hp} {s s':Shared}
theorem Inv.env0 (I:Inv X pins σ H s):VO X.prog X.w X.K X.mg X.base X.A X.stack s H :=
 ⟨I.ok.frames,I.ok.mod,I.bs,Nat.le_trans I.ok.YC I.sz,I.stack,I.PN,I.hok,I.bare⟩
theorem Inv.after {Q:VK}{u:Value}(I:Inv X pins σ H s)(h:CE X.stack X.prog X.w H s Q u s'):EP X pins σ Q u s':=by
 obtain⟨v,H',os,bare,un,hok,r,q⟩:=h;obtain⟨hh,g,d,t,os'⟩:=s';obtain rfl:os'=s.os:=os;exact⟨v,H',I.call (h':=hh) (g':=g) (d':=d) (t':=t) (ch:=[]) un hok bare (fun b z=>absurd z (by simp)),r,q⟩
end
def ahZ (sp:Sp)(rT:List V)(E:XK)(t:TA):TE:=fun σ H Q=>t σ H fun vs H1=>sp (vs++rT) H1 Q E
inductive abt (C:Addr)(m:Str)(sp:Sp)(rT:List V)(E:XK)(t:TA)(σ:St)(Q:VK)(x:V)(H1:Hp):Prop
 |mk (a:_) (dx:_) (fs:_) (gw:x=.ref a) (gx:H1 a=some (.ins C dx fs)) (iW:fs.lookup m=none) (m7:t σ H1 fun vs H2=>sp (x::(vs++rT)) H2 Q E):abt C m sp rT E t σ Q x H1
def afc (C:Addr)(m:Str)(sp:Sp)(rT:List V)(E:XK)(ta:TE)(t:TA):TE:=fun σ H Q=>ta σ H fun x H1=>abt C m sp rT E t σ Q x H1
def afd (C:Addr)(sp:Sp)(rT:List V)(E:XK)(t:TA):TE:=fun σ H Q=>t σ H fun vs H1=>∀ x dx,H1 x=none->H1 dx=none->dx≠x ->
 sp (.ref x::(vs++rT)) (upd (upd H1 dx (.own x)) x (.ins C dx [])) (fun v H2=>v=.non/\Q (.ref x) H2) E
def Binds (K:Frag)(fd:FuncData)(ps:List Str)(ds:List Value):Prop :=
 ∀(s:Shared)(us:List Value),K.In s.heap->(us++ds).length=ps.length->BindsTo s fd ⟨us,[]⟩ (ps.zip (us++ds))
theorem Binds.all {K:Frag}{fd:FuncData}{ps:List Str}(h:∀ us:List Value,us.length=ps.length->bindArgs fd ⟨us,[]⟩=pure (ps.zip us)):Binds K fd ps []:=fun s us _ hl=>by
 rw[append_nil]at hl ⊢;exact .of_eq (h us hl)
def Passes (CX:CXT)(X:Cx)(E:XK):Prop:=∀(pins:List (Addr×Obj)) (σ:St) (H:Hp) (s:Shared) (e:Value) (s':Shared),Inv X pins σ H s->CX X.stack H s E e s'->X.xe e s'
section
variable {X:Cx} {CX:CXT} {k:Nat} {f C:Addr} {fd:FuncData} {ps:List Str} {sp:Sp} {rT:List V} {ds:List Value} {E:XK} {x m:Str} {p pos apos:Pos} {e o:Expr} {es:List Expr} {ta:TE} {t:TA}
theorem VP {pins:List (Addr×Obj)}{σ:St}{H:Hp}{s:Shared}{Q:VK}{us:List Value}{vs:List V}(F:bK X.prog X.w X.K X.mg X.base CX k f fd ps sp)(hr:jL k X.A)(hb:Binds X.K fd ps ds)(hd:Vals rT ds)(hx:Passes CX X E)
  (I:Inv X pins σ H s) (r:Vals vs us) (h:sp (vs++rT) H Q E):wpAny (model X.prog X.w) X.A (call (.ref f) us) (EP X pins σ Q) X.xe s:=by
 have r2:Vals (vs++rT) (us++ds):=r.append hd;have hl:(us++ds).length=ps.length:=by rw[<-r2.length];exact F.len _ _ _ _ h
 refine wpAny_call (codeAny_mono (F.run X.A X.stack s H ⟨us,[]⟩ (us++ds) (vs++rT) Q E hr I.env0 (hb s us I.xG hl) r2 h) fun r s' hq=>?_);cases r with
 |error e=>exact hx pins σ H s e s' I hq
 |ok fl =>
  cases fl with
  |ret u=>exact I.after hq
  |next=>exact False.elim hq
  |brk=>exact False.elim hq
  |cont=>exact False.elim hq
theorem aB (F:bK X.prog X.w X.K X.mg X.base CX k f fd ps sp)(hr:jL k X.A)(hg:Gl X x)(hm:X.mg x=some (.ref f))(hk:keepIn X.K (.ref f)=true)(hb:Binds X.K fd ps ds)(hd:Vals rT ds)(hx:Passes CX X E)
  (ha:PA X (e::es) t) (hdb:(x==("__debug__":Str))=false:=by decide) (he:starEach (e::es) X.env=(false,eval e X.env)::starEach es X.env:=by rfl) (hpl:(backTo pos (starEach es X.env)).any (·.1)=false:=by rfl) :
  PE X (.Call (.Name x p) (e::es) [] pos) (ahZ sp rT E t):=by
 intro pins s σ H Q I h;refine wpAny_Call_Name_kw (ve I hg hm ?_ hdb);refine callWith_K (h₀:=X.base) I.ok.mod.kin hk (cJ (ha pos pins s σ H _ I h) fun us s1 ⟨vs,H1,I1,r,q⟩=>⟨I1.xG,?_⟩) he hpl;exact VP F hr hb hd hx I1 r q
theorem fE {pl:Sem Bool}(he:PE X o ta)(c:VI X.K C)(hm:Meth X.K C m f)(F:bK X.prog X.w X.K X.mg X.base CX k f fd ps sp)(hr:jL k X.A)(hb:Binds X.K fd ps ds)(hd:Vals rT ds)(hx:Passes CX X E)(ha:PA X (e::es) t)
  (hst:starEach (e::es) X.env=(false,eval e X.env)::starEach es X.env:=by rfl) (hpl:(backTo pos (starEach es X.env)).any (·.1)=false:=by rfl)
  (ht:eval (.Call (.Attribute o m apos) (e::es) [] pos) X.env=(do
   let ov <-eval o X.env
   standAt apos.atName
   let (f,first) <-holding [ov] (getMethod ov m pl)
   callWith pos f first (backTo pos (starEach (e::es) X.env)) (backToKw pos (keywordEach [] X.env))):=by rfl) :
  PE X (.Call (.Attribute o m apos) (e::es) [] pos) (afc C m sp rT E ta t):=by
 intro pins s σ H Q I h;refine methodCall_KW (pl:=pl) (cJ (he pins s σ H _ I h) fun u s1 ⟨x,H1,I1,rx,a,dx,fs,ex,ea,l,q⟩=>?_) ht;subst ex;obtain rfl:u=Value.ref a:=rx;refine vi I1 ea c hm l ?_;refine callWith_K (first:=[.ref a]) (h₀:=X.base) I.ok.mod.kin hm.kp (cJ (ha pos pins s1 σ H1 _ I1 q) fun us s2 ⟨vs,H2,I2,r,q2⟩=>⟨I2.xG,?_⟩) hst hpl;exact VP (us:=.ref a::us) (vs:=.ref a::vs) F hr hb hd hx I2 (.cons rfl r) q2
theorem kg {pl:Sem Bool}(he:PE X o ta)(c:VI X.K C)(hm:Meth X.K C m f)(F:bK X.prog X.w X.K X.mg X.base CX k f fd ps sp)(hr:jL k X.A)(hb:Binds X.K fd ps ds)(hd:Vals rT ds)(hx:Passes CX X E)
  (ht:eval (.Call (.Attribute o m apos) [] [] pos) X.env=(do
   let ov <-eval o X.env
   standAt apos.atName
   let (f,first) <-holding [ov] (getMethod ov m pl)
   callWith pos f first (backTo pos (starEach [] X.env)) (backToKw pos (keywordEach [] X.env))):=by rfl) :
  PE X (.Call (.Attribute o m apos) [] [] pos) (afc C m sp rT E ta aT):=by
 intro pins s σ H Q I h;refine methodCall_KW (pl:=pl) (cJ (he pins s σ H _ I h) fun u s1 ⟨x,H1,I1,rx,a,dx,fs,ex,ea,l,q⟩=>?_) ht;subst ex;obtain rfl:u=Value.ref a:=rx;refine vi I1 ea c hm l ?_;exact callWith_K0 (first:=[.ref a]) I1.xG hm.kp (VP (us:=[.ref a]) (vs:=[.ref a]) F hr hb hd hx I1 (.cons rfl .nil) q)
structure Mk (K:Frag)(C f:Addr):Prop where
 makes:makesIn K C=true
 init:findIn K (.ref C) "__init__"=some (some (.ref f))
 fn:isFn K (.ref f)=true
 kp:keepIn K (.ref C)=true
theorem Tz {pins:List (Addr×Obj)}{σ:St}{H:Hp}{s:Shared}{Q:VK}{us:List Value}{vs:List V}(M:Mk X.K C f)(F:bK X.prog X.w X.K X.mg X.base CX k f fd ps sp)(hr:jL (k+1) X.A)(hb:Binds X.K fd ps ds)(hd:Vals rT ds)
  (hx:Passes CX X E) (I:Inv X pins σ H s) (r:Vals vs us)
  (h:∀ x dx,H x=none->H dx=none->dx≠x->sp (.ref x::(vs++rT)) (upd (upd H dx (.own x)) x (.ins C dx [])) (fun v H2=>v=.non/\Q (.ref x) H2) E) :
  wpAny (model X.prog X.w) X.A (call (.ref C) us) (EP X pins σ Q) X.xe s:=by
 have hq:=h (s.heap.objs.size+1) s.heap.objs.size (I.hok.fresh (Nat.le_succ _)) (I.hok.fresh (Nat.le_refl _)) (Nat.ne_of_lt (Nat.lt_succ_self _));have I2:=Inv.made (C:=C) I;have r2:Vals (V.ref (s.heap.objs.size+1)::(vs++rT)) (Value.ref (s.heap.objs.size+1)::(us++ds)):=.cons rfl (r.append hd);have hl:(Value.ref (s.heap.objs.size+1)::us++ds).length=ps.length:=by
  have e:=r2.length;rw[F.len _ _ _ _ hq]at e;exact e.symm
 refine wpAny_call (abr (f:=f) I.xG M.makes M.init (beq_iff_eq.mp M.fn) (codeAny_mono (F.run _ X.stack _ _ ⟨Value.ref (s.heap.objs.size+1)::us,[]⟩ (Value.ref (s.heap.objs.size+1)::(us++ds)) _ _ E (hr.make C us [])
  (I2.env0.make C us []) (hb _ (Value.ref (s.heap.objs.size+1)::us) I2.xG hl) r2 hq) fun r s' hq'=>?_))
 cases r with
 |error e=>exact hx pins σ _ _ e s' I2 hq'
 |ok fl =>
  cases fl with
  |ret u =>
   obtain⟨v,H',I3,rv,ev,q3⟩:=I2.after hq';subst ev;exact⟨rv,⟨V.ref (s.heap.objs.size+1),H',I3,rfl,q3⟩⟩
  |next=>exact False.elim hq'
  |brk=>exact False.elim hq'
  |cont=>exact False.elim hq'
theorem vj (M:Mk X.K C f)(F:bK X.prog X.w X.K X.mg X.base CX k f fd ps sp)(hr:jL (k+1) X.A)(hg:Gl X x)(hm:X.mg x=some (.ref C))(hb:Binds X.K fd ps ds)(hd:Vals rT ds)(hx:Passes CX X E)
  (ha:PA X (e::es) t) (hdb:(x==("__debug__":Str))=false:=by decide) (he:starEach (e::es) X.env=(false,eval e X.env)::starEach es X.env:=by rfl) (hpl:(backTo pos (starEach es X.env)).any (·.1)=false:=by rfl) :
  PE X (.Call (.Name x p) (e::es) [] pos) (afd C sp rT E t):=by
 intro pins s σ H Q I h;refine wpAny_Call_Name_kw (ve I hg hm ?_ hdb);refine callWith_K (h₀:=X.base) I.ok.mod.kin M.kp (cJ (ha pos pins s σ H _ I h) fun us s1 ⟨vs,H1,I1,r,q⟩=>⟨I1.xG,?_⟩) he hpl;exact Tz M F hr hb hd hx I1 r q
theorem abu (M:Mk X.K C f)(F:bK X.prog X.w X.K X.mg X.base CX k f fd ps sp)(hr:jL (k+1) X.A)(hg:Gl X x)(hm:X.mg x=some (.ref C))(hb:Binds X.K fd ps ds)(hd:Vals rT ds)(hx:Passes CX X E)
  (hdb:(x==("__debug__":Str))=false:=by decide):PE X (.Call (.Name x p) [] [] pos) (afd C sp rT E aT):=by
 intro pins s σ H Q I h;refine wpAny_Call_Name_kw (ve I hg hm ?_ hdb);exact callWith_K0 I.xG M.kp (Tz (us:=[]) M F hr hb hd hx I .nil h)
end
section
variable {X:Cx} {CX:CXT} {k:Nat} {f C:Addr} {fd:FuncData} {ps ks:List Str} {sp:Sp} {E:XK} {x m:Str} {p pos apos anh:Pos} {e o:Expr} {es:List Expr} {kws:List Keyword} {te ta:TE} {t tk:TA} {nm:Option Str}
structure akl (K:Frag)(fd:FuncData)(ps ks:List Str)(g:List Value->List Value->List Value)(gV:List V->List V->List V):Prop where
 to:∀(s:Shared)(us ws:List Value),K.In s.heap->(g us ws).length=ps.length->BindsTo s fd ⟨us,ks.zip ws⟩ (ps.zip (g us ws))
 rel:∀{vs:List V} {us:List Value} {zs:List V} {ws:List Value},Vals vs us->Vals zs ws->Vals (gV vs zs) (g us ws)
variable {g:List Value->List Value->List Value} {gV:List V->List V->List V}
end
structure aG (N P:List Str)(sc:Scope):Prop where
 kind:sc.kind=.function
 co:sc.isCoroutine=false
 gen:sc.isGenerator=false
 nd:N.Nodup
 pre:N.take P.length=P
 par:∀ x∈P,sc.names.lookup x=some .local\/sc.names.lookup x=some .cell
 af7:∀ y∈sc.names,y.2≠.free
theorem OV {kindOf:Str->Option NameKind}{x:Str}:∀{binds:List (Str×Value)} {m:Str->Option Value},(∀ v,(x,v) ∉ binds)->bindL kindOf binds m x=m x
 |[],_,_=>rfl
 |(n,v)::r,m,h=>by
  unfold bindL;rw[OV fun w hw=>h w (mem_cons_of_mem _ hw)];split
  ·have:x≠n:=by rintro rfl;exact h v mem_cons_self
   simp[this]
  ·rfl
theorem OW {kindOf:Str->Option NameKind}{x:Str}:∀{binds:List (Str×Value)} {m:Str->Option Value},(∀ v,(x,v) ∉ binds)->bindC kindOf binds m x=m x
 |[],_,_=>rfl
 |(n,v)::r,m,h=>by
  unfold bindC;rw[OW fun w hw=>h w (mem_cons_of_mem _ hw)];split
  ·rfl
  ·have:x≠n:=by rintro rfl;exact h v mem_cons_self
   simp[this]
theorem OX {kindOf:Str->Option NameKind}{x:Str}{v:Value}:∀{P:List Str} {vs:List Value} {i:Nat} {m:Str->Option Value},P.Nodup->P[i]? = some x->vs[i]? = some v->kindOf x=some .local ->
  bindL kindOf (P.zip vs) m x=some v
 |[],_,_,_,_,h,_,_=>by simp at h
 |_::_,[],_,_,_,_,h,_=>by simp at h
 |p::P,w::vs,0,m,nd,h1,h2,hk=>by
  simp at h1 h2;subst h1;subst h2;show bindL kindOf ((p,w)::P.zip vs) m p=_;unfold bindL;rw[OV fun v hv=>(List.nodup_cons.mp nd).1 (List.of_mem_zip hv).1,if_pos hk];simp
 |p::P,w::vs,i+1,m,nd,h1,h2,hk=>by
  show bindL kindOf ((p,w)::P.zip vs) m x=_;unfold bindL;exact OX (i:=i) (List.nodup_cons.mp nd).2 (by simpa using h1) (by simpa using h2) hk
theorem OY {kindOf:Str->Option NameKind}{x:Str}{v:Value}:∀{P:List Str} {vs:List Value} {i:Nat} {m:Str->Option Value},P.Nodup->P[i]? = some x->vs[i]? = some v->kindOf x≠some .local ->
  bindC kindOf (P.zip vs) m x=some v
 |[],_,_,_,_,h,_,_=>by simp at h
 |_::_,[],_,_,_,_,h,_=>by simp at h
 |p::P,w::vs,0,m,nd,h1,h2,hk=>by
  simp at h1 h2;subst h1;subst h2;show bindC kindOf ((p,w)::P.zip vs) m p=_;unfold bindC;rw[OW fun v hv=>(List.nodup_cons.mp nd).1 (List.of_mem_zip hv).1,if_neg hk];simp
 |p::P,w::vs,i+1,m,nd,h1,h2,hk=>by
  show bindC kindOf ((p,w)::P.zip vs) m x=_;unfold bindC;exact OY (i:=i) (List.nodup_cons.mp nd).2 (by simpa using h1) (by simpa using h2) hk
def start (N:List Str)(vs:List V):St:=vs.map some++List.replicate (N.length-vs.length) none
def cK (CX:CXT)(P:Program)(w:World)(K:Frag)(mg:Str->Option Value)(base:Heap)(N:List Str)(qual:Str)(scope:Scope)(f:Addr)(cd:Value)(A:Around)(outer:List Env)(s:Shared)(H:Hp)(E:XK):Cx where
 prog:=P
 w:=w
 K:=K
 mg:=mg
 base:=base
 A:=A.deeper (envOfC qual scope s.heap.objs.size f cd)
 N:=N
 s₀:=s
 H₀:=H
 env:=envOfC qual scope s.heap.objs.size f cd
 outer:=outer
 stack:=envOfC qual scope s.heap.objs.size f cd::outer
 ex:=[]
 calm:=true
 fn:=fun _=>true
 pn:=[]
 xe:=fun e s'=>wpAny (model P w) (A.deeper (envOfC qual scope s.heap.objs.size f cd)) (leaving (envOfC qual scope s.heap.objs.size f cd) e) (fun _ s''=>CX outer H s E e s'') (fun e' s''=>CX outer H s E e' s'') s'
theorem TB {sc:Scope}{n:Nat}{x:Str}(h:sc.names.lookup x=some .cell):∃ c,(cellsFrom n sc.names []).lookup x=some c:=by
 have q:=PySem.W.cellsFrom_some sc.names n [] (.inl h);exact Option.isSome_iff_exists.mp q
theorem ZF {CX:CXT}{P:Program}{w:World}{K:Frag}{mg:Str->Option Value}{base:Heap}{N ps:List Str}{qual:Str}{scope:Scope}{f:Addr}{cd:Value}{A:Around}{outer:List Env}{s s1:Shared}{H:Hp}{E:XK}{us:List Value}{vs:List V}
  (S:aG N ps scope) (hd:A.handled=none) (e0:VO P w K mg base A outer s H) (hl:vs.length=ps.length) (r:Vals vs us)
  (x:InCallC s s.heap.objs.size (bindL (envOfC qual scope s.heap.objs.size f cd).kindOf (ps.zip us) fun _=>none) (cellsFrom (s.heap.objs.size+1) scope.names []) (bindC (envOfC qual scope s.heap.objs.size f cd).kindOf (ps.zip us) fun _=>none) s1) :
  Inv (cK CX P w K mg base N qual scope f cd A outer s H E) [] (start N vs) H s1:=by
 have hpl:ps.length<=N.length:=by have:=congrArg List.length S.pre;rw[length_take]at this;omega
 obtain⟨h1,tk,rfl,hk⟩:=x.done;have noA:∀ b:Addr,b ∉ (cK CX P w K mg base N qual scope f cd A outer s H E).ex:=fun b z=>absurd (show b∈([]:List Addr) from z) (by simp);refine⟨⟨e0.mod,S.kind,rfl,rfl,Nat.le_refl _,fun y z c h1 h2=>?_,fun y hy=>?_,fun y c _ h=>?_,fun _=>hd,Around.frames_deeper e0.frames,.inr ⟨rfl,rfl⟩,fun b z=>absurd z (noA b),e0.bs,e0.YC,fun b _ _=>noA b,fun b z=>absurd z (noA b),e0.Aj,e0.frf⟩,
  rfl,e0.bare,Un.kept hk,⟨_,x.toInCall.ns,fun i y v h1 h2 h3=>?_⟩,fun y c h=>⟨_,x.cell y c h⟩,e0.hok.fresh (Nat.le_refl _),fun y c h=>?_,fun p hp=>absurd (show p∈([]:List (Addr×Obj)) from hp) (by simp),e0.hok.kept hk,?_⟩
 ·exact name_of_addr x.apart (PySem.mem_of_lookup h1) (PySem.mem_of_lookup h2)
 ·have hy:scope.names.lookup y=some .cell\/scope.names.lookup y=some .free:=hy;rcases hy with hy|hy
  ·exact TB hy
  ·exact absurd rfl (S.af7 _ (PySem.mem_of_lookup hy))
 ·exact Nat.le_of_lt (x.above y c (PySem.mem_of_lookup h))
 ·have hi:i<vs.length:=by
   unfold start at h2
   by_cases hi:i<vs.length
   ·exact hi
   ·rw[getElem?_append_right (by simpa using hi)]at h2;rw[List.getElem?_replicate]at h2;split at h2 <;> cases h2
  have ha:vs[i]? = some v:=by
   unfold start at h2;rw[List.getElem?_append_left (by simpa using hi),getElem?_map]at h2;cases e:vs[i]? with
   |none=>rw[e]at h2;cases h2
   |some a=>rw[e]at h2;cases h2;rfl
  obtain⟨u,hu,rv⟩:=r.get ha;have hp:ps[i]? = some y:=by
   rw[<-S.pre,List.getElem?_take_of_lt (by omega)];exact h1
  have ndP:ps.Nodup:=by rw[<-S.pre];exact S.nd.sublist (List.take_sublist _ _)
  refine⟨u,rv,?_⟩;rcases S.par y (mem_of_getElem? hp) with k|k
  ·exact .inl ⟨k,OX ndP hp hu k⟩
  ·obtain⟨c,e⟩:=TB (n:=s.heap.objs.size+1) k;refine .inr ⟨.inl k,c,e,?_⟩;have q:=x.cell y c e;rw[OY ndP hp hu (by show scope.names.lookup y≠_;rw[k];decide)]at q;exact q
 ·exact e0.hok.fresh (Nat.le_of_lt (x.above y c (PySem.mem_of_lookup h)))
 ·unfold start;show _=N.length;rw[length_append,length_map,List.length_replicate];omega
theorem YL {CX:CXT}{P:Program}{w:World}{K:Frag}{mg:Str->Option Value}{base:Heap}{k:Nat}{f:Addr}{name qual:Str}{params:Arguments}{body:List Stmt}{scope:Scope}{dV kV doc pm cdv ct oc:Value}{an od:Option Addr}
  {osl:Array (Option Value)} {N ps:List Str} {sp:Sp} (lk:K.lookup f=some ⟨oc,od,.func (fnOf name qual params body scope dV kV doc pm an cdv ct),osl⟩) (hcd:codeIn K cdv qual=true) (S:aG N ps scope)
  (len:∀ vs H Q E,sp vs H Q E->vs.length=ps.length)
  (hbody:∀(A:Around)(outer:List Env)(s:Shared)(H:Hp)(vs:List V)(Q:VK)(E:XK),jL k (A.deeper (envOfC qual scope s.heap.objs.size f cdv))->sp vs H Q E ->
   ∃ t,KS (cK CX P w K mg base N qual scope f cdv A outer s H E) body t/\t { nx:=fun _ H'=>Q .non H',rt:=Q } (start N vs) H) :
  bK P w K mg base CX (k+1) f (fnOf name qual params body scope dV kV doc pm an cdv ct) ps sp:=by
 refine⟨len,fun A outer s H args us vs Q E hr e0 hb r hsp=>?_⟩;have hl:=len _ _ _ _ hsp;have KX:K.In s.heap:=e0.mod.kin.keeps fun b o e=>(e0.bs b o e).1;have lim:s.heap.NoLimit:=e0.mod.nolimit.keeps fun b o e=>(e0.bs b o e).1;have hkind:∀ y∈ps.zip us,scope.names.lookup y.1=some .local\/(scope.names.lookup y.1=some .cell/\((cellsFrom (s.heap.objs.size+1) scope.names []).lookup y.1).isSome=true):=fun⟨n,v⟩ hy=>by
  rcases S.par n (List.of_mem_zip hy).1 with q|q
  ·exact .inl q
  ·exact .inr ⟨q,PySem.W.cellsFrom_some _ _ _ (.inl q)⟩
 refine codeAny_call_function hr.depth (KX _ _ lk) rfl S.co S.gen rfl (PySem.W.codeRec_of KX hcd) (hb _ _ _ _ ?_);refine wpAny_newFunctionEnv_cells S.kind hkind fun env he s1 x=>?_;subst he;refine⟨lim.keeps x.toInCall.keep,codeAny_func ?_⟩;obtain⟨t,ht,hq⟩:=hbody A outer s H vs Q E (hr.deeper _) hsp;have I:Inv (cK CX P w K mg base N qual scope f cdv A outer s H E) [] (start N vs) H s1:=ZF S hr.hd e0 hl r x;refine wpAny_mono (ht [] s1 (start N vs) H _ I hq) (fun fl s' hs=>?_) fun e s' hs=>hs;have fin:∀{σ':St} {H':Hp} {v:V} {u:Value},Inv (cK CX P w K mg base N qual scope f cdv A outer s H E) [] σ' H' s'->RelV v u->Q v H'->CE outer P w H s Q u s' :=
  fun {σ' H' v u} J rv q=>⟨v,H',J.os,J.bare,J.base,J.hok,rv,q⟩
 cases fl with
 |ret u =>
  obtain⟨v,σ',H',J,rv,q⟩:=hs;exact fin J rv q
 |next =>
  obtain⟨σ',H',J,q⟩:=hs;exact fin (v:=V.non) (u:=Value.none) J rfl q
 |brk =>
  obtain⟨_,_,_,q⟩:=hs;exact False.elim q
 |cont =>
  obtain⟨_,_,_,q⟩:=hs;exact False.elim q
end L2
namespace L2
open PySem PySem.Spec PyProof.Rows
section
variable {X:Cx} {x:Str} {p pos:Pos} {e:Expr} {es:List Expr} {t:TA} {id T:String} {r:List V->Hp->VK->Prop}
def tCB (r:List V->Hp->VK->Prop)(t:TA):TE:=fun σ H Q=>t σ H fun vs H1=>r vs H1 Q
theorem bc (hc:pW X (.builtin id) r)(hg:Gl X x)(hm:X.mg x=none)(hv:bootBuiltins x=some (.builtin id))(ha:PA X (e::es) t)(hn:x ≠ "__name__":=by decide)(hdb:(x==("__debug__":Str))=false:=by decide)
  (he:starEach (e::es) X.env=(false,eval e X.env)::starEach es X.env:=by rfl) (hpl:(backTo pos (starEach es X.env)).any (·.1)=false:=by rfl):PE X (.Call (.Name x p) (e::es) [] pos) (tCB r t):=by
 intro pins s σ H Q I h;refine wpAny_Call_Name_kw (vf I hg hm hv ?_ hn hdb);exact PyProof.Rows.callWith_builtin1 (cJ (ha pos pins s σ H _ I h) fun us s1 ⟨vs,H1,I1,r1,q1⟩=>hc pins s1 σ H1 vs us Q I1 r1 q1) he hpl
theorem jM (hc:pW X (.type T) r)(hg:Gl X x)(hm:X.mg x=none)(hv:bootBuiltins x=some (.type T))(ha:PA X (e::es) t)(hn:x ≠ "__name__":=by decide)(hdb:(x==("__debug__":Str))=false:=by decide)
  (he:starEach (e::es) X.env=(false,eval e X.env)::starEach es X.env:=by rfl) (hpl:(backTo pos (starEach es X.env)).any (·.1)=false:=by rfl):PE X (.Call (.Name x p) (e::es) [] pos) (tCB r t):=by
 intro pins s σ H Q I h;refine wpAny_Call_Name_kw (vf I hg hm hv ?_ hn hdb);exact PyProof.Rows.callWith_type1 (cJ (ha pos pins s σ H _ I h) fun us s1 ⟨vs,H1,I1,r1,q1⟩=>hc pins s1 σ H1 vs us Q I1 r1 q1) he hpl
end
end L2
namespace HT
open PySem PyProof.Rows
section
open PySem.SeqAt
open PySem.AutoSeq1 (wpAny_loadPart')
open PySem.MeetsSeq PySem.MeetsSeq2 PySem.MeetsSeq3
end
section
variable {prog:Program} {w:World} {A:Around} {E:Value->Shared->Prop} {s:Shared}
def m8 (n d:Nat):Option Int->Nat
 |none=>d
 |some v=>if v<0 then(v+(n:Int)).toNat else min v.toNat n
theorem La (n d:Nat):m8 n d none=d:=rfl
theorem PR (n d k:Nat):m8 n d (some (k:Int))=min k n:=by
 show(if(k:Int)<0 then((k:Int)+(n:Int)).toNat else min (k:Int).toNat n)=min k n;rw[if_neg (by omega),Int.toNat_natCast]
theorem af8 (n d:Nat)(hd:d<=n)(o:Option Int):m8 n d o<=n:=by
 cases o with
 |none=>exact hd
 |some v =>
  show(if v<0 then(v+(n:Int)).toNat else min v.toNat n)<=n
  by_cases hv:v<0
  ·rw[if_pos hv];omega
  ·rw[if_neg hv];exact Nat.min_le_right _ _
theorem YM (v:Int)(n d:Nat):(if v<0 then max (v+(n:Int)) 0 else min v (n:Int))=((m8 n d (some v):Nat):Int):=by
 show(if v<0 then max (v+(n:Int)) 0 else min v (n:Int))=(((if v<0 then(v+(n:Int)).toNat else min v.toNat n):Nat):Int)
 by_cases hv:v<0
 ·simp only [if_pos hv];omega
 ·simp only [if_neg hv];omega
theorem VQ (lo hi:Option Int)(n:Nat):Builtin.Slice.sliceAdjust lo hi 1 (n:Int)=(((m8 n 0 lo:Nat):Int),((m8 n n hi:Nat):Int)):=by
 have h1:¬((1:Int)<0):=by omega
 unfold Builtin.Slice.sliceAdjust;simp only [h1,if_false];refine Prod.ext ?_ ?_
 ·cases lo with
  |none=>rfl
  |some v=>exact YM v n 0
 ·cases hi with
  |none=>rfl
  |some v=>exact YM v n n
theorem VR (i j:Nat):Builtin.Slice.slicePlaces (i:Int) (j:Int) 1=j-i:=by
 unfold Builtin.Slice.slicePlaces;have h1:(1:Int) > 0:=by omega
 simp only [h1,if_true,Int.ediv_one];split <;> omega
theorem Lb {v:Value}{o:Option Int}{Q:Option Int->Shared->Prop}(p:IsPart v o)(h:Q o s):wpAny (model prog w) A (Builtin.Slice.slicePartIndex v) Q E s:=by
 cases p with
 |none=>exact slicePart_none h
 |int i t=>exact slicePart_int h
theorem Gf {sl:Addr}{vl vu:Value}{lo hi:Option Int}{n:Nat}{Q:Int×Int×Nat->Shared->Prop}(hs:s.heap.IsSliceOf sl vl vu .none)(pl:IsPart vl lo)(pu:IsPart vu hi)
  (h:Q (((m8 n 0 lo:Nat):Int),1,m8 n n hi-m8 n 0 lo) s):wpAny (model prog w) A (Builtin.Slice.sliceApplied (.ref sl) (pure (n:Int))) Q E s:=by
 obtain⟨os,hos,hcs,hds⟩:=id hs;unfold Builtin.Slice.sliceApplied Builtin.Slice.sliceFields;refine wpAny_bind (wpAny_bind (wpAny_field hos hds (x:=vl) rfl (wpAny_bind (wpAny_field hos hds (x:=vu) rfl (wpAny_bind (wpAny_field hos hds (x:=.none) rfl (wpAny_pure ?_)))))));refine wpAny_bind (slicePart_none ?_);show wpAny _ _ (if((1:Int)==0)=true then _ else _) _ _ s;rw[if_neg (by decide)];refine wpAny_bind (Lb pl (wpAny_bind (Lb pu (wpAny_bind (wpAny_pure ?_)))));show wpAny _ _ (match Builtin.Slice.sliceAdjust lo hi 1 (n:Int) with|(lo,hi)=>pure (lo,(1:Int),Builtin.Slice.slicePlaces lo hi 1)) _ _ s;rw[VQ lo hi n];show wpAny _ _ (pure (((m8 n 0 lo:Nat):Int),(1:Int),Builtin.Slice.slicePlaces ((m8 n 0 lo:Nat):Int) ((m8 n n hi:Nat):Int) 1)) _ _ s;rw[VR];exact wpAny_pure h
theorem abv (xs:Array Value)(i k:Nat):((List.range k).filterMap fun(m:Nat)=>xs[((i:Int)+(m:Int) * 1).toNat]?).toArray=((xs.toList.drop i).take k).toArray:=by
 have e:(fun(m:Nat)=>xs[((i:Int)+(m:Int) * 1).toNat]?)=fun m=>xs[i+m]?:=by
  funext m
  have:((i:Int)+(m:Int) * 1).toNat=i+m:=by omega
  rw[this]
 rw[e];have:=pick_run xs i k;rw[List.filterMap_map]at this;have e2:((fun x=>xs[x]?) ∘ fun x=>i+x)=fun m=>xs[i+m]?:=rfl;rw[e2]at this;rw[this]
theorem DM {t sl:Addr}{items:Array Value}{vl vu:Value}{lo hi:Option Int}{Q:Value->Shared->Prop}(ht:IsTup s.heap t items)(hs:s.heap.IsSliceOf sl vl vu .none)(pl:IsPart vl lo)(pu:IsPart vu hi)
  (hw:¬(m8 items.size 0 lo=0/\m8 items.size items.size hi=items.size))
  (h:Q (.ref s.heap.objs.size) { s with heap:=s.heap.push { cls:=.type "tuple",data:=.seq ((items.toList.drop (m8 items.size 0 lo)).take (m8 items.size items.size hi-m8 items.size 0 lo)).toArray } })
  (hsz:items.size<=sizeLine):wpAny (model prog w) A (getItem (.ref t) (.ref sl)) Q E s:=by
 have YN:sizeOk (.seq ((items.toList.drop (m8 items.size 0 lo)).take (m8 items.size items.size hi-m8 items.size 0 lo)).toArray):=by
  show((items.toList.drop (m8 items.size 0 lo)).take (m8 items.size items.size hi-m8 items.size 0 lo)).toArray.size<=sizeLine;rw[size_toArray,length_take,length_drop,Array.length_toList];omega
 have hj:m8 items.size items.size hi<=items.size:=af8 _ _ (Nat.le_refl _) hi;obtain⟨os,hos,hcs,hds⟩:=id hs;have hTs:s.TypeIs (.ref sl) "slice":=⟨os,hos,hcs⟩;unfold getItem
 try with_reducible refine wpAny_holding ?_
 first|refine wpAny_bind (wpAny_pure ?_)|skip
 refine wpAny_bind (wpAny_sequenceKey ht.typeIs (by decide) ?_);refine wpAny_bind (wpAny_callSpecial?_slot (name:=Str.ofString "__getitem__") ht.typeIs PyProof.Rows.slot_tuple_getitem
  (wpAny_call_entry PyProof.Rows.slot_tuple_getitem ht.typeIs entry_tuple_getitem ?_ (args_tuple_getitem _ _)))
 show wpAny _ _ (Builtin.Tuple.tupleItemsOf (.ref t) >>= _) _ _ s;refine wpAny_bind (tupleItemsOf_ ht ?_);refine wpAny_bind (wpAny_typeOf hTs ?_);rw[if_pos (by decide)];refine wpAny_bind (Gf hs pl pu ?_);have hno:¬((((m8 items.size 0 lo:Nat):Int)==0&&(1:Int)==1&&(m8 items.size items.size hi-m8 items.size 0 lo)==items.size)=true):=by
  intro q;rw[Bool.and_eq_true,Bool.and_eq_true]at q;have q1:((m8 items.size 0 lo:Nat):Int)=0:=eq_of_beq q.1.1;have q2:m8 items.size items.size hi-m8 items.size 0 lo=items.size:=eq_of_beq q.2;exact hw ⟨by omega,by omega⟩
 show wpAny _ _ (if(((m8 items.size 0 lo:Nat):Int)==0&&(1:Int)==1&&(m8 items.size items.size hi-m8 items.size 0 lo)==items.size)=true then _ else _) _ _ s;rw[if_neg hno,abv]
 first
  |exact wpAny_bind (m:=Builtin.Tuple.tupleExact _) (wpAny_newObj_type (wpAny_pure ⟨_,rfl,wpAny_pure h⟩) YN)
  |exact wpAny_bind (m:=Builtin.Tuple.tupleExact _) (wpAny_newObj_type (wpAny_bind (wpAny_pure (wpAny_pure ⟨_,rfl,wpAny_pure h⟩))) YN)
  |exact wpAny_bind (wpAny_bind (m:=Builtin.Tuple.tupleExact _) (wpAny_newObj_type (wpAny_pure (wpAny_pure ⟨_,rfl,wpAny_pure h⟩)) YN))
  |exact wpAny_bind (wpAny_bind (m:=Builtin.Tuple.tupleExact _) (wpAny_newObj_type (wpAny_pure ⟨_,rfl,wpAny_pure h⟩) YN))
end
end HT
namespace L2
open PySem PySem.Spec PyProof.Rows
abbrev TO:=St->Hp->(Option Int->Hp->Prop)->Prop
def PO (X:Cx)(e:Option Expr)(t:TO):Prop :=
 ∀(pins:List (Addr×Obj)) (s:Shared) (σ:St) (H:Hp) (Q:Option Int->Hp->Prop),Inv X pins σ H s->t σ H Q ->
  wpAny (model X.prog X.w) X.A (evalPart e X.env) (fun u s'=>∃ o H',Inv X pins σ H' s'/\IsPart u o/\Q o H') X.xe s
def adJ:TO:=fun _ H Q=>Q none H
inductive abw (Q:(Option Int->Hp->Prop))(x:V)(H1:Hp):Prop
 |mk (i:_) (gw:x=.int i) (gx:Q (some i) H1):abw Q x H1
def ah1 (t:TE):TO:=fun σ H Q=>t σ H fun x H1=>abw Q x H1
section
variable {X:Cx} {e:Expr} {te:TE} {lo hi:Option Expr} {tl th:TO} {pos p2:Pos}
theorem rV:PO X none adJ:=by
 intro pins s σ H Q I h;rw[evalPart_none];exact wpAny_pure ⟨none,H,I,.none,h⟩
theorem je (h:PE X e te):PO X (some e) (ah1 te):=by
 intro pins s σ H Q I hw;rw[evalPart_some];refine cJ (h pins s σ H _ I hw) fun u s1 ⟨x,H1,I1,r1,q1⟩=>?_;obtain⟨i,rfl,q⟩:=q1;obtain⟨t,rfl⟩:=r1;exact⟨some i,H1,I1,.int i t,q⟩
def SlR (X:Cx)(r:V->Option Int->Option Int->Hp->VK->Prop):Prop :=
 ∀(pins:List (Addr×Obj)) (s:Shared) (σ:St) (H:Hp) (x:V) (v vl vu:Value) (lo hi:Option Int) (sl:Addr) (Q:VK),Inv X pins σ H s->RelV x v->s.heap.IsSliceOf sl vl vu .none->IsPart vl lo->IsPart vu hi->r x lo hi H Q ->
  ∃ T id,typeLookup (.type T) "__getitem__"=pure (some (.builtin id))/\s.TypeIs v T/\wpAny (model X.prog X.w) X.A (getItem v (.ref sl)) (EP X pins σ Q) X.xe s
theorem SlR.or {r r':V->Option Int->Option Int->Hp->VK->Prop}(h:SlR X r)(h':SlR X r'):SlR X (fun x lo hi H Q=>r x lo hi H Q\/r' x lo hi H Q):=by
 intro pins s σ H x v vl vu lo hi sl Q I rx hs pl pu q;rcases q with q|q
 ·exact h pins s σ H x v vl vu lo hi sl Q I rx hs pl pu q
 ·exact h' pins s σ H x v vl vu lo hi sl Q I rx hs pl pu q
def tSl (r:V->Option Int->Option Int->Hp->VK->Prop)(te:TE)(tl th:TO):TE:=fun σ H Q=>te σ H fun x H1=>tl σ H1 fun l H2=>th σ H2 fun u H3=>r x l u H3 Q
theorem lI {r:V->Option Int->Option Int->Hp->VK->Prop}(hr:SlR X r)(he:PE X e te)(hl:PO X lo tl)(hu:PO X hi th):PE X (.Subscript e (.Slice lo hi none p2) pos) (tSl r te tl th):=by
 intro pins s σ H Q I h;refine Subscript_ (cJ (he pins s σ H _ I h) fun v s1 ⟨x,H1,I1,r1,q1⟩=>?_);refine wpAny_Slice (cJ (hl pins s1 σ H1 _ I1 q1) fun vl s2 ⟨l,H2,I2,pl,q2⟩=>cJ (hu pins s2 σ H2 _ I2 q2) fun vu s3 ⟨u,H3,I3,pu,q3⟩=>?_);rw[evalPart_none];refine wpAny_pure ?_;have I4:Inv X pins σ H3 { s3 with heap:=s3.heap.push { cls:=.type "slice",data:=.fields #[vl,vu,.none] } }:=I3.kept (t':=s3.toks) fun b ob q=>Heap.get?_push_of_some _ q;obtain⟨T,id,hT,ht,hg⟩:=hr pins { s3 with heap:=s3.heap.push { cls:=.type "slice",data:=.fields #[vl,vu,.none] } } σ H3 x v vl vu l u s3.heap.objs.size Q I4 r1 (Heap.IsSliceOf.new ..) pl pu q3;show wpAny (model X.prog X.w) X.A (subscriptTail e (.Slice lo hi none p2) v (.ref s3.heap.objs.size)) (EP X pins σ Q) X.xe { s3 with heap:=s3.heap.push { cls:=.type "slice",data:=.fields #[vl,vu,.none] } };exact tail_any (ops:=[.ref s3.heap.objs.size,v]) ht hT hg (by with_unfolding_all rfl)
def Ak (xs:List V)(lo hi:Option Int):List V:=(xs.drop (HT.m8 xs.length 0 lo)).take (HT.m8 xs.length xs.length hi-HT.m8 xs.length 0 lo)
theorem Jw (xs:List V)(lo hi:Option Int):(Ak xs lo hi).length<=xs.length:=by
 unfold Ak;rw[length_take,length_drop];omega
inductive aff (K:Frag)(x:V)(lo:Option Int)(hi:Option Int)(H:Hp)(Q:VK):Prop
 |mk (a:_) (xs:_) (gw:x=.ref a) (gx:uo K H a xs) (iW:¬(HT.m8 xs.length 0 lo=0/\HT.m8 xs.length xs.length hi=xs.length)) (m7:∀ p,H p=none->Q (.ref p) (upd H p (.tup (Ak xs lo hi)))):aff K x lo hi H Q
def akm (K:Frag):V->Option Int->Option Int->Hp->VK->Prop:=fun x lo hi H Q=>aff K x lo hi H Q
theorem vm:SlR X (akm X.K):=by
 intro pins s σ H x v vl vu lo hi sl Q I rx hs pl pu h;obtain⟨a,xs,rfl,hx,hw,q⟩:=h;cases rx;obtain⟨its,r,ht,hz⟩:=I.tuple hx;have hlen:its.toArray.size=xs.length:=by rw[size_toArray];exact r.length.symm
 refine⟨"tuple",_,PyProof.Rows.slot_tuple_getitem.lookup,ht.typeIs,?_⟩;refine HT.DM ht hs pl pu (by rw[hlen];exact hw) ?_ (by rw[hlen];exact hz);rw[hlen];refine⟨.ref s.heap.objs.size,_,I.laid (t':=s.toks) (o:=.tup (Ak xs lo hi)) (fun b ob q=>Heap.get?_push_of_some _ q) (Nat.le_refl _) ?_,rfl,q _ (I.hok.fresh (Nat.le_refl _))⟩;exact⟨Nat.le_trans (Jw xs lo hi) hz,_,(r.drop (HT.m8 xs.length 0 lo)).take (HT.m8 xs.length xs.length hi-HT.m8 xs.length 0 lo),IsTup.new _ _⟩
end
end L2
namespace L2
open PySem PySem.Spec PyProof.Rows
def ixN (n:Nat)(i:Int):Option Nat:=if 0<=i then(if i<n then some i.toNat else none) else if -(n:Int)<=i then some (i+n).toNat else none
def atI {α:Type}(xs:List α)(i:Int):Option α:=(ixN xs.length i).bind fun j=>xs[j]?
theorem YO {n:Nat}{i:Int}{j:Nat}(h:ixN n i=some j):seqIndex? i n=some j/\j<n/\-(n:Int)<=i/\i<n:=by
 unfold ixN at h
 by_cases h0:0<=i
 ·rw[if_pos h0]at h
  by_cases h1:i<n
  ·rw[if_pos h1]at h;have e:i.toNat=j:=Option.some.inj h;exact⟨by rw[seqIndex_of h0 h1,e],by omega,by omega,h1⟩
  ·rw[if_neg h1]at h;cases h
 ·rw[if_neg h0]at h
  by_cases h1:-(n:Int)<=i
  ·rw[if_pos h1]at h;have e:(i+n).toNat=j:=Option.some.inj h;exact⟨by rw[seqIndex_neg (by omega) h1,e],by omega,h1,by omega⟩
  ·rw[if_neg h1]at h;cases h
theorem PU {α:Type}{xs:List α}{i:Int}{v:α}(h:atI xs i=some v):∃ j,seqIndex? i xs.length=some j/\xs[j]? = some v/\j<xs.length/\-(xs.length:Int)<=i/\i<xs.length:=by
 unfold atI at h;cases e:ixN xs.length i with
 |none=>rw[e]at h;cases h
 |some j =>
  rw[e]at h;obtain⟨h1,h2,h3,h4⟩:=YO e;exact⟨j,h1,h,h2,h3,h4⟩
theorem DN {α:Type}{xs:List α}{j:Nat}{v:α}(h:xs[j]? = some v):atI xs (j:Int)=some v:=by
 have hj:j<xs.length:=(List.getElem?_eq_some_iff.mp h).1;have e:ixN xs.length (j:Int)=some j:=by
  unfold ixN;rw[if_pos (by omega),if_pos (by omega)];simp
 unfold atI;rw[e];exact h
def adK (b:Expr):Prop:=∀ o i,subscripted b false o i=operate [o,i] (getItem o i)
def IxR (X:Cx)(r:R2):Prop :=
 ∀(value slice:Expr)(pins:List (Addr×Obj)) (s:Shared) (σ:St) (H:Hp) (x y:V) (v u:Value) (Q:VK),Inv X pins σ H s->RelV x v->RelV y u->r x y H Q ->
  subscripted slice false v u=operate [v,u] (getItem v u)->wpAny (model X.prog X.w) X.A (subscriptTail value slice v u) (EP X pins σ Q) X.xe s
def MtR (X:Cx)(id:String)(r:V->List V->Hp->VK->Prop):Prop :=
 ∀(pins:List (Addr×Obj)) (s:Shared) (σ:St) (H:Hp) (x:V) (xs:List V) (v:Value) (us:List Value) (Q:VK),Inv X pins σ H s->RelV x v->Vals xs us->r x xs H Q ->
  wpAny (model X.prog X.w) X.A (call (.builtin id) (v::us)) (EP X pins σ Q) X.xe s
section
variable {X:Cx} {a b:Expr} {ta tb:TE} {pos:Pos}
theorem IxR.or {r r':R2}(h:IxR X r)(h':IxR X r'):IxR X (fun x y H Q=>r x y H Q\/r' x y H Q):=by
 intro value slice pins s σ H x y v u Q I rx ry q hs;rcases q with q|q
 ·exact h value slice pins s σ H x y v u Q I rx ry q hs
 ·exact h' value slice pins s σ H x y v u Q I rx ry q hs
theorem aK {r:R2}(hr:IxR X r)(ha:PE X a ta)(hb:PE X b tb)(hs:adK b):PE X (.Subscript a b pos) (tOp r ta tb):=by
 intro pins s σ H Q I h;exact Subscript_ (af4 ha hb I h fun v u s2 x y H2 I2 rx ry q=>hr a b pins s2 σ H2 x y v u Q I2 rx ry q (hs _ _))
inductive afg (K:Frag)(x:V)(y:V)(H:Hp)(Q:VK):Prop
 |mk (p:_) (xs:_) (i:_) (v:_) (gw:x=.ref p) (gx:y=.int i) (iW:aZ K H p xs) (m7:atI xs i=some v) (tJ:Q v H):afg K x y H Q
def PV (K:Frag):R2:=fun x y H Q=>afg K x y H Q
inductive afh (K:Frag)(x:V)(y:V)(H:Hp)(Q:VK):Prop
 |mk (p:_) (xs:_) (i:_) (v:_) (gw:x=.ref p) (gx:y=.int i) (iW:uo K H p xs) (m7:atI xs i=some v) (tJ:Q v H):afh K x y H Q
def PX (K:Frag):R2:=fun x y H Q=>afh K x y H Q
inductive afi (x:V)(y:V)(H:Hp)(Q:VK):Prop
 |mk (z:_) (i:_) (c:_) (gw:x=.str z) (gx:y=.int i) (iW:z.length<=sizeLine) (m7:atI z.cps.toList i=some c) (tJ:Q (.str ⟨#[c]⟩) H):afi x y H Q
def PY :R2:=fun x y H Q=>afi x y H Q
theorem adL:IxR X (PV X.K):=by
 intro value slice pins s σ H x y v u Q I rx ry h hs;obtain⟨p,xs,i,z,rfl,rfl,hq,he,q⟩:=h;cases rx;obtain⟨t,rfl⟩:=ry;obtain⟨its,r,pl,hz⟩:=I.list hq;obtain⟨j,h1,h2,h3,h4,h5⟩:=PU he;obtain⟨w,ew,rw'⟩:=r.get h2;have hl:=r.length;have hn:=Gd;have fin:EP X pins σ Q w s:=⟨z,H,I,rw',q⟩
 by_cases h0:0<=i
 ·have hj:i.toNat=j:=by
   rw[seqIndex_of h0 h5]at h1;exact Option.some.inj h1
  exact item_listR pl.isList h0 (by omega) (by rw[hj];simpa using ew) fin hs
 ·have hj:(i+(its.toArray.size:Int)).toNat=j:=by
   rw[seqIndex_neg (by omega) h4]at h1;rw[size_toArray,<-hl];exact Option.some.inj h1
  exact subscriptTail_builtinR (x:=w) pl.isList.typeIs slot_list_getitem.lookup
   (wpAny_getItem_list_neg (Q:=fun r s'=>r=w/\EP X pins σ Q r s') pl.isList (by omega) (by rw[size_toArray] <;> omega) (by omega) (by rw[hj];simpa using ew) ⟨rfl,fin⟩) hs
theorem af9:IxR X (PX X.K):=by
 intro value slice pins s σ H x y v u Q I rx ry h hs;obtain⟨p,xs,i,z,rfl,rfl,hq,he,q⟩:=h;cases rx;obtain⟨t,rfl⟩:=ry;obtain⟨its,r,pl,hz⟩:=I.tuple hq;obtain⟨j,h1,h2,h3,h4,h5⟩:=PU he;obtain⟨w,ew,rw'⟩:=r.get h2;have hl:=r.length;have hn:=Gd;have fin:EP X pins σ Q w s:=⟨z,H,I,rw',q⟩;exact subscriptTail_builtinR (x:=w) pl.typeIs slot_tuple_getitem.lookup
  (getItem_tuple (j:=j) (Q:=fun r s'=>r=w/\EP X pins σ Q r s') pl (by omega) (by omega) (by rw[size_toArray,<-hl];exact h1) (by simpa using ew) ⟨rfl,fin⟩) hs
theorem aga:IxR X PY:=by
 intro value slice pins s σ H x y v u Q I rx ry h hs;obtain⟨z,i,c,rfl,rfl,hz,he,q⟩:=h;obtain⟨t,rfl⟩:=rx;obtain⟨t',rfl⟩:=ry;obtain⟨j,h1,h2,h3,h4,h5⟩:=PU he;have hl:z.cps.toList.length=z.length:=by simp[Str.length]
 rw[hl]at h1 h4 h5;have hn:=Gd;exact tail_any (typeIs_str s z t) slot_str_getitem.lookup (getItem_str (c:=c) (by
  have e1:decide (i < -(2 ^ 63:Int))=false:=decide_eq_false (by omega);have e2:decide (i ≥ 2 ^ 63)=false:=decide_eq_false (by omega);rw[e1,e2,Bool.or_false]) (by rw[h1];simpa using h2) ⟨.str ⟨#[c]⟩,H,I.tok _,⟨_,rfl⟩,q⟩) hs
def rIx (K:Frag):R2:=fun x y H Q=>PV K x y H Q\/PX K x y H Q\/PY x y H Q
theorem aA:IxR X (rIx X.K):=adL.or (af9.or aga)
theorem VS (its:List Value)(n j:Nat)(u:Value):Obj.mapSeq (·.setIfInBounds j u) { cls:=.type "list",data:=.seq its.toArray n } = { cls:=.type "list",data:=.seq (its.set j u).toArray n }:=by
 simp[Obj.mapSeq]
theorem Inv.lst {pins:List (Addr×Obj)}{σ:St}{H:Hp}{s:Shared}{p:Addr}{xs:List V}(I:Inv X pins σ H s)(h:H p=some (.lst xs)) :
  ∃(its:List Value)(n:Nat),Vals xs its/\s.heap.get? p=some { cls:=.type "list",data:=.seq its.toArray n }/\xs.length<=sizeLine:=by
 obtain⟨z,its,n,r,e⟩:=I.hok p _ h;exact⟨its,n,r,e,z⟩
theorem Inv.agb {pins:List (Addr×Obj)}{σ:St}{H:Hp}{s:Shared}{p:Addr}{xs ys:List V}{its its':List Value}{n n':Nat}{f:Obj->Obj}(I:Inv X pins σ H s)(h:H p=some (.lst xs))
  (ho:s.heap.get? p=some { cls:=.type "list",data:=.seq its.toArray n }) (hf:f { cls:=.type "list",data:=.seq its.toArray n } = { cls:=.type "list",data:=.seq its'.toArray n' }) (r:Vals ys its') (hz:ys.length<=sizeLine) (t:Nat) :
  Inv X pins σ (upd H p (.lst ys)) { s with heap:=s.heap.update p f,toks:=t }:=by
 have e:(s.heap.update p f).get? p=some { cls:=.type "list",data:=.seq its'.toArray n' }:=by
  rw[Heap.get?_update_self f ho (by rw[hf] <;> rfl),hf]
 refine I.write (x:=p) (e:=p) (by rw[h];trivial) (.inl rfl) (fun b u hb q=>(Heap.get?_update_other _ _ (Ne.symm hb)).trans q) ⟨_,e⟩ ?_;exact⟨hz,its',n',r,e⟩
inductive aby (o:V)(i:V)(v:V)(H:Hp)(Q:(Hp->Prop)):Prop
 |mk (p:_) (xs:_) (k:_) (j:_) (gw:o=.ref p) (gx:i=.int k) (iW:H p=some (.lst xs)) (m7:ixN xs.length k=some j) (tJ:Q (upd H p (.lst (xs.set j v)))):aby o i v H Q
def ah2 :V->V->V->Hp->(Hp->Prop)->Prop:=fun o i v H Q=>aby o i v H Q
theorem set_list:ahQ X ah2:=by
 intro pins s σ H o i v ov iv u Q I ro ri rv h;obtain⟨p,xs,k,j,rfl,rfl,hp,hj,q⟩:=h;cases ro;obtain⟨t,rfl⟩:=ri;obtain⟨its,n,r,ho,hz⟩:=I.lst hp;obtain⟨h1,h2,h3,h4⟩:=YO hj;have hl:=r.length;have hn:=Gd;have I':Inv X pins σ (upd H p (.lst (xs.set j v))) { s with heap:=s.heap.update p (Obj.mapSeq (·.setIfInBounds j u)) } :=
  I.agb hp ho (VS its n j u) (r.set rv j) (by rw[List.length_set];exact hz) s.toks
 by_cases h0:0<=k
 ·have hk:k.toNat=j:=by
   rw[seqIndex_of h0 h4]at h1;exact Option.some.inj h1
  exact PySem.W.ki_setAt ho h0 (by omega) (by rw[size_toArray,<-hl];exact h4) (by rw[hk];exact⟨_,I',q⟩)
 ·have hk:(k+(its.toArray.size:Int)).toNat=j:=by
   rw[seqIndex_neg (by omega) h3]at h1;rw[size_toArray,<-hl];exact Option.some.inj h1
  exact PySem.W.ki_setBack ho (by omega) (by rw[size_toArray,<-hl];exact h3) (by omega) (by rw[hk];exact⟨_,I',q⟩)
theorem PZ (lo hi:Option Int)(n:Nat):(sliceBounds lo hi none n).1=((HT.m8 n 0 lo:Nat):Int)/\(sliceBounds lo hi none n).2.1=((HT.m8 n n hi:Nat):Int)/\(sliceBounds lo hi none n).2.2=1:=by
 refine⟨?_,?_,rfl⟩
 ·cases lo with
  |none=>simp[sliceBounds,HT.m8]
  |some i =>
   simp only [sliceBounds,HT.m8,Option.getD_none,show(1:Int) > 0 by decide,if_true]
   by_cases h:i<0
   ·simp only [h,if_true] <;> omega
   ·simp only [h,if_false] <;> omega
 ·cases hi with
  |none=>simp[sliceBounds,HT.m8]
  |some i =>
   simp only [sliceBounds,HT.m8,Option.getD_none,show(1:Int) > 0 by decide,if_true]
   by_cases h:i<0
   ·simp only [h,if_true] <;> omega
   ·simp only [h,if_false] <;> omega
theorem NT (its:List Value)(lo hi:Option Int):slicePick its.toArray lo hi none=((its.drop (HT.m8 its.length 0 lo)).take (HT.m8 its.length its.length hi-HT.m8 its.length 0 lo)).toArray:=by
 obtain⟨h1,h2,h3⟩:=PZ lo hi its.toArray.size;unfold slicePick;rw[h1,h2,h3];simp only [sliceRange_one,pick_run,size_toArray] <;> rfl
inductive afj (K:Frag)(x:V)(lo:Option Int)(hi:Option Int)(H:Hp)(Q:VK):Prop
 |mk (a:_) (xs:_) (gw:x=.ref a) (gx:aZ K H a xs) (iW:∀ p,H p=none->Q (.ref p) (upd H p (.lst (Ak xs lo hi)))):afj K x lo hi H Q
def akn (K:Frag):V->Option Int->Option Int->Hp->VK->Prop:=fun x lo hi H Q=>afj K x lo hi H Q
theorem qa:SlR X (akn X.K):=by
 intro pins s σ H x v vl vu lo hi sl Q I rx hs pl pu h;obtain⟨a,xs,rfl,hx,q⟩:=h;cases rx;obtain⟨its,r,ht,hz⟩:=I.list hx;have hlen:=r.length;refine⟨"list",_,slot_list_getitem.lookup,ht.isList.typeIs,?_⟩;refine wpAny_getItem_list_slice ht.isList hs pl pu .none (by simp) ?_ (by rw[size_toArray] <;> omega);rw[NT,<-hlen];refine⟨.ref s.heap.objs.size,_,I.laid (t':=s.toks) (o:=.lst (Ak xs lo hi)) (fun b ob q=>Heap.get?_push_of_some _ q) (Nat.le_refl _) ?_,rfl,q _ (I.hok.fresh (Nat.le_refl _))⟩;exact⟨Nat.le_trans (Jw xs lo hi) hz,_,0,(r.drop (HT.m8 xs.length 0 lo)).take (HT.m8 xs.length xs.length hi-HT.m8 xs.length 0 lo),Heap.get?_push_size _ rfl⟩
def AO:V->Bool
 |.non=>true
 |.bl _=>true
 |.int _=>true
 |.str _=>true
 |_=>false
def YQ:V->V->Bool
 |.non,.non=>true
 |.bl a,.bl b=>a==b
 |.bl a,.int b=>(if a then 1 else 0)==b
 |.int a,.bl b=>a==(if b then 1 else 0)
 |.int a,.int b=>a==b
 |.str a,.str b=>a==b
 |_,_=>false
theorem abz {A:Around}{s:Shared}{y x:V}{u v:Value}(ry:RelV y u)(rx:RelV x v)(fy:AO y=true)(fx:AO x=true):SeqAt.EqAt A s u v (YQ y x):=by
 cases y with
 |non =>
  cases ry;cases x with
  |non=>cases rx;exact SeqAt.EqAt.same _
  |bl b=>cases rx;exact SeqAt.EqAt.none_bool b
  |int b=>obtain⟨t,rfl⟩:=rx;exact SeqAt.EqAt.none_int b t
  |str b=>obtain⟨t,rfl⟩:=rx;exact SeqAt.EqAt.none_str b t
  |_=>exact absurd (show false=true from fx) Bool.false_ne_true
 |bl a =>
  cases ry;cases x with
  |non=>cases rx;exact SeqAt.EqAt.bool_none a
  |bl b=>cases rx;exact SeqAt.EqAt.bool_bool a b
  |int b=>obtain⟨t,rfl⟩:=rx;exact SeqAt.EqAt.bool_int a b t
  |str b=>obtain⟨t,rfl⟩:=rx;exact SeqAt.EqAt.bool_str a b t
  |_=>exact absurd (show false=true from fx) Bool.false_ne_true
 |int a =>
  obtain⟨t',rfl⟩:=ry;cases x with
  |non=>cases rx;exact SeqAt.EqAt.int_none a t'
  |bl b=>cases rx;exact SeqAt.EqAt.int_bool a t' b
  |int b=>obtain⟨t,rfl⟩:=rx;exact SeqAt.EqAt.int_int a t' b t
  |str b=>obtain⟨t,rfl⟩:=rx;exact SeqAt.EqAt.int_str a t' b t
  |_=>exact absurd (show false=true from fx) Bool.false_ne_true
 |str a =>
  obtain⟨t',rfl⟩:=ry;cases x with
  |non=>cases rx;exact SeqAt.EqAt.str_none a t'
  |bl b=>cases rx;exact SeqAt.EqAt.str_bool a t' b
  |int b=>obtain⟨t,rfl⟩:=rx;exact SeqAt.EqAt.str_int a t' b t
  |str b=>obtain⟨t,rfl⟩:=rx;exact SeqAt.EqAt.str_str a t' b t
  |_=>exact absurd (show false=true from fx) Bool.false_ne_true
 |_=>exact absurd (show false=true from fy) Bool.false_ne_true
def VT (x:V)(u:Value):Bool:=match u with
 |.none=>YQ .non x
 |.bool b=>YQ (.bl b) x
 |.int i _=>YQ (.int i) x
 |.str z _=>YQ (.str z) x
 |_=>false
theorem abA {x y:V}{u:Value}(r:RelV y u)(f:AO y=true):VT x u=YQ y x:=by
 cases y with
 |non=>cases r;rfl
 |bl b=>cases r;rfl
 |int i=>obtain⟨t,rfl⟩:=r;rfl
 |str z=>obtain⟨t,rfl⟩:=r;rfl
 |_=>exact absurd (show false=true from f) Bool.false_ne_true
theorem DO {x:V}:∀{xs:List V} {us:List Value},Vals xs us->xs.all AO=true->us.any (VT x)=xs.any fun y=>YQ y x
 |_,_,.nil,_=>rfl
 |y::xs,u::us,.cons r t,f=>by
  rw[List.all_cons,Bool.and_eq_true]at f;rw[List.any_cons,List.any_cons,abA r f.1,DO t f.2]
theorem xP {A:Around}{s:Shared}{x:V}{v:Value}(rx:RelV x v)(fx:AO x=true):∀{xs:List V} {us:List Value},Vals xs us->xs.all AO=true->∀ u∈us,SeqAt.EqAt A s u v (VT x u)
 |_,_,.nil,_=>fun u hu=>by cases hu
 |y::xs,u::us,.cons r t,f=>fun u' hu=>by
  rw[List.all_cons,Bool.and_eq_true]at f;rcases List.mem_cons.mp hu with rfl|hu
  ·rw[abA r f.1];exact abz r rx f.1 fx
  ·exact xP rx fx t f.2 u' hu
def inV (x:V)(xs:List V):Bool:=xs.any fun y=>YQ y x
inductive ah3 (K:Frag)(neg:Bool)(x:V)(y:V)(H:Hp)(Q:VK):Prop
 |mk (p:_) (xs:_) (gw:y=.ref p) (gx:(aZ K H p xs\/uo K H p xs)) (iW:AO x=true) (m7:xs.all AO=true) (tJ:Q (.bl (if neg then !inV x xs else inV x xs)) H):ah3 K neg x y H Q
def rIn (K:Frag)(neg:Bool):R2:=fun x y H Q=>ah3 K neg x y H Q
theorem cV:uq X (compareOp .In) (rIn X.K false):=by
 intro pins s σ H x y v u Q I rx ry h;obtain⟨p,xs,rfl,hq,fx,fs,q⟩:=h;cases ry;rcases hq with hq|hq
 ·obtain⟨its,r,pl,hz⟩:=I.list hq;refine SeqAt.in_listAt (VT x) pl.isList (fun w hw=>xP rx fx r fs w (by simpa using hw)) ⟨.bl _,H,I,rfl,?_⟩;rw[show its.toArray.any (VT x)=its.any (VT x) by simp,DO r fs];exact q
 ·obtain⟨its,r,pl,hz⟩:=I.tuple hq;refine SeqAt.in_tupleAt (VT x) pl (fun w hw=>xP rx fx r fs w (by simpa using hw)) ⟨.bl _,H,I,rfl,?_⟩;rw[show its.toArray.any (VT x)=its.any (VT x) by simp,DO r fs];exact q
theorem vn:uq X (compareOp .NotIn) (rIn X.K true):=by
 intro pins s σ H x y v u Q I rx ry h;obtain⟨p,xs,rfl,hq,fx,fs,q⟩:=h;cases ry;rcases hq with hq|hq
 ·obtain⟨its,r,pl,hz⟩:=I.list hq;refine SeqAt.notIn_listAt (VT x) pl.isList (fun w hw=>xP rx fx r fs w (by simpa using hw)) ⟨.bl _,H,I,rfl,?_⟩;rw[show its.toArray.any (VT x)=its.any (VT x) by simp,DO r fs];exact q
 ·obtain⟨its,r,pl,hz⟩:=I.tuple hq;refine SeqAt.notIn_tupleAt (VT x) pl (fun w hw=>xP rx fx r fs w (by simpa using hw)) ⟨.bl _,H,I,rfl,?_⟩;rw[show its.toArray.any (VT x)=its.any (VT x) by simp,DO r fs];exact q
theorem vo:uq X (compareOp .NotIn) (fun x y H Q=>∃ i j,x=.str i/\y=.str j/\Q (.bl (!(!(Builtin.Str.occurrences j i 0 j.length 1).isEmpty))) H):=by
 intro pins s σ H x y v u Q I rx ry h;obtain⟨i,j,rfl,rfl,q⟩:=h;obtain⟨t,rfl⟩:=rx;obtain⟨t',rfl⟩:=ry;exact notIn_str ⟨.bl _,H,I,rfl,q⟩
theorem aN:pW X (.builtin "len") (fun xs H Q=>∃ p ys,xs=[.ref p]/\(aZ X.K H p ys\/uo X.K H p ys)/\Q (.int ys.length) H):=by
 intro pins s σ H xs us Q I r h;obtain⟨p,ys,rfl,hq,q⟩:=h;obtain⟨u,rfl,rx⟩:=vals1 r;cases rx;have hn:=Gd;rcases hq with hq|hq
 ·obtain⟨its,r',pl,hz⟩:=I.list hq;have hlen:=r'.length;exact Calls.call_len_list pl.isList (by simp only [size_toArray] <;> omega) ⟨.int ys.length,H,I.tok _,⟨s.toks+1,by rw[size_toArray,hlen]⟩,q⟩
 ·obtain⟨its,r',pl,hz⟩:=I.tuple hq;have hlen:=r'.length;exact len_tuple pl (by simp only [size_toArray] <;> omega) ⟨.int ys.length,H,I.tok _,⟨s.toks+1,by rw[size_toArray,hlen]⟩,q⟩
theorem aO:pW X (.builtin "len") (fun xs H Q=>∃ z,xs=[.str z]/\z.length<=sizeLine/\Q (.int z.length) H):=by
 intro pins s σ H xs us Q I r h;obtain⟨z,rfl,hz,q⟩:=h;obtain⟨u,rfl,t,rfl⟩:=vals1 r;have hn:=Gd;exact len_str (by omega) ⟨.int z.length,H,I.tok _,⟨_,rfl⟩,q⟩
theorem pW.or {f:Value}{r r':List V->Hp->VK->Prop}(h:pW X f r)(h':pW X f r'):pW X f (fun xs H Q=>r xs H Q\/r' xs H Q):=by
 intro pins s σ H xs us Q I rs q;rcases q with q|q
 ·exact h pins s σ H xs us Q I rs q
 ·exact h' pins s σ H xs us Q I rs q
theorem DP:pW X (.type "list") (fun xs H Q=>∃ p ys,xs=[.ref p]/\(aZ X.K H p ys\/uo X.K H p ys)/\∀ l,H l=none->Q (.ref l) (upd H l (.lst ys))):=by
 intro pins s σ H xs us Q I r h;obtain⟨p,ys,rfl,hq,q⟩:=h;obtain⟨u,rfl,rx⟩:=vals1 r;cases rx;have fin:∀(its:List Value),Vals ys its->ys.length<=sizeLine->∀(h':Heap)(c':Nat),(∀ b o',s.heap.get? b=some o'->h'.get? b=some o') ->
   h'.get? s.heap.objs.size=some { cls:=.type "list",dict:=none,data:=.seq its.toArray c',slots:=#[] }->EP X pins σ Q (.ref s.heap.objs.size) { s with heap:=h' }:=fun its r' hz h' c' kp e =>
  ⟨.ref s.heap.objs.size,_,I.laid (t':=s.toks) kp (Nat.le_refl _) (show ia X.prog X.w _ h' _ (.lst ys) from⟨hz,its,c',r',e⟩),rfl,q _ (I.hok.fresh (Nat.le_refl _))⟩
 rcases hq with hq|hq
 ·obtain⟨its,r',pl,hz⟩:=I.list hq;have hlen:=r'.length;obtain⟨o,ho,hc,n,hd⟩:=pl.isList;exact call_list_seq p (.inl rfl) ho hc hd (fun h' c' kp e=>fin its r' hz h' c' kp e) (by simp only [size_toArray] <;> omega)
 ·obtain⟨its,r',pl,hz⟩:=I.tuple hq;have hlen:=r'.length;obtain⟨o,ho,hc,n,hd⟩:=pl;exact call_list_seq p (.inr rfl) ho hc hd (fun h' c' kp e=>fin its r' hz h' c' kp e) (by simp only [size_toArray] <;> omega)
def tyV (K:Frag)(T:String)(x:V)(H:Hp):Prop:=match x with
 |.str _=>T = "str"
 |.int _=>T = "int"
 |.ref p=>(T = "list"/\∃ xs,aZ K H p xs)\/(T = "tuple"/\∃ o,K.lookup p=some o/\o.cls=.type "tuple"/\o.dict=none) \/
   (T = "dict"/\((∃ kvs,H p=some (.dK kvs))\/∃ kvs,H p=some (.dT kvs)))\/(T = "set"/\∃ S n,H p=some (.set S n))
 |_=>False
theorem abB {pins:List (Addr×Obj)}{σ:St}{H:Hp}{s:Shared}{T:String}{x:V}{v:Value}(I:Inv X pins σ H s)(r:RelV x v)(ty:tyV X.K T x H) :
  s.TypeIs v T/\∀ a,v=.ref a->∃ ob,s.heap.get? a=some ob/\ob.dict=none:=by
 cases x with
 |str z =>
  obtain⟨t,rfl⟩:=r;cases (show T = "str" from ty);exact⟨typeIs_str s z t,fun _ e=>nomatch e⟩
 |int i =>
  obtain⟨t,rfl⟩:=r;cases (show T = "int" from ty);exact⟨typeIs_int s i t,fun _ e=>nomatch e⟩
 |ref p =>
  cases r;rcases ty with ⟨rfl,xs,hq⟩|⟨rfl,o,hk,hc,hd⟩|⟨rfl,hk⟩|⟨rfl,S,n,hk⟩
  ·obtain⟨its,_,pl,_⟩:=I.list hq;refine⟨pl.isList.typeIs,fun a e=>?_⟩;cases e;obtain⟨o,n,e,c,hd,_⟩:=pl;exact⟨o,e,hd⟩
  ·refine⟨⟨o,I.xG p o hk,hc⟩,fun a e=>?_⟩;cases e;exact⟨o,I.xG _ o hk,hd⟩
  ·have z:∃ o,s.heap.get? p=some o/\o.ExactDict:=by
    rcases hk with ⟨kvs,hk⟩|⟨kvs,hk⟩
    ·obtain⟨_,_,_,_,o,_,_,e,ex,_⟩:=I.hok p _ hk;exact⟨o,e,ex⟩
    ·obtain⟨_,_,_,_,o,_,_,e,ex,_⟩:=I.hok p _ hk;exact⟨o,e,ex⟩
   obtain⟨o,e,ex⟩:=z;refine⟨⟨o,e,ex.1⟩,fun a e2=>?_⟩;cases e2;exact⟨o,e,ex.2.1⟩
  ·obtain⟨o,_,_,_,e,ex,_⟩:=I.hok p _ hk;refine⟨⟨o,e,ex.1⟩,fun a e2=>?_⟩;cases e2;exact⟨o,e,ex.2.1⟩
 |_=>exact False.elim ty
def akp (K:Frag)(T:String)(r:V->List V->Hp->VK->Prop)(to:TE):TE:=fun σ H Q=>to σ H fun x H1=>tyV K T x H1/\r x [] H1 Q
def tBM (K:Frag)(T:String)(r:V->List V->Hp->VK->Prop)(to:TE)(t:TA):TE:=fun σ H Q=>to σ H fun x H1=>tyV K T x H1/\t σ H1 fun xs H2=>r x xs H2 Q
variable {o e:Expr} {es:List Expr} {to:TE} {t:TA} {name:Str} {apos cpos:Pos} {T id:String} {r:V->List V->Hp->VK->Prop}
theorem VU (pa:PlainAttrs T)(slot:Slot T name id)(hty:typeOf (.builtin id)=pure (.type "method_descriptor"))(hm:MtR X id r)(ho:PE X o to)
  (hbase:attributeBase o name X.env (eval o X.env)=eval o X.env:=by rfl) (hline:(apos.endLine==cpos.line)=true:=by rfl):PE X (.Call (.Attribute o name apos) [] [] cpos) (akp X.K T r to):=by
 intro pins s σ H Q I h;refine wpAny_Call_method0_late hbase hline (cJ (ho pins s σ H _ I h) fun v s1 ⟨x,H1,I1,r1,ty,q1⟩=>?_);obtain⟨h1,h2⟩:=abB I1 r1 ty;exact⟨T,id,pa,slot,hty,h1,h2,Calls.callWith_builtin rfl (PySem.evalArgs_none (hm pins s1 σ H1 x [] v [] Q I1 r1 .nil q1))⟩
theorem m9 (pa:PlainAttrs T)(slot:Slot T name id)(hty:typeOf (.builtin id)=pure (.type "method_descriptor"))(hm:MtR X id r)(ho:PE X o to)(ha:PA X (e::es) t)
  (hbase:attributeBase o name X.env (eval o X.env)=eval o X.env:=by rfl)
  (hfew:((backTo cpos (starEach (e::es) X.env)).all (fun x=>!x.1)&&(backToKw cpos (keywordEach [] X.env)).all (fun x=>x.1.isSome)
   && decide ((e::es).length+([]:List Keyword).length+(if([]:List Keyword).isEmpty then 0 else 1)<30))=true:=by rfl)
  (hline:(apos.endLine==cpos.line)=true:=by rfl) (hs:starEach (e::es) X.env=(false,eval e X.env)::starEach es X.env:=by rfl) (hplain:(backTo cpos (starEach es X.env)).any (·.1)=false:=by rfl) :
  PE X (.Call (.Attribute o name apos) (e::es) [] cpos) (tBM X.K T r to t):=by
 intro pins s σ H Q I h;refine wpAny_Call_method_late hbase hfew hline rfl (cJ (ho pins s σ H _ I h) fun v s1 ⟨x,H1,I1,r1,ty,q1⟩=>?_);obtain⟨h1,h2⟩:=abB I1 r1 ty;refine⟨T,id,pa,slot,hty,h1,h2,?_⟩;have hA:=ha cpos pins s1 σ H1 _ I1 q1;rw[hs]at hA ⊢;refine Calls.callWith_builtin (by show(false||(backTo cpos (starEach es X.env)).any (·.1))=false;rw[hplain] <;> rfl) (Calls.evalArgs_plain ?_);exact cJ hA fun us s2 ⟨vs,H2,I2,r2,q2⟩=>hm pins s2 σ H2 x vs v us Q I2 r1 r2 q2
end
end L2
namespace L2
open PySem PySem.Spec PyProof.Rows
def MtM (X:Cx)(id:String)(r:V->List V->Hp->VK->Prop):Prop :=
 ∀(pins:List (Addr×Obj)) (s:Shared) (σ:St) (H:Hp) (x:V) (xs:List V) (v:Value) (us:List Value) (Q:VK),Inv X pins σ H s->RelV x v->Vals xs us->r x xs H Q ->
  wpAny (model X.prog X.w) X.A (call (.builtin id) (v::us)) (EP X pins σ Q) X.xe s
theorem Vals.one:∀{x:V} {us:List Value},Vals [x] us->∃ u,us=[u]/\RelV x u
 |_,_,.cons r .nil=>⟨_,rfl,r⟩
theorem Vals.two:∀{x y:V} {us:List Value},Vals [x,y] us->∃ u v,us=[u,v]/\RelV x u/\RelV y v
 |_,_,_,.cons r (.cons q .nil)=>⟨_,_,rfl,r,q⟩
theorem Vals.zero:∀{us:List Value},Vals [] us->us=[]
 |_,.nil=>rfl
theorem Vals.dropLast {xs:List V}{us:List Value}(h:Vals xs us):Vals xs.dropLast us.dropLast:=by
 induction h with
 |nil=>exact .nil
 |cons r t ih =>
  cases t with
  |nil=>exact .nil
  |cons q t'=>exact .cons r ih
theorem Vals.rep {xs:List V}{us:List Value}(h:Vals xs us):∀ k:Nat,Vals (List.replicate k xs).flatten (List.replicate k us).flatten
 |0=>.nil
 |k+1=>by
  rw[List.replicate_succ,List.replicate_succ,List.flatten_cons,List.flatten_cons];exact Vals.append h (Vals.rep h k)
theorem VW {α:Type}(l:List α):l.eraseIdx (l.length-1)=l.dropLast:=by
 induction l with
 |nil=>rfl
 |cons a r ih =>
  cases r with
  |nil=>rfl
  |cons b r =>
   have e:(a::b::r).length-1=((b::r).length-1)+1:=by
    have h1:(a::b::r).length=r.length+2:=rfl;have h2:(b::r).length=r.length+1:=rfl;omega
   rw[e,List.eraseIdx_cons_succ,ih]
   all_goals rfl
theorem foldl_rep (its:List Value):∀(k:Nat)(acc:List Value),
  List.foldl (fun x1 x2=>x1++x2) acc.toArray (List.replicate k its.toArray)=(acc++(List.replicate k its).flatten).toArray
 |0,acc=>by simp
 |k+1,acc=>by
  have e:acc.toArray++its.toArray=(acc++its).toArray:=by simp
  have e2:(acc++its)++(List.replicate k its).flatten=acc++(List.replicate (k+1) its).flatten:=by
   rw[List.replicate_succ,List.flatten_cons,List.append_assoc]
  rw[<-e2,<-foldl_rep its k (acc++its),<-e,List.replicate_succ,List.foldl_cons]
section
variable {X:Cx} {pins:List (Addr×Obj)} {σ:St} {H:Hp} {s:Shared} {l b:Addr} {xs ys zs:List V}
theorem Inv.adM {its its':List Value}{n:Nat}{f:Array Value->Array Value}{t':Nat}(I:Inv X pins σ H s)(hH:H l=some (.lst xs))
  (e:s.heap.get? l=some { cls:=.type "list",data:=.seq its.toArray n }) (hf:f its.toArray=its'.toArray) (hv:Vals ys its') (hz:ys.length<=sizeLine) :
  Inv X pins σ (upd H l (.lst ys)) { s with heap:=s.heap.update l (Obj.mapSeq f),toks:=t' }:=by
 have q:=PySem.IsL.update e f;rw[hf]at q;refine I.write (x:=l) (e:=l) (by rw[hH];exact trivial) (.inl rfl) (fun b' u hb hu=>(Heap.get?_update_other s.heap (Obj.mapSeq f) (Ne.symm hb)).trans hu) ⟨_,q⟩ ?_;exact⟨hz,its',_,hv,q⟩
theorem Inv.ah4 {its:List Value}{t':Nat}(I:Inv X pins σ H s)(hv:Vals ys its)(hz:ys.length<=sizeLine) :
  Inv X pins σ (upd H s.heap.objs.size (.lst ys)) { s with heap:=s.heap.push { cls:=.type "list",data:=.seq its.toArray },toks:=t' } :=
 I.laid (fun _ _ q=>Heap.get?_push_of_some _ q) (Nat.le_refl _) ⟨hz,its,0,hv,Heap.get?_push_size _ rfl⟩
theorem Inv.fresh (I:Inv X pins σ H s):H s.heap.objs.size=none:=I.hok.fresh (Nat.le_refl _)
theorem Inv.P0 (I:Inv X pins σ H s)(hH:H l=some (.lst xs)):xs.length<=sizeLine/\∃(its:List Value)(n:Nat),Vals xs its/\xs.length=its.length/\s.heap.get? l=some { cls:=.type "list",data:=.seq its.toArray n }:=by
 obtain⟨z,its,n,r,e⟩:=I.hok l _ hH;exact⟨z,its,n,r,r.length,e⟩
theorem Lc {n:Nat}(h:n<=sizeLine):Builtin.List.listTooLong n=false:=by
 unfold Builtin.List.listTooLong;exact decide_eq_false (by omega)
end
section
variable {X:Cx}
inductive TC (x:V)(vs:List V)(H:Hp)(Q:VK):Prop
 |mk (l:_) (xs:_) (y:_) (gw:x=.ref l) (gx:vs=[y]) (iW:H l=some (.lst xs)) (m7:xs.length<sizeLine) (tJ:Q .non (upd H l (.lst (xs++[y])))):TC x vs H Q
def adN :V->List V->Hp->VK->Prop:=fun x vs H Q=>TC x vs H Q
theorem cz:MtM X "list.append" adN:=by
 intro pins s σ H x vs v us Q I rx rv h;obtain⟨l,xs,y,rfl,rfl,hH,hz,q⟩:=h;cases rx;obtain⟨u,rfl,ru⟩:=rv.one;obtain⟨z,its,n,r,hl,e⟩:=I.P0 hH;refine call_meets F.slot_list_append ⟨_,e,rfl⟩ F.entry_list_append (F.args_list_append_2 _ _) (PySem.list_append l its.toArray n u (by rw[size_toArray];omega)) ⟨e,?_⟩;refine⟨.non,_,I.adM (its':=its++[u]) hH e (by simp) (r.append (.cons ru .nil)) ?_,rfl,q⟩;rw[length_append,List.length_singleton];omega
inductive afk (x:V)(vs:List V)(H:Hp)(Q:VK):Prop
 |mk (l:_) (xs:_) (y:_) (gw:x=.ref l) (gx:vs=[]) (iW:H l=some (.lst xs)) (m7:xs[xs.length-1]? = some y) (tJ:Q y (upd H l (.lst xs.dropLast))):afk x vs H Q
def akq :V->List V->Hp->VK->Prop:=fun x vs H Q=>afk x vs H Q
theorem abC:MtM X "list.pop" akq:=by
 intro pins s σ H x vs v us Q I rx rv h;obtain⟨l,xs,y,rfl,rfl,hH,hy,q⟩:=h;cases rx;have hus:=rv.zero;subst hus;obtain⟨z,its,n,r,hl,e⟩:=I.P0 hH;obtain⟨u,hu,ru⟩:=r.get hy;have hy':its.toArray[its.toArray.size-1]? = some u:=by
  show its.toArray[its.length-1]? = some u;rw[<-Array.getElem?_toList,<-hl];exact hu
 refine call_meets F.slot_list_pop ⟨_,e,rfl⟩ F.entry_list_pop (F.args_list_pop_1 _) (MeetsSeq.list_pop_last l its.toArray n u hy' (by rw[size_toArray];omega)) ⟨e,?_⟩;refine⟨y,_,I.adM (its':=its.dropLast) hH e ?_ r.dropLast ?_,ru,q⟩
 ·show its.toArray.eraseIdxIfInBounds (its.toArray.size-1)=its.dropLast.toArray;rw[size_toArray,List.eraseIdxIfInBounds_toArray,VW]
 ·rw[List.length_dropLast];omega
inductive ZG (x:V)(vs:List V)(H:Hp)(Q:VK):Prop
 |mk (l:_) (xs:_) (gw:x=.ref l) (gx:vs=[]) (iW:H l=some (.lst xs)) (m7:Q .non (upd H l (.lst xs.reverse))):ZG x vs H Q
inductive YR (x:V)(vs:List V)(H:Hp)(Q:VK):Prop
 |mk (l:_) (xs:_) (gw:x=.ref l) (gx:vs=[]) (iW:H l=some (.lst xs)) (m7:Q .non (upd H l (.lst []))):YR x vs H Q
def agc :V->List V->Hp->VK->Prop:=fun x vs H Q=>YR x vs H Q
theorem abD:MtM X "list.clear" agc:=by
 intro pins s σ H x vs v us Q I rx rv h;obtain⟨l,xs,rfl,rfl,hH,q⟩:=h;cases rx;have hus:=rv.zero;subst hus;obtain⟨z,its,n,r,hl,e⟩:=I.P0 hH;refine call_meets F.slot_list_clear ⟨_,e,rfl⟩ F.entry_list_clear (F.args_list_clear_1 _) (AutoSeq1.list_clear_list_0 l its.toArray n (by rw[size_toArray];omega)) ⟨e,?_⟩;exact⟨.non,_,I.adM (its':=[]) (ys:=[]) hH e rfl .nil (Nat.zero_le _),rfl,q⟩
inductive afl (x:V)(y:V)(H:Hp)(Q:VK):Prop
 |mk (l:_) (b:_) (xs:_) (zs:_) (gw:x=.ref l) (gx:y=.ref b) (iW:H l=some (.lst xs)) (m7:H b=some (.lst zs)) (tJ:xs.length+zs.length<=sizeLine) (Tx:∀ p,H p=none->Q (.ref p) (upd H p (.lst (xs++zs)))):afl x y H Q
def akr :R2:=fun x y H Q=>afl x y H Q
theorem bY:uq X (binaryOp .Add) akr:=by
 intro pins s σ H x y v u Q I rx ry h;obtain⟨l,b,xs,zs,rfl,rfl,hH,hB,hz,q⟩:=h;cases rx;cases ry;obtain⟨z,its,n,r,hl,e⟩:=I.P0 hH;obtain⟨z2,its2,n2,r2,hl2,e2⟩:=I.P0 hB;refine PySem.P.add_list e e2 ?_ (by rw[size_toArray,size_toArray];omega);have ea:its.toArray++its2.toArray=(its++its2).toArray:=by simp
 rw[ea];exact⟨.ref _,_,I.ah4 (t':=s.toks) (r.append r2) (by rw[length_append];omega),rfl,q _ I.fresh⟩
def aks:R2:=fun x y H Q=>∃ l k xs,x=.ref l/\y=.int k/\H l=some (.lst xs)/\-(2 ^ 63)<=k/\k<2 ^ 63/\xs.length * k.toNat<=sizeLine /\
 ∀ p,H p=none->Q (.ref p) (upd H p (.lst (List.replicate k.toNat xs).flatten))
theorem len_rep {α:Type}(xs:List α)(k:Nat):(List.replicate k xs).flatten.length=k * xs.length:=by
 induction k with
 |zero=>simp
 |succ k ih=>rw[List.replicate_succ,List.flatten_cons,length_append,ih,Nat.succ_mul,Nat.add_comm]
theorem vq:uq X (binaryOp .Mult) aks:=by
 intro pins s σ H x y v u Q I rx ry h;obtain⟨l,k,xs,rfl,rfl,hH,h1,h2,hz,q⟩:=h;cases rx;obtain⟨t,rfl⟩:=ry;obtain⟨z,its,n,r,hl,e⟩:=I.P0 hH;have hlen:its.toArray.size * k.toNat<=sizeLine:=by rw[size_toArray,<-hl];exact hz
 have akt:¬ its.toArray.size * k.toNat > (2 ^ 63-1) / 8:=by
  have:(sizeLine:Nat)<=(2 ^ 63-1) / 8:=by decide
  omega
 have hfit:¬(!Builtin.List.listFitsIndex k)=true:=by
  rw[fitsIndex_both h1 h2];exact Bool.false_ne_true
 have ah5:¬ Builtin.List.listTooLong (its.toArray.size * k.toNat)=true:=by
  rw[Lc hlen];exact Bool.false_ne_true
 have hnew:List.foldl (fun x1 x2=>x1++x2) #[] (List.replicate (if its.toArray.isEmpty=true then 0 else k.toNat) its.toArray)=(List.replicate k.toNat its).flatten.toArray:=by
  have f0:∀ m:Nat,List.foldl (fun x1 x2=>x1++x2) #[] (List.replicate m its.toArray)=(List.replicate m its).flatten.toArray:=fun m=>by
   have:=foldl_rep its m [];rw[nil_append]at this;exact this
  rw[f0];cases its with
  |nil=>simp
  |cons a r'=>rw[if_neg (by simp)]
 refine wpAny_binaryOp_repeat_ref (T:="list") (U:="int") (by decide) ⟨_,e,rfl⟩ (fun s'=>typeIs_int s' k t) noFill_list_mul F.fills_int_mul F.slot_int_rmul repeat_list F.slot_int_index.lookup
  (call_meets F.slot_int_rmul (typeIs_int s k t) F.entry_int_rmul (F.args_int_rmul_2 _ _) (int___rmul___int_list k t l its.toArray n)
   ⟨e,rfl,⟨_,e,rfl⟩,call_meets F.slot_list_mul ⟨_,e,rfl⟩ F.entry_list_mul (F.args_list_mul_2 _ _) (AutoListH.list___mul___list_int_3 l its.toArray n k t hfit akt ah5) ⟨e,?_⟩⟩)
 rw[hnew];exact⟨.ref _,_,I.ah4 (t':=s.toks) (r.rep k.toNat) (by rw[len_rep,Nat.mul_comm];exact hz),rfl,q _ I.fresh⟩
end
section
variable {prog:Program} {w:World} {A:Around} {E:Value->Shared->Prop} {s:Shared}
theorem ZH (its its2:List Value)(a c:Nat):its.toArray.extract 0 a++its2.toArray++its.toArray.extract c its.toArray.size=(its.take a++its2++its.drop c).toArray:=by
 apply Array.toList_inj.mp
 first
  |(simp;exact List.take_of_length_le (by simp))
  |simp[List.take_of_length_le]
  |simp
theorem VX {a c n:Nat}(hac:a<=c)(hc:c<=n):sliceBounds (some (a:Int)) (some (c:Int)) none n=((a:Int),(c:Int),1):=by
 simp only [sliceBounds,Option.getD_none];have h1:¬((a:Int)<0):=by omega
 have h2:¬((c:Int)<0):=by omega
 simp only [h1,h2,if_false,show(1:Int) > 0 by decide,if_true]
 congr 1
 ·omega
 ·congr 1;omega
set_option maxRecDepth 100000 in
theorem NU {l b sl:Addr}{items new:Array Value}{n n2:Nat}{vl vu:Value}{a c:Nat}{Q:Unit->Shared->Prop}
  (e:s.heap.get? l=some { cls:=.type "list",data:=.seq items n }) (e2:s.heap.get? b=some { cls:=.type "list",data:=.seq new n2 }) (hne:l≠b)
  (hs:s.heap.IsSliceOf sl vl vu .none) (pl:IsPart vl (some (a:Int))) (pu:IsPart vu (some (c:Int))) (hac:a<=c) (hc:c<=items.size)
  (hsz:items.size+new.size<=sizeLine) (h:Q () { s with heap:=s.heap.update l (Obj.mapSeq fun xs=>xs.extract 0 a++new++xs.extract c xs.size) }) :
  wpAny (model prog w) A (setItem (.ref l) (.ref sl) (.ref b)) Q E s:=by
 have hl:s.heap.IsList l items:=PySem.IsL.isList e;have hb:s.heap.IsList b new:=PySem.IsL.isList e2;obtain⟨os,hos,hcs,hds⟩:=id hs;have hTs:s.TypeIs (.ref sl) "slice":=⟨os,hos,hcs⟩;have hstep:¬((rawPart none==rawInt 0)=true):=Bool.false_ne_true;have hsame:Builtin.List.listSameRef (.ref l) (.ref b)=false:=by
  unfold Builtin.List.listSameRef;exact beq_eq_false_iff_ne.mpr hne
 have aku:(max (a:Int) (c:Int)).toNat=c:=by omega
 have hz':((fun xs:Array Value=>xs.extract 0 a++new++xs.extract c xs.size) items).size<=sizeLine+1:=by
  simp only [Array.size_append,Array.size_extract];omega
 unfold setItem
 try with_reducible refine wpAny_holding ?_
 first|refine wpAny_bind (wpAny_pure ?_)|skip
 refine wpAny_bind (wpAny_sequenceKey hl.typeIs (by decide) ?_);refine wpAny_bind (wpAny_callSpecial?_slot (name:=Str.ofString "__setitem__") hl.typeIs slot_list_setitem
  (wpAny_call_entry slot_list_setitem hl.typeIs entry_list_setitem ?_ (args_list_setitem _ _ _)))
 show wpAny _ _ (Builtin.List.listSubscript? (.ref sl) >>= _) _ _ s;refine wpAny_bind ?_;unfold Builtin.List.listSubscript?;refine wpAny_bind (wpAny_specialOf hTs slice_no_index ?_);simp only [Option.isNone_none,if_true];refine wpAny_pure ?_;show wpAny _ _ (typeOf (.ref sl) >>= _) _ _ s;refine wpAny_bind (wpAny_typeOf hTs ?_)
 first
  |rw[if_neg (by decide)]
  |refine PySem.W.KFB.if_not (by decide) ?_
 rw[listSliceParts_eq];refine wpAny_bind (wpAny_bind (wpAny_field hos hds (x:=.none) rfl (wpAny_bind (wpAny_listPart .none ?_))));rw[if_neg hstep];refine wpAny_bind (wpAny_field hos hds (x:=vl) rfl (wpAny_bind (wpAny_listPart pl ?_)));refine wpAny_bind (wpAny_field hos hds (x:=vu) rfl (wpAny_bind (wpAny_listPart pu (wpAny_pure ?_))))
 first
  |simp only [hsame,Bool.false_eq_true,if_false]
  |refine PySem.W.KFB.if_not hsame ?_
  |(dsimp only;rw[if_neg (by rw[hsame];exact Bool.false_ne_true)])
 refine wpAny_bind (m:=Builtin.List.listAllItems (.ref b) "must assign iterable to extended slice") ?_;unfold Builtin.List.listAllItems;refine wpAny_bind (wpAny_typeOf hb.typeIs ?_)
 first
  |refine PySem.W.KFB.if_so (by decide) ?_
  |rw[if_pos (by decide)]
  |simp only [beq_self_eq_true,Bool.true_or,if_true]
 unfold Builtin.List.listItems;refine wpAny_bind (wpAny_seqItems e2 rfl (wpAny_pure ?_));refine wpAny_bind (wpAny_bind (wpAny_seqItems e rfl (wpAny_pure ?_)));refine wpAny_bind (wpAny_of_eq ((sliceIndices_raw (some (a:Int)) (some (c:Int)) none items.size (by simp)).trans (congrArg (pure:Int×Int×Int->Sem (Int×Int×Int)) (VX hac hc))) ?_);show wpAny _ _ (if((1:Int)==1)=true then _ else _) _ _ s;rw[if_pos (by decide)];refine wpAny_bind (wpAny_rule ?_)
 first
  |simp only [Lc hsz,Bool.false_eq_true,if_false]
  |refine PySem.W.KFB.if_not (Lc hsz) ?_
 first|refine wpAny_bind (wpAny_pure ?_)|skip
 show wpAny _ _ (updateSeq l (fun xs=>xs.extract 0 ((a:Int)).toNat++new++xs.extract (max (a:Int) (c:Int)).toNat xs.size) >>= _) _ _ s;rw[aku,Int.toNat_natCast];refine wpAny_bind (wpAny_updateSeq (hz:=Nat.le_trans (Nat.le_add_right _ _) hsz) (_hz':=hz') e rfl ?_);refine wpAny_bind (wpAny_letGo ?_)
 first
  |exact wpAny_bind (wpAny_pure (wpAny_pure ⟨.none,rfl,wpAny_pure h⟩))
  |exact wpAny_pure ⟨.none,rfl,wpAny_pure h⟩
end
section
variable {X:Cx}
theorem ZI {pins:List (Addr×Obj)}{s:Shared}{σ:St}{H:Hp}{l b sl:Addr}{xs ys:List V}{a c:Int}{vl vu:Value}{Q:Unit->Shared->Prop}(I:Inv X pins σ H s)
  (hH:H l=some (.lst xs)) (hB:H b=some (.lst ys)) (hne:l≠b) (hs:s.heap.IsSliceOf sl vl vu .none) (ra:RelV (.int a) vl) (rc:RelV (.int c) vu) (h0:0<=a) (hac:a<=c) (hc:c<=xs.length)
  (hz:xs.length+ys.length<=sizeLine) (h:∀ s',Inv X pins σ (upd H l (.lst (xs.take a.toNat++ys++xs.drop c.toNat))) s'->Q () s') :
  wpAny (model X.prog X.w) X.A (setItem (.ref l) (.ref sl) (.ref b)) Q X.xe s:=by
 obtain⟨ta,rfl⟩:=ra;obtain⟨tc,rfl⟩:=rc;obtain⟨z,its,n,r,hl,e⟩:=I.P0 hH;obtain⟨z2,its2,n2,r2,hl2,e2⟩:=I.P0 hB;obtain⟨a',rfl⟩:=Int.eq_ofNat_of_zero_le h0;obtain⟨c',rfl⟩:=Int.eq_ofNat_of_zero_le (Int.le_trans h0 hac);simp only [Int.toNat_natCast]at h;refine NU (a:=a') (c:=c') e e2 hne hs (.int _ _) (.int _ _) (by omega) (by rw[size_toArray];omega) (by rw[size_toArray,size_toArray];omega) (h _ ?_);refine I.adM (its':=its.take a'++its2++its.drop c') (t':=s.toks) hH e ?_ (Vals.append (Vals.append (r.take _) r2) (r.drop _)) ?_
 ·exact ZH its its2 a' c'
 ·rw[length_append,length_append,length_take,length_drop];omega
end
end L2
namespace Att
open PySem PySem.W PySem.Calls PyProof.Rows
theorem Ka {P:Params}{h:Heap}:∀(ns:List Int)(vs:List Value),WellAll P h vs (ns.map WData.int)->IntsAre vs ns:=by
 intro ns
 induction ns with
 |nil =>
  intro vs w;rw[List.map_nil]at w;cases w;exact .nil
 |cons n ns ih =>
  intro vs w;rw[map_cons]at w;cases w with
  |cons a b =>
   cases a;exact .cons _ _ (ih _ b)
theorem ZJ {l:OpenLaw}{n:Nat}(hn:l.most=some n){P:Params}{h:Heap}{args:List WData}{vals:List Value}
  (hpre:l.row.toRowW.claim.pre args=true) (hwl:WellAll P h vals args) :
  ∃ a vs ns,vals=[Value.ref a]/\args=[WData.list (ns.map WData.int)]/\h.get? a=some { cls:=.type "list",data:=.seq vs.toArray }/\IntsAre vs ns/\ns.length<=n:=by
 have hsh:WShape.hasAll [] args [.list .int]=true:=(pre_splitW hpre).1;have hc:l.pre.holds [] { args:=args } = true:=(pre_splitW hpre).2;obtain⟨d,r,rfl,h1,h2⟩:=hasAllW_cons hsh;obtain rfl:=hasAllW_nil h2;obtain⟨xs,rfl,h3⟩:=hasW_list h1;obtain⟨ns,rfl⟩:=items_int h3;have hlen:ns.length<=n:=by
  unfold OpenLaw.pre at hc;have h4:(WTm.not (.lt (.lit (.int (n:Int))) (.len (.arg 0)))).holds [] { args:=[.list (ns.map .int)] } = true:=by
   have h4:=(holds_andW hc).1;rw[hn]at h4;exact h4
  have h5:=condW_of h4 (w_not (w_lt w_lit (w_len_list (w_arg rfl))));rw[length_map]at h5;refine Nat.le_of_not_lt fun q=>?_;have q':(n:Int)<((ns.length:Nat):Int):=by omega
  first
   |(rw[decide_eq_true q']at h5;exact absurd h5 (by decide))
   |(simp at h5;omega)
 cases hwl with
 |cons w1 w2 =>
  cases w2;cases w1 with
  |list ho hall=>exact⟨_,_,ns,rfl,rfl,ho,Ka ns _ hall,hlen⟩
theorem ZK (l:OpenLaw)(args:List WData):l.row.toRowW.claim.post args (.bool true) args=true :=
 postW_of (r:=l.row.toRowW) (X:=(true==true))
  (show WShape.has [] (.bool true) .bool=true by first|rfl|decide|simp[WShape.has,WShape.arms,WShape.armsAll])
  (show(WTm.eq .res (.lit (.bool true))).value [] { args:=args,res:=some (.bool true),after:=args } = some (.bool (true==true)) from w_eq_bool (w_res rfl) w_lit) rfl
theorem TF {l:OpenLaw}{n:Nat}{q:Program}{loose:List Str}{XP:(Str->Option Value)->Heap->Prop}{YP:World->Heap->Prop}{d:DefRec}
  (hn:l.most=some n) (hdf:d.params.defaults=[])
  (call:∀(w:World)(s₀ s₁:Shared)(mg mb:Str->Option Value)(fa:Addr)(o:Obj)(pm cd doc:Value)(a:Addr)(vs:List Value)(ns:List Int),
   Ground q loose [] XP w s₀ mg mb s₁.heap->YP w s₁.heap ->
   s₁.heap.get? fa=some o->o.data=.func (docDef d.name d.params d.body d.scope pm cd doc)->s₁.heap.CodeRec cd d.name->mg d.name=some (.ref fa) ->
   s₁.heap.get? a=some { cls:=.type "list",data:=.seq vs.toArray }->IntsAre vs ns->ns.length<=n->s₁.gens = #[] ->
   codeAny (model l.prog w) callerA (.call (.ref fa) ⟨[.ref a],[]⟩) (fun r s'=>r=.ok (.ret (.bool true))/\OldK s₁.heap s'.heap/\s'.os=s₁.os/\AllBare s'.gens) s₁) :
  WalkO q loose XP YP l.row.toRowW d [] (fun f vs=>PySem.call f vs):=by
 intro w s₀ s₁ mg mb G Y fa o pm cd doc dV kV ho hd hcd hD hmg hg args vals as hpre hlay hrd hwl hlo;obtain rfl:dV=.none:=Dflts.none hD hdf;obtain rfl:kV=.none:=Dflts.noKw hD;obtain⟨a,vs,ns,rfl,rfl,hobj,hints,hlen⟩:=ZJ hn hpre hwl;refine enter_call (codeAny_mono (call w s₀ s₁ mg mb fa o pm cd doc a vs ns G Y ho (fd_plain hd) hcd hmg hobj hints hlen hg) fun r s' hq=>?_);obtain⟨rfl,h2,h3,h4⟩:=hq;exact⟨.inl ⟨.bool true,.bool true,[],rfl,fun _=>rfl,.bool true,ZK l _,fun _=>⟨List.Pairwise.nil,fun _ hm=>(nomatch hm)⟩⟩,h2,h3,h4⟩
section
variable {prog:Program} {w:World} {A:Around} {E:Value->Shared->Prop} {s:Shared} {K:Frag}
end
end Att
namespace L2
open PySem PySem.Spec PyProof.Rows
theorem OZ:∀{vs:List Value} {ns:List Int},IntsAre vs ns->Vals (ns.map V.int) vs
 |_,_,.nil=>.nil
 |_,_,.cons n t h=>.cons ⟨t,rfl⟩ (OZ h)
def Only (H:Hp):Prop:=∀ b,H b=none\/∃ o xs,H b=some (.YB o (.lst xs))
theorem abE {P:Program}{w:World}{K:Frag}{mg mb:Str->Option Value}{CX:CXT}{k:Nat}{fa a:Addr}{fd:FuncData}{x:Str}{sp:Sp}{s₁:Shared}{vs:List Value}{ns:List Int}
  (KX:K.In s₁.heap) (hns:s₁.heap.Ns mainGlobals mg) (hb:s₁.heap.Ns builtinsNs mb) (hbb:∀ x:Str,x ≠ "__name__"->mb x=bootBuiltins x) (hlim:s₁.heap.NoLimit) (hg:s₁.gens = #[])
  (ha:s₁.heap.get? a=some { cls:=.type "list",data:=.seq vs.toArray }) (hi:IntsAre vs ns) (hl:ns.length<=sizeLine) (hr:jL k callerA)
  (F:∀ base:Heap,K.In base->base.Ns mainGlobals mg->bK P w K mg base CX k fa fd [x] sp) (hbind:∀(s:Shared)(u:Value),BindsTo s fd ⟨[u],[]⟩ [(x,u)])
  (hsp:∀ H:Hp,Only H->aZ K H a (ns.map V.int)->sp [.ref a] H (fun v _=>v=.bl true) fun _ _ _=>False)
  (hCX:∀ H e s',CX [] H s₁ (fun _ _ _=>False) e s'->False) :
  codeAny (model P w) callerA (.call (.ref fa) ⟨[.ref a],[]⟩) (fun r s'=>r=.ok (.ret (.bool true))/\OldK s₁.heap s'.heap/\s'.os=s₁.os/\AllBare s'.gens) s₁:=by
 have rv:=OZ hi;have lenV:=hi.length;have core:∀ H:Hp,Only H->aZ K H a (ns.map V.int)->xI P w H s₁.heap->(∀ b,H b≠none->b=a)->(H a≠none->K.lookup a=none) ->
   codeAny (model P w) callerA (.call (.ref fa) ⟨[.ref a],[]⟩) (fun r s'=>r=.ok (.ret (.bool true))/\OldK s₁.heap s'.heap/\s'.os=s₁.os/\AllBare s'.gens) s₁:=by
  intro H hO hS hok hA hK;have YS:∀{b:Addr} {o:Obj},s₁.heap.get? b=some o->H b=none->(PK s₁.heap H).get? b=some o:=fun e n=>abf e n;have noA:∀{b:Addr} {o:Obj} {es:Array DictEntry} {ep:Nat},s₁.heap.get? b=some o->o.data=.dict es ep->H b=none:=fun {b o es ep} e d=>by
   cases q:H b with
   |none=>rfl
   |some u =>
    have e':b=a:=hA b (by rw[q];simp);subst e';rw[ha]at e;cases e;have d':Data.seq vs.toArray _=Data.dict es ep:=d;cases d'
  have nsK:∀{b:Addr} {m:Str->Option Value},s₁.heap.Ns b m->(PK s₁.heap H).Ns b m:=fun {b m} ⟨o,es,ep,e,d,r⟩=>⟨o,es,ep,YS e (noA e d),d,r⟩;have hKb:K.In (PK s₁.heap H):=fun b o e=>YS (KX b o e) (by
   cases q:H b with
   |none=>rfl
   |some u =>
    have e':b=a:=hA b (by rw[q];simp);subst e';rw[hK (by rw[q];simp)]at e;cases e)
  have hM:Mod K mg (PK s₁.heap H):=⟨hKb,nsK hns,⟨mb,nsK hb,hbb⟩,let ⟨mc,h1,h2⟩:=hlim;⟨mc,nsK h1,h2⟩⟩;have e0:VO P w K mg (PK s₁.heap H) callerA [] s₁ H:=⟨rfl,hM,fun b o e=>adD e,Nat.le_of_eq (Zv _ _),trivial,fun b hb=>absurd (show b∈([]:List Addr) from hb) (by simp),hok,.of_eq hg⟩;refine codeAny_mono ((F _ hKb (nsK hns)).run callerA [] s₁ H ⟨[.ref a],[]⟩ [.ref a] [.ref a] _ _ hr e0 (hbind s₁ (.ref a)) (.cons rfl .nil) (hsp H hO hS)) fun r s' h=>?_;cases r with
  |error e=>exact(hCX H e s' h).elim
  |ok fl =>
   cases fl with
   |next=>exact False.elim h
   |brk=>exact False.elim h
   |cont=>exact False.elim h
   |ret u =>
    obtain⟨v,H',os,bare,un,hok',r',q⟩:=h;have q':v=.bl true:=q;subst q';obtain rfl:u=Value.bool true:=r';refine⟨rfl,OldK.of_keep fun b o e=>?_,os,bare⟩;cases q:H b with
    |none=>exact un.keep b o e q (by intro z;exact absurd (show b∈([]:List Addr) from z) (by simp)) (by simp)
    |some u =>
     rcases hO b with z|⟨ob,xs,z⟩
     ·rw[q]at z;cases z
     ·have z2:=un.K8 b ob _ z;obtain⟨e1,_⟩:=hok b _ z;obtain⟨e2,_⟩:=hok' b _ z2;rw[e]at e1;cases e1;exact e2
 cases hk:K.lookup a with
 |some o =>
  have e:=KX a o hk;rw[ha]at e;cases e;refine core (fun _=>none) (fun _=>.inl rfl) (.inr ⟨_,vs.toArray,_,hk,rfl,rfl,rfl,by rw[size_toArray,lenV];exact hl,by simpa using rv⟩) (fun b u z=>by have z':(none:Option HO)=some u:=z;cases z') (fun b z=>absurd rfl z) fun z=>absurd rfl z
 |none =>
  refine core (fun b=>if b=a then some (.YB { cls:=.type "list",data:=.seq vs.toArray } (.lst (ns.map V.int))) else none) (fun b=>?_) (.inl (.inr ⟨{ cls:=.type "list",data:=.seq vs.toArray },if_pos rfl⟩)) (fun b u z=>?_) (fun b z=>?_) fun _=>hk
  ·by_cases hb:b=a
   ·exact .inr ⟨_,_,if_pos hb⟩
   ·exact .inl (if_neg hb)
  ·by_cases hb:b=a
   ·have z':=(if_pos hb).symm.trans z;cases z';subst hb;exact⟨ha,by rw[length_map];exact hl,vs,_,rv,ha⟩
   ·have z':=(if_neg hb).symm.trans z;cases z'
  ·by_cases hb:b=a
   ·exact hb
   ·exact absurd (if_neg hb) z
end L2
namespace L2
open PySem PySem.Spec PyProof.Rows
abbrev KOf {K:Frag}{h:Heap}(_:K.In h):Frag:=K
theorem adO {l:OpenLaw}{n k:Nat}{q:Program}{loose:List Str}{XP:(Str->Option Value)->Heap->Prop}{YP:World->Heap->Prop}{d:DefRec}{K:Params->Frag}{CX:World->CXT}{sp:World->Sp}{x:Str}
  (hn:l.most=some n) (hn2:n<=sizeLine) (hdf:d.params.defaults=[]) (hr:jL k callerA)
  (hY:∀(w:World)(h:Heap),YP w h->(K w.params).In h)
  (F:∀(w:World)(mg:Str->Option Value)(fa:Addr)(h:Heap),(K w.params).In h->h.Ns mainGlobals mg->mg d.name=some (.ref fa) ->
   ∃ fd:FuncData,(∀(s:Shared)(u:Value),BindsTo s fd ⟨[u],[]⟩ [(x,u)]) /\
    ∀ base:Heap,(K w.params).In base->base.Ns mainGlobals mg->bK l.prog w (K w.params) mg base (CX w) k fa fd [x] (sp w))
  (hsp:∀(w:World)(H:Hp)(a:Addr)(ns:List Int),ns.length<=n->Only H->aZ (K w.params) H a (ns.map V.int)->sp w [.ref a] H (fun v _=>v=.bl true) fun _ _ _=>False)
  (hCX:∀(w:World)(H:Hp)(s:Shared)(e:Value)(s':Shared),CX w [] H s (fun _ _ _=>False) e s'->False) :
  WalkO q loose XP YP l.row.toRowW d [] (fun f vs=>PySem.call f vs):=by
 refine Att.TF hn hdf fun w s₀ s₁ mg mb fa o pm cd doc a vs ns G Y ho hd hcd hmg hobj hints hlen hg=>?_;have KX:=hY w _ Y;obtain⟨fd,hb,hF⟩:=F w mg fa _ KX G.T.g hmg;exact abE KX G.T.g G.T.b G.T.builtins G.T.nolimit hg hobj hints (Nat.le_trans hlen hn2) hr hF hb (fun H hO hS=>hsp w H a ns hlen hO hS) fun H e s'=>hCX w H s₁ e s'
end L2
namespace L2
open PySem PySem.Spec PyProof.Rows
def inClass (s:Stmt)(j:Nat):Stmt:=match s with
 |.ClassDef _ _ _ body _ _ _ _ _ _ _=>body.getD j (.Pass ⟨0,0,0,0⟩)
 |_=>.Pass ⟨0,0,0,0⟩
def aD (s:Stmt):Arguments:=match s with
 |.FunctionDef _ a _ _ _ _ _ _ _ _=>a
 |_=>{ posonlyargs:=[],args:=[],vararg:=none,kwonlyargs:=[],kw_defaults:=[],kwarg:=none,defaults:=[] }
def aw (s:Stmt):List Stmt:=match s with
 |.FunctionDef _ _ b _ _ _ _ _ _ _=>b
 |_=>[]
def ag (s:Stmt):Scope:=match s with
 |.FunctionDef _ _ _ _ _ _ sc _ _ _=>sc
 |_=>{ kind:=.function,names:=[],isGenerator:=false,isCoroutine:=false }
abbrev oI:CXT:=fun _ _ _ _ _ _=>False
abbrev E0:XK:=fun _ _ _=>False
theorem aL {X:Cx}:Passes oI X E0:=fun _ _ _ _ _ _ _ h=>h.elim
structure kz (K:Frag)(x qual:Str)(st:Stmt)(f:Addr)(fd:FuncData):Prop where
 ex:∃(oc:Value)(od:Option Addr)(kV doc pm:Value)(an:Option Addr)(cdv ct:Value)(osl:Array (Option Value)),
  fd=fnOf x qual (aD st) (aw st) (ag st) .none kV doc pm an cdv ct/\K.lookup f=some ⟨oc,od,.func fd,osl⟩/\codeIn K cdv qual=true
 kp:keepIn K (.ref f)=true
section
variable {P:Program} {w:World} {K:Frag} {mg:Str->Option Value} {base:Heap}
theorem kz.ok {x qual:Str}{st:Stmt}{f:Addr}{fd:FuncData}{N ps:List Str}{k:Nat}{sp:Sp}(F:kz K x qual st f fd)(S:aG N ps (ag st))(len:∀ vs H Q E,sp vs H Q E->vs.length=ps.length)
  (hbody:∀(cdv:Value)(A:Around)(outer:List Env)(s:Shared)(H:Hp)(vs:List V)(Q:VK)(E:XK),jL k (A.deeper (envOfC qual (ag st) s.heap.objs.size f cdv))->sp vs H Q E ->
   ∃ t,KS (cK oI P w K mg base N qual (ag st) f cdv A outer s H E).nox (aw st) t/\t { nx:=fun _ H'=>Q .non H',rt:=Q } (start N vs) H):bK P w K mg base oI (k+1) f fd ps sp:=by
 obtain⟨oc,od,kV,doc,pm,an,cdv,ct,osl,rfl,lk,hcd⟩:=F.ex;refine YL lk hcd S len fun A outer s H vs Q E hr hsp=>?_;obtain⟨t,h,q⟩:=hbody cdv A outer s H vs Q E hr hsp;exact⟨t,h.nox,q⟩
theorem kz.binds {x qual:Str}{st:Stmt}{f:Addr}{fd:FuncData}{ps:List Str}(F:kz K x qual st f fd)
  (h:∀(kV doc pm:Value)(an:Option Addr)(cdv ct:Value)(us:List Value),us.length=ps.length->bindArgs (fnOf x qual (aD st) (aw st) (ag st) .none kV doc pm an cdv ct) ⟨us,[]⟩=pure (ps.zip us)):Binds K fd ps []:=by
 obtain⟨oc,od,kV,doc,pm,an,cdv,ct,osl,rfl,lk,hcd⟩:=F.ex;exact .all (h kV doc pm an cdv ct)
theorem a8 {x qual:Str}{st:Stmt}{f:Addr}{oc:Value}{od an:Option Addr}{osl:Array (Option Value)}{kV doc pm cdv ct:Value}(l:K.lookup f=some ⟨oc,od,.func (fnOf x qual (aD st) (aw st) (ag st) .none kV doc pm an cdv ct),osl⟩)
  (c:codeIn K cdv qual=true) (k:keepIn K (.ref f)=true):kz K x qual st f (fnOf x qual (aD st) (aw st) (ag st) .none kV doc pm an cdv ct):=⟨⟨oc,od,kV,doc,pm,an,cdv,ct,osl,rfl,l,c⟩,k⟩
end
theorem Ld {A:Around}{k:Nat}(hr:jL k A):A.units+1<cLine:=Nat.lt_of_le_of_lt (Nat.add_le_add_left (by decide:1<=64) _) hr.units
theorem ba {n:Nat}(h:n<=1000):n<sizeLine:=Nat.lt_of_le_of_lt h (by decide)
section
variable {X:Cx}
theorem pv (i:Nat){x:Str}{pos:Pos}(hN:X.N[i]? = some x:=by rfl)(hv:Vis X.env.scope x:=by first|exact Or.inl rfl|exact Or.inr (Or.inl rfl)|exact Or.inr (Or.inr rfl))(hd:(x==("__debug__":Str))=false:=by decide)
  (hcd:(x==("__classdict__":Str))=false:=by decide):PE X (.Name x pos) (ahK i):=afU hN hv hd hcd
end
theorem dw {A B:Prop}(h:B):if false=true then A else B:=by
 rw[if_neg Bool.false_ne_true];exact h
theorem jr {A B:Prop}(h:A):if true=true then A else B:=by
 rw[if_pos rfl];exact h
theorem bp {c A B:Prop}[Decidable c](h1:c->A)(h2:¬ c->B):if c then A else B:=by
 by_cases h:c
 ·rw[if_pos h];exact h1 h
 ·rw[if_neg h];exact h2 h
def ar (H H':Hp):Prop:=∀ b o,H b=some o->H' b=some o
theorem ar.refl (H:Hp):ar H H:=fun _ _ h=>h
theorem ar.trans {H H1 H2:Hp}(a:ar H H1)(b:ar H1 H2):ar H H2:=fun c o h=>b c o (a c o h)
theorem ar.free {H H':Hp}(e:ar H H'){l:Addr}(h:H' l=Option.none):H l=Option.none:=by
 cases q:H l with
 |none=>rfl
 |some o =>
  rw[e l o q]at h;cases h
theorem ar.seq {K:Frag}{H H':Hp}{a:Addr}{xs:List V}(e:ar H H')(h:aZ K H a xs):aZ K H' a xs:=by
 rcases h with (h|⟨o,h⟩)|h
 ·exact .inl (.inl (e _ _ h))
 ·exact .inl (.inr ⟨o,e _ _ h⟩)
 ·exact .inr h
end L2
set_option maxHeartbeats 4000000
namespace L2
open PySem PySem.Spec PyProof.Rows
def iX (env:Env):List (Str×NameKind)->List (Str×Addr)->List (Str×Addr)
 |[],acc=>acc
 |p::l,acc=>iX env l (if p.2 == .free then(p.1,(env.cells.lookup p.1).getD 0)::acc else acc)
theorem YT {env:Env}{scope:Scope}(h:∀ p∈scope.names,p.2=.free->∃ c,env.cells.lookup p.1=some c):closureFor scope env=pure (iX env scope.names []):=by
 have go:∀(l:List (Str×NameKind)) (acc:List (Str×Addr)),(∀ p∈l,p.2=.free->∃ c,env.cells.lookup p.1=some c) ->
   (forIn l acc fun(p:Str×NameKind) cs=>if(p.2==NameKind.free)=true then(cellOf env p.1 >>= fun a=>pure (ForInStep.yield ((p.1,a)::cs))) else pure (ForInStep.yield cs))=(pure (iX env l acc):Sem (List (Str×Addr))):=by
  intro l
  induction l with
  |nil=>intro acc _;rfl
  |cons p l ih =>
   intro acc hl;rw[List.forIn_cons];have hr:=fun q hq=>hl q (mem_cons_of_mem _ hq)
   by_cases hk:p.2=.free
   ·obtain⟨c,hc⟩:=hl p mem_cons_self hk;have e1:(p.2==NameKind.free)=true:=by rw[hk];rfl
    rw[if_pos e1];have e2:cellOf env p.1=pure c:=by unfold cellOf;rw[hc]
    rw[e2,pure_bind,pure_bind];show forIn l ((p.1,c)::acc) _=_;rw[ih _ hr];show _=pure (iX env l (if p.2 == .free then(p.1,(env.cells.lookup p.1).getD 0)::acc else acc));rw[if_pos e1,hc];rfl
   ·have e1:¬(p.2==NameKind.free)=true:=by intro z;exact hk (by simpa using z)
    rw[if_neg e1,pure_bind];show forIn l acc _=_;rw[ih _ hr];show _=pure (iX env l (if p.2 == .free then(p.1,(env.cells.lookup p.1).getD 0)::acc else acc));rw[if_neg e1]
 have e:=go scope.names [] h;unfold closureFor;show(forIn scope.names ([]:List (Str×Addr)) _ >>= fun r=>pure r)=_;rw[bind_pure];exact e
theorem O0 {env:Env}{x:Str}:∀(l:List (Str×NameKind)) (acc:List (Str×Addr)) {c:Addr},(iX env l acc).lookup x=some c->acc.lookup x=some c\/((x,NameKind.free)∈l/\c=(env.cells.lookup x).getD 0)
 |[],acc,c,h=>.inl h
 |p::l,acc,c,h=>by
  rcases O0 l _ h with z|⟨z,e⟩
  ·by_cases hk:(p.2==NameKind.free)=true
   ·rw[if_pos hk,List.lookup_cons]at z
    by_cases hx:(x==p.1)=true
    ·rw[hx]at z;have e:x=p.1:=by simpa using hx
     have e2:p.2=.free:=by simpa using hk
     refine .inr ⟨?_,?_⟩
     ·rw[e,<-e2];exact mem_cons_self
     ·rw[e];exact(Option.some.inj z).symm
    ·have hx':(x==p.1)=false:=by simpa using hx
     rw[hx']at z;exact .inl z
   ·rw[if_neg hk]at z;exact .inl z
  ·exact .inr ⟨mem_cons_of_mem _ z,e⟩
theorem Le {env:Env}{x:Str}:∀(l:List (Str×NameKind)) (acc:List (Str×Addr)),((acc.lookup x).isSome=true\/(x,NameKind.free)∈l)->((iX env l acc).lookup x).isSome=true
 |[],acc,h=>by
  rcases h with h|h
  ·exact h
  ·cases h
 |p::l,acc,h=>by
  refine Le l _ ?_;rcases h with h|h
  ·left
   by_cases hk:(p.2==NameKind.free)=true
   ·rw[if_pos hk,List.lookup_cons];cases (x==p.1) with
    |true=>rfl
    |false=>exact h
   ·rw[if_neg hk];exact h
  ·rcases List.mem_cons.mp h with e|h
   ·left
    have e1:p.1=x:=by rw[<-e]
    have e2:(p.2==NameKind.free)=true:=by rw[<-e];rfl
    rw[if_pos e2,List.lookup_cons,e1];simp
   ·exact .inr h
theorem qC {env:Env}{x:Str}{k:NameKind}:∀(l:List (Str×NameKind)),
  (l.map fun(n,k)=>if(k==NameKind.free&&env.scope.kind == .function&&env.kindOf n==some .cell) then(n,NameKind.cell) else(n,k)).lookup x=some k ->
   l.lookup x=some k\/(k=.cell/\l.lookup x=some .free)
 |[],h=>by cases h
 |(n,q)::l,h=>by
  rw[map_cons]at h;cases hx:(x==n) with
  |true =>
   rw[List.lookup_cons,hx]
   by_cases hc:(q==NameKind.free&&env.scope.kind == .function&&env.kindOf n==some .cell)=true
   ·simp only [hc,if_true,List.lookup_cons,hx]at h;have e:q=.free:=by
     have:=(Bool.and_eq_true_iff.mp (Bool.and_eq_true_iff.mp hc).1).1
     simpa using this
    right
    exact⟨(Option.some.inj h).symm,by rw[e]⟩
   ·have hc':(q==NameKind.free&&env.scope.kind == .function&&env.kindOf n==some .cell)=false:=by simpa using hc
    simp only [hc',Bool.false_eq_true,if_false,List.lookup_cons,hx]at h;exact .inl h
  |false =>
   rw[List.lookup_cons,hx];refine qC (env:=env) l ?_
   by_cases hc:(q==NameKind.free&&env.scope.kind == .function&&env.kindOf n==some .cell)=true
   ·simp only [hc,if_true,List.lookup_cons,hx]at h;exact h
   ·have hc':(q==NameKind.free&&env.scope.kind == .function&&env.kindOf n==some .cell)=false:=by simpa using hc
    simp only [hc',Bool.false_eq_true,if_false,List.lookup_cons,hx]at h;exact h
structure Bk where
 C:Addr
 s₂:Shared
 apJ:Hp
 fp:List Addr
 xe:Value->Shared->Prop
def df (X:Cx)(cn:List Str)(scope:Scope)(b:Bk):Cx where
 prog:=X.prog
 w:=X.w
 K:=X.K
 mg:=X.mg
 base:=X.base
 A:=X.A
 N:=cn++X.N
 s₀:=b.s₂
 H₀:=b.apJ
 env:=compEnvC scope (iX X.env scope.names []) b.C X.env
 outer:=X.stack
 stack:=X.stack
 ex:=b.fp
 fn:=fun _=>false
 calm:=X.calm
 pn:=[]
 xe:=b.xe
def abF (sc:Scope)(N:List Str)(scope:Scope):Bool :=
 (scope.kind == .function) &&
 (scope.names.all fun p=>(p.2 != .cell)&&((p.2 != .free)||(sc.names.lookup p.1==some .cell)||(sc.names.lookup p.1==some .free))&&((p.2 != .local)||(scope.names.lookup p.1==some .local))) &&
 (N.all fun x=>scope.names.lookup x != some .local)
structure dQ (sc:Scope)(N:List Str)(scope:Scope):Prop where
 kind:scope.kind=.function
 abG:∀ p∈scope.names,p.2≠.cell
 free:∀ p∈scope.names,p.2=.free->sc.names.lookup p.1=some .cell\/sc.names.lookup p.1=some .free
 loc:∀ p∈scope.names,p.2=.local->scope.names.lookup p.1=some .local
 apart:∀ x∈N,scope.names.lookup x≠some .local
theorem dQ.of {sc:Scope}{N:List Str}{scope:Scope}(h:abF sc N scope=true):dQ sc N scope:=by
 unfold abF at h;rw[Bool.and_eq_true,Bool.and_eq_true]at h;obtain⟨⟨h1,h2⟩,h3⟩:=h;rw[all_eq_true]at h2 h3;refine⟨by simpa using h1,fun p hp=>?_,fun p hp e=>?_,fun p hp e=>?_,fun x hx=>?_⟩
 ·have:=h2 p hp;rw[Bool.and_eq_true,Bool.and_eq_true]at this
  simpa using this.1.1
 ·have:=h2 p hp;rw[Bool.and_eq_true,Bool.and_eq_true]at this;have q:=this.1.2;rw[e]at q;rw[Bool.or_eq_true,Bool.or_eq_true]at q;rcases q with (q|q)|q
  ·exact absurd q (by decide)
  ·exact .inl (by simpa using q)
  ·exact .inr (by simpa using q)
 ·have:=h2 p hp;rw[Bool.and_eq_true,Bool.and_eq_true]at this;have q:=this.2;rw[e]at q;rw[Bool.or_eq_true]at q;rcases q with q|q
  ·exact absurd q (by decide)
  ·simpa using q
 ·have:=h3 x hx
  simpa using this
section
variable {X:Cx} {pins:List (Addr×Obj)} {σ:St} {H:Hp}
theorem xQ {l:List (Str×NameKind)}{x:Str}{k:NameKind}(h:l.lookup x=some k):(x,k)∈l:=PySem.mem_of_lookup h
theorem Inv.block {s₂:Shared}{h₁:Heap}{tk:Nat}{cn:List Str}{scope:Scope}{fp:List Addr}{xe:Value->Shared->Prop}{C D:Addr}{m:Str->Option Value}
  (I:Inv X pins σ H s₂) (F:dQ X.env.scope X.N scope) (hc:X.calm=true) (hf:∀ b∈fp,qB X pins H b) (hfl:∀ b∈fp,b<s₂.heap.objs.size)
  (hC:s₂.heap.objs.size<=C) (hD:s₂.heap.objs.size<=D) (hDC:D≠C) (hn:h₁.Ns C m) (old:∀ b o,s₂.heap.get? b=some o->h₁.get? b=some o)
  (hacc:h₁.get? D=some { cls:=.type "list",data:=.seq ([]:List Value).toArray 0 }) :
  Inv (df X cn scope ⟨C,s₂,H,fp,xe⟩) [] (List.replicate cn.length none++σ) (upd H D (.lst [])) { s₂ with heap:=h₁,toks:=tk }:=by
 have P1:∀ x,((df X cn scope ⟨C,s₂,H,fp,xe⟩).env.kindOf x=some .cell\/(df X cn scope ⟨C,s₂,H,fp,xe⟩).env.kindOf x=some .free)->(x,NameKind.free)∈scope.names:=by
  intro x hx;have hx':(relabel scope X.env).names.lookup x=some .cell\/(relabel scope X.env).names.lookup x=some .free:=hx;rcases hx' with z|z
  ·rcases qC scope.names z with z|⟨_,z⟩
   ·exact absurd rfl (F.abG _ (xQ z))
   ·exact xQ z
  ·rcases qC scope.names z with z|⟨e,_⟩
   ·exact xQ z
   ·cases e
 have YU:∀ x,(x,NameKind.free)∈scope.names->X.env.kindOf x=some .cell\/X.env.kindOf x=some .free:=fun x hx=>F.free _ hx rfl;have vt:∀ x c,(iX X.env scope.names []).lookup x=some c->X.env.cells.lookup x=some c:=by
  intro x c e;rcases O0 _ _ e with z|⟨z,e2⟩
  ·cases z
  ·obtain⟨c',hc'⟩:=I.ok.has x (YU x z);rw[hc']at e2 ⊢;rw[e2];rfl
 have anl:(df X cn scope ⟨C,s₂,H,fp,xe⟩).fs=frs X.stack:=rfl;have akw:∀ b∈fp,b ∉ frs X.stack:=by
  intro b hb z;obtain⟨_,f1,f2,_⟩:=hf b hb;rcases List.mem_cons.mp (I.VE b z) with e|e
  ·exact f1 e
  ·exact f2 e
 have agd:∀ x c,X.env.cells.lookup x=some c->c<s₂.heap.objs.size:=by
  intro x c e;obtain⟨v,o,ho,_⟩:=I.cell x c e;exact Heap.lt_size ho
 have ok:(df X cn scope ⟨C,s₂,H,fp,xe⟩).Ok:=by
  refine⟨I.ok.mod,?_,I.ok.glob,I.ok.blt,hC,fun x y c h1 h2=>I.ok.inj x y c (vt x c h1) (vt y c h2),fun x hx=>?_,fun x c z=>?_,fun _=>I.ok.hd hc,I.ok.frames,.inl rfl,fun b hb=>⟨?_,fun x c e=>?_⟩,
   fun b o e=>I.bs b o e,Nat.le_trans I.ok.YC I.sz,fun b o e hb=>?_,fun b hb=>?_,I.stack,I.PN⟩
  ·show(relabel scope X.env).kind=.function;exact F.kind
  ·have:=Le (env:=X.env) (x:=x) scope.names [] (.inr (P1 x hx));exact Option.isSome_iff_exists.mp this
  ·cases z
  ·exact Nat.ne_of_lt (Nat.lt_of_lt_of_le (hfl b hb) hC)
  ·exact(hf b hb).2.2.2.2.1 x c (vt x c e)
  ·have:X.base.objs.size<=X.s₀.heap.objs.size:=I.ok.YC;rcases (hf b hb).2.2.2.1 with z|z
   ·exact I.ok.PL b o e z
   ·exact absurd (Nat.lt_of_lt_of_le (Heap.lt_size e) (Nat.le_trans I.ok.YC z)) (Nat.lt_irrefl _)
  ·exact akw b hb
 have hDn:H D=none:=I.hok.fresh hD;have akx:xI X.prog X.w (upd H D (.lst [])) h₁:=I.hok.laid old hD ⟨Nat.zero_le _,[],0,.nil,hacc⟩;refine⟨ok,rfl,I.bare,Un.laid old hD hDn,⟨m,hn,fun i x v e1 e2 e3=>?_⟩,fun x c e=>?_,?_,fun x c e=>?_,fun p hp=>absurd (show p∈([]:List (Addr×Obj)) from hp) (by simp),akx,?_⟩
 ·have hi:¬ i<cn.length:=by
   intro hi;rw[List.getElem?_append_left (by simpa using hi),List.getElem?_replicate]at e2;split at e2 <;> cases e2
  rw[getElem?_append_right (by simpa using hi),List.length_replicate]at e2;have e1':(cn++X.N)[i]? = some x:=e1;rw[getElem?_append_right (by omega)]at e1';obtain⟨m0,hm0,hl⟩:=I.loc;have hxN:x∈X.N:=mem_of_getElem? e1';have hfr:(x,NameKind.free)∈scope.names:=by
   have e3':(relabel scope X.env).names.lookup x=some .local\/(relabel scope X.env).names.lookup x=some .cell\/(relabel scope X.env).names.lookup x=some .free:=e3;rcases e3' with z|z|z
   ·rcases qC scope.names z with z|⟨e,_⟩
    ·exact absurd z (F.apart x hxN)
    ·cases e
   ·exact P1 x (.inl z)
   ·exact P1 x (.inr z)
  have hk:=YU x hfr;have vis:Vis X.env.scope x:=by
   rcases hk with z|z
   ·exact .inr (.inl z)
   ·exact .inr (.inr z)
  obtain⟨u,r,lk⟩:=hl (i-cn.length) x v e1' e2 vis;refine⟨u,r,?_⟩;rcases lk with ⟨z,_⟩|⟨_,c,ec,z⟩
  ·rcases hk with q|q
   ·rw[z]at q;cases q
   ·rw[z]at q;cases q
  ·have hcl:(iX X.env scope.names []).lookup x=some c:=by
    obtain⟨c',e'⟩:=Option.isSome_iff_exists.mp (Le (env:=X.env) (x:=x) scope.names [] (.inr hfr));rw[e'];have:=vt x c' e';rw[ec]at this;exact this.symm
   refine .inr ⟨?_,c,hcl,?_⟩
   ·have e3':(relabel scope X.env).names.lookup x=some .local\/(relabel scope X.env).names.lookup x=some .cell\/(relabel scope X.env).names.lookup x=some .free:=e3;rcases e3' with y|y|y
    ·rcases qC scope.names y with y|⟨e,_⟩
     ·exact absurd y (F.apart x hxN)
     ·cases e
    ·exact .inl y
    ·exact .inr y
   ·obtain⟨o,ho,hd⟩:=z;exact⟨o,old c o ho,hd⟩
 ·obtain⟨v,o,ho,hd⟩:=I.cell x c (vt x c e);exact⟨v,o,old c o ho,hd⟩
 ·show upd H D (.lst []) C=none;rw[ao (Ne.symm hDC)];exact I.hok.fresh hC
 ·rw[ao (Nat.ne_of_lt (Nat.lt_of_lt_of_le (agd x c (vt x c e)) hD))];exact I.pV x c (vt x c e)
 ·show(List.replicate cn.length none++σ).length=(cn++X.N).length;rw[length_append,List.length_replicate,length_append,I.len]
theorem Inv.YV {s₂ s':Shared}{h':Heap}{cn:List Str}{scope:Scope}{fp:List Addr}{xe:Value->Shared->Prop}{C:Addr}{H':Hp}{σ':St}{pl:List (Addr×Obj)}
  (I:Inv X pins σ H s₂) (hf:∀ b∈fp,qB X pins H b) (hC:s₂.heap.objs.size<=C) (J:Inv (df X cn scope ⟨C,s₂,H,fp,xe⟩) pl σ' H' s') (sb:Heap.SameBut C s'.heap h') :
  Inv X pins σ H' { s' with heap:=h' }:=by
 have neC:∀ b o,s₂.heap.get? b=some o->b≠C:=fun b o e=>Nat.ne_of_lt (Nat.lt_of_lt_of_le (Heap.lt_size e) hC);have u:Un (frs X.stack) fp H H' s₂.heap s'.heap:=J.base;have un:Un (frs X.stack) fp H H' s₂.heap h' :=
  ⟨fun b o e n hb hx=>(sb.2 b (neC b o e)).trans (u.keep b o e n hb hx),
   fun b o e n hb hx=>by
   obtain⟨sl,q⟩:=u.slot b o e n hb hx;exact⟨sl,(sb.2 b (neC b o e)).trans q⟩,
   u.free,fun b o e hx=>by
   obtain⟨o',q⟩:=u.there b o e hx;exact⟨o',(sb.2 b (neC b o e)).trans q⟩,u.tups,u.K8,u.NR⟩
 have fC:H' C=none:=J.free;have hok:xI X.prog X.w H' h':=fun b o e=>by
  refine(J.hok b o e).stay (fun c v hc q=>(sb.2 c ?_).trans q) (fun _ q=>q) fun _ _ q=>q;rintro rfl;rcases hc with z|z
  ·rw[<-z,fC]at e;cases e
  ·rw[fC]at z;cases z
 have os:s'.os=s₂.os:=J.os;refine I.call' (s':={ s' with heap:=h' }) os un hok J.bare fun b hb=>?_;obtain⟨_,f1,_,f3,f4,f5⟩:=hf b hb;exact⟨f3,f1,f4,f5⟩
end
end L2
set_option maxHeartbeats 4000000
namespace L2
open PySem PySem.Spec PyProof.Rows
theorem ZL {prog:Program}{w:World}{A:Around}{R:Result->Shared->Prop}{s:Shared}{elt tg iter:Expr}{ifs:List Expr}{scope:Scope}{pos:Pos}{it acc:Value}{env:Env}(J:Nat->Shared->Prop)
  (turn:∀ n s,J n s->wpAny (model prog w) A (pyNext it) (fun r s₁=>(r=none/\R (.ok .next) s₁)\/∃ v,r=some v /\
   wpAny (model prog w) A (letOwnedTupleGo tg it v) (fun _ s₂=>wpAny (model prog w) A (assign tg env v) (fun _ s₃ =>
    wpAny (model prog w) A (forIn ifs true fun c r=>if r=true then do let ok <-isTrue c env (eval c env);pure (ForInStep.yield ok) else pure (ForInStep.yield r)) (fun ok s₄ =>
     if ok=true then wpAny (model prog w) A (eval elt env) (fun x s₅=>wpAny (model prog w) A (call (.builtin "list.append") [acc,x]) (fun _ s₆=>∃ m,m<n/\J m s₆) (notedBy (model prog w) A env fun e s'=>R (.error e) s') s₅)
      (notedBy (model prog w) A env fun e s'=>R (.error e) s') s₄
     else ∃ m,m<n/\J m s₄) (notedBy (model prog w) A env fun e s'=>R (.error e) s') s₃) (notedBy (model prog w) A env fun e s'=>R (.error e) s') s₂) (notedBy (model prog w) A env fun e s'=>R (.error e) s') s₁)
   (notedBy (model prog w) A env fun e s'=>R (.error e) s') s)
  (n:Nat) (h:J n s):codeAny (model prog w) A (.compLoop (.ListComp elt [⟨tg,iter,ifs,0⟩] scope pos) 0 it acc env) R s:=by
 refine codeAny_loop rfl J (fun n s hJ=>?_) n h;refine wpAny_noted (A:=A) (m:=compTurn (.ListComp elt [⟨tg,iter,ifs,0⟩] scope pos) 0 it acc env) (env:=env) ?_;rw[compTurn_list];refine wpAny_bind (wpAny_standAt (wpAny_bind (cJ (turn n s hJ) fun r s₁ h₁=>?_)));rcases h₁ with ⟨e,h₁⟩|⟨v,e,h₁⟩
 ·subst e;exact wpAny_pure h₁
 ·subst e;refine wpAny_bind (cJ h₁ fun _ s₂ h₂=>wpAny_bind (cJ h₂ fun _ s₃ h₃=>wpAny_bind (cJ h₃ fun ok s₄ h₄=>?_)));cases ok with
  |false=>exact wpAny_pure ⟨rfl,h₄⟩
  |true=>exact wpAny_bind (wpAny_bind (cJ h₄ fun x s₅ h₅=>wpAny_bind (cJ h₅ fun _ s₆ h₆=>wpAny_pure (wpAny_pure ⟨rfl,h₆⟩))))
def PF (X:Cx)(ifs:List Expr)(t:TT):Prop :=
 ∀(pins:List (Addr×Obj)) (s:Shared) (σ:St) (H:Hp) (Q:Bool->Hp->Prop),Inv X pins σ H s->t σ H Q ->
  wpAny (model X.prog X.w) X.A (forIn ifs true fun c r=>if r=true then do let ok <-isTrue c X.env (eval c X.env);pure (ForInStep.yield ok) else pure (ForInStep.yield r)) (TP X pins σ Q) X.xe s
def age:TT:=fun _ H Q=>Q true H
theorem vv {X:Cx}:PF X [] age:=by
 intro pins s σ H Q I h;rw[List.forIn_nil];exact wpAny_pure ⟨H,I,h⟩
theorem P2 {X:Cx}{c:Expr}{t:TT}(hc:PT X c t):PF X [c] t:=by
 intro pins s σ H Q I h;rw[List.forIn_cons];refine wpAny_bind ?_;rw[if_pos rfl];refine wpAny_bind (cJ (hc pins s σ H Q I h) fun ok s1 q=>wpAny_pure ?_);show wpAny _ _ (forIn [] ok _) _ _ _;rw[List.forIn_nil];exact wpAny_pure q
def VY (X:Cx)(C:Addr)(e:Value)(s':Shared):Prop :=
 ∃ m,s'.heap.Ns C m/\∀ h',Heap.SameBut C s'.heap h'->∀ cenv:Env,cenv.locals=C->wpAny (model X.prog X.w) X.A (passOn "comprehension.variables-let-go" e cenv:Sem Value) (fun _ _=>False) X.xe { s' with heap:=h' }
def uv (X:Cx)(scope:Scope)(C:Addr):Value->Shared->Prop :=
 notedBy (model X.prog X.w) X.A (compEnvC scope (iX X.env scope.names []) C X.env) (VY X C)
def abH (n:Nat)(wi:TI)(g:Bk->TG)(tc:Bk->TT)(te:Bk->TE):TE:=fun σ H Q=>wi σ H fun J H1=>∀(D:Addr)(b:Bk),H1 D=none->∃ W:Nat->Nat->List V->St->Hp->Prop,
 (∃ m,W 0 m [] (List.replicate n none++σ) (upd H1 D (.lst [])))/\∀ i m ys σ H,W i m ys σ H ->
  (J.stop i H/\Q (.ref D) H)\/(J.go i H/\∀ x H',J.yld i H x H'->g b x σ H' fun σ2 H2=>tc b σ2 H2 fun ok H3 =>
   if ok=true then te b σ2 H3 fun y H4=>H4 D=some (.lst ys)/\ys.length<sizeLine/\∃ m',m'<m/\W (i+1) m' (ys++[y]) σ2 (upd H4 D (.lst (ys++[y])))
   else ∃ m',m'<m/\W (i+1) m' ys σ2 H3)
section
variable {X:Cx} {tg iter elt:Expr} {ifs:List Expr} {scope:Scope} {pos:Pos} {cn:List Str} {wi:TI} {g:Bk->TG} {tc:Bk->TT} {te:Bk->TE} {TH:Bk->Prop}
theorem TJ {pins:List (Addr×Obj)}{σ:St}{H:Hp}{s₂:Shared}{it:Addr}{fp:List Addr}{tn:Nat->Heap->Prop}{J:It}{RR:Value->Addr->Result->Shared->Prop}{QQ:Addr->Hp->Prop}{EE:Value->Shared->Prop}
  (hcalm:X.calm=true) (F:dQ X.env.scope X.N scope) (hg:∀ b,TH b->PG (df X cn scope b) tg (g b)) (ht:∀ b,TH b->PF (df X cn scope b) ifs (tc b)) (he:∀ b,TH b->PE (df X cn scope b) elt (te b))
  (hTH:∀ C,s₂.heap.objs.size<=C->TH ⟨C,s₂,H,fp,uv X scope C⟩)
  (I:Inv X pins σ H s₂) (T:Turn X.prog X.w X.K tg J fp it tn) (st:tn 0 s₂.heap) (hf:∀ b∈fp,qB X pins H b)
  (h:∀(D:Addr)(b:Bk),H D=none->∃ W:Nat->Nat->List V->St->Hp->Prop,(∃ m,W 0 m [] (List.replicate cn.length none++σ) (upd H D (.lst [])))/\∀ i m ys σ H,W i m ys σ H ->
   (J.stop i H/\QQ D H)\/(J.go i H/\∀ x H',J.yld i H x H'->g b x σ H' fun σ2 H2=>tc b σ2 H2 fun ok H3 =>
    if ok=true then te b σ2 H3 fun y H4=>H4 D=some (.lst ys)/\ys.length<sizeLine/\∃ m',m'<m/\W (i+1) m' (ys++[y]) σ2 (upd H4 D (.lst (ys++[y])))
    else ∃ m',m'<m/\W (i+1) m' ys σ2 H3))
  (hR:∀ C D σ' H' s',s₂.heap.objs.size<=C->Inv (df X cn scope ⟨C,s₂,H,fp,uv X scope C⟩) [] σ' H' s'->QQ D H'->RR (.ref D) C (.ok .next) s')
  (hE:∀ C D e s',VY X C e s'->RR (.ref D) C (.error e) s') :
  wpAny (model X.prog X.w) X.A (newList []) (fun acc s₃=>wpAny (model X.prog X.w) X.A (newFunctionEnv scope X.env.globals (iX X.env scope.names []) [] X.env.qual none .none (some X.env)) (fun cenv s₄ =>
   codeAny (model X.prog X.w) X.A (.compStart (.ListComp elt [⟨tg,iter,ifs,0⟩] scope pos) 0 (.ref it) acc { cenv with scope:=relabel scope X.env }) (RR acc cenv.locals) s₄) EE s₃) EE s₂:=by
 refine wpAny_newObj_type (wpAny_newFunctionEnv F.abG (by intro y hy;simp at hy) (fun h₁ hns₁ hsb₁=>?_) F.kind);dsimp only at hns₁ hsb₁ ⊢;generalize hH2:s₂.heap.push { cls:=.type "list",dict:=none,data:=.seq ([]:List Value).toArray } = H2 at hns₁ hsb₁ ⊢;have hC:H2.objs.size=s₂.heap.objs.size+1:=by rw[<-hH2,Heap.size_push]
 have hDC:s₂.heap.objs.size≠H2.objs.size:=by omega
 have hCle:s₂.heap.objs.size<=H2.objs.size:=by omega
 have hfl:∀ b∈fp,b<s₂.heap.objs.size:=fun b hb=>by
  obtain⟨o,e,_⟩:=T.obj 0 _ st b hb;exact Heap.lt_size e
 have akz:∀ b o,s₂.heap.get? b=some o->H2.get? b=some o:=fun b o e=>hH2 ▸ Heap.get?_push_of_some _ e;have old:∀ b o,s₂.heap.get? b=some o->h₁.get? b=some o:=fun b o e=>by
  have hb:=Heap.lt_size e;refine hsb₁.extBut b o (Nat.ne_of_lt (Nat.lt_of_lt_of_le hb hCle)) (Heap.get?_push_of_some _ (akz b o e))
 have hacc:h₁.get? s₂.heap.objs.size=some { cls:=.type "list",data:=.seq ([]:List Value).toArray 0 } :=
  hsb₁.extBut _ _ hDC (Heap.get?_push_of_some _ (hH2 ▸ Heap.get?_push_size _ rfl))
 have I0:=Inv.block (cn:=cn) (xe:=uv X scope H2.objs.size) (tk:=s₂.toks+([]:List (Str×Value)).length) I F hcalm hf hfl hCle (Nat.le_refl _) hDC hns₁ old hacc;have th:=hTH _ hCle;obtain⟨W,⟨m0,w0⟩,turn⟩:=h s₂.heap.objs.size ⟨H2.objs.size,s₂,H,fp,uv X scope H2.objs.size⟩ (I.hok.fresh (Nat.le_refl _));have fpx:∀{H':Hp},(∀ b∈fp,H' b=none)->∀ b∈fp,qB (df X cn scope ⟨H2.objs.size,s₂,H,fp,uv X scope H2.objs.size⟩) [] H' b:=fun {H'} hn b hb=>by
  refine⟨hn b hb,(I0.ok.exf b hb).1,I0.ok.PM b hb,.inl hb,(I0.ok.exf b hb).2,fun p hp=>absurd (show p∈([]:List (Addr×Obj)) from hp) (by simp)⟩
 have afm:(df X cn scope ⟨H2.objs.size,s₂,H,fp,uv X scope H2.objs.size⟩).calm=true:=hcalm;have loop:∀ s₃:Shared,s₃ = { s₂ with heap:=h₁,toks:=s₂.toks+([]:List (Str×Value)).length } ->
   codeAny (model X.prog X.w) X.A (.compLoop (.ListComp elt [⟨tg,iter,ifs,0⟩] scope pos) 0 (.ref it) (.ref s₂.heap.objs.size) (compEnvC scope (iX X.env scope.names []) H2.objs.size X.env))
    (RR (.ref s₂.heap.objs.size) H2.objs.size) s₃:=by
  rintro s₃ rfl;have toE:∀ e s',(df X cn scope ⟨H2.objs.size,s₂,H,fp,uv X scope H2.objs.size⟩).xe e s' ->
    notedBy (model X.prog X.w) X.A (compEnvC scope (iX X.env scope.names []) H2.objs.size X.env) (fun e s'=>RR (.ref s₂.heap.objs.size) H2.objs.size (.error e) s') e s':=fun e s' z =>
   wpAny_mono (show notedBy (model X.prog X.w) X.A (compEnvC scope (iX X.env scope.names []) H2.objs.size X.env) (VY X H2.objs.size) e s' from z) (fun _ _ q=>hE _ _ _ _ q) fun _ _ q=>hE _ _ _ _ q
  refine ZL (env:=compEnvC scope (iX X.env scope.names []) H2.objs.size X.env)
   (fun n s'=>∃ i ys σ' H',Inv (df X cn scope ⟨H2.objs.size,s₂,H,fp,uv X scope H2.objs.size⟩) [] σ' H' s'/\tn i s'.heap/\(∀ b∈fp,H' b=none)/\W i n ys σ' H') ?_ m0
   ⟨0,[],_,_,I0,T.keep _ _ _ st fun b _ o e=>old b o e,fun b hb=>?_,w0⟩
  ·rintro n s' ⟨i,ys,σ',H',I',st',fr',w'⟩;rcases turn i n ys σ' H' w' with ⟨stop,qn⟩|⟨go,step⟩
   ·refine wpAny_mono (T.done (df X cn scope ⟨H2.objs.size,s₂,H,fp,uv X scope H2.objs.size⟩) rfl rfl rfl afm i [] s' σ' H' (fun _ _=>False) I' (fpx fr') st' stop) (fun r s4 ⟨hr,I4⟩=>?_) fun _ _ z=>z.elim;exact .inl ⟨hr,hR _ _ _ _ _ hCle I4 qn⟩
   ·refine wpAny_mono (T.item (df X cn scope ⟨H2.objs.size,s₂,H,fp,uv X scope H2.objs.size⟩) rfl rfl rfl afm i [] s' σ' H' (fun _ _=>False) I' (fpx fr') st' go) (fun r s4 ⟨u,hr,h4⟩=>?_) fun _ _ z=>z.elim;refine .inr ⟨u,hr,wpAny_mono h4 (fun _ s5 ⟨x,H5,I5,r5,y5,st5,fr5⟩=>?_) fun _ _ z=>z.elim⟩;have I5':=I5.pinned (fpx fr5) (T.obj _ _ st5);refine wpAny_mono (hg _ th _ s5 σ' H5 x u _ I5' r5 (step x H5 y5)) (fun _ s6 ⟨σ6,H6,I6,q6⟩=>?_) toE;refine wpAny_mono (ht _ th _ s6 σ6 H6 _ I6 q6) (fun ok s7 ⟨H7,I7,q7⟩=>?_) toE;have back:∀{σ8:St} {H8:Hp} {s8:Shared},Inv (df X cn scope ⟨H2.objs.size,s₂,H,fp,uv X scope H2.objs.size⟩) ([]++K9 fp s5.heap) σ8 H8 s8->tn (i+1) s8.heap/\∀ b∈fp,H8 b=none:=fun {σ8 H8 s8} I8=>by
     refine⟨T.keep _ _ _ st5 fun b hb o e=>(I8.pin (b,o) (mem_append_right _ (mem_append_right _ (vg hb e)))).1,fun b hb=>?_⟩;obtain⟨o,e,d⟩:=T.obj _ _ st5 b hb;exact(I8.pin (b,o) (mem_append_right _ (mem_append_right _ (vg hb e)))).2.1
    cases ok with
    |false =>
     rw[if_neg Bool.false_ne_true]at q7 ⊢;obtain⟨m',hm,w7⟩:=q7;obtain⟨t8,f8⟩:=back I7;exact⟨m',hm,i+1,ys,σ6,H7,I7.xN,t8,f8,w7⟩
    |true =>
     rw[if_pos rfl]at q7 ⊢;refine wpAny_mono (he _ th _ s7 σ6 H7 _ I7 q7) (fun v s8 ⟨y,H8,I8,r8,hl,hz,m',hm,w8⟩=>?_) toE;refine wpAny_mono (cz (X:=df X cn scope ⟨H2.objs.size,s₂,H,fp,uv X scope H2.objs.size⟩) _ s8 σ6 H8 (.ref s₂.heap.objs.size) [y] (.ref s₂.heap.objs.size) [v] (fun _ H9=>W (i+1) m' (ys++[y]) σ6 H9) I8 rfl (.cons r8 .nil) ⟨_,ys,y,rfl,rfl,hl,hz,w8⟩)
      (fun _ s9 ⟨_,H9,I9,_,w9⟩=>?_) toE
     obtain⟨t9,f9⟩:=back I9;exact⟨m',hm,i+1,_,σ6,H9,I9.xN,t9,f9,w9⟩
  ·rw[ao (Nat.ne_of_lt (hfl b hb))];exact(hf b hb).1
 exact codeAny_compStart_list (loop _ rfl) (T.self _ 0 _ _ _ (T.keep _ _ _ st fun b _ o e=>old b o e) (loop _ rfl))
theorem abI (hcalm:X.calm=true)(F:dQ X.env.scope X.N scope)(hi:PI X tg iter wi)(hg:∀ b,TH b->PG (df X cn scope b) tg (g b))(ht:∀ b,TH b->PF (df X cn scope b) ifs (tc b))
  (he:∀ b,TH b->PE (df X cn scope b) elt (te b))
  (hTH:∀ pins σ H s₂ fp C,Inv X pins σ H s₂->(∀ b∈fp,qB X pins H b)->s₂.heap.objs.size<=C->TH ⟨C,s₂,H,fp,uv X scope C⟩)
  (hs:∀ x,foldedSetIterable iter X.env x=pure x:=by intro _;rfl):PE X (.ListComp elt [⟨tg,iter,ifs,0⟩] scope pos) (abH cn.length wi g tc te):=by
 intro pins s σ H Q I h;rw[eval_ListComp];have hcl:closureFor scope X.env=pure (iX X.env scope.names []):=YT fun p hp e=>I.ok.has p.1 (F.free p hp e);refine wpAny_comprehension_free (use:=none) rfl hs hcl F.kind F.loc (cJ (hi pins s σ H _ I h) fun xv s₁ h₁=>cJ h₁ fun itv s₂ h₂=>?_);obtain⟨it,fp,tn,J,H2,rfl,I2,T,st,f2,R⟩:=h₂;refine TJ (QQ:=fun D H'=>Q (.ref D) H') (RR:=fun acc C=>compPost (model X.prog X.w) X.A X.xe none (EP X pins σ Q) acc C) hcalm F hg ht he (fun C hC=>hTH pins σ H2 s₂ fp C I2 f2 hC) I2 T st f2 R ?_ ?_
 ·intro C D σ' H' s' hC I' q;obtain⟨m,hm,_⟩:=I'.loc;exact⟨m,hm,fun h' sb=>⟨.ref D,H',I2.YV f2 hC I' sb,rfl,q⟩⟩
 ·intro C D e s' z;exact z
theorem oC (hcalm:X.calm=true)(F:dQ X.env.scope X.N scope)(hi:PI X tg iter wi)(hg:∀ b,PG (df X cn scope b) tg (g b))(ht:∀ b,PF (df X cn scope b) ifs (tc b))(he:∀ b,PE (df X cn scope b) elt (te b))
  (hs:∀ x,foldedSetIterable iter X.env x=pure x:=by intro _;rfl):PE X (.ListComp elt [⟨tg,iter,ifs,0⟩] scope pos) (abH cn.length wi g tc te) :=
 abI (TH:=fun _=>True) hcalm F hi (fun b _=>hg b) (fun b _=>ht b) (fun b _=>he b) (fun _ _ _ _ _ _ _ _ _=>trivial) hs
end
end L2
set_option maxHeartbeats 4000000
namespace L2
open PySem PySem.Spec PyProof.Rows
section
variable {X:Cx} {e:Expr} {es:List Expr} {te:TE} {pos:Pos}
abbrev TP1:=St->Hp->(Str->Hp->Prop)->Prop
abbrev TPs:=Str->St->Hp->(Str->Hp->Prop)->Prop
theorem gy:pW X (.type "int") (fun xs H Q=>∃ z n,xs=[.str z]/\PySem.intText? z=some n/\z.length<=640/\Q (.int n) H):=by
 intro pins s σ H xs us Q I r h;obtain⟨z,n,rfl,hn,hl,q⟩:=h;obtain⟨u,rfl,t,rfl⟩:=r.one;exact PySem.W.KIN.call_text hn hl ⟨.int n,H,I.tok _,⟨_,rfl⟩,q⟩
theorem VZ {ys:List Str}:∀{us:List Value},Vals (ys.map V.str) us->StrsAre us ys:=by
 induction ys with
 |nil=>intro us r;rw[List.map_nil]at r;cases r;exact .nil
 |cons n ns ih =>
  intro us r;rw[map_cons]at r;cases r with
  |cons r1 r2 =>
   obtain⟨t,e⟩:=r1;subst e;exact .cons n t (ih r2)
def akB:V->Option Int->Option Int->Hp->VK->Prop:=fun x lo hi H Q=>∃ z,x=.str z/\z.length<=sizeLine/\Q (.str (Txt.slice z lo hi)) H
theorem O1 {v:Value}{o:Option Int}(p:IsPart v o):∃ l:Option (Int×Tok),v=partValue l/\l.map (·.1)=o:=by
 cases p with
 |none=>exact⟨none,rfl,rfl⟩
 |int i t=>exact⟨some (i,t),rfl,rfl⟩
theorem vy:SlR X akB:=by
 intro pins s σ H x v vl vu lo hi sl Q I rx hs pl pu h;obtain⟨z,rfl,hz,q⟩:=h;obtain⟨t,rfl⟩:=rx;obtain⟨l,rfl,el⟩:=O1 pl;obtain⟨u,rfl,eu⟩:=O1 pu;subst el eu;refine⟨"str",_,F.slot_str_getitem.lookup,typeIs_str _ _ _,?_⟩;obtain⟨o,ho,hc,hd⟩:=hs;refine wpAny_getItem_str_slice (l:=l) (u:=u) (st:=none) ⟨o,ho,hc,hd⟩ rfl ?_;exact post_val_or_str ⟨Nat.le_trans (Txt.slice_le z _ _) hz,fun t' k=>⟨.str _,H,I.tok _,⟨t',rfl⟩,q⟩⟩
def Its (z:Str):It:=⟨fun i _=>i<z.cps.size,fun i H x H'=>H'=H/\∃ c,z.cps[i]? = some c/\x=.str ⟨#[c]⟩,fun i _=>z.cps.size<=i⟩
def akD (tl:TE):TI:=fun σ H R=>tl σ H fun x H1=>∃ z,x=.str z/\R (Its z) H1
theorem TK {P:Program}{w:World}{K:Frag}{tg:Expr}{z:Str}{it:Addr}{T:String}{t:Tok}(hT:["enumerate","zip","dict_itemiterator","dict_reverseitemiterator","odict_iterator","itertools.zip_longest","itertools.pairwise"].contains T=false)
  (W:∀ A:Around,A.handled=none->Walks P w A it [it] [it] z.cps.size (SignAt z) (fun i h=>h.IsStrIter it T z t i)) 
  (S:∀(A:Around)(i:Nat)(s:Shared)(Q:Value->Shared->Prop)(E:Value->Shared->Prop),s.heap.IsStrIter it T z t i->Q (.ref it) s->wpAny (model P w) A (pyIter (.ref it)) Q E s) :
  Turn P w K tg (Its z) [it] it (fun i h=>h.IsStrIter it T z t i/\i<=z.cps.size) where
 mem:=by simp
 obj:=fun i h st b hb=>by
  have e:b=it:=by simpa using hb
  subst e;obtain⟨⟨o,e,c,d⟩,_⟩:=st;exact⟨o,e,fun v q=>by rw[d]at q;cases q⟩
 keep:=fun i h h' st k=>⟨by
  obtain⟨⟨o,e,c,d⟩,_⟩:=st;exact⟨o,k it (by simp) o e,c,d⟩,st.2⟩
 item:=by
  intro X hP hw hK hc i pins s σ H E I hf st hg;subst hP hw hK;obtain⟨f0,f1,f2,f3,f4,f5⟩:=hf it (by simp);have hgi:i<z.cps.size:=hg;refine(W X.A (I.ok.hd hc)).item i s _ _ hgi st.1 fun v h' tk hv st' kk=>?_;obtain⟨c,u,hc',rfl⟩:=hv;have I1:Inv X pins σ H { s with heap:=h',toks:=tk }:=I.turned (fun b o hb e=>kk b o (by simpa using hb) e) f0 f1 f3 f4 f5;obtain⟨o,e,cc,d⟩:=id st';exact⟨_,rfl,YF (s:={ s with heap:=h',toks:=tk }) e cc d hT ⟨.str ⟨#[c]⟩,H,I1,⟨u,rfl⟩,⟨rfl,c,hc',rfl⟩,⟨st',hgi⟩,fun b hb=>(hf b hb).1⟩⟩
 done:=by
  intro X hP hw hK hc i pins s σ H E I hf st hg;subst hP hw hK;obtain⟨f0,f1,f2,f3,f4,f5⟩:=hf it (by simp);have hge:z.cps.size<=i:=hg;have e:i=z.cps.size:=Nat.le_antisymm st.2 hge;subst e;exact(W X.A (I.ok.hd hc)).done s _ _ st.1 fun h' tk kk=>⟨rfl,I.turned (fun b o hb e=>kk b o (by simpa using hb) e) f0 f1 f3 f4 f5⟩
 self:=fun A i s Q E st h=>S A i s Q E st.1 h
theorem agf {tg l:Expr}{tl:TE}(hl:PE X l tl):PI X tg l (akD tl):=by
 intro pins s σ H R I h;refine cJ (hl pins s σ H _ I h) fun v s1 ⟨x,H1,I1,r1,q1⟩=>?_;obtain⟨z,rfl,q⟩:=q1;obtain⟨t,rfl⟩:=r1;have fp:∀ b∈[s1.heap.objs.size],qB X pins H1 b:=fun b hb=>by
  have e:b=s1.heap.objs.size:=by simpa using hb
  subst e;exact I1.Tt (Nat.le_refl _) (I1.hok.fresh (Nat.le_refl _))
 cases ha:z.cps.all (· < 128)
 ·refine wpAny_pyIter_wide ha ?_;refine⟨s1.heap.objs.size,[s1.heap.objs.size],_,_,H1,rfl,I1.kept (t':=s1.toks) fun b o e=>Heap.get?_push_of_some _ e,TK (T:="str_iterator") (t:=t) (by decide) (fun A hA=>Walks.strWide hA _ z t)
   (fun A i s Q E st hq=>wpAny_pyIter_striter_wide st hq),⟨⟨_,Heap.get?_push_size _ rfl,rfl,rfl⟩,Nat.zero_le _⟩,fp,q⟩
 ·refine wpAny_pyIter_ascii ha ?_;refine⟨s1.heap.objs.size,[s1.heap.objs.size],_,_,H1,rfl,I1.kept (t':=s1.toks) fun b o e=>Heap.get?_push_of_some _ e,TK (T:="str_ascii_iterator") (t:=t) (by decide) (fun A hA=>Walks.strAscii hA _ z t)
   (fun A i s Q E st hq=>wpAny_pyIter_striter_ascii st hq),⟨⟨_,Heap.get?_push_size _ rfl,rfl,rfl⟩,Nat.zero_le _⟩,fp,q⟩
theorem any_range:∀ bs:List Bool,(List.range bs.length).any (fun i=>bs.getD i false)=bs.any id
 |[]=>rfl
 |b::bs=>by
  rw[length_cons,List.range_succ_eq_map,List.any_cons,List.any_map,List.any_cons];have:((fun i=>(b::bs).getD i false) ∘ Nat.succ)=fun i=>bs.getD i false:=by
   funext i
   rfl
  rw[this,any_range bs];rfl
theorem TL:pW X (.builtin "any") (fun xs H Q=>X.calm=true/\∃(a:Addr)(bs:List Bool),xs=[.ref a]/\aZ X.K H a (bs.map V.bl)/\Q (.bl (bs.any id)) H):=by
 intro pins s σ H xs us Q I r h;obtain⟨hc,a,bs,rfl,hq,q⟩:=h;obtain⟨u,rfl,rfl⟩:=r.one;obtain⟨its,rv,p,hz⟩:=I.list hq;have hl:=rv.length;rw[length_map]at hl;have agg:∀(i:Nat)(v:Value),its.toArray[i]? = some v->v=Value.bool (bs.getD i false):=by
  intro i v hv;have hv':its[i]? = some v:=by simpa using hv
  have hi:i<its.length:=(List.getElem?_eq_some_iff.mp hv').1;have hb:i<bs.length:=by omega
  obtain⟨u,hu,ru⟩:=rv.get (i:=i) (x:=.bl (bs[i])) (by rw[getElem?_map,getElem?_eq_getElem hb];rfl);rw[hv']at hu;cases hu;have:v=.bool bs[i]:=ru;rw[this,List.getD_eq_getElem?_getD,getElem?_eq_getElem hb];rfl
 refine call_any_walk (wpAny_pyIter_list p.isList ?_);have ane:a≠s.heap.objs.size:=by
  obtain⟨o,ho,_⟩:=p.isList;exact Nat.ne_of_lt (Heap.lt_size ho)
 have hd:X.A.in1.handled=none:=I.ok.hd hc;refine⟨s.heap.objs.size,_,_,_,_,_,fun i=>bs.getD i false,rfl,Walks.list hd s.heap.objs.size a ane its.toArray,⟨⟨_,Heap.get?_push_size _ rfl,rfl,rfl⟩,p.isList.push _⟩,?_,?_⟩
 ·intro i v s' Q' E' hP hQ';rw[agg i v hP];exact wpAny_truthy_bool hQ'
 ·intro h' tk kk;have e:(List.range its.toArray.size).any (fun i=>bs.getD i false)=bs.any id:=by
   rw[size_toArray,<-hl];exact any_range bs
  rw[e];refine⟨.bl _,H,I.kept (t':=tk) fun b o e=>kk b o (fun z=>?_) (Heap.get?_push_of_some _ e),rfl,q⟩;have:b=s.heap.objs.size:=by simpa using z
  exact absurd (Heap.lt_size e) (by rw[this];exact Nat.lt_irrefl _)
end
end L2
set_option maxHeartbeats 4000000
namespace L2
open PySem PySem.Spec PyProof.Rows PySem.SeqAt
inductive Deq (K:Frag)(H:Hp):Nat->V->V->Prop where
 |flat {n:Nat} {x:V} (f:AO x=true):Deq K H n x x
 |tup {n:Nat} {a b:Addr} {xs ys:List V} (ha:uo K H a xs) (hb:uo K H b ys) (hl:xs.length=ys.length) (h:∀(i:Nat) x y,xs[i]? = some x->ys[i]? = some y->Deq K H n x y):Deq K H (n+1) (.ref a) (.ref b)
 |lst {n:Nat} {a b:Addr} {xs ys:List V} (ha:aZ K H a xs) (hb:aZ K H b ys) (hl:xs.length=ys.length) (h:∀(i:Nat) x y,xs[i]? = some x->ys[i]? = some y->Deq K H n x y):Deq K H (n+1) (.ref a) (.ref b)
section
variable {X:Cx} {pins:List (Addr×Obj)} {σ:St} {H:Hp} {s:Shared}
theorem abJ:∀{x:V},AO x=true->YQ x x=true:=by
 intro x f;cases x <;> first|(simp[YQ];done)|(cases f)
theorem xR (n:Nat):(List.range n).all (fun _=>true)=true:=by simp
theorem Deq.at {n:Nat}{x y:V}(d:Deq X.K H n x y)(I:Inv X pins σ H s):∀{A:Around} {u v:Value},A.units+n<cLine->RelV x u->RelV y v ->
  EqAt A s u v true/\(∀ a b,x=.ref a->y=.ref b->RcAt A s u v true/\RcNeAt A s u v false):=by
 induction d with
 | @flat n x f =>
  intro A u v hu ru rv;refine⟨?_,fun a b e _=>?_⟩
  ·have:=abz (A:=A) (s:=s) ru rv f f;rw[abJ f]at this;exact this
  ·subst e;cases f
 | @tup n a b xs ys ha hb hl h ih =>
  intro A u v hu ru rv;cases ru;cases rv;obtain⟨its,r,p,_⟩:=I.tuple ha;obtain⟨its',r',p',_⟩:=I.tuple hb;have e1:=r.length;have e2:=r'.length;have he:∀ j (h1:j<its.toArray.size) (h2:j<its'.toArray.size),EqAt A.in1 s its.toArray[j] its'.toArray[j] true:=by
   intro j h1 h2;have h1':j<its.length:=by simpa using h1
   have h2':j<its'.length:=by simpa using h2
   have g1:xs[j]? = some xs[j]:=getElem?_eq_getElem (by omega);have g2:ys[j]? = some ys[j]:=getElem?_eq_getElem (by omega);obtain⟨u1,q1,k1⟩:=r.get g1;obtain⟨u2,q2,k2⟩:=r'.get g2;have z1:its.toArray[j]=u1:=by
    rw[getElem?_eq_getElem h1']at q1
    simpa using q1
   have z2:its'.toArray[j]=u2:=by
    rw[getElem?_eq_getElem h2']at q2
    simpa using q2
   rw[z1,z2];exact(ih j _ _ g1 g2 (by show A.units+1+n<cLine;omega) k1 k2).1
  have bt:((List.range (min its.toArray.size its'.toArray.size)).all (fun _=>true)&&its.toArray.size==its'.toArray.size)=true:=by
   rw[xR];simp;omega
  have rc:RcAt A s (.ref a) (.ref b) true:=by
   have:=RcAt.tuples (A:=A) (e:=fun _=>true) (show s.heap.IsTuple a its.toArray from p) (show s.heap.IsTuple b its'.toArray from p') (by omega) he;rw[bt]at this;exact this
  have rn:RcNeAt A s (.ref a) (.ref b) false:=by
   have:=RcNeAt.tuples (A:=A) (e:=fun _=>true) (show s.heap.IsTuple a its.toArray from p) (show s.heap.IsTuple b its'.toArray from p') (by omega) he;rw[bt]at this;exact this
  refine⟨?_,fun _ _ _ _=>⟨rc,rn⟩⟩
  by_cases e:a=b
  ·subst e;exact EqAt.same _
  ·exact EqAt.of_refs e rc
 | @lst n a b xs ys ha hb hl h ih =>
  intro A u v hu ru rv;cases ru;cases rv;obtain⟨its,r,p,_⟩:=I.list ha;obtain⟨its',r',p',_⟩:=I.list hb;have e1:=r.length;have e2:=r'.length;have he:∀ j (h1:j<its.toArray.size) (h2:j<its'.toArray.size),EqAt A.in1 s its.toArray[j] its'.toArray[j] true:=by
   intro j h1 h2;have h1':j<its.length:=by simpa using h1
   have h2':j<its'.length:=by simpa using h2
   have g1:xs[j]? = some xs[j]:=getElem?_eq_getElem (by omega);have g2:ys[j]? = some ys[j]:=getElem?_eq_getElem (by omega);obtain⟨u1,q1,k1⟩:=r.get g1;obtain⟨u2,q2,k2⟩:=r'.get g2;have z1:its.toArray[j]=u1:=by
    rw[getElem?_eq_getElem h1']at q1
    simpa using q1
   have z2:its'.toArray[j]=u2:=by
    rw[getElem?_eq_getElem h2']at q2
    simpa using q2
   rw[z1,z2];exact(ih j _ _ g1 g2 (by show A.units+1+n<cLine;omega) k1 k2).1
  have bt:(List.range its.toArray.size).all (fun _=>true)=true:=xR _;have rc:RcAt A s (.ref a) (.ref b) true:=by
   have:=RcAt.lists (A:=A) (e:=fun _=>true) p.isList p'.isList (by simp;omega) (by omega) he;rw[bt]at this;exact this
  have rn:RcNeAt A s (.ref a) (.ref b) false:=by
   have:=RcNeAt.lists (A:=A) (e:=fun _=>true) p.isList p'.isList (by simp;omega) (by omega) he;rw[bt]at this;exact this
  refine⟨?_,fun _ _ _ _=>⟨rc,rn⟩⟩
  by_cases e:a=b
  ·subst e;exact EqAt.same _
  ·exact EqAt.of_refs e rc
inductive afn (K:Frag)(b:Bool)(x:V)(y:V)(H:Hp)(Q:VK):Prop
 |mk (a:_) (c:_) (gw:x=.ref a) (gx:y=.ref c) (iW:Deq K H 60 x y/\Q (.bl b) H):afn K b x y H Q
def ah6 (K:Frag)(b:Bool):R2:=fun x y H Q=>afn K b x y H Q
theorem bg (hu:X.A.units+64<cLine):uq X (compareOp .Eq) (ah6 X.K true):=by
 intro pins s σ H x y v u Q I r1 r2 h;obtain⟨a,c,rfl,rfl,d,q⟩:=h;exact(((d.at I (A:=X.A) (by omega) r1 r2).2 a c rfl rfl).1) X.prog X.w X.xe _ ⟨.bl true,H,I,rfl,q⟩
theorem ik (hu:X.A.units+64<cLine):uq X (compareOp .NotEq) (ah6 X.K false):=by
 intro pins s σ H x y v u Q I r1 r2 h;obtain⟨a,c,rfl,rfl,d,q⟩:=h;exact(((d.at I (A:=X.A) (by omega) r1 r2).2 a c rfl rfl).2) X.prog X.w X.xe _ ⟨.bl false,H,I,rfl,q⟩
theorem xS:pW X (.builtin "isinstance") (fun xs H Q=>∃ x T t b,xs=[x,.ty T]/\ur X.K H x t/\kitOne X.K t (.type T)=some b/\Q (.bl b) H):=by
 intro pins s σ H xs us Q I r h;obtain⟨x,T,t,b,rfl,ty,e,q⟩:=h;obtain⟨u,v,rfl,r1,r2⟩:=r.two;cases r2;exact ZE I r1 ty e fun tk=>⟨.bl b,H,I.tok _,rfl,q⟩
def Ite (K:Frag)(a:Addr):It :=
 ⟨fun i H=>∃ xs x,aZ K H a xs/\xs[i]? = some x,fun i H x H'=>∃ y t,x=.ref t/\H t=none/\(∀ xs,aZ K H a xs->xs[i]? = some y)/\H'=upd H t (.tup [.int i,y]),fun i H=>∃ xs,aZ K H a xs/\xs.length<=i⟩
def Itz (K:Frag)(a b:Addr):It :=
 ⟨fun i H=>∃ xs ys x y,aZ K H a xs/\aZ K H b ys/\xs[i]? = some x/\ys[i]? = some y,
  fun i H p H'=>∃ x y t,p=.ref t/\H t=none/\(∀ xs,aZ K H a xs->xs[i]? = some x)/\(∀ ys,aZ K H b ys->ys[i]? = some y)/\H'=upd H t (.tup [x,y]),
  fun i H=>∃ xs ys,aZ K H a xs/\aZ K H b ys/\min xs.length ys.length=i⟩
theorem gA {a:Addr}{K:Frag}{X:Cx}{pins:List (Addr×Obj)}{σ:St}{H:Hp}{s:Shared}{xs:List V}{b:Addr}{o:Obj}(I:Inv X pins σ H s)(hq:aZ X.K H a xs)(e:s.heap.get? b=some o)(hc:o.cls≠.type "list"):a≠b:=by
 rintro rfl;obtain⟨its,_,p,_⟩:=I.list hq;obtain⟨o',e',c',_⟩:=p.isList;rw[e]at e';cases e';exact hc c'
theorem Inv.abK {tk:Nat}{h':Heap}{wr:List Addr}{T:Addr}{xs:List V}{vals:List Value}(I:Inv X pins σ H s)(hw:∀ b∈wr,qB X pins H b)(hT:s.heap.objs.size<=T)(ht:h'.IsTuple T vals.toArray)(rv:Vals xs vals)(hz:xs.length<=sizeLine)
  (kk:∀ b o,b ∉ wr->s.heap.get? b=some o->h'.get? b=some o) (there:∀ b∈wr,∃ o,h'.get? b=some o):Inv X pins σ (upd H T (.tup xs)) { s with heap:=h',toks:=tk }:=by
 have hTn:H T=none:=I.hok.fresh hT;have nT:∀ b o,s.heap.get? b=some o->b≠T:=fun b o e=>Nat.ne_of_lt (Nat.lt_of_lt_of_le (Heap.lt_size e) hT);refine I.step (g':=s.gens) (d':=s.drawn) (ch:=wr) (fun b hb=>?_) (fun b o _ _ hc e _=>kk b o hc e) (fun b o _ _ hc e _=>⟨o.slots,kk b o hc e⟩) (fun b o _ e n=>by rw[ao (nT b o e)];exact n)
  (fun b o hc e=>⟨o,kk b o hc e⟩) (fun b ys e=>by rw[ao (aq e hTn)];exact e) (fun b o u e=>by rw[ao (aq e hTn)];exact e) (fun b ps e=>⟨#[],by rw[ao (aq e hTn),e];simp⟩) (fun m hm=>?_) (fun b u e=>?_) I.bare
 ·obtain⟨_,f1,_,f3,f4,f5⟩:=hw b hb;exact⟨f3,f1,f4,f5⟩
 ·obtain⟨o,es,ep,ho,r⟩:=hm;exact⟨o,es,ep,kk _ o (fun z=>(hw _ z).2.1 rfl) ho,r⟩
 ·by_cases hb:b=T
  ·subst hb;rw[ae]at e;cases e;exact⟨hz,vals,rv,ht⟩
  ·rw[ao hb]at e;refine(I.hok b u e).stay (fun c v hc q=>kk c v (fun z=>?_) q) (fun c q=>by rw[ao (aq q hTn)];exact q) fun c ys q=>by rw[ao (aq q hTn)];exact q
   have hn:=(hw c z).1;rcases hc with hc|hc
   ·rw[hc,e]at hn;cases hn
   ·rw[hc]at hn;cases hn
theorem Inv.qD {tk:Nat}{h':Heap}{wr:List Addr}(I:Inv X pins σ H s)(hw:∀ b∈wr,qB X pins H b)(kk:∀ b o,b ∉ wr->s.heap.get? b=some o->h'.get? b=some o):Inv X pins σ H { s with heap:=h',toks:=tk }:=by
 refine I.step (g':=s.gens) (d':=s.drawn) (ch:=wr) (fun b hb=>?_) (fun b o _ _ hc e _=>kk b o hc e) (fun b o _ _ hc e _=>⟨o.slots,kk b o hc e⟩) (fun b o _ e n=>n)
  (fun b o hc e=>⟨o,kk b o hc e⟩) (fun b ys e=>e) (fun b o u e=>e) (fun b ps e=>⟨#[],by rw[e];simp⟩) (fun m hm=>?_) (fun b u e=>?_) I.bare
 ·obtain⟨_,f1,_,f3,f4,f5⟩:=hw b hb;exact⟨f3,f1,f4,f5⟩
 ·obtain⟨o,es,ep,ho,r⟩:=hm;exact⟨o,es,ep,kk _ o (fun z=>(hw _ z).2.1 rfl) ho,r⟩
 ·refine(I.hok b u e).stay (fun c v hc q=>kk c v (fun z=>?_) q) (fun c q=>q) fun c ys q=>q;have hn:=(hw c z).1;rcases hc with hc|hc
  ·rw[hc,e]at hn;cases hn
  ·rw[hc]at hn;cases hn
end
end L2
set_option maxHeartbeats 4000000
namespace L2
open PySem PySem.Spec PyProof.Rows PySem.SeqAt
section
variable {X:Cx}
theorem az {k:Nat}{A:Around}(hr:jL k A):A.units+64<cLine:=hr.units
theorem dg:bootBuiltins "len"=some (.builtin "len"):=by lk
theorem agh:bootBuiltins "min"=some (.builtin "min"):=by lk
theorem agi:bootBuiltins "max"=some (.builtin "max"):=by lk
theorem DQ:bootBuiltins "enumerate"=some (.type "enumerate"):=by lk
theorem agj:bootBuiltins "zip"=some (.type "zip"):=by lk
theorem kh:bootBuiltins "isinstance"=some (.builtin "isinstance"):=by lk
theorem xV:bootBuiltins "int"=some (.type "int"):=by lk
theorem adQ:bootBuiltins "bool"=some (.type "bool"):=by lk
theorem DR:bootBuiltins "list"=some (.type "list"):=by lk
theorem abL:bootBuiltins "any"=some (.builtin "any"):=by lk
theorem agk:bootBuiltins "all"=some (.builtin "all"):=by lk
end
end L2
namespace L2
open PySem PySem.Spec PyProof.Rows
end L2
namespace L2
open PySem
theorem ip {K:Frag}{H:Hp}{a l:Addr}{o:HO}{xs:List V}(h:aZ K H a xs)(hn:H l=none):aZ K (upd H l o) a xs:=by
 have ne:∀{u},H a=some u->a≠l:=fun e=>aq e hn;rcases h with (h|⟨u,h⟩)|h
 ·exact .inl (.inl (by rw[ao (ne h)];exact h))
 ·exact .inl (.inr ⟨u,by rw[ao (ne h)];exact h⟩)
 ·exact .inr h
theorem ar.upd {H:Hp}{l:Addr}{o:HO}(hn:H l=none):ar H (upd H l o):=fun b u e=>by
 rw[ao (aq e hn)];exact e
end L2
namespace L2
theorem aS {X:Cx}{b:List PySem.Stmt}{t:TS}{D:Ends}{σ:St}{H:Hp}(h:KS X b t)(q:t D σ H):∃ t,KS X b t/\t D σ H:=⟨t,h,q⟩
theorem gS (i j:Int):decide (V.int i=V.int j)=decide (i=j):=by
 by_cases h:i=j
 ·subst h;simp
 ·rw[decide_eq_false h];exact decide_eq_false fun e=>h (V.int.inj e)
end L2
namespace L2
open PySem
end L2
namespace L2
open PySem
end L2
set_option maxHeartbeats 4000000
namespace L2
open PySem PySem.Spec PyProof.Rows
section
variable {X:Cx} {tg:Expr}
theorem Gg {pins:List (Addr×Obj)}{σ:St}{H:Hp}{s:Shared}{a:Addr}{xs:List V}{i:Nat}{y:V}(I:Inv X pins σ H s)(hq:aZ X.K H a xs)(hy:xs[i]? = some y):∀ ys,aZ X.K H a ys->ys[i]? = some y:=fun ys h=>by
 rw[I.Tq h hq];exact hy
theorem ZM {P:Program}{w:World}{K:Frag}{es:List Expr}{k:Nat}{tp:Pos}(a e it:Addr)(hei:e≠it) :
  Turn P w K (.Tuple es k tp) (Ite K a) [e,it] e (fun i h=>(∃ old,IsEnum h e it i old)/\h.IsListIter it a i) where
 mem:=by simp
 obj:=fun i h st b hb=>by
  obtain⟨⟨old,he⟩,o,e2,c,d⟩:=st;rcases List.mem_cons.mp hb with rfl|hb
  ·exact⟨_,he,fun v z=>by
    have z':Data.fields _=Data.cell v:=z;cases z'⟩
  ·have:b=it:=by simpa using hb
   subst this;exact⟨o,e2,fun v z=>by rw[d]at z;cases z⟩
 keep:=fun i h h' st kp=>by
  obtain⟨⟨old,he⟩,hit⟩:=st;exact⟨⟨old,kp e (by simp) _ he⟩,hit.at fun o x=>kp it (by simp) o x⟩
 item:=by
  intro X hP hw hK hc i pins s σ H E I hf st hg;subst hP hw hK;obtain⟨xs,x,hq,hx⟩:=hg;obtain⟨its,rv,p,hz⟩:=I.list hq;obtain⟨u,hu,ru⟩:=rv.get hx;obtain⟨⟨old,he⟩,hit⟩:=st;have hle:a≠e:=gA (K:=X.K) I hq he (by intro z;injection z with z;exact absurd z (by decide));have hli:a≠it:=by
   obtain⟨o,e2,c,_⟩:=hit;exact gA (K:=X.K) I hq e2 (by rw[c];intro z;injection z with z;exact absurd z (by decide))
  have hiu:i<its.toArray.size:=by
   have:=(List.getElem?_eq_some_iff.mp hu).1
   simpa using this
  have W:=WalksT.enumerate (prog:=X.prog) (w:=X.w) (I.ok.hd hc) e it a hei hle hli its.toArray;refine W.item i s _ _ hiu ⟨⟨old,he⟩,hit,p.isList⟩ fun T vals h' tk hv hT ht mid kk=>?_;refine⟨_,rfl,?_⟩;obtain⟨t,x',hx',rfl⟩:=hv;have ex:x'=u:=by
   have:its[i]? = some x':=by simpa using hx'
   rw[hu]at this;exact(Option.some.inj this).symm
  subst ex;have fw:∀ b∈[e,it],qB X pins H b:=hf;have I1:Inv X pins σ (upd H T (.tup [.int i,x])) { s with heap:=h',toks:=tk }:=by
   refine I.abK (vals:=[.int i t,x']) fw hT (by simpa using ht) (.cons ⟨t,rfl⟩ (.cons ru .nil)) (by show 2<=sizeLine;decide) kk fun b hb=>?_;obtain⟨⟨xx,ho⟩,⟨o,e2,_⟩,_⟩:=mid;rcases List.mem_cons.mp hb with rfl|hb
   ·exact⟨_,ho⟩
   ·have:b=it:=by simpa using hb
    subst this;exact⟨o,e2⟩
  have hTn:H T=none:=I.hok.fresh hT;have neT:∀ b∈[e,it],b≠T:=fun b hb z=>by
   subst z;exact W.apart i b _ mid hb
  refine W.go es k tp i T _ _ _ mid fun h'' st'' akF=>?_;have hf2:∀ b∈[e,it],qB X pins (upd H T (.tup [.int i,x])) b:=fun b hb=>by
   obtain⟨f0,fr⟩:=hf b hb;exact⟨by rw[ao (neT b hb)];exact f0,fr⟩
  refine⟨.ref T,upd H T (.tup [.int i,x]),I1.qD (tk:=tk) hf2 akF,rfl,⟨x,T,rfl,hTn,Gg I hq hx,rfl⟩,⟨st''.1,st''.2.1⟩,fun b hb=>(hf2 b hb).1⟩
 done:=by
  intro X hP hw hK hc i pins s σ H E I hf st hg;subst hP hw hK;obtain⟨xs,hq,hx⟩:=hg;obtain⟨its,rv,p,hz⟩:=I.list hq;obtain⟨⟨old,he⟩,hit⟩:=st;have hl:=rv.length;refine wpAny_pyNext_enum_end (I.ok.hd hc) he hit p.isList (Array.getElem?_eq_none (by simp;omega)) fun h' hx'=>?_;exact⟨rfl,I.qD (tk:=s.toks) hf fun b o hb q=>hx' b o (fun z=>hb (by simp[z])) q⟩
 self:=fun _ _ _ _ _ st h=>by
  obtain⟨⟨old,he⟩,_⟩:=st;exact wpAny_pyIter_enum he h
theorem agl {l:Expr}{tl:TE}(hl:PE X l tl)(hs:starEach [l] X.env=[(false,eval l X.env)])(pos:Pos)(pins:List (Addr×Obj))(s:Shared)(σ:St)(H:Hp){Q:VK}(I:Inv X pins σ H s)(h:tl σ H Q) :
  wpAny (model X.prog X.w) X.A (spliced (backTo pos (starEach [l] X.env))) (fun us s1=>∃ v u H1,Inv X pins σ H1 s1/\us=[u]/\RelV v u/\Q v H1) X.xe s:=by
 have ha:PA X [l] (fun σ H Q=>tl σ H fun x H1=>Q [x] H1):=aa hl af hs;have mono:wpAny (model X.prog X.w) X.A (spliced (backTo pos (starEach [l] X.env))) (AP X pins σ fun vs H1=>∃ v,vs=[v]/\Q v H1) X.xe s:=by
  have he:PE X l (fun σ' H' Q'=>σ'=σ/\H'=H/\∀ v H1,Q v H1->Q' v H1):=by
   intro pins s σ' H' Q' I' hw;obtain⟨rfl,rfl,hm⟩:=hw;exact cJ (hl pins s σ' H' Q I' h) fun u s1 ⟨v,H1,I1,r,q⟩=>⟨v,H1,I1,r,hm v H1 q⟩
  exact aa he af hs pos pins s σ H _ I ⟨rfl,rfl,fun v H1 q=>⟨v,rfl,q⟩⟩
 refine cJ mono fun us s1 ⟨vs,H1,I1,r,v,e,q⟩=>?_;subst e;obtain⟨u,rfl,ru⟩:=r.one;exact⟨v,u,H1,I1,rfl,ru,q⟩
inductive abM (K:Frag)(R:(It->Hp->Prop))(x:V)(H1:Hp):Prop
 |mk (a:_) (gw:x=.ref a) (gx:(∃ xs,aZ K H1 a xs)/\R (Ite K a) H1):abM K R x H1
def ah8 (K:Frag)(tl:TE):TI:=fun σ H R=>tl σ H fun x H1=>abM K R x H1
theorem YW {l:Expr}{tl:TE}{p pos tp:Pos}{es:List Expr}{k:Nat}(hg:Gl X "enumerate")(hm:X.mg "enumerate"=none)(hl:PE X l tl)(hs:starEach [l] X.env=[(false,eval l X.env)]:=by rfl) :
  PI X (.Tuple es k tp) (.Call (.Name "enumerate" p) [l] [] pos) (ah8 X.K tl):=by
 intro pins s σ H R I h;refine Call_ (vf I hg hm DQ (PyProof.Rows.callWith_type1 (cJ (agl hl hs pos pins s σ H I h) fun us s1 ⟨v,u,H1,I1,e1,r1,q1⟩=>?_) (by rw[hs];rfl) (by rfl)))
 ·obtain⟨a,rfl,⟨xs,hq⟩,q⟩:=q1;subst e1;cases r1;obtain⟨its,rv,pl,hz⟩:=I1.list hq;refine call_enumerate_list pl.isList fun h' he hit hsz kk=>?_;have hee:s1.heap.objs.size+1≠s1.heap.objs.size:=Nat.succ_ne_self _;refine wpAny_pyIter_enum he ?_;refine⟨s1.heap.objs.size+1,[s1.heap.objs.size+1,s1.heap.objs.size],_,_,H1,rfl,I1.kept (t':=s1.toks) kk,ZM a _ _ hee,⟨⟨.none,he⟩,hit⟩,fun b hb=>?_,q⟩;have hb':s1.heap.objs.size<=b:=by
   rcases List.mem_cons.mp hb with rfl|hb
   ·exact Nat.le_succ _
   ·have:b=s1.heap.objs.size:=by simpa using hb
    rw[this];exact Nat.le_refl _
  exact I1.Tt hb' (I1.hok.fresh hb')
end
end L2
set_option maxHeartbeats 4000000
namespace L2
open PySem PySem.Spec PyProof.Rows
structure P4 (z TI TO i1 i2:Addr):Prop where
 TIz:TI≠z
 TOz:TO≠z
 i1z:i1≠z
 i2z:i2≠z
 TITO:TI≠TO
 TIi1:TI≠i1
 TIi2:TI≠i2
 TOi1:TO≠i1
 TOi2:TO≠i2
 i12:i1≠i2
section
variable {X:Cx}
def afo (z TI TO i1 i2 a b:Addr)(i:Nat)(h:Heap):Prop:=IsZip h z TI TO .none/\IsPair h TI (.ref i1) (.ref i2)/\(∃ x y,IsPair h TO x y)/\h.IsListIter i1 a i/\h.IsListIter i2 b i
inductive ah9 (K:Frag)(R:(It->Hp->Prop))(x:V)(y:V)(H2:Hp):Prop
 |mk (a:_) (b:_) (gw:x=.ref a) (gx:y=.ref b) (iW:(∃ xs,aZ K H2 a xs)/\(∃ ys,aZ K H2 b ys)/\R (Itz K a b) H2):ah9 K R x y H2
theorem agm {l m:Expr}{tl tm:TE}(hl:PE X l tl)(hm:PE X m tm)(hs:starEach [l,m] X.env=[(false,eval l X.env),(false,eval m X.env)])(hs2:starEach [m] X.env=[(false,eval m X.env)])(pos:Pos)(pins:List (Addr×Obj))(s:Shared)(σ:St)(H:Hp){Q:V->V->Hp->Prop}(I:Inv X pins σ H s)(h:tl σ H fun x H1=>tm σ H1 fun y H2=>Q x y H2) :
  wpAny (model X.prog X.w) X.A (spliced (backTo pos (starEach [l,m] X.env))) (fun us s1=>∃ x y u v H1,Inv X pins σ H1 s1/\us=[u,v]/\RelV x u/\RelV y v/\Q x y H1) X.xe s:=by
 have he:PE X l (fun σ' H' Q'=>σ'=σ/\H'=H/\∀ x H1,(tm σ H1 fun y H2=>Q x y H2)->Q' x H1):=by
  intro pins s σ' H' Q' I' hw;obtain⟨rfl,rfl,k⟩:=hw;exact cJ (hl pins s σ' H' _ I' h) fun u s1 ⟨v,H1,I1,r,q⟩=>⟨v,H1,I1,r,k v H1 q⟩
 have hf:PE X m (fun σ' H' Q'=>∃ x,σ'=σ/\(tm σ H' fun y H2=>Q x y H2)/\∀ y H2,Q x y H2->Q' y H2):=by
  intro pins s σ' H' Q' I' hw;obtain⟨x,rfl,hh,k⟩:=hw;exact cJ (hm pins s σ' H' _ I' hh) fun u s1 ⟨v,H1,I1,r,q⟩=>⟨v,H1,I1,r,k v H1 q⟩
 have main:=aa he (aa hf af hs2) (by rw[hs,hs2]) pos pins s σ H (fun vs H2=>∃ x y,vs=[x,y]/\Q x y H2) I ⟨rfl,rfl,fun x H1 q=>⟨x,rfl,q,fun y H2 q2=>⟨x,y,rfl,q2⟩⟩⟩;refine cJ main fun us s1 ⟨vs,H1,I1,r,x,y,e,q⟩=>?_;subst e;obtain⟨u,v,rfl,r1,r2⟩:=r.two;exact⟨x,y,u,v,H1,I1,rfl,r1,r2,q⟩
end
end L2
set_option maxHeartbeats 4000000
namespace L2
open PySem
abbrev abN (J:It)(g:TG)(tc:TT)(te:TE)(D:Addr)(R:Hp->Prop)(σ:St)(H:Hp):Prop:=∃ W:Nat->Nat->List V->St->Hp->Prop,(∃ m,W 0 m [] σ H)/\∀ i m ys σ H,W i m ys σ H ->
  (J.stop i H/\R H)\/(J.go i H/\∀ x H',J.yld i H x H'->g x σ H' fun σ2 H2=>tc σ2 H2 fun ok H3 =>
   if ok=true then te σ2 H3 fun y H4=>H4 D=some (.lst ys)/\ys.length<sizeLine/\∃ m',m'<m/\W (i+1) m' (ys++[y]) σ2 (upd H4 D (.lst (ys++[y])))
   else ∃ m',m'<m/\W (i+1) m' ys σ2 H3)
abbrev DS (g:TG)(tc:TT)(te:TE)(D:Addr)(ys:List V)(x:V)(σ:St)(H:Hp)(N:List V->St->Hp->Prop):Prop :=
 g x σ H fun σ2 H2=>tc σ2 H2 fun ok H3=>if ok=true then te σ2 H3 fun y H4=>H4 D=some (.lst ys)/\ys.length<sizeLine/\N (ys++[y]) σ2 (upd H4 D (.lst (ys++[y]))) else N ys σ2 H3
theorem vz {lo:Int}{n:Nat}{g:TG}{tc:TT}{te:TE}{D:Addr}{R:Hp->Prop}{σ:St}{H:Hp}(Pv:Nat->List V->St->Hp->Prop)(h0:Pv 0 [] σ H)
  (hs:∀ i ys σ H,i<n->Pv i ys σ H->∀ N:List V->St->Hp->Prop,(∀ ys σ H,Pv (i+1) ys σ H->N ys σ H)->DS g tc te D ys (.int (lo+i)) σ H N) (hd:∀ ys σ H,Pv n ys σ H->R H):abN (Itr lo n) g tc te D R σ H:=by
 refine⟨fun i m ys σ H=>m=n-i/\i<=n/\Pv i ys σ H,⟨n,by simp,Nat.zero_le _,h0⟩,?_⟩;rintro i m ys σ H ⟨rfl,hi,p⟩
 by_cases hlt:i<n
 ·refine .inr ⟨hlt,fun x H' y=>?_⟩;obtain⟨e,y⟩:=y;subst e y;exact hs i ys σ _ hlt p (fun ys' σ' H'=>∃ m',m'<n-i/\m'=n-(i+1)/\i+1<=n/\Pv (i+1) ys' σ' H') fun ys' σ' H' q=>⟨n-(i+1),by omega,rfl,hlt,q⟩
 ·have e:i=n:=by omega
  subst e;exact .inl ⟨Nat.le_refl _,hd ys σ H p⟩
theorem lp {K:Frag}{a:Addr}{xs:List V}{g:TG}{tc:TT}{te:TE}{D:Addr}{R:Hp->Prop}{σ:St}{H:Hp}(Pv:Nat->List V->St->Hp->Prop)(h0:Pv 0 [] σ H)(hl:∀ i ys σ H,Pv i ys σ H->aZ K H a xs)
  (hs:∀ i ys x σ H,xs[i]? = some x->Pv i ys σ H->∀ N:List V->St->Hp->Prop,(∀ ys σ H,Pv (i+1) ys σ H->N ys σ H)->DS g tc te D ys x σ H N) (hd:∀ ys σ H,Pv xs.length ys σ H->R H):abN (Itl K a) g tc te D R σ H:=by
 refine⟨fun i m ys σ H=>m=xs.length-i/\i<=xs.length/\Pv i ys σ H,⟨xs.length,by simp,Nat.zero_le _,h0⟩,?_⟩;rintro i m ys σ H ⟨rfl,hi,p⟩;have q:=hl i ys σ H p
 by_cases hlt:i<xs.length
 ·refine .inr ⟨⟨xs,xs[i],q,by simp[hlt]⟩,fun x H' y=>?_⟩;obtain⟨e,y⟩:=y;subst e;exact hs i ys x σ _ (y xs q) p (fun ys' σ' H'=>∃ m',m'<xs.length-i/\m'=xs.length-(i+1)/\i+1<=xs.length/\Pv (i+1) ys' σ' H') fun ys' σ' H' q=>⟨xs.length-(i+1),by omega,rfl,hlt,q⟩
 ·have e:i=xs.length:=by omega
  subst e;exact .inl ⟨⟨xs,q,Nat.le_refl _⟩,hd ys σ H p⟩
theorem abO {z:Str}{g:TG}{tc:TT}{te:TE}{D:Addr}{R:Hp->Prop}{σ:St}{H:Hp}(Pv:Nat->List V->St->Hp->Prop)(h0:Pv 0 [] σ H)
  (hs:∀ i ys c σ H,z.cps[i]? = some c->Pv i ys σ H->∀ N:List V->St->Hp->Prop,(∀ ys σ H,Pv (i+1) ys σ H->N ys σ H)->DS g tc te D ys (.str ⟨#[c]⟩) σ H N) (hd:∀ ys σ H,Pv z.cps.size ys σ H->R H):abN (Its z) g tc te D R σ H:=by
 refine⟨fun i m ys σ H=>m=z.cps.size-i/\i<=z.cps.size/\Pv i ys σ H,⟨z.cps.size,by simp,Nat.zero_le _,h0⟩,?_⟩;rintro i m ys σ H ⟨rfl,hi,p⟩
 by_cases hlt:i<z.cps.size
 ·refine .inr ⟨hlt,fun x H' y=>?_⟩;obtain⟨e,c,hc,y⟩:=y;subst e y;exact hs i ys c σ _ hc p (fun ys' σ' H'=>∃ m',m'<z.cps.size-i/\m'=z.cps.size-(i+1)/\i+1<=z.cps.size/\Pv (i+1) ys' σ' H') fun ys' σ' H' q=>⟨z.cps.size-(i+1),by omega,rfl,hlt,q⟩
 ·have e:i=z.cps.size:=by omega
  subst e;exact .inl ⟨Nat.le_refl _,hd ys σ H p⟩
theorem TM {K:Frag}{a:Addr}{xs:List V}{g:TG}{tb:TS}{D:Ends}{σ:St}{H:Hp}(Pv:Nat->St->Hp->Prop)(h0:Pv 0 σ H)(hl:∀ i σ H,Pv i σ H->aZ K H a xs)
  (hs:∀ i x t σ H,xs[i]? = some x->Pv i σ H->H t=none->g (.ref t) σ (upd H t (.tup [.int i,x])) fun σ2 H2=>tb { D with nx:=Pv (i+1),ct:=Pv (i+1),bk:=D.nx } σ2 H2) (hd:∀ σ H,Pv xs.length σ H->D.nx σ H) :
  ∃ W:Nat->Nat->St->Hp->Prop,(∃ m,W 0 m σ H)/\∀ i m σ H,W i m σ H ->
   ((Ite K a).stop i H/\D.nx σ H)\/((Ite K a).go i H/\∃ N:St->Hp->Prop,(∀ σ' H',N σ' H'->∃ m',m'<m/\W (i+1) m' σ' H')/\∀ x H',(Ite K a).yld i H x H'->g x σ H' fun σ2 H2=>tb { D with nx:=N,ct:=N,bk:=D.nx } σ2 H2):=by
 refine⟨fun i m σ H=>m=xs.length-i/\i<=xs.length/\Pv i σ H,⟨xs.length,by simp,Nat.zero_le _,h0⟩,?_⟩;rintro i m σ H ⟨rfl,hi,p⟩;have q:=hl i σ H p
 by_cases hlt:i<xs.length
 ·refine .inr ⟨⟨xs,xs[i],q,by simp[hlt]⟩,Pv (i+1),fun σ' H' p'=>⟨xs.length-(i+1),by omega,rfl,hlt,p'⟩,fun x H' y=>?_⟩;obtain⟨y0,t,rfl,hn,hy,rfl⟩:=y;exact hs i y0 t σ H (hy xs q) p hn
 ·have e:i=xs.length:=by omega
  subst e;exact .inl ⟨⟨xs,q,Nat.le_refl _⟩,hd σ H p⟩
end L2
namespace L2
open PySem
theorem jt {j:Nat}{te:TE}{D:Addr}{ys:List V}{x:V}{σ:St}{H:Hp}{N:List V->St->Hp->Prop}
  (h:te (σ.set j (some x)) H fun y H4=>H4 D=some (.lst ys)/\ys.length<sizeLine/\N (ys++[y]) (σ.set j (some x)) (upd H4 D (.lst (ys++[y])))):DS (Tr j) age te D ys x σ H N:=by
 unfold DS Tr age;exact(if_pos (rfl:true=true)).mpr h
end L2
set_option maxHeartbeats 4000000
namespace L2
open PySem PySem.Spec PyProof.Rows
open Sem (wp)
abbrev A9 (h:Heap)(z TI TO:Addr)(f0 f1:Value):Prop :=
 h.get? z=some { cls:=.type "zip",dict:=none,data:=.fields #[f0,f1,.bool false,.ref TI,.ref TO],slots:=#[] }
def Loose (f0 f1:Value):Prop:=(f0=.none\/∃ a:Nat,f0=rawInt (a:Int))/\∃ b,f1=.bool b
section
variable {prog:Program} {w:World} {A:Around} {E:Value->Shared->Prop} {s:Shared}
theorem ZN {a:Addr}{Q:Option Obj->Shared->Prop}(h:∀ o,Q o s):wpAny (model prog w) A (loadIfAlive a) Q E s:=fun _ _ _=>h _
theorem TN {z TI TO:Addr}{f0 f1:Value}{Q:Bool->Shared->Prop}(hz:A9 s.heap z TI TO f0 f1)(hf:Loose f0 f1)
  (hQ:∀(r:Bool)(h':Heap)(g1:Value),A9 h' z TI TO f0 g1->Loose f0 g1->Heap.SameBut z s.heap h'->Q r { s with heap:=h' }) :
  wpAny (model prog w) A (Builtin.SmallTypes.ownedTupleIsFree (.ref z)) Q E s:=by
 unfold Builtin.SmallTypes.ownedTupleIsFree;refine wpAny_bind (wpAny_field hz rfl (x:=f0) rfl ?_);obtain⟨hf0,b,rfl⟩:=hf;rcases hf0 with rfl|⟨a,rfl⟩
 ·exact wpAny_pure (hQ true s.heap _ hz ⟨.inl rfl,b,rfl⟩ ⟨rfl,fun _ _=>rfl⟩)
 ·show wpAny _ _ (loadIfAlive ((a:Int).toNat) >>= _) _ _ _;refine wpAny_bind (ZN fun o=>?_);cases o with
  |none =>
   simp only [Option.isNone_none,if_true];exact wpAny_pure (hQ true s.heap _ hz ⟨.inr ⟨a,rfl⟩,b,rfl⟩ ⟨rfl,fun _ _=>rfl⟩)
  |some o =>
   simp only [Option.isNone_some,Bool.false_eq_true,if_false];refine wpAny_bind (wpAny_field hz rfl (x:=.bool b) rfl ?_);cases b with
   |true =>
    exact wpAny_pure (hQ false s.heap _ hz ⟨.inr ⟨a,rfl⟩,true,rfl⟩ ⟨rfl,fun _ _=>rfl⟩)
   |false =>
    show wpAny _ _ (setField (.ref z) 1 (.bool true) >>= _) _ _ _;refine wpAny_bind (wpAny_setField_rec hz (by simp) fun h₁ hz₁ hs₁=>?_);exact wpAny_pure (hQ false h₁ _ hz₁ ⟨.inr ⟨a,rfl⟩,true,rfl⟩ hs₁)
theorem ZO {z TI TO i1 i2 l1 l2:Addr}{k1 k2:Nat}{xs ys:Array Value}{x y a b f0 f1:Value}{Q:Value->Shared->Prop}(D:ZipApart z TI TO i1 i2 l1 l2)
  (hz:A9 s.heap z TI TO f0 f1) (hf:Loose f0 f1) (hTI:IsPair s.heap TI (.ref i1) (.ref i2)) (hTO:IsPair s.heap TO a b)
  (h1:s.heap.IsListIter i1 l1 k1) (h2:s.heap.IsListIter i2 l2 k2) (hl1:s.heap.IsList l1 xs) (hl2:s.heap.IsList l2 ys) (hx:xs[k1]? = some x) (hy:ys[k2]? = some y)
  (hQ:∀ h',(∃ g0 g1,A9 h' z TI TO g0 g1/\Loose g0 g1)->(∃ a b,IsPair h' TO a b)->h'.IsListIter i1 l1 (k1+1)->h'.IsListIter i2 l2 (k2+1)->IsPair h' s.heap.objs.size x y->h'.objs.size=s.heap.objs.size+1 ->
   (∀ c o,c≠z->c≠TO->c≠i1->c≠i2->s.heap.get? c=some o->h'.get? c=some o)->Q (.ref s.heap.objs.size) { s with heap:=h' }) :
  wpAny (model prog w) A (Builtin.«zip.__next__» ⟨[.ref z],[]⟩) (fun fin s'=>∃ v,fin=.done (.ret v)/\Q v s') E s:=by
 show wpAny _ _ (field (.ref z) 2 >>= _) _ _ _;refine wpAny_bind (wpAny_field hz rfl (x:=.bool false) rfl ?_);show wpAny _ _ (field (.ref z) 3 >>= _) _ _ _;refine wpAny_bind (wpAny_field hz rfl (x:=.ref TI) rfl ?_);refine wpAny_bind (wpAny_seqItems hTI rfl ?_);show wpAny _ _ (Builtin.SmallTypes.ownedTupleIsFree (.ref z) >>= _) _ _ _;refine wpAny_bind (TN hz hf fun r h₀ g1 ahp hl₀ hs₀=>?_);cases r with
 |true =>
  simp only [if_true];refine wpAny_bind (wpAny_rule ?_);refine wpAny_bind (wpAny_field ahp rfl (x:=.ref TO) rfl ?_);refine wpAny_bind (wpAny_setField_rec ahp (by simp) fun h₁ hz₁ abP=>?_)
  replace hz₁:A9 h₁ z TI TO .ellipsis g1:=hz₁
  have hs₁:Heap.SameBut z s.heap h₁:=⟨abP.1.trans hs₀.1,fun c hc=>(abP.2 c hc).trans (hs₀.2 c hc)⟩;refine wpAny_bind ?_;simp only [List.zipIdx_cons,List.zipIdx_nil,List.forIn_cons,List.forIn_nil];refine wpAny_bind (wpAny_bind (wpAny_onRaise ?_));show wpAny _ _ (Builtin.SmallTypes.nextOf (.ref i1) >>= _) _ _ _;refine wpAny_bind (wpAny_nextOf_list_item (h1.extBut hs₁.extBut D.i1z) (hl1.extBut hs₁.extBut D.l1z) hx fun h₂ h1₂ hs₂=>wpAny_pure ?_);have hTO₂:IsPair h₂ TO a b:=hs₂.extBut _ _ D.TOi1 (hs₁.extBut _ _ D.TOz hTO);refine wpAny_bind (wpAny_seqItems hTO₂ rfl ?_);refine wpAny_bind (wpAny_updateSeq_pair hTO₂ fun h₃ hTO₃ hs₃=>?_)
  replace hTO₃:IsPair h₃ TO x b:=hTO₃
  refine wpAny_bind (wpAny_letGo (wpAny_pure ?_));refine wpAny_bind (wpAny_bind (wpAny_onRaise ?_));show wpAny _ _ (Builtin.SmallTypes.nextOf (.ref i2) >>= _) _ _ _;refine wpAny_bind (wpAny_nextOf_list_item (((h2.extBut hs₁.extBut D.i2z).extBut hs₂.extBut D.i12.symm).extBut hs₃.extBut D.TOi2.symm)
   (((hl2.extBut hs₁.extBut D.l2z).extBut hs₂.extBut D.l2i1).extBut hs₃.extBut D.l2TO) hy fun h₄ h2₄ hs₄=>wpAny_pure ?_)
  have hTO₄:IsPair h₄ TO x b:=hs₄.extBut _ _ D.TOi2 hTO₃;refine wpAny_bind (wpAny_seqItems hTO₄ rfl ?_);refine wpAny_bind (wpAny_updateSeq_pair hTO₄ fun h₅ hTO₅ hs₅=>?_)
  replace hTO₅:IsPair h₅ TO x y:=hTO₅
  refine wpAny_bind (wpAny_letGo (wpAny_pure (wpAny_pure ?_)));refine wpAny_bind (wpAny_seqItems hTO₅ rfl ?_);refine wpAny_bind (wpAny_newTuple ?_);have hsz:h₅.objs.size=s.heap.objs.size:=by rw[hs₅.1,hs₄.1,hs₃.1,hs₂.1,hs₁.1]
  have hz₅:A9 h₅ z TI TO .ellipsis g1:=hs₅.extBut _ _ D.TOz.symm (hs₄.extBut _ _ D.i2z.symm (hs₃.extBut _ _ D.TOz.symm (hs₂.extBut _ _ D.i1z.symm hz₁)));have hk₅:∀ c o,c≠z->c≠TO->c≠i1->c≠i2->s.heap.get? c=some o->h₅.get? c=some o:=fun c o c1 c2 c3 c4 e =>
   hs₅.extBut _ _ c2 (hs₄.extBut _ _ c4 (hs₃.extBut _ _ c2 (hs₂.extBut _ _ c3 (hs₁.extBut _ _ c1 e))))
  have h1₅:h₅.IsListIter i1 l1 (k1+1):=((h1₂.extBut hs₃.extBut D.TOi1.symm).extBut hs₄.extBut D.i12).extBut hs₅.extBut D.TOi1.symm;have h2₅:h₅.IsListIter i2 l2 (k2+1):=h2₄.extBut hs₅.extBut D.TOi2.symm;have hzlt:z<h₅.objs.size:=Heap.lt_size hz₅;show wpAny _ _ (Builtin.SmallTypes.ownedTupleHandOut (.ref z) (.ref h₅.objs.size) >>= _) _ _ _;refine wpAny_bind ?_;unfold Builtin.SmallTypes.ownedTupleHandOut;have hz₆:A9 (h₅.push { cls:=.type "tuple",data:=.seq #[x,y] }) z TI TO .ellipsis g1:=Heap.get?_push_of_some _ hz₅;refine wpAny_bind (wpAny_setField_rec hz₆ (by simp) fun h₇ hz₇ hs₇=>?_)
  replace hz₇:A9 h₇ z TI TO (rawInt h₅.objs.size) g1:=hz₇
  refine wpAny_setField_rec hz₇ (by simp) fun h₈ hz₈ hs₈=>?_
  replace hz₈:A9 h₈ z TI TO (rawInt h₅.objs.size) (.bool false):=hz₈
  have up:∀ c o,c≠z->h₅.get? c=some o->h₈.get? c=some o:=fun c o c1 e=>hs₈.extBut _ _ c1 (hs₇.extBut _ _ c1 (Heap.get?_push_of_some _ e));have hT₈:IsPair h₈ h₅.objs.size x y:=hs₈.extBut _ _ (Nat.ne_of_gt hzlt) (hs₇.extBut _ _ (Nat.ne_of_gt hzlt) (Heap.get?_push_size _ rfl));have hz8:h₈.objs.size=h₅.objs.size+1:=by rw[hs₈.1,hs₇.1,Heap.size_push]
  have hloose:∃ g0 g1,A9 h₈ z TI TO g0 g1/\Loose g0 g1:=⟨_,_,hz₈,.inr ⟨_,rfl⟩,_,rfl⟩;rw[hsz]at hT₈ hz8;refine wpAny_pure ⟨_,rfl,?_⟩;show Q (.ref h₅.objs.size) _;rw[hsz];exact hQ h₈ hloose ⟨_,_,up _ _ D.TOz hTO₅⟩ (h1₅.at fun o e=>up _ o D.i1z e) (h2₅.at fun o e=>up _ o D.i2z e) hT₈ hz8 fun c o c1 c2 c3 c4 e=>up c o c1 (hk₅ c o c1 c2 c3 c4 e)
 |false =>
  simp only [Bool.false_eq_true,if_false];have hs₁:=hs₀;refine wpAny_bind ?_;rw[<-Array.forIn_toList];simp only [List.forIn_cons,List.forIn_nil];refine wpAny_bind (wpAny_bind (wpAny_holding ?_));show wpAny _ _ (Builtin.SmallTypes.nextOf (.ref i1) >>= _) _ _ _;refine wpAny_bind (wpAny_nextOf_list_item (h1.extBut hs₁.extBut D.i1z) (hl1.extBut hs₁.extBut D.l1z) hx fun h₂ h1₂ hs₂=>wpAny_pure (wpAny_pure ?_));refine wpAny_bind (wpAny_bind (wpAny_holding ?_));show wpAny _ _ (Builtin.SmallTypes.nextOf (.ref i2) >>= _) _ _ _;refine wpAny_bind (wpAny_nextOf_list_item ((h2.extBut hs₁.extBut D.i2z).extBut hs₂.extBut D.i12.symm)
   ((hl2.extBut hs₁.extBut D.l2z).extBut hs₂.extBut D.l2i1) hy fun h₄ h2₄ hs₄=>wpAny_pure (wpAny_pure (wpAny_pure ?_)))
  have hsz:h₄.objs.size=s.heap.objs.size:=by rw[hs₄.1,hs₂.1,hs₁.1]
  refine wpAny_bind (wpAny_newTuple (hsz:=by show 2<=sizeLine;decide) ?_);have up:∀ c o,c≠z->c≠i1->c≠i2->s.heap.get? c=some o->(h₄.push { cls:=.type "tuple",data:=.seq #[x,y] }).get? c=some o:=fun c o c1 c3 c4 e =>
   Heap.get?_push_of_some _ (hs₄.extBut _ _ c4 (hs₂.extBut _ _ c3 (hs₁.extBut _ _ c1 e)))
  have hz₄:A9 (h₄.push { cls:=.type "tuple",data:=.seq #[x,y] }) z TI TO f0 g1:=Heap.get?_push_of_some _ (hs₄.extBut _ _ D.i2z.symm (hs₂.extBut _ _ D.i1z.symm ahp));have hT₈:IsPair (h₄.push { cls:=.type "tuple",data:=.seq #[x,y] }) h₄.objs.size x y:=Heap.get?_push_size _ rfl;have hz8:(h₄.push { cls:=.type "tuple",data:=.seq #[x,y] }).objs.size=h₄.objs.size+1:=Heap.size_push ..;refine wpAny_pure ⟨_,rfl,?_⟩;show Q (.ref h₄.objs.size) { s with heap:=h₄.push { cls:=.type "tuple",data:=.seq #[x,y] } };rw[hsz]at hT₈ hz8 ⊢;exact hQ _ ⟨_,_,hz₄,hl₀⟩ ⟨a,b,up _ _ D.TOz D.TOi1 D.TOi2 hTO⟩ ((h1₂.extBut hs₄.extBut D.i12).at fun o e=>Heap.get?_push_of_some _ e) (h2₄.at fun o e=>Heap.get?_push_of_some _ e) hT₈ hz8 fun c o c1 _ c3 c4 e=>up c o c1 c3 c4 e
theorem abQ {z TI TO i1 i2 l1 l2:Addr}{k1:Nat}{xs:Array Value}{a b f0 f1:Value}{Q:Fin->Shared->Prop}(hh:A.handled=none)(D:ZipApart z TI TO i1 i2 l1 l2)
  (hz:A9 s.heap z TI TO f0 f1) (hf:Loose f0 f1) (hTI:IsPair s.heap TI (.ref i1) (.ref i2)) (hTO:IsPair s.heap TO a b)
  (h1:s.heap.IsListIter i1 l1 k1) (hl1:s.heap.IsList l1 xs) (hend:xs[k1]? = none)
  (hE:∀ h' e,(∀ c o,c≠z->c≠TO->c≠i1->c≠i2->s.heap.get? c=some o->h'.get? c=some o)->(∃ o,h'.get? e=some o/\o.cls=.type "StopIteration")->E (.ref e) { s with heap:=h' }) :
  wpAny (model prog w) A (Builtin.«zip.__next__» ⟨[.ref z],[]⟩) Q E s:=by
 show wpAny _ _ (field (.ref z) 2 >>= _) _ _ _;refine wpAny_bind (wpAny_field hz rfl (x:=.bool false) rfl ?_);show wpAny _ _ (field (.ref z) 3 >>= _) _ _ _;refine wpAny_bind (wpAny_field hz rfl (x:=.ref TI) rfl ?_);refine wpAny_bind (wpAny_seqItems hTI rfl ?_);show wpAny _ _ (Builtin.SmallTypes.ownedTupleIsFree (.ref z) >>= _) _ _ _;refine wpAny_bind (TN hz hf fun r h₀ g1 ahp hl₀ hs₀=>?_);cases r with
 |true =>
  simp only [if_true];refine wpAny_bind (wpAny_rule ?_);refine wpAny_bind (wpAny_field ahp rfl (x:=.ref TO) rfl ?_);refine wpAny_bind (wpAny_setField_rec ahp (by simp) fun h₁ hz₁ abP=>?_)
  replace hz₁:A9 h₁ z TI TO .ellipsis g1:=hz₁
  have hs₁:Heap.SameBut z s.heap h₁:=⟨abP.1.trans hs₀.1,fun c hc=>(abP.2 c hc).trans (hs₀.2 c hc)⟩;refine wpAny_bind ?_;simp only [List.zipIdx_cons,List.zipIdx_nil,List.forIn_cons,List.forIn_nil];refine wpAny_bind (wpAny_bind (wpAny_onRaise ?_));show wpAny _ _ (Builtin.SmallTypes.nextOf (.ref i1) >>= _) _ _ _;refine wpAny_bind (wpAny_nextOf_list_end hh (h1.extBut hs₁.extBut D.i1z) (hl1.extBut hs₁.extBut D.l1z) hend fun h₂ e hs₂ he=>?_);obtain⟨oe,hoe,hce⟩:=he;have hz₂:A9 h₂ z TI TO .ellipsis g1:=hs₂ _ _ D.i1z.symm hz₁;have hez:e≠z:=fun x=>by subst x;rw[hz₂]at hoe;cases hoe;simp at hce
  refine wpAny_setField_rec hz₂ (by simp) fun h₃ _ hs₃=>hE h₃ e (fun c o c1 _ c3 _ x=>hs₃.extBut _ _ c1 (hs₂ _ _ c3 (hs₁.extBut _ _ c1 x))) ⟨oe,hs₃.extBut _ _ hez hoe,hce⟩
 |false =>
  simp only [Bool.false_eq_true,if_false];refine wpAny_bind ?_;rw[<-Array.forIn_toList];simp only [List.forIn_cons,List.forIn_nil];refine wpAny_bind (wpAny_bind (wpAny_holding ?_));show wpAny _ _ (Builtin.SmallTypes.nextOf (.ref i1) >>= _) _ _ _;exact wpAny_bind (wpAny_nextOf_list_end hh (h1.extBut hs₀.extBut D.i1z) (hl1.extBut hs₀.extBut D.l1z) hend fun h₂ e hs₂ he=>hE h₂ e (fun c o c1 _ c3 _ x=>hs₂ _ _ c3 (hs₀.extBut _ _ c1 x)) he)
def abR (z TI TO i1 i2 a b:Addr)(i:Nat)(h:Heap):Prop:=(∃ f0 f1,A9 h z TI TO f0 f1/\Loose f0 f1)/\IsPair h TI (.ref i1) (.ref i2)/\(∃ x y,IsPair h TO x y)/\h.IsListIter i1 a i/\h.IsListIter i2 b i
theorem adR {e z TI TO i1 i2 l1 l2:Addr}{i:Nat}{xs ys:Array Value}{x y old:Value}{Q:Option Value->Shared->Prop}(D:ZipApart z TI TO i1 i2 l1 l2)(hne:∀ c∈[z,TI,TO,i1,i2],e≠c)
  (he:IsEnum s.heap e z i old) (hst:abR z TI TO i1 i2 l1 l2 i s.heap) (hl1:s.heap.IsList l1 xs) (hl2:s.heap.IsList l2 ys) (hx:xs[i]? = some x) (hy:ys[i]? = some y)
  (hQ:∀ h' tk,IsEnumOut h' e z ((i:Int)+1) (.ref s.heap.objs.size) (s.heap.objs.size+1)->abR z TI TO i1 i2 l1 l2 (i+1) h'->IsPair h' s.heap.objs.size x y ->
   h'.get? (s.heap.objs.size+1)=some { cls:=.type "tuple",data:=.seq #[.int i tk,.ref s.heap.objs.size] } ->
   (∀ c o,c ∉ [e,z,TO,i1,i2]->s.heap.get? c=some o->h'.get? c=some o)->Q (some (.ref (s.heap.objs.size+1))) { s with heap:=h',toks:=tk+1 }) :
  wpAny (model prog w) A (pyNext (.ref e)) Q E s:=by
 have hT:s.TypeIs (.ref e) "enumerate":=⟨_,he,rfl⟩;unfold pyNext;refine wpAny_bind (wpAny_attempt (wpAny_callSpecial?_slot (name:=Str.ofString "__next__") hT slot_enumerate_next
  (wpAny_call_entry slot_enumerate_next hT PySem.F.entry_enumerate_next ?_ (PySem.F.args_enumerate_next_1 _))))
 obtain⟨hp,g,d,tk,os⟩:=s;obtain⟨⟨f0,f1,hz,hlo⟩,hTI,⟨ta,tb,hTO⟩,g1,g2⟩:=hst;have ne:=fun c hc=>(hne c hc);have ez:e≠z:=hne z (by simp);have eTI:e≠TI:=hne TI (by simp);have eTO:e≠TO:=hne TO (by simp);have ei1:e≠i1:=hne i1 (by simp);have ei2:e≠i2:=hne i2 (by simp);show wpAny _ _ (field (.ref e) 2 >>= _) _ _ _;refine wpAny_bind (wpAny_field he rfl (x:=.ref z) rfl ?_);refine wpAny_bind ?_;have hTz:Shared.TypeIs ⟨hp,g,d,tk,os⟩ (.ref z) "zip":=⟨_,hz,rfl⟩;unfold Builtin.SmallTypes.nextOf;refine wpAny_bind (wpAny_callSpecial?_slot (name:=Str.ofString "__next__") hTz slot_zip_next
  (wpAny_call_entry slot_zip_next hTz entry_zip_next (ZO D hz hlo hTI hTO g1 g2 hl1 hl2 hx hy fun h₁ q1 q2 q3 q4 q5 q6 q7=>wpAny_pure ?_) (PySem.F.args_zip_next_1 _)))
 replace q5:IsPair h₁ hp.objs.size x y:=q5
 replace q6:h₁.objs.size=hp.objs.size+1:=q6
 replace q7:∀ c o,c≠z->c≠TO->c≠i1->c≠i2->hp.get? c=some o->h₁.get? c=some o:=q7
 have he₁:IsEnum h₁ e z i old:=q7 e _ ez eTO ei1 ei2 he;have st₁:abR z TI TO i1 i2 l1 l2 (i+1) h₁:=⟨q1,q7 TI _ D.TIz D.TITO D.TIi1 D.TIi2 hTI,q2,q3,q4⟩;show wpAny _ _ (field (.ref e) 3 >>= _) _ _ ⟨h₁,g,d,tk,os⟩;refine wpAny_bind (wpAny_field he₁ rfl (x:=rawInt i) rfl ?_);show wpAny _ _ (field (.ref e) 4 >>= _) _ _ ⟨h₁,g,d,tk,os⟩;refine wpAny_bind (wpAny_field he₁ rfl (x:=.none) rfl ?_);show wpAny _ _ (mkInt i >>= _) _ _ ⟨h₁,g,d,tk,os⟩;refine wpAny_bind (wpAny_mkInt ?_);show wpAny _ _ (setField (.ref e) 3 (rawInt ((i:Int)+1)) >>= _) _ _ ⟨h₁,g,d,tk+1,os⟩;refine wpAny_bind (wpAny_setField_rec he₁ (by simp) fun h₂ he₂ hs₂=>?_)
 replace hs₂:Heap.SameBut e h₁ h₂:=hs₂
 replace he₂:IsEnum h₂ e z ((i:Int)+1) old:=he₂
 show wpAny _ _ (setField (.ref e) 4 .none >>= _) _ _ ⟨h₂,g,d,tk+1,os⟩;refine wpAny_bind (wpAny_setField_rec he₂ (by simp) fun h₃ he₃ hs₃=>?_)
 replace hs₃:Heap.SameBut e h₂ h₃:=hs₃
 replace he₃:IsEnum h₃ e z ((i:Int)+1) old:=he₃
 show wpAny _ _ (newTuple [.int i tk,.ref hp.objs.size] >>= _) _ _ ⟨h₃,g,d,tk+1,os⟩;refine wpAny_bind (wpAny_newTuple ?_);have he₄:IsEnum (h₃.push { cls:=.type "tuple",data:=.seq #[.int i tk,.ref hp.objs.size] }) e z ((i:Int)+1) old:=Heap.get?_push_of_some _ he₃;have hsz:h₃.objs.size=hp.objs.size+1:=by rw[hs₃.1,hs₂.1,q6]
 have hel:e<hp.objs.size:=Heap.lt_size he;have ht₄:(h₃.push { cls:=.type "tuple",data:=.seq #[.int i tk,.ref hp.objs.size] }).get? (hp.objs.size+1)=some { cls:=.type "tuple",data:=.seq #[.int i tk,.ref hp.objs.size] }:=by rw[<-hsz];exact Heap.get?_push_size _ rfl
 have alY:∀ c o,c≠e->h₁.get? c=some o->(h₃.push { cls:=.type "tuple",data:=.seq #[.int i tk,.ref hp.objs.size] }).get? c=some o:=fun c o hc q =>
  Heap.get?_push_of_some _ (hs₃.extBut c o hc (hs₂.extBut c o hc q))
 generalize h₃.push { cls:=.type "tuple",data:=.seq #[.int i tk,.ref hp.objs.size] } = h₄ at he₄ ht₄ alY;show wpAny _ _ (Builtin.SmallTypes.ownedTupleIsFree (.ref e) >>= _) _ _ ⟨h₄,g,d,tk+1,os⟩;rw[hsz];refine wpAny_bind ?_;unfold Builtin.SmallTypes.ownedTupleIsFree;refine wpAny_bind (wpAny_field he₄ rfl (x:=.none) rfl (wpAny_pure ?_));simp only [if_true];refine wpAny_bind (wpAny_rule ?_);refine wpAny_bind (wpAny_field he₄ rfl (x:=old) rfl ?_);refine wpAny_bind (wpAny_setField_rec he₄ (by simp) fun h₅ he₅ hs₅=>?_)
 replace hs₅:Heap.SameBut e h₄ h₅:=hs₅
 replace he₅:IsEnum h₅ e z ((i:Int)+1) (.ref hp.objs.size):=he₅
 show wpAny _ _ (Builtin.SmallTypes.ownedTupleHandOut (.ref e) (.ref (hp.objs.size+1)) >>= _) _ _ ⟨h₅,g,d,tk+1,os⟩;refine wpAny_bind ?_;unfold Builtin.SmallTypes.ownedTupleHandOut;refine wpAny_bind (wpAny_setField_rec he₅ (by simp) fun h₆ he₆ hs₆=>?_)
 replace hs₆:Heap.SameBut e h₅ h₆:=hs₆
 replace he₆:IsEnumOut h₆ e z ((i:Int)+1) (.ref hp.objs.size) (hp.objs.size+1):=he₆
 refine wpAny_setField_rec he₆ (by simp) fun h₇ he₇ hs₇=>?_
 replace hs₇:Heap.SameBut e h₆ h₇:=hs₇
 replace he₇:IsEnumOut h₇ e z ((i:Int)+1) (.ref hp.objs.size) (hp.objs.size+1):=he₇
 have up:∀ c o,c≠e->h₁.get? c=some o->h₇.get? c=some o:=fun c o hc q=>hs₇.extBut c o hc (hs₆.extBut c o hc (hs₅.extBut c o hc (alY c o hc q)));have nT:(hp.objs.size:Nat)≠e:=Nat.ne_of_gt hel;have nT1:(hp.objs.size+1:Nat)≠e:=Nat.ne_of_gt (Nat.lt_succ_of_lt hel);refine wpAny_bind (wpAny_letGo (wpAny_pure ⟨_,rfl,wpAny_pure (hQ h₇ tk he₇ ?_ (up _ _ nT q5) ?_ ?_)⟩))
 ·obtain⟨⟨u0,u1,u2,u3⟩,u4,⟨u5,u6,u7⟩,u8,u9⟩:=st₁;exact⟨⟨u0,u1,up _ _ ez.symm u2,u3⟩,up _ _ eTI.symm u4,⟨u5,u6,up _ _ eTO.symm u7⟩,u8.at fun o q=>up _ o ei1.symm q,u9.at fun o q=>up _ o ei2.symm q⟩
 ·exact hs₇.extBut _ _ nT1 (hs₆.extBut _ _ nT1 (hs₅.extBut _ _ nT1 ht₄))
 ·intro c o hc q;have hc':c≠e/\c≠z/\c≠TO/\c≠i1/\c≠i2:=by simpa using hc
  exact up c o hc'.1 (q7 c o hc'.2.1 hc'.2.2.1 hc'.2.2.2.1 hc'.2.2.2.2 q)
theorem agn {e z TI TO i1 i2 l1 l2:Addr}{i:Nat}{xs:Array Value}{old:Value}{Q:Option Value->Shared->Prop}(hh:A.handled=none)(D:ZipApart z TI TO i1 i2 l1 l2)
  (he:IsEnum s.heap e z i old) (hst:abR z TI TO i1 i2 l1 l2 i s.heap) (hl1:s.heap.IsList l1 xs) (hx:xs[i]? = none)
  (hQ:∀ h',(∀ c o,c ∉ [e,z,TO,i1,i2]->s.heap.get? c=some o->h'.get? c=some o)->Q none { s with heap:=h' }):wpAny (model prog w) A (pyNext (.ref e)) Q E s:=by
 have hT:s.TypeIs (.ref e) "enumerate":=⟨_,he,rfl⟩;obtain⟨⟨f0,f1,hz,hlo⟩,hTI,⟨ta,tb,hTO⟩,g1,g2⟩:=hst;unfold pyNext;refine wpAny_bind (wpAny_attempt (wpAny_callSpecial?_slot (name:=Str.ofString "__next__") hT slot_enumerate_next
  (wpAny_call_entry slot_enumerate_next hT PySem.F.entry_enumerate_next ?_ (PySem.F.args_enumerate_next_1 _))))
 show wpAny _ _ (field (.ref e) 2 >>= _) _ _ _;refine wpAny_bind (wpAny_field he rfl (x:=.ref z) rfl ?_);refine wpAny_bind ?_;have hTz:s.TypeIs (.ref z) "zip":=⟨_,hz,rfl⟩;unfold Builtin.SmallTypes.nextOf;refine wpAny_bind (wpAny_callSpecial?_slot (name:=Str.ofString "__next__") hTz slot_zip_next
  (wpAny_call_entry slot_zip_next hTz entry_zip_next (abQ hh D hz hlo hTI hTO g1 hl1 hx fun h' x hk hx'=>?_) (PySem.F.args_zip_next_1 _)))
 obtain⟨o,ho,hc⟩:=hx';refine wpAny_bind (wpAny_isInstance (T:="StopIteration") (b:=true) ⟨o,ho,hc⟩ isSubtype_stop ?_);refine wpAny_pure (hQ _ fun c o hc q=>?_);have hc':c≠e/\c≠z/\c≠TO/\c≠i1/\c≠i2:=by simpa using hc
 exact hk c o hc'.2.1 hc'.2.2.1 hc'.2.2.2.1 hc'.2.2.2.2 q
theorem xW (z TI TO:Addr) :
  Meets (Builtin.«enumerate.__new__» ⟨[.type "enumerate",.ref z],[]⟩) (fun _ R s=>IsZip s.heap z TI TO .none /\
   R (.ok (.ret (.ref s.heap.objs.size)))
    { s with heap:=s.heap.push { cls:=.type "enumerate",data:=.fields #[.none,.bool false,.ref z,rawInt 0,.none,.none] } }) :=
 .of_wp fun prog w A R s h=>by
  obtain⟨hp,g,d,tk,os⟩:=s;obtain⟨hl,h⟩:=h;have hsub:=sub_enumerate;have hL:IsZip (Shared.heap ⟨hp,g,d,tk,os⟩) z TI TO .none:=hl
  wp_walk using wpAny_loadPart' hl
  refine wpAny_stack_any fun st=>wpAny_pure ?_;split
  ·rename_i c _ _ _ _ _
   cases (c==Value.type "enumerate")
   ·wp_walk using wpAny_loadPart' hl,wpAny_pyIter_zip hL
    exact⟨_,rfl,h⟩
   ·wp_walk using wpAny_loadPart' hl,wpAny_pyIter_zip hL
    exact⟨_,rfl,h⟩
  ·wp_walk using wpAny_loadPart' hl,wpAny_pyIter_zip hL
   exact⟨_,rfl,h⟩
theorem Ba {z TI TO:Addr}{Q:Value->Shared->Prop}(hz:IsZip s.heap z TI TO .none)
  (h:∀ h',IsEnum h' s.heap.objs.size z 0 .none->(∀ b o,s.heap.get? b=some o->h'.get? b=some o)->Q (.ref s.heap.objs.size) { s with heap:=h' }) :
  wpAny (model prog w) A (call (.type "enumerate") [.ref z]) Q E s:=by
 refine callType_new PySem.F.called_enumerate (by decide) (PySem.F.typeCall_enumerate_1 _) (PySem.F.newCall_enumerate_1 _) (fun obj=>PySem.F.args_object_init_2 obj _) PySem.F.entry_enumerate_new
  (xW z TI TO) ⟨hz,?_⟩
 show _/\_;have he:IsEnum (s.heap.push { cls:=.type "enumerate",data:=.fields #[.none,.bool false,.ref z,rawInt 0,.none,.none] }) s.heap.objs.size z 0 .none:=Heap.get?_push_size _ rfl;exact⟨⟨_,he,rfl⟩,h _ he fun b o x=>Heap.get?_push_of_some _ x⟩
end
end L2
set_option maxHeartbeats 4000000
namespace L2
open PySem PySem.Spec PyProof.Rows
section
variable {X:Cx} {pins:List (Addr×Obj)} {σ:St} {H:Hp} {s:Shared}
theorem Inv.adS {tk:Nat}{h':Heap}{wr:List Addr}{T U:Addr}{xs ys:List V}{vals vals2:List Value}(I:Inv X pins σ H s)(hw:∀ b∈wr,qB X pins H b)(hT:s.heap.objs.size<=T)(hU:s.heap.objs.size<=U)(hTU:T≠U)
  (ht:h'.IsTuple T vals.toArray) (rv:Vals xs vals) (hz:xs.length<=sizeLine) (hu:h'.IsTuple U vals2.toArray) (rv2:Vals ys vals2) (hz2:ys.length<=sizeLine)
  (kk:∀ b o,b ∉ wr->s.heap.get? b=some o->h'.get? b=some o) (there:∀ b∈wr,∃ o,h'.get? b=some o):Inv X pins σ (upd (upd H T (.tup xs)) U (.tup ys)) { s with heap:=h',toks:=tk }:=by
 have hTn:H T=none:=I.hok.fresh hT;have hUn:H U=none:=I.hok.fresh hU;have nT:∀ b o,s.heap.get? b=some o->b≠T:=fun b o e=>Nat.ne_of_lt (Nat.lt_of_lt_of_le (Heap.lt_size e) hT);have nU:∀ b o,s.heap.get? b=some o->b≠U:=fun b o e=>Nat.ne_of_lt (Nat.lt_of_lt_of_le (Heap.lt_size e) hU);have up:∀{b:Addr} {o:HO},H b=some o->upd (upd H T (.tup xs)) U (.tup ys) b=some o:=fun e=>by
  rw[ao (aq e hUn),ao (aq e hTn)];exact e
 refine I.step (g':=s.gens) (d':=s.drawn) (ch:=wr) (fun b hb=>?_) (fun b o _ _ hc e _=>kk b o hc e) (fun b o _ _ hc e _=>⟨o.slots,kk b o hc e⟩) (fun b o _ e n=>by rw[ao (nU b o e),ao (nT b o e)];exact n)
  (fun b o hc e=>⟨o,kk b o hc e⟩) (fun b ys e=>up e) (fun b o u e=>up e) (fun b ps e=>⟨#[],by rw[up e];simp⟩) (fun m hm=>?_) (fun b u e=>?_) I.bare
 ·obtain⟨_,f1,_,f3,f4,f5⟩:=hw b hb;exact⟨f3,f1,f4,f5⟩
 ·obtain⟨o,es,ep,ho,r⟩:=hm;exact⟨o,es,ep,kk _ o (fun z=>(hw _ z).2.1 rfl) ho,r⟩
 ·by_cases hb:b=U
  ·subst hb;rw[ae]at e;cases e;exact⟨hz2,vals2,rv2,hu⟩
  ·rw[ao hb]at e
   by_cases hb2:b=T
   ·subst hb2;rw[ae]at e;cases e;exact⟨hz,vals,rv,ht⟩
   ·rw[ao hb2]at e;refine(I.hok b u e).stay (fun c v hc q=>kk c v (fun z=>?_) q) (fun c q=>up q) fun c ys q=>up q;have hn:=(hw c z).1;rcases hc with hc|hc
    ·rw[hc,e]at hn;cases hn
    ·rw[hc]at hn;cases hn
def ZP (K:Frag)(a b:Addr):It :=
 ⟨fun i H=>∃ xs ys x y,aZ K H a xs/\aZ K H b ys/\xs[i]? = some x/\ys[i]? = some y,
  fun i H p H'=>∃ x y t0 t1,p=.ref t1/\H t0=none/\H t1=none/\t0≠t1/\(∀ xs,aZ K H a xs->xs[i]? = some x)/\(∀ ys,aZ K H b ys->ys[i]? = some y)/\H'=upd (upd H t0 (.tup [x,y])) t1 (.tup [.int i,.ref t0]),
  fun i H=>∃ xs ys,aZ K H a xs/\aZ K H b ys/\xs.length<=i⟩
theorem adT {P:Program}{w:World}{K:Frag}{es:List Expr}{k:Nat}{tp:Pos}{e z TI TO i1 i2:Addr}(a b:Addr)(O:P4 z TI TO i1 i2)(hne:∀ c∈[z,TI,TO,i1,i2],e≠c) :
  Turn P w K (.Tuple es k tp) (ZP K a b) [e,z,TI,TO,i1,i2] e (fun i h=>(∃ old,IsEnum h e z i old)/\abR z TI TO i1 i2 a b i h) where
 mem:=by simp
 obj:=fun i h st c hc=>by
  obtain⟨⟨old,he⟩,⟨f0,f1,hz,_⟩,hTI,⟨x,y,hTO⟩,⟨o1,e1,_,d1⟩,⟨o2,e2,_,d2⟩⟩:=st;have hc':c=e\/c=z\/c=TI\/c=TO\/c=i1\/c=i2:=by simpa using hc
  rcases hc' with rfl|rfl|rfl|rfl|rfl|rfl
  ·exact⟨_,he,fun v q=>by
    have q':Data.fields _=Data.cell v:=q;cases q'⟩
  ·exact⟨_,hz,fun v q=>by
    have q':Data.fields _=Data.cell v:=q;cases q'⟩
  ·exact⟨_,hTI,fun v q=>by
    have q':Data.seq _ _=Data.cell v:=q;cases q'⟩
  ·exact⟨_,hTO,fun v q=>by
    have q':Data.seq _ _=Data.cell v:=q;cases q'⟩
  ·exact⟨o1,e1,fun v q=>by rw[d1]at q;cases q⟩
  ·exact⟨o2,e2,fun v q=>by rw[d2]at q;cases q⟩
 keep:=fun i h h' st kp=>by
  obtain⟨⟨old,he⟩,⟨f0,f1,hz,hl⟩,hTI,⟨x,y,hTO⟩,h1,h2⟩:=st;exact⟨⟨old,kp e (by simp) _ he⟩,⟨f0,f1,kp z (by simp) _ hz,hl⟩,kp TI (by simp) _ hTI,⟨x,y,kp TO (by simp) _ hTO⟩,h1.at fun o q=>kp i1 (by simp) o q,h2.at fun o q=>kp i2 (by simp) o q⟩
 item:=by
  intro X hP hw hK hc i pins s σ H E I hf st hg;subst hP hw hK;obtain⟨xs,ys,x,y,hq,hq2,hx,hy⟩:=hg;obtain⟨⟨old,he⟩,stz⟩:=st;have D:ZipApart z TI TO i1 i2 a b:=by
   obtain⟨⟨f0,f1,hz,_⟩,hTI,⟨x,y,hTO⟩,⟨o1,e1,c1,_⟩,⟨o2,e2,c2,_⟩⟩:=stz;have nz:∀{c:Addr} {zs:List V},aZ X.K H c zs->c≠z:=fun h=>gA (K:=X.K) I h hz (by intro q;injection q with q;exact absurd q (by decide));have nT:∀{c:Addr} {zs:List V},aZ X.K H c zs->c≠TO:=fun h=>gA (K:=X.K) I h hTO (by intro q;injection q with q;exact absurd q (by decide));have n1:∀{c:Addr} {zs:List V},aZ X.K H c zs->c≠i1:=fun h=>gA (K:=X.K) I h e1 (by rw[c1];intro q;injection q with q;exact absurd q (by decide));have n2:∀{c:Addr} {zs:List V},aZ X.K H c zs->c≠i2:=fun h=>gA (K:=X.K) I h e2 (by rw[c2];intro q;injection q with q;exact absurd q (by decide));exact⟨O.TIz,O.TOz,O.i1z,O.i2z,O.TITO,O.TIi1,O.TIi2,O.TOi1,O.TOi2,O.i12,nz hq,nT hq,n1 hq,n2 hq,nz hq2,nT hq2,n1 hq2,n2 hq2⟩
  obtain⟨its,rv,p,_⟩:=I.list hq;obtain⟨its2,rv2,p2,_⟩:=I.list hq2;obtain⟨u,hu,ru⟩:=rv.get hx;obtain⟨u2,hu2,ru2⟩:=rv2.get hy;refine adR D hne he stz p.isList p2.isList (x:=u) (y:=u2) (by simpa using hu) (by simpa using hu2) fun h' tk q1 q2 q3 q4 kk=>?_;refine⟨_,rfl,?_⟩;have sub:∀ c∈[e,z,TO,i1,i2],c∈[e,z,TI,TO,i1,i2]:=fun c hc=>by
   have:c=e\/c=z\/c=TO\/c=i1\/c=i2:=by simpa using hc
   simp;rcases this with r|r|r|r|r <;> simp[r]
  have fw:∀ c∈[e,z,TO,i1,i2],qB X pins H c:=fun c hc=>hf c (sub c hc);have I1:Inv X pins σ (upd (upd H s.heap.objs.size (.tup [x,y])) (s.heap.objs.size+1) (.tup [.int i,.ref s.heap.objs.size])) { s with heap:=h',toks:=tk+1 }:=by
   refine I.adS (vals:=[u,u2]) (vals2:=[.int i tk,.ref s.heap.objs.size]) fw (Nat.le_refl _) (Nat.le_succ _) (Nat.ne_of_lt (Nat.lt_succ_self _)) ⟨_,q3,rfl,_,rfl⟩ (.cons ru (.cons ru2 .nil)) (by show 2<=sizeLine;decide)
    ⟨_,q4,rfl,_,rfl⟩ (.cons ⟨tk,rfl⟩ (.cons rfl .nil)) (by show 2<=sizeLine;decide) kk fun c hc=>?_
   obtain⟨⟨f0,f1,m1,_⟩,_,⟨_,_,m2⟩,⟨o1,m3,_⟩,⟨o2,m4,_⟩⟩:=q2;have:c=e\/c=z\/c=TO\/c=i1\/c=i2:=by simpa using hc
   rcases this with rfl|rfl|rfl|rfl|rfl
   ·exact⟨_,q1⟩
   ·exact⟨_,m1⟩
   ·exact⟨_,m2⟩
   ·exact⟨_,m3⟩
   ·exact⟨_,m4⟩
  have hT0:H s.heap.objs.size=none:=I.hok.fresh (Nat.le_refl _);have hT1:H (s.heap.objs.size+1)=none:=I.hok.fresh (Nat.le_succ _);have lt:∀ c∈[e,z,TI,TO,i1,i2],c<s.heap.objs.size:=fun c hc=>by
   obtain⟨⟨f0,f1,m1,_⟩,m5,⟨_,_,m2⟩,⟨o1,m3,_⟩,⟨o2,m4,_⟩⟩:=stz;have hc':c=e\/c=z\/c=TI\/c=TO\/c=i1\/c=i2:=by simpa using hc
   rcases hc' with rfl|rfl|rfl|rfl|rfl|rfl
   ·exact Heap.lt_size he
   ·exact Heap.lt_size m1
   ·exact Heap.lt_size m5
   ·exact Heap.lt_size m2
   ·exact Heap.lt_size m3
   ·exact Heap.lt_size m4
  refine wpAny_letOwnedTupleGo_enum q1 fun h'' akH hs''=>?_;have hf2:∀ c∈[e,z,TI,TO,i1,i2],qB X pins (upd (upd H s.heap.objs.size (.tup [x,y])) (s.heap.objs.size+1) (.tup [.int i,.ref s.heap.objs.size])) c:=fun c hc=>by
   obtain⟨f0,fr⟩:=hf c hc;have l:=lt c hc;exact⟨by rw[ao (Nat.ne_of_lt (Nat.lt_succ_of_lt l)),ao (Nat.ne_of_lt l)];exact f0,fr⟩
  have kk2:∀ c o,c ∉ [e]->h'.get? c=some o->h''.get? c=some o:=fun c o hc q=>hs''.extBut c o (fun r=>hc (by simp[r])) q;have up:∀{c:Addr} {o:Obj},c∈[z,TI,TO,i1,i2]->h'.get? c=some o->h''.get? c=some o:=fun hc q=>hs''.extBut _ _ (hne _ hc).symm q;have fe:∀ c∈[e],qB X pins (upd (upd H s.heap.objs.size (.tup [x,y])) (s.heap.objs.size+1) (.tup [.int i,.ref s.heap.objs.size])) c:=fun c hc=>by
   have:c=e:=by simpa using hc
   exact hf2 c (by simp[this])
  refine⟨.ref (s.heap.objs.size+1),_,I1.qD (tk:=tk+1) (wr:=[e]) fe kk2,rfl,⟨x,y,s.heap.objs.size,s.heap.objs.size+1,rfl,hT0,hT1,Nat.ne_of_lt (Nat.lt_succ_self _),Gg I hq hx,Gg I hq2 hy,rfl⟩,?_,fun c hc=>(hf2 c hc).1⟩;obtain⟨⟨f0,f1,m1,m1'⟩,m5,⟨_,_,m2⟩,m3,m4⟩:=q2;exact⟨⟨_,by simpa using akH⟩,⟨f0,f1,up (by simp) m1,m1'⟩,up (by simp) m5,⟨_,_,up (by simp) m2⟩,m3.at fun o q=>up (by simp) q,m4.at fun o q=>up (by simp) q⟩
 done:=by
  intro X hP hw hK hc i pins s σ H E I hf st hg;subst hP hw hK;obtain⟨xs,ys,hq,hq2,hx⟩:=hg;obtain⟨⟨old,he⟩,stz⟩:=st;have D:ZipApart z TI TO i1 i2 a b:=by
   obtain⟨⟨f0,f1,hz,_⟩,hTI,⟨x,y,hTO⟩,⟨o1,e1,c1,_⟩,⟨o2,e2,c2,_⟩⟩:=stz;have nz:∀{c:Addr} {zs:List V},aZ X.K H c zs->c≠z:=fun h=>gA (K:=X.K) I h hz (by intro q;injection q with q;exact absurd q (by decide));have nT:∀{c:Addr} {zs:List V},aZ X.K H c zs->c≠TO:=fun h=>gA (K:=X.K) I h hTO (by intro q;injection q with q;exact absurd q (by decide));have n1:∀{c:Addr} {zs:List V},aZ X.K H c zs->c≠i1:=fun h=>gA (K:=X.K) I h e1 (by rw[c1];intro q;injection q with q;exact absurd q (by decide));have n2:∀{c:Addr} {zs:List V},aZ X.K H c zs->c≠i2:=fun h=>gA (K:=X.K) I h e2 (by rw[c2];intro q;injection q with q;exact absurd q (by decide));exact⟨O.TIz,O.TOz,O.i1z,O.i2z,O.TITO,O.TIi1,O.TIi2,O.TOi1,O.TOi2,O.i12,nz hq,nT hq,n1 hq,n2 hq,nz hq2,nT hq2,n1 hq2,n2 hq2⟩
  obtain⟨its,rv,p,_⟩:=I.list hq;have hl:=rv.length;refine agn (I.ok.hd hc) D he stz p.isList (Array.getElem?_eq_none (by simp;omega)) fun h' kk=>?_;refine⟨rfl,I.qD (tk:=s.toks) (wr:=[e,z,TO,i1,i2]) (fun c hc=>hf c ?_) kk⟩;have:c=e\/c=z\/c=TO\/c=i1\/c=i2:=by simpa using hc
  simp;rcases this with r|r|r|r|r <;> simp[r]
 self:=fun _ _ _ _ _ st h=>by
  obtain⟨⟨old,he⟩,_⟩:=st;exact wpAny_pyIter_enum he h
inductive aic (K:Frag)(R:(It->Hp->Prop))(x:V)(y:V)(H2:Hp):Prop
 |mk (a:_) (b:_) (gw:x=.ref a) (gx:y=.ref b) (iW:(∃ xs,aZ K H2 a xs)/\(∃ ys,aZ K H2 b ys)/\R (ZP K a b) H2):aic K R x y H2
def iEz (K:Frag)(tl tm:TE):TI:=fun σ H R=>tl σ H fun x H1=>tm σ H1 fun y H2=>aic K R x y H2
theorem adU {l m:Expr}{tl tm:TE}{p pos:Pos}(hg:Gl X "zip")(hz:X.mg "zip"=none)(hl:PE X l tl)(hm:PE X m tm)(hs:starEach [l,m] X.env=[(false,eval l X.env),(false,eval m X.env)])(hs2:starEach [m] X.env=[(false,eval m X.env)])
  {R:V->V->Hp->Prop} (I:Inv X pins σ H s) (h:tl σ H fun x H1=>tm σ H1 fun y H2=>R x y H2) (hR:∀ x y H1,R x y H1->∃ a b,x=.ref a/\y=.ref b/\(∃ xs,aZ X.K H1 a xs)/\∃ ys,aZ X.K H1 b ys) :
  wpAny (model X.prog X.w) X.A (eval (.Call (.Name "zip" p) [l,m] [] pos) X.env) (fun v s1=>∃ a b z TI TO i1 i2 H1,R (.ref a) (.ref b) H1/\v=.ref z/\Inv X pins σ H1 s1/\P4 z TI TO i1 i2/\IsZip s1.heap z TI TO .none/\afo z TI TO i1 i2 a b 0 s1.heap/\∀ c∈[z,TI,TO,i1,i2],qB X pins H1 c) X.xe s:=by
 refine Call_ (vf I hg hz agj (PyProof.Rows.callWith_type1 (cJ (agm hl hm hs hs2 pos pins s σ H I h) fun us s1 ⟨x,y,u,v,H1,I1,e1,r1,r2,q1⟩=>?_) (by rw[hs,hs2]) (by rw[hs2];rfl)));obtain⟨a,b,rfl,rfl,⟨xs,hq⟩,⟨ys,hq2⟩⟩:=hR _ _ _ q1;subst e1;cases r1;cases r2;obtain⟨its,rv,pl,_⟩:=I1.list hq;obtain⟨its2,rv2,pl2,_⟩:=I1.list hq2;refine call_zip_2 pl.isList pl2.isList fun h' z1 z2 z3 z4 z5 hsz kk=>?_;have O:P4 (s1.heap.objs.size+4) (s1.heap.objs.size+2) (s1.heap.objs.size+3) s1.heap.objs.size (s1.heap.objs.size+1):=by
  constructor <;> exact(by intro q;have q':(_:Nat)=_:=q;omega)
 refine⟨a,b,_,_,_,_,_,H1,q1,rfl,I1.kept (t':=s1.toks) kk,O,z1,⟨z1,z2,⟨_,_,z3⟩,z4,z5⟩,fun c hc=>?_⟩;have hc':s1.heap.objs.size<=c:=by
  have:c=s1.heap.objs.size+4\/c=s1.heap.objs.size+2\/c=s1.heap.objs.size+3\/c=s1.heap.objs.size\/c=s1.heap.objs.size+1:=by simpa using hc
  rcases this with r|r|r|r|r <;> (rw[r];first|exact Nat.le_add_right _ _|exact Nat.le_refl _)
 exact I1.Tt hc' (I1.hok.fresh hc')
theorem aid {l m:Expr}{tl tm:TE}{p p2 pos pos2 tp:Pos}{es:List Expr}{k:Nat}(hg:Gl X "zip")(hz:X.mg "zip"=none)(hg2:Gl X "enumerate")(hm2:X.mg "enumerate"=none)(hl:PE X l tl)(hm:PE X m tm)
  (hs:starEach [l,m] X.env=[(false,eval l X.env),(false,eval m X.env)]:=by rfl) (hs2:starEach [m] X.env=[(false,eval m X.env)]:=by rfl)
  (hs3:starEach [Expr.Call (.Name "zip" p) [l,m] [] pos] X.env=[(false,eval (.Call (.Name "zip" p) [l,m] [] pos) X.env)]:=by rfl) :
  PI X (.Tuple es k tp) (.Call (.Name "enumerate" p2) [.Call (.Name "zip" p) [l,m] [] pos] [] pos2) (iEz X.K tl tm):=by
 intro pins s σ H R I h;have hev:wpAny (model X.prog X.w) X.A (spliced (backTo pos2 (starEach [Expr.Call (.Name "zip" p) [l,m] [] pos] X.env))) (fun us s1=>∃ a b z TI TO i1 i2 H1,R (ZP X.K a b) H1/\us=[.ref z]/\Inv X pins σ H1 s1/\P4 z TI TO i1 i2/\IsZip s1.heap z TI TO .none/\afo z TI TO i1 i2 a b 0 s1.heap/\∀ c∈[z,TI,TO,i1,i2],qB X pins H1 c) X.xe s:=by
  rw[hs3];refine Calls.spliced_cons (cJ (adU hg hz hl hm hs hs2 I h fun x y H1 ⟨a,b,e1,e2,q1,q2,_⟩=>⟨a,b,e1,e2,q1,q2⟩) fun v s1 ⟨a,b,z,TI,TO,i1,i2,H1,q,e,I1,O,g1,g2,g3⟩=>Calls.spliced_nil ?_);obtain⟨a',b',e1,e2,_,_,q⟩:=q;cases e1;cases e2;exact⟨a,b,z,TI,TO,i1,i2,H1,q,by rw[e],I1,O,g1,g2,g3⟩
 refine Call_ (vf I hg2 hm2 DQ (PyProof.Rows.callWith_type1 (cJ hev fun us s1 ⟨a,b,z,TI,TO,i1,i2,H1,q,e,I1,O,g1,g2,g3⟩=>?_) (by rw[hs3];rfl) (by rfl)));subst e;refine Ba g1 fun h' he kk=>?_;refine wpAny_pyIter_enum he ?_;obtain⟨y1,y2,⟨y3,y4,y5⟩,y6,y7⟩:=g2;have hne:∀ c∈[z,TI,TO,i1,i2],s1.heap.objs.size≠c:=fun c hc=>by
  have hc':c=z\/c=TI\/c=TO\/c=i1\/c=i2:=by simpa using hc
  rcases hc' with rfl|rfl|rfl|rfl|rfl
  ·exact Nat.ne_of_gt (Heap.lt_size y1)
  ·exact Nat.ne_of_gt (Heap.lt_size y2)
  ·exact Nat.ne_of_gt (Heap.lt_size y5)
  ·obtain⟨_,y,_⟩:=y6;exact Nat.ne_of_gt (Heap.lt_size y)
  ·obtain⟨_,y,_⟩:=y7;exact Nat.ne_of_gt (Heap.lt_size y)
 refine⟨s1.heap.objs.size,[s1.heap.objs.size,z,TI,TO,i1,i2],_,_,H1,rfl,I1.kept (t':=s1.toks) kk,adT a b O hne,⟨⟨.none,he⟩,⟨.none,.bool false,kk _ _ y1,.inl rfl,false,rfl⟩,kk _ _ y2,⟨y3,y4,kk _ _ y5⟩,y6.at fun o q=>kk _ _ q,y7.at fun o q=>kk _ _ q⟩,fun c hc=>?_,q⟩;rcases List.mem_cons.mp hc with rfl|hc
 ·exact I1.Tt (Nat.le_refl _) (I1.hok.fresh (Nat.le_refl _))
 ·exact g3 c hc
end
theorem ago {K:Frag}{a b:Addr}{xs ys:List V}{g:TG}{tb:TS}{D:Ends}{σ:St}{H:Hp}(Pv:Nat->St->Hp->Prop)(he:xs.length=ys.length)(h0:Pv 0 σ H)(hl:∀ i σ H,Pv i σ H->aZ K H a xs/\aZ K H b ys)
  (hs:∀ i x y t u σ H,xs[i]? = some x->ys[i]? = some y->Pv i σ H->H t=none->H u=none->t≠u->g (.ref u) σ (upd (upd H t (.tup [x,y])) u (.tup [.int i,.ref t])) fun σ2 H2=>tb { D with nx:=Pv (i+1),ct:=Pv (i+1),bk:=D.nx } σ2 H2) (hd:∀ σ H,Pv xs.length σ H->D.nx σ H) :
  ∃ W:Nat->Nat->St->Hp->Prop,(∃ m,W 0 m σ H)/\∀ i m σ H,W i m σ H ->
   ((ZP K a b).stop i H/\D.nx σ H)\/((ZP K a b).go i H/\∃ N:St->Hp->Prop,(∀ σ' H',N σ' H'->∃ m',m'<m/\W (i+1) m' σ' H')/\∀ x H',(ZP K a b).yld i H x H'->g x σ H' fun σ2 H2=>tb { D with nx:=N,ct:=N,bk:=D.nx } σ2 H2):=by
 refine⟨fun i m σ H=>m=xs.length-i/\i<=xs.length/\Pv i σ H,⟨xs.length,by simp,Nat.zero_le _,h0⟩,?_⟩;rintro i m σ H ⟨rfl,hi,p⟩;obtain⟨q,q2⟩:=hl i σ H p
 by_cases hlt:i<xs.length
 ·have hlt2:i<ys.length:=by omega
  refine .inr ⟨⟨xs,ys,xs[i],ys[i],q,q2,by simp[hlt],by simp[hlt2]⟩,Pv (i+1),fun σ' H' p'=>⟨xs.length-(i+1),by omega,rfl,hlt,p'⟩,fun x H' y=>?_⟩;obtain⟨x0,y0,t,u,rfl,hn,hn2,tu,hx,hy,rfl⟩:=y;exact hs i x0 y0 t u σ H (hx xs q) (hy ys q2) p hn hn2 tu
 ·have e:i=xs.length:=by omega
  subst e;exact .inl ⟨⟨xs,ys,q,q2,Nat.le_refl _⟩,hd σ H p⟩
end L2
set_option maxHeartbeats 4000000
namespace L2
open PySem PySem.Spec PyProof.Rows
structure Lf (K:Frag)(x qual:Str)(st:Stmt)(f:Addr)(fd:FuncData)(dV:Value):Prop where
 ex:∃(oc:Value)(od:Option Addr)(kV doc pm:Value)(an:Option Addr)(cdv ct:Value)(osl:Array (Option Value)),
  fd=fnOf x qual (aD st) (aw st) (ag st) dV kV doc pm an cdv ct/\K.lookup f=some ⟨oc,od,.func fd,osl⟩/\codeIn K cdv qual=true
 kp:keepIn K (.ref f)=true
section
variable {P:Program} {w:World} {K:Frag} {mg:Str->Option Value} {base:Heap}
theorem Lf.ok {x qual:Str}{st:Stmt}{f:Addr}{fd:FuncData}{dV:Value}{N ps:List Str}{k:Nat}{sp:Sp}(F:Lf K x qual st f fd dV)(S:aG N ps (ag st))(len:∀ vs H Q E,sp vs H Q E->vs.length=ps.length)
  (hbody:∀(cdv:Value)(A:Around)(outer:List Env)(s:Shared)(H:Hp)(vs:List V)(Q:VK)(E:XK),jL k (A.deeper (envOfC qual (ag st) s.heap.objs.size f cdv))->sp vs H Q E ->
   ∃ t,KS (cK oI P w K mg base N qual (ag st) f cdv A outer s H E).nox (aw st) t/\t { nx:=fun _ H'=>Q .non H',rt:=Q } (start N vs) H):bK P w K mg base oI (k+1) f fd ps sp:=by
 obtain⟨oc,od,kV,doc,pm,an,cdv,ct,osl,rfl,lk,hcd⟩:=F.ex;refine YL lk hcd S len fun A outer s H vs Q E hr hsp=>?_;obtain⟨t,h,q⟩:=hbody cdv A outer s H vs Q E hr hsp;exact⟨t,h.nox,q⟩
theorem Lf.binds {x qual:Str}{st:Stmt}{f:Addr}{fd:FuncData}{T:Addr}{o:Obj}{items:Array Value}{n:Nat}{ps:List Str}{ds:List Value}(F:Lf K x qual st f fd (.ref T))(lk:K.lookup T=some o)(hs:o.data=.seq items n)
  (h:∀(kV doc pm:Value)(an:Option Addr)(cdv ct:Value)(us:List Value),(us++ds).length=ps.length->∃ k,bindArgs (fnOf x qual (aD st) (aw st) (ag st) (.ref T) kV doc pm an cdv ct) ⟨us,[]⟩=seqItems? (.ref T) >>= k/\k (some items)=pure (ps.zip (us++ds))):Binds K fd ps ds:=by
 obtain⟨oc,od,kV,doc,pm,an,cdv,ct,osl,rfl,lkf,hcd⟩:=F.ex;intro s us KI hl;obtain⟨k,h1,h2⟩:=h kV doc pm an cdv ct us hl;exact BindsTo.of_defaults rfl (KI _ _ lk) hs h1 h2
theorem KY {x qual:Str}{st:Stmt}{f:Addr}{oc:Value}{od an:Option Addr}{osl:Array (Option Value)}{dV kV doc pm cdv ct:Value}(l:K.lookup f=some ⟨oc,od,.func (fnOf x qual (aD st) (aw st) (ag st) dV kV doc pm an cdv ct),osl⟩)
  (c:codeIn K cdv qual=true) (k:keepIn K (.ref f)=true):Lf K x qual st f (fnOf x qual (aD st) (aw st) (ag st) dV kV doc pm an cdv ct) dV:=⟨⟨oc,od,kV,doc,pm,an,cdv,ct,osl,rfl,l,c⟩,k⟩
end
inductive V0 (w:World):List DictEntry->List (Str×V)->Prop
 |nil:V0 w [] []
 |cons {x:Str} {t:Tok} {u:Value} {v:V} {es:List DictEntry} {kvs:List (Str×V)}:RelV v u->V0 w es kvs->V0 w (⟨PyData.keyHash w.params x,.str x t,u⟩::es) ((x,v)::kvs)
structure KD (K:Frag)(w:World)(a:Addr)(kvs:List (Str×V)):Prop where
 sys:(a==sysModules)=false
 ok:∃ es n,K.lookup a=some ⟨.type "dict",none,.dict es n,#[]⟩/\V0 w es.toList kvs/\(kvs.map (·.1)).Nodup
theorem V0.vs (P:Program){w:World}:∀{es:List DictEntry} {kvs:List (Str×V)},V0 w es kvs->∃ vs:List (Key×Value),Pairs (c0 P w) es vs/\vs.map (·.1)=kvs.map (fun p=>(Sum.inr p.1:Key)) /\
  (∀ e∈es,∃ k,(c0 P w).is k e.key=true/\e.hash=(c0 P w).hash k)/\∀ x,rS (kvs.lookup x) (valueAt vs (Sum.inr x))
 |_,_,.nil=>⟨[],.nil,rfl,fun e h=>by simp at h,fun x=>True.intro⟩
 |_,_,.cons (x:=x) (t:=t) (u:=u) (v:=v) r q=>by
  obtain⟨vs,h1,h2,h3,h4⟩:=V0.vs P q;refine⟨(Sum.inr x,u)::vs,.cons (lh P w x t) rfl h1,by rw[map_cons,map_cons,h2],fun e he=>?_,fun y=>?_⟩
  ·rcases List.mem_cons.mp he with rfl|he
   ·exact⟨Sum.inr x,lh P w x t,rfl⟩
   ·exact h3 e he
  ·by_cases hy:y=x
   ·subst hy;unfold valueAt;simp only [List.lookup_cons,List.find?_cons];simp;exact r
   ·unfold valueAt;have h5:=h4 y;unfold valueAt at h5;have e1:(y==x)=false:=by simpa using hy
    have e2:decide ((Sum.inr x:Key)=Sum.inr y)=false:=decide_eq_false fun e=>hy (Sum.inr.inj e).symm;simp only [List.lookup_cons,e1,List.find?_cons,e2];exact h5
theorem O2:∀{l:List Str},l.Nodup->(l.map (fun p=>(Sum.inr p:Key))).Nodup
 |[],_=>.nil
 |x::l,h=>by
  rw[map_cons,List.nodup_cons];obtain⟨h1,h2⟩:=List.nodup_cons.mp h;refine⟨fun z=>?_,O2 h2⟩;obtain⟨y,hy,e⟩:=mem_map.mp z;cases e;exact h1 hy
theorem KD.dict (P:Program){K:Frag}{w:World}{a:Addr}{kvs:List (Str×V)}{h:Heap}(d:KD K w a kvs)(hi:K.In h):∃ vs,h.DictOf (c0 P w) a vs/\∀ x,rS (kvs.lookup x) (valueAt vs (Sum.inr x)):=by
 obtain⟨es,n,lk,ok,nd⟩:=d.ok;obtain⟨vs,h1,h2,h3,h4⟩:=ok.vs P;refine⟨vs,⟨_,es,n,hi _ _ lk,⟨rfl,rfl,rfl⟩,rfl,fun e he=>h3 e (by simpa using he),h1,?_⟩,h4⟩;rw[h2];have:=O2 nd;rw[List.map_map]at this;exact this
theorem rS.adV {o:Option V}{u:Option Value}(r:rS o u):o.isSome=u.isSome:=by
 cases o <;> cases u <;> first|rfl|exact False.elim r
theorem rS.aie {o:Option V}{u:Option Value}{d:V}{d':Value}(r:rS o u)(rd:RelV d d'):RelV (o.getD d) (u.getD d'):=by
 cases o with
 |none=>cases u with
  |none=>exact rd
  |some _=>exact False.elim r
 |some v=>cases u with
  |none=>exact False.elim r
  |some _=>exact r
section
variable {X:Cx}
theorem abS:uq X (compareOp .In) (fun x y H Q=>∃ a z kvs,x=.str z/\y=.ref a/\KD X.K X.w a kvs/\Q (.bl (kvs.lookup z).isSome) H):=by
 intro pins s σ H x y v u Q I rx ry h;obtain⟨a,z,kvs,rfl,rfl,d,q⟩:=h;obtain⟨t,rfl⟩:=rx;cases ry;obtain⟨vs,dd,rel⟩:=d.dict X.prog I.xG;refine wpAny_in_of (knd:=c0 X.prog X.w) (k:=Sum.inr z) (lh _ _ z t) d.sys dd.mapOf ?_;rw[<-(rel z).adV];exact⟨.bl _,H,I.tok _,rfl,q⟩
theorem afp:IxR X (fun x y H Q=>∃ a z kvs r,x=.ref a/\y=.str z/\KD X.K X.w a kvs/\kvs.lookup z=some r/\Q r H):=by
 intro value slice pins s σ H x y v u Q I rx ry h hs;obtain⟨a,z,kvs,r,rfl,rfl,d,l,q⟩:=h;cases rx;obtain⟨t,rfl⟩:=ry;obtain⟨vs,dd,rel⟩:=d.dict X.prog I.xG;have hr:=rel z;rw[l]at hr;cases hv:valueAt vs (Sum.inr z) with
 |none=>rw[hv]at hr;exact False.elim hr
 |some rv =>
  rw[hv]at hr;exact subscriptTail_builtinR (x:=rv) dd.typeIs PySem.F.slot_dict_getitem.lookup
   (wpAny_getItem_of (knd:=c0 X.prog X.w) (k:=Sum.inr z) (lh _ _ z t) dd.mapOf hv ⟨rfl,⟨r,H,I.tok _,hr,q⟩⟩) hs
def agp (K:Frag)(w:World)(td ty tx:TE):TE:=fun σ H Q=>td σ H fun x H1=>∃ a kvs,x=.ref a/\KD K w a kvs/\ty σ H1 fun y H2=>tx σ H2 fun z H3=>∃ k,y=.str k/\Q ((kvs.lookup k).getD z) H3
theorem abT {o e f:Expr}{apos cpos:Pos}{td ty tx:TE}(ho:PE X o td)(he:PE X e ty)(hf:PE X f tx)
  (base:attributeBase o "get" X.env (eval o X.env)=eval o X.env:=by rfl)
  (few:((backTo cpos (starEach [e,f] X.env)).all (fun x=>!x.1)&&(backToKw cpos (keywordEach [] X.env)).all (fun x=>x.1.isSome)
   && decide (([e,f]:List Expr).length+([]:List Keyword).length+(if([]:List Keyword).isEmpty then 0 else 1)<30))=true:=by rfl)
  (line:(apos.endLine==cpos.line)=true:=by rfl) (trees:backTo cpos (starEach [e,f] X.env)=[(false,eval e X.env),(false,eval f X.env)]:=by rfl) :
  PE X (.Call (.Attribute o "get" apos) [e,f] [] cpos) (agp X.K X.w td ty tx):=by
 intro pins s σ H Q I h;refine wpAny_Call_method base few line PySem.F.plainAttrs_dict slot_dict_get PySem.F.type_dict_get (cJ (ho pins s σ H _ I h) fun u s1 ⟨x,H1,I1,rx,a,kvs,ex,d,q1⟩=>?_);subst ex;obtain rfl:u=Value.ref a:=rx;obtain⟨vs,dd,rel⟩:=d.dict X.prog I1.xG;refine⟨dd.typeIs,fun b q=>?_,?_⟩
 ·cases q;obtain⟨ob,_,_,h1,h2,_⟩:=dd;exact⟨ob,h1,h2.2.1⟩
 rw[trees];refine Calls.callWith_builtin rfl (Calls.evalArgs_plain (Calls.spliced_cons (cJ (he pins s1 σ H1 _ I1 q1) fun iv s2 ⟨y,H2,I2,ry,q2⟩ =>
  Calls.spliced_cons (cJ (hf pins s2 σ H2 _ I2 q2) fun fv s3 ⟨z,H3,I3,rz,k,ek,q3⟩=>Calls.spliced_nil ?_))))
 subst ek;obtain⟨t,rfl⟩:=ry;obtain⟨vs3,dd3,akI⟩:=d.dict X.prog I3.xG;exact call_meetsIn slot_dict_get dd3.typeIs PySem.F.entry_dict_get (PySem.F.args_dict_get_3 _ _ _) (meets_dict_get_default (c0 X.prog X.w) a (lh _ _ k t) d.sys fv) ⟨_,dd3.mapOf,_,H3,I3.tok _,(akI k).aie rz,q3⟩
end
end L2
set_option maxHeartbeats 4000000
namespace L2
open PySem PySem.Spec PyProof.Rows
def aif (t:TE):TE:=fun σ H Q=>∃ R:V->Hp->Prop,t σ H R/\∀ v H',R v H'->Q v H'
def aih (t:TT):TT:=fun σ H Q=>∃ R:Bool->Hp->Prop,t σ H R/\∀ v H',R v H'->Q v H'
def aii (t:TS):TS:=fun D σ H=>∃ R:St->Hp->Prop,t { D with nx:=R } σ H/\∀ σ' H',R σ' H'->D.nx σ' H'
section
variable {X:Cx}
theorem cM {e:Expr}{t:TE}(h:PE X e t):PE X e (aif t):=by
 intro pins s σ H Q I ⟨R,hR,hQ⟩;exact cJ (h pins s σ H R I hR) fun u s1 ⟨v,H1,I1,r,q⟩=>⟨v,H1,I1,r,hQ v H1 q⟩
theorem dh {e:Expr}{t:TT}(h:PT X e t):PT X e (aih t):=by
 intro pins s σ H Q I ⟨R,hR,hQ⟩;exact cJ (h pins s σ H R I hR) fun u s1 ⟨H1,I1,q⟩=>⟨H1,I1,hQ u H1 q⟩
theorem tL {st:Stmt}{t:TS}(h:PS X st t):PS X st (aii t):=by
 intro pins s σ H D I ⟨R,hR,hQ⟩;refine cJ (h pins s σ H _ I hR) fun f s1 q=>?_;cases f with
 |next=>exact let ⟨σ',H',I',q'⟩:=q;⟨σ',H',I',hQ _ _ q'⟩
 |brk=>exact q
 |cont=>exact q
 |ret u=>exact q
end
theorem DT {t:TE}{σ:St}{H:Hp}{Q:VK}(v:V)(h:t σ H fun x H1=>x=v/\H1=H)(q:Q v H):∃ R:V->Hp->Prop,t σ H R/\∀ v H',R v H'->Q v H':=⟨_,h,by rintro _ _ ⟨rfl,rfl⟩;exact q⟩
theorem uw {t:TT}{σ:St}{H:Hp}{Q:Bool->Hp->Prop}(b:Bool)(h:t σ H fun x H1=>x=b/\H1=H)(q:Q b H):∃ R:Bool->Hp->Prop,t σ H R/\∀ v H',R v H'->Q v H':=⟨_,h,by rintro _ _ ⟨rfl,rfl⟩;exact q⟩
theorem abU {t:TS}{σ:St}{H:Hp}{D:Ends}(σ':St)(H':Hp)(h:t { D with nx:=fun σ1 H1=>σ1=σ'/\H1=H' } σ H)(q:D.nx σ' H'):∃ R:St->Hp->Prop,t { D with nx:=R } σ H/\∀ σ' H',R σ' H'->D.nx σ' H' :=
 ⟨_,h,by rintro _ _ ⟨rfl,rfl⟩;exact q⟩
theorem qb {x v:V}{H:Hp}(e:x=v):x=v/\H=H:=⟨e,rfl⟩
theorem gB {x v:Bool}{H:Hp}(e:x=v):x=v/\H=H:=⟨e,rfl⟩
end L2
set_option maxHeartbeats 4000000
namespace L2
open PySem PySem.Spec PyProof.Rows
abbrev Cx.names (X:Cx)(N:List Str):Cx:={ X with N:=N }
section
variable {X:Cx} {pins:List (Addr×Obj)} {σ:St} {H:Hp} {s:Shared}
theorem Cx.Ok.names {N:List Str}(o:X.Ok):(X.names N).Ok:=⟨o.mod,o.kind,o.glob,o.blt,o.above,o.inj,o.has,o.cab,o.hd,o.frames,o.stk,o.exf,o.bs,o.YC,o.PL,o.PM,o.Aj,o.frf⟩
theorem Cx.Ok.KZ {N:List Str}(o:(X.names N).Ok):X.Ok:=⟨o.mod,o.kind,o.glob,o.blt,o.above,o.inj,o.has,o.cab,o.hd,o.frames,o.stk,o.exf,o.bs,o.YC,o.PL,o.PM,o.Aj,o.frf⟩
theorem Inv.names {N:List Str}(I:Inv X pins σ H s)(hl:N.length=X.N.length)(h:∀(j:Nat) x v,N[j]? = some x->σ[j]? = some (some v)->X.N[j]? = some x):Inv (X.names N) pins σ H s:=by
 obtain⟨m,hm,hq⟩:=I.loc;exact⟨I.ok.names,I.os,I.bare,I.base,⟨m,hm,fun i x v e1 e2 e3=>hq i x v (h i x v e1 e2) e2 e3⟩,I.cell,I.free,I.pV,I.pin,I.hok,by rw[I.len];exact hl.symm⟩
theorem Inv.KZ {N:List Str}(I:Inv (X.names N) pins σ H s)(hl:N.length=X.N.length)(h:∀(j:Nat) x v,X.N[j]? = some x->σ[j]? = some (some v)->N[j]? = some x):Inv X pins σ H s:=by
 obtain⟨m,hm,hq⟩:=I.loc;exact⟨I.ok.KZ,I.os,I.bare,I.base,⟨m,hm,fun i x v e1 e2 e3=>hq i x v (h i x v e1 e2) e2 e3⟩,I.cell,I.free,I.pV,I.pin,I.hok,by rw[I.len];exact hl⟩
end
def aij (k:Nat)(t:TE):TE:=fun σ H Q=>σ[k]? = some none/\t σ H Q
theorem YX {X:Cx}{e:Expr}{t:TE}(k:Nat)(N:List Str)(h:PE (X.names N) e t)(hN:N=X.N.set k "":=by rfl):PE X e (aij k t):=by
 intro pins s σ H Q I ⟨hk,hw⟩;have hl:N.length=X.N.length:=by rw[hN,List.length_set]
 have a1:∀(j:Nat)(x:Str)(v:V),σ[j]? = some (some v)->N[j]? = X.N[j]?:=fun j x v e2=>by
  have hj:k≠j:=fun z=>by rw[<-z,hk]at e2;cases e2
  rw[hN,List.getElem?_set_ne hj]
 exact cJ (h pins s σ H Q (I.names hl fun j x v e1 e2=>by rw[<-a1 j x v e2];exact e1) hw) fun u s1 ⟨v,H1,I1,r,q⟩=>⟨v,H1,I1.KZ hl fun j x v e1 e2=>by rw[a1 j x v e2];exact e1,r,q⟩
end L2
set_option maxHeartbeats 4000000
namespace L2
open PySem PySem.Spec PyProof.Rows
section
variable {X:Cx} {tg iter elt:Expr} {ifs:List Expr} {scope:Scope} {pos:Pos} {cn:List Str} {wi:TI} {g:Bk->TG} {tc:Bk->TT} {te:Bk->TE}
theorem Bb {i:Nat}{x:Str}{pos' spos:Pos}(hN:X.N.Nodup)(hix:X.N[i]? = some x)(hx:X.env.scope.names.lookup x=some .local)(hcalm:X.calm=true)(F:dQ X.env.scope X.N scope)(hi:PI X tg iter wi)
  (hg:∀ b,PG (df X cn scope b) tg (g b)) (ht:∀ b,PF (df X cn scope b) ifs (tc b)) (he:∀ b,PE (df X cn scope b) elt (te b))
  (hsw:swapsWith (.ListComp elt [⟨tg,iter,ifs,0⟩] scope pos) (some (.Name x pos')) spos.line X.env=pure true:=by rfl)
  (hs:∀ x,foldedSetIterable iter X.env x=pure x:=by intro _;rfl):PS X (.Assign [.Name x pos'] (.ListComp elt [⟨tg,iter,ifs,0⟩] scope pos) spos) (afY (abH cn.length wi g tc te) (Tr i)):=by
 intro pins s σ H D I h;rw[exec_Assign_Name_used _ _ _ _ hsw];refine wpAny_bind (wpAny_standAt (wpAny_bind ?_));rw[arm_evalThenUse_ListComp];refine wpAny_bind ?_;have hcl:closureFor scope X.env=pure (iX X.env scope.names []):=YT fun p hp e=>I.ok.has p.1 (F.free p hp e);refine wpAny_comprehension_free (use:=some (assign (.Name x pos') X.env)) rfl hs hcl F.kind F.loc (cJ (hi pins s σ H _ I h) fun xv s₁ h₁=>cJ h₁ fun itv s₂ h₂=>?_);obtain⟨it,fp,tn,J,H2,rfl,I2,T,st,f2,R⟩:=h₂;refine TJ (TH:=fun _=>True) (QQ:=fun D' H'=>D.nx (σ.set i (some (.ref D'))) H') (RR:=fun acc C=>compPost (model X.prog X.w) X.A X.xe (some (assign (.Name x pos') X.env)) _ acc C) hcalm F (fun b _=>hg b) (fun b _=>ht b) (fun b _=>he b) (fun _ _=>trivial) I2 T st f2 R ?_ ?_
 ·intro C D' σ' H' s' hC I' q;obtain⟨m,hm,_⟩:=I'.loc;have hCn:H' C=none:=I'.free;have fC:qB X pins H' C:=I2.Tt hC hCn;have I3:Inv X pins σ H' s':=I2.YV f2 hC I' ⟨rfl,fun _ _=>rfl⟩;show wpAny (model X.prog X.w) X.A (assign (.Name x pos') X.env (.ref D')) _ X.xe s';refine wpAny_assign_Name (OT I3 hN hix (.inl hx) (v:=.ref D') rfl (fun s'' I4 ⟨a,sa,ha⟩=>?_) (.inr hx));have hne:C≠a:=by
   rcases ha with e|e
   ·rw[e];exact fC.2.1
   ·exact fun z=>fC.2.2.2.2.1 _ _ e z.symm
  obtain⟨o,es,ep,ho,r⟩:=hm;refine⟨m,⟨o,es,ep,(sa.2 C hne).trans ho,r⟩,fun h' sb=>?_⟩;refine wpAny_pure (wpAny_pure ⟨_,H',?_,q⟩);exact I4.qD (tk:=s''.toks) (wr:=[C]) (fun b hb=>by
   have:b=C:=by simpa using hb
   rw[this];exact fC) fun b o hb e=>(sb.2 b (fun z=>hb (by simp[z]))).trans e
 ·intro C D' e s' z;exact z
end
theorem adW {X:Cx}{st:Stmt}{t:TS}(k:Nat)(N:List Str)(h:PS (X.names N) st t)(hN:N=X.N.set k "":=by rfl):PS X st (fun D σ H=>σ[k]? = some none/\t { nx:=fun σ' H'=>σ'[k]? = some none/\D.nx σ' H',rt:=fun _ _=>False } σ H):=by
 intro pins s σ H D I ⟨hk,hw⟩;have hl:N.length=X.N.length:=by rw[hN,List.length_set]
 have a1:∀(σ:St),σ[k]? = some none->∀(j:Nat)(x:Str)(v:V),σ[j]? = some (some v)->N[j]? = X.N[j]?:=fun σ hk j x v e2=>by
  have hj:k≠j:=fun z=>by rw[<-z,hk]at e2;cases e2
  rw[hN,List.getElem?_set_ne hj]
 refine cJ (h pins s σ H _ (I.names hl fun j x v e1 e2=>by rw[<-a1 σ hk j x v e2];exact e1) hw) fun f s1 q=>?_;cases f with
 |next =>
  obtain⟨σ',H',I',hk',q'⟩:=q;exact⟨σ',H',I'.KZ hl fun j x v e1 e2=>by rw[a1 σ' hk' j x v e2];exact e1,q'⟩
 |brk=>exact(let ⟨_,_,_,z⟩:=q;z.elim)
 |cont=>exact(let ⟨_,_,_,z⟩:=q;z.elim)
 |ret u=>exact(let ⟨_,_,_,_,_,z⟩:=q;z.elim)
end L2
set_option maxHeartbeats 4000000
namespace L2
open PySem PySem.Spec PyProof.Rows PySem.SeqAt
section
variable {X:Cx}
inductive afq (K:Frag)(neg:Bool)(x:V)(y:V)(H:Hp)(Q:VK):Prop
 |mk (a:_) (c:_) (xs:_) (gw:x=.ref a) (gx:y=.ref c) (iW:aZ K H a xs) (m7:aZ K H c []) (tJ:Q (.bl (if neg then !xs.isEmpty else xs.isEmpty)) H):afq K neg x y H Q
def aik (K:Frag)(neg:Bool):R2:=fun x y H Q=>afq K neg x y H Q
theorem abV {pins:List (Addr×Obj)}{σ:St}{H:Hp}{s:Shared}{a c:Addr}{xs:List V}(hu:X.A.units+64<cLine)(I:Inv X pins σ H s)(ha:aZ X.K H a xs)(hc:aZ X.K H c []):RcAt X.A s (.ref a) (.ref c) xs.isEmpty/\RcNeAt X.A s (.ref a) (.ref c) (!xs.isEmpty):=by
 obtain⟨its,r,p,_⟩:=I.list ha;obtain⟨its',r',p',_⟩:=I.list hc;have e1:=r.length;have e2:=r'.length;simp at e2;cases xs with
 |nil =>
  simp at e1;have z1:its=[]:=by simpa using e1.symm
  have z2:its'=[]:=by simpa using e2.symm
  subst z1 z2;constructor
  ·have:=RcAt.lists (A:=X.A) (e:=fun _=>true) p.isList p'.isList rfl (by omega) (fun j h1 _=>absurd h1 (by simp))
   simpa using this
  ·have:=RcNeAt.lists (A:=X.A) (e:=fun _=>true) p.isList p'.isList rfl (by omega) (fun j h1 _=>absurd h1 (by simp))
   simpa using this
 |cons x t =>
  have hne:(its.toArray.size != its'.toArray.size)=true:=by
   simp at e1;have z2:its'=[]:=by simpa using e2.symm
   subst z2;have:its.length≠0:=by omega
   simpa using this
  exact⟨RcAt.lists_lengths p.isList p'.isList hne (by omega),RcNeAt.lists_lengths p.isList p'.isList hne (by omega)⟩
theorem abW (hu:X.A.units+64<cLine):uq X (compareOp .Eq) (aik X.K false):=by
 intro pins s σ H x y v u Q I r1 r2 h;obtain⟨a,c,xs,rfl,rfl,ha,hc,q⟩:=h;cases r1;cases r2;exact(abV hu I ha hc).1 X.prog X.w X.xe _ ⟨.bl _,H,I,rfl,q⟩
theorem abX (hu:X.A.units+64<cLine):uq X (compareOp .NotEq) (aik X.K true):=by
 intro pins s σ H x y v u Q I r1 r2 h;obtain⟨a,c,xs,rfl,rfl,ha,hc,q⟩:=h;cases r1;cases r2;exact(abV hu I ha hc).2 X.prog X.w X.xe _ ⟨.bl _,H,I,rfl,q⟩
end
end L2
set_option maxHeartbeats 4000000
namespace L2
open PySem PySem.Spec PyProof.Rows
def YY (s:Stmt)(e:Expr):Stmt:=match s with
 |.For t _ b o p=>.For t e b o p
 |s=>s
structure NV (X:Cx)(e:Expr)(t:TE):Prop where
 out:PE X e t
structure xH (X:Cx)(es:List Expr)(t:TA):Prop where
 out:PA X es t
theorem qE {X:Cx}:xH X [] aT:=⟨af⟩
theorem lJ {X:Cx}{es' es:List Expr}{k:Nat}{p:Pos}{te:TE}{t:TA}(h:NV X (.Tuple es' k p) te)(hr:xH X es t):xH X (.Tuple es' k p::es) (aj te t):=⟨aa h.out hr.out⟩
theorem cF {X:Cx}{es:List Expr}{c:Const}{k:Nat}{p:Pos}{te:TE}{t:TA}(h:NV X (.Constant c k p) te)(hr:xH X es t):xH X (.Constant c k p::es) (aj te t):=⟨aa h.out hr.out⟩
theorem lK {X:Cx}{x:Str}{j:Nat}{pos:Pos}:NV X (.Constant (.str x) j pos) (tC (.str x)):=⟨av⟩
theorem Gh {X:Cx}{i:Int}{j:Nat}{pos:Pos}:NV X (.Constant (.int i) j pos) (tC (.int i)):=⟨ai⟩
theorem abY {X:Cx}{es:List Expr}{pos:Pos}{t:TA}(h:xH X es t):NV X (.List es pos) (NS t):=⟨bM h.out⟩
theorem vA {X:Cx}{es:List Expr}{k:Nat}{pos:Pos}{t:TA}(h:xH X es t):NV X (.Tuple es k pos) (bJ t):=⟨bB h.out⟩
end L2
set_option maxHeartbeats 4000000
namespace L2
open PySem PySem.Spec PyProof.Rows
def Fly (l:List Env)(G:Heap)(e:Addr)(cls:Value)(h:Heap):Prop :=
 ∃ B a0,(∀ b o,G.get? b=some o->b ∉ frs l->B.get? b=some o)/\Heap.FlyingW B l e cls a0 h/\G.UpToSlots h/\G.get? e=none
def iI (P:Program)(w:World):CXT:=fun outer H s E ev s' =>
 ∃ a cls H' G,ev=.ref a/\s'.os=s.os/\AllBare s'.gens/\Un (frs outer) [] H H' s.heap G/\xI P w H' G/\Fly outer G a cls s'.heap/\E cls none H'
abbrev XSt:=St->Value->Hp->Prop
def WX (X:Cx)(XS:XSt):Value->Shared->Prop:=fun ev s' =>
 ∃ pins σ H' G a cls,ev=.ref a/\Inv X pins σ H' { s' with heap:=G }/\Fly X.stack G a cls s'.heap/\XS σ cls H'
def WD (X:Cx)(XS:XSt):Value->Shared->Prop:=fun ev s'=>WX X XS ev s' \/
 ∃ pins σ H' G a cls args,ev=.ref a/\Inv X pins σ H' { s' with heap:=G }/\Heap.MadeExcOf G s'.heap a cls args/\XS σ cls H'
section
variable {X:Cx} {pins:List (Addr×Obj)} {σ:St} {H H':Hp} {s s':Shared}
theorem ail {XS:XSt}{ev:Value}(I:Inv X pins σ H s)(h:iI X.prog X.w X.stack H s (fun cls _ H'=>XS σ cls H') ev s'):WX X XS ev s':=by
 obtain⟨a,cls,H',G,e,os,bare,un,hok,fly,q⟩:=h;refine⟨pins,σ,H',G,a,cls,e,?_,fly,q⟩;exact I.call' (s':={ s' with heap:=G }) (ch:=[]) os un hok bare fun b z=>absurd z (by simp)
theorem strike {P:Program}{w:World}{h G:Heap}{L:Addr}{fs:List Addr}(un:Un fs [] H H' h G)(hok:xI P w H' G)(hL:h.objs.size<=L)(hf:H' L=none):Un fs [] H H' h (hideAll G [L])/\xI P w H' (hideAll G [L]):=by
 have get:∀{b o},G.get? b=some o->b≠L->(hideAll G [L]).get? b=some o:=fun e hn=>hideAll_get _ e (by simpa using hn);have ne:∀{b o},h.get? b=some o->b≠L:=fun e z=>absurd (z ▸ Heap.lt_size e) (Nat.not_lt.mpr hL);refine⟨⟨fun b o e n hb hx=>get (un.keep b o e n hb hx) (ne e),fun b o e n hb hx=>?_,un.free,fun b o e hx=>?_,un.tups,un.K8,un.NR⟩,fun b u e=>?_⟩
 ·obtain⟨sl,z⟩:=un.slot b o e n hb hx;exact⟨sl,get z (ne e)⟩
 ·obtain⟨o',z⟩:=un.there b o e hx;exact⟨o',get z (ne e)⟩
 ·refine(hok b u e).stay (fun c v hc q=>get q ?_) (fun _ q=>q) fun _ _ q=>q;rintro rfl;rcases hc with rfl|hc
  ·rw[hf]at e;cases e
  ·rw[hf]at hc;cases hc
theorem Fly.strike {env:Env}{outer:List Env}{G h:Heap}{B:Heap}{e L:Addr}{cls a0:Value}(hf:env.frame=some L)(cov:∀ b o,G.get? b=some o->b ∉ frs (env::outer)->B.get? b=some o)(fl:Heap.FlyingW B outer e cls a0 h)(up:G.UpToSlots h)(hn:G.get? e=none):Fly outer (hideAll G [L]) e cls h:=by
 have back:∀{b o},(hideAll G [L]).get? b=some o->G.get? b=some o/\b≠L:=fun {b o} q=>⟨of_hideAll _ q,fun z=>by
  rw[hideAll_none [L] (by rw[z];simp)]at q;cases q⟩
 refine⟨B,a0,fun b o q hb=>?_,fl,fun b o q hd=>up b o (back q).1 hd,?_⟩
 ·obtain⟨q1,q2⟩:=back q;refine cov b o q1 ?_;unfold frs;rw[List.filterMap_cons,hf];intro z;rcases List.mem_cons.mp z with z|z
  ·exact q2 z
  ·exact hb z
 ·cases q:(hideAll G [L]).get? e with
  |none=>rfl
  |some o=>rw[(back q).1]at hn;cases hn
end
theorem leaveX {P:Program}{w:World}{K:Frag}{mg:Str->Option Value}{base:Heap}{N:List Str}{qual:Str}{scope:Scope}{f:Addr}{cdv:Value}{A:Around}{outer:List Env}{s:Shared}{H:Hp}{E:XK}{ev:Value}{s':Shared}
  (h:WD (cK (iI P w) P w K mg base N qual scope f cdv A outer s H E) (fun _ cls H'=>E cls none H') ev s'):(cK (iI P w) P w K mg base N qual scope f cdv A outer s H E).xe ev s':=by
 rcases h with ⟨pins,σ,H',G,a,cls,rfl,I,⟨B,a0,cov,fl,up,hn⟩,q⟩|⟨pins,σ,H',G,a,cls,args,rfl,I,hm,q⟩
 ·show wpAny (model P w) _ (leaving _ (.ref a)) _ _ s';refine wpAny_leaves_onW I.ok.frames rfl fl fun h' fl' up'=>?_;obtain⟨un,hok⟩:=strike I.base I.hok I.ok.above I.free;exact⟨a,cls,H',_,rfl,I.os,I.bare,un,hok,Fly.strike rfl cov fl' (up.trans up') hn,q⟩
 ·show wpAny (model P w) _ (leaving _ (.ref a)) _ _ s';have hin:∀ env∈(cK (iI P w) P w K mg base N qual scope f cdv A outer s H E).stack,∀ b,env.frame=some b->b∈frs (cK (iI P w) P w K mg base N qual scope f cdv A outer s H E).stack:=fun env he b hb=>List.mem_filterMap.mpr ⟨env,he,hb⟩;refine wpAny_leaves_madeW (base:=hideAll G (frs (cK (iI P w) P w K mg base N qual scope f cdv A outer s H E).stack)) (h:=G) I.ok.frames rfl (fun b o z=>of_hideAll _ z) (PySem.W.funFrames_hide I.stack hin) hm fun h' t fl' _ _ up'=>?_;obtain⟨un,hok⟩:=strike I.base I.hok I.ok.above I.free;exact⟨a,cls,H',_,rfl,I.os,I.bare,un,hok,Fly.strike rfl (fun b o z hb=>hideAll_get _ z hb) fl' ((Heap.UpToSlots.of_keeps hm.keeps).trans up') hm.new,q⟩
theorem KS.ab0 {X:Cx}{E1:Value->Shared->Prop}{st:List Stmt}{t:TS}(h:KS (X.wish E1) st t)(hE:∀ e s,E1 e s->X.xe e s):KS X st t:=fun pins s σ H D I hw =>
 wpAny_mono (h pins s σ H D (I.wish _) hw) (fun _ _ q=>q.nc) hE
section
variable {P:Program} {w:World} {K:Frag} {mg:Str->Option Value} {base:Heap}
theorem kz.P5 {x qual:Str}{st:Stmt}{f:Addr}{fd:FuncData}{N ps:List Str}{k:Nat}{sp:Sp}(F:kz K x qual st f fd)(S:aG N ps (ag st))(len:∀ vs H Q E,sp vs H Q E->vs.length=ps.length)
  (hbody:∀(cdv:Value)(A:Around)(outer:List Env)(s:Shared)(H:Hp)(vs:List V)(Q:VK)(E:XK),jL k (A.deeper (envOfC qual (ag st) s.heap.objs.size f cdv))->sp vs H Q E ->
   ∃ t,KS ((cK (iI P w) P w K mg base N qual (ag st) f cdv A outer s H E).wish (WD (cK (iI P w) P w K mg base N qual (ag st) f cdv A outer s H E) fun _ cls H'=>E cls none H')) (aw st) t/\t { nx:=fun _ H'=>Q .non H',rt:=Q } (start N vs) H):bK P w K mg base (iI P w) (k+1) f fd ps sp:=by
 obtain⟨oc,od,kV,doc,pm,an,cdv,ct,osl,rfl,lk,hcd⟩:=F.ex;refine YL lk hcd S len fun A outer s H vs Q E hr hsp=>?_;obtain⟨t,h,q⟩:=hbody cdv A outer s H vs Q E hr hsp;exact⟨t,h.ab0 fun _ _ z=>leaveX z,q⟩
end
def agq (sp:Sp)(rT:List V)(XS:XSt)(t:TA):TE:=fun σ H Q=>t σ H fun vs H1=>sp (vs++rT) H1 Q fun cls _ H'=>XS σ cls H'
inductive YZ (C:Addr)(m:Str)(sp:Sp)(rT:List V)(XS:XSt)(t:TA)(σ:St)(Q:VK)(x:V)(H1:Hp):Prop
 |mk (a:_) (dx:_) (fs:_) (gw:x=.ref a) (gx:H1 a=some (.ins C dx fs)) (iW:fs.lookup m=none) (m7:t σ H1 fun vs H2=>sp (x::(vs++rT)) H2 Q fun cls _ H'=>XS σ cls H'):YZ C m sp rT XS t σ Q x H1
def ab1 (C:Addr)(m:Str)(sp:Sp)(rT:List V)(XS:XSt)(ta:TE)(t:TA):TE:=fun σ H Q=>ta σ H fun x H1=>YZ C m sp rT XS t σ Q x H1
section
variable {X:Cx} {W:Value->Shared->Prop} {XS:XSt} {k:Nat} {f C:Addr} {fd:FuncData} {ps:List Str} {sp:Sp} {rT:List V} {ds:List Value} {x m:Str} {p pos apos:Pos} {e o:Expr} {es:List Expr} {ta:TE} {t:TA}
theorem P6 {pins:List (Addr×Obj)}{σ:St}{H:Hp}{s:Shared}{Q:VK}{us:List Value}{vs:List V}(F:bK X.prog X.w X.K X.mg X.base (iI X.prog X.w) k f fd ps sp)(hr:jL k X.A)(hb:Binds X.K fd ps ds)(hd:Vals rT ds)(hx:∀ ev s',WX X XS ev s'->W ev s')
  (I:Inv (X.wish W) pins σ H s) (r:Vals vs us) (h:sp (vs++rT) H Q fun cls _ H'=>XS σ cls H'):wpAny (model X.prog X.w) X.A (call (.ref f) us) (EP (X.wish W) pins σ Q) W s:=by
 have I0:=I.nc;have r2:Vals (vs++rT) (us++ds):=r.append hd;have hl:(us++ds).length=ps.length:=by rw[<-r2.length];exact F.len _ _ _ _ h
 refine wpAny_call (codeAny_mono (F.run X.A X.stack s H ⟨us,[]⟩ (us++ds) (vs++rT) Q _ hr I0.env0 (hb s us I0.xG hl) r2 h) fun r s' hq=>?_);cases r with
 |error e=>exact hx _ _ (ail I0 hq)
 |ok fl =>
  cases fl with
  |ret u=>exact I.after hq
  |next=>exact False.elim hq
  |brk=>exact False.elim hq
  |cont=>exact False.elim hq
theorem uy (F:bK X.prog X.w X.K X.mg X.base (iI X.prog X.w) k f fd ps sp)(hr:jL k X.A)(hg:Gl (X.wish W) x)(hm:X.mg x=some (.ref f))(hk:keepIn X.K (.ref f)=true)(hb:Binds X.K fd ps ds)(hd:Vals rT ds)(hx:∀ ev s',WX X XS ev s'->W ev s')
  (ha:PA (X.wish W) (e::es) t) (hdb:(x==("__debug__":Str))=false:=by decide) (he:starEach (e::es) X.env=(false,eval e X.env)::starEach es X.env:=by rfl) (hpl:(backTo pos (starEach es X.env)).any (·.1)=false:=by rfl) :
  PE (X.wish W) (.Call (.Name x p) (e::es) [] pos) (agq sp rT XS t):=by
 intro pins s σ H Q I h;refine wpAny_Call_Name_kw (ve I hg hm ?_ hdb);refine callWith_K (h₀:=X.base) I.ok.mod.kin hk (cJ (ha pos pins s σ H _ I h) fun us s1 ⟨vs,H1,I1,r,q⟩=>⟨I1.xG,?_⟩) he hpl;exact P6 (X:=X) F hr hb hd hx I1 r q
theorem bT {pl:Sem Bool}(ho:PE (X.wish W) o ta)(c:VI X.K C)(hm:Meth X.K C m f)(F:bK X.prog X.w X.K X.mg X.base (iI X.prog X.w) k f fd ps sp)(hr:jL k X.A)(hb:Binds X.K fd ps ds)(hd:Vals rT ds)(hx:∀ ev s',WX X XS ev s'->W ev s')(ha:PA (X.wish W) (e::es) t)
  (hst:starEach (e::es) X.env=(false,eval e X.env)::starEach es X.env:=by rfl) (hpl:(backTo pos (starEach es X.env)).any (·.1)=false:=by rfl)
  (ht:eval (.Call (.Attribute o m apos) (e::es) [] pos) X.env=(do
   let ov <-eval o X.env
   standAt apos.atName
   let (f,first) <-holding [ov] (getMethod ov m pl)
   callWith pos f first (backTo pos (starEach (e::es) X.env)) (backToKw pos (keywordEach [] X.env))):=by rfl) :
  PE (X.wish W) (.Call (.Attribute o m apos) (e::es) [] pos) (ab1 C m sp rT XS ta t):=by
 intro pins s σ H Q I h;refine methodCall_KW (pl:=pl) (cJ (ho pins s σ H _ I h) fun u s1 ⟨x,H1,I1,rx,a,dx,fs,ex,ea,l,q⟩=>?_) ht;subst ex;obtain rfl:u=Value.ref a:=rx;refine vi I1 ea c hm l ?_;refine callWith_K (first:=[.ref a]) (h₀:=X.base) I.ok.mod.kin hm.kp (cJ (ha pos pins s1 σ H1 _ I1 q) fun us s2 ⟨vs,H2,I2,r,q2⟩=>⟨I2.xG,?_⟩) hst hpl;exact P6 (X:=X) (us:=.ref a::us) (vs:=.ref a::vs) F hr hb hd hx I2 (.cons rfl r) q2
theorem O3 {pl:Sem Bool}(ho:PE (X.wish W) o ta)(c:VI X.K C)(hm:Meth X.K C m f)(F:bK X.prog X.w X.K X.mg X.base (iI X.prog X.w) k f fd ps sp)(hr:jL k X.A)(hb:Binds X.K fd ps ds)(hd:Vals rT ds)(hx:∀ ev s',WX X XS ev s'->W ev s')
  (ht:eval (.Call (.Attribute o m apos) [] [] pos) X.env=(do
   let ov <-eval o X.env
   standAt apos.atName
   let (f,first) <-holding [ov] (getMethod ov m pl)
   callWith pos f first (backTo pos (starEach [] X.env)) (backToKw pos (keywordEach [] X.env))):=by rfl) :
  PE (X.wish W) (.Call (.Attribute o m apos) [] [] pos) (ab1 C m sp rT XS ta aT):=by
 intro pins s σ H Q I h;refine methodCall_KW (pl:=pl) (cJ (ho pins s σ H _ I h) fun u s1 ⟨x,H1,I1,rx,a,dx,fs,ex,ea,l,q⟩=>?_) ht;subst ex;obtain rfl:u=Value.ref a:=rx;refine vi I1 ea c hm l ?_;exact callWith_K0 (first:=[.ref a]) I1.xG hm.kp (P6 (X:=X) (us:=[.ref a]) (vs:=[.ref a]) F hr hb hd hx I1 (.cons rfl .nil) q)
end
abbrev uz:List Value:=[.type "ValueError",.type "Exception",.type "BaseException",.type "object"]
def ExC (K:Frag)(C:Addr):Prop:=excIn K C uz "ValueError.__new__" = true
theorem ExC.obj {K:Frag}{C:Addr}{h:Heap}(q:ExC K C)(X:K.In h):∃ bm N nm qn bs hdct sn sub ab col dd k0 k1 k2 k3 k5 mN,h.get? C=some (excClassObj nm qn C N bs bm hdct sn sub ab col dd k0 k1 k2 k3 k5 "ValueError.__new__")/\h.Ns N mN/\mN "__init__"=none/\OwnTail h uz bm:=by
 have q:excIn K C uz "ValueError.__new__" = true:=q;unfold excIn at q;split at q
 ·next dd cd sl ho =>
  split at q
  ·next C' bm k0 k1 k2 k3 n k5 hm hs =>
   simp only [Bool.and_eq_true,beq_iff_eq,Bool.not_eq_true']at q;obtain⟨⟨⟨⟨⟨rfl,rfl⟩,hdel⟩,ht⟩,hok⟩,hni⟩:=q;obtain⟨nm,bs,mro,ns,qn,hd,sn,sub,ab,col,del⟩:=cd;dsimp only at hm hdel hok hni;subst hm;subst hdel;obtain⟨l⟩:=sl;have hl:l=[k0,k1,k2,k3,some (.builtin "ValueError.__new__"),k5]:=hs;subst hl;refine⟨bm,ns,nm,qn,bs,hd,sn,sub,ab,col,dd,k0,k1,k2,k3,k5,h.nsMap ns,X _ _ ho,?_,?_,PySem.W.tail_of_in X ht⟩
   ·exact .of_isNs (PySem.W.isNs_of_in X hok)
   ·exact PySem.W.nsMap_none_of_in X hok hni
  ·cases q
 ·cases q
def agr (C:Addr)(XS:XSt)(te:TA):TS:=fun _ σ H=>te σ H fun vs H1=>vs.length<=sizeLine/\XS σ (.ref C) H1
theorem iJ {X:Cx}{XS:XSt}{W:Value->Shared->Prop}{C:Addr}{x:Str}{np cpos pos:Pos}{e:Expr}{es:List Expr}{t:TA}(hx:∀ ev s',WD X XS ev s'->W ev s')(hc:X.calm=true)(q:ExC X.K C)(hg:Gl (X.wish W) x)(hm:X.mg x=some (.ref C))(ha:PA (X.wish W) (e::es) t)
  (hdb:(x==("__debug__":Str))=false:=by decide) (he:starEach (e::es) X.env=(false,eval e X.env)::starEach es X.env:=by rfl) (hpl:(backTo cpos (starEach es X.env)).any (·.1)=false:=by rfl) :
  PS (X.wish W) (.Raise (some (.Call (.Name x np) (e::es) [] cpos)) none pos) (agr C XS t):=by
 intro pins s σ H D I h;obtain⟨bm,N,nm,qn,bs,hdct,sn,sub,ab,col,dd,k0,k1,k2,k3,k5,mN,hC,hN,hni,T⟩:=q.obj I.mod.kin;refine wpAny_Raise_call_subT (C:=C) (nm:=nm) (q:=qn) (N:=N) (bs:=bs) (bm:=bm) (hdct:=hdct) (sn:=sn) (sub:=sub) (ab:=ab) (col:=col) (dd:=dd) (k0:=k0) (k1:=k1) (k2:=k2) (k3:=k3) (k5:=k5) (mN:=mN)
  PySem.F.excBase_ValueError (T.hasType PySem.F.excBase_ValueError.hasBase) (I.ok.hd hc) ?_ hni (ve I hg hm ⟨rfl,?_⟩ hdb)
 ·show(backTo cpos (starEach (e::es) X.env)).any (·.1)=false;rw[he];show(false||(backTo cpos (starEach es X.env)).any (·.1))=false;rw[hpl];rfl
 ·have h1:=ha cpos pins s σ H _ I h;show wpAny (model X.prog X.w) X.A (evalArgs (.ref C) true (backTo cpos (starEach (e::es) X.env)) []) _ W s;have h1:wpAny (model X.prog X.w) X.A (spliced (backTo cpos (starEach (e::es) X.env))) _ W s:=h1;rw[he]at h1 ⊢;refine Calls.evalArgs_plain (wpAny_mono h1 (fun us s1 ⟨vs,H1,I1,r,hz,q1⟩=>?_) fun _ _ z=>z);refine⟨rfl,by rw[<-r.length];exact hz,I1.bk _ _ hC,hN.keeps I1.bk,T.keeps I1.bk,fun h' a hm'=>hx _ _ (.inr ?_)⟩;exact⟨pins,σ,H1,s1.heap,a,.ref C,us,rfl,I1.nc,hm',q1⟩
abbrev Cx.Tg (X:Cx)(pn:List (Addr×Obj)):Cx:={ X with pn:=pn }
abbrev Cx.hand (X:Cx)(a:Addr):Cx:={ X with A:=X.A.mark (some (.ref a)),calm:=false,xe:=fun _ _=>False }
theorem Cx.Ok.Tg {X:Cx}(ok:X.Ok)(pn:List (Addr×Obj)):(X.Tg pn).Ok :=
 ⟨ok.mod,ok.kind,ok.glob,ok.blt,ok.above,ok.inj,ok.has,ok.cab,ok.hd,ok.frames,ok.stk,ok.exf,ok.bs,ok.YC,ok.PL,ok.PM,ok.Aj,ok.frf⟩
theorem Cx.Ok.hand {X:Cx}(ok:X.Ok)(a:Addr):(X.hand a).Ok :=
 ⟨ok.mod,ok.kind,ok.glob,ok.blt,ok.above,ok.inj,ok.has,ok.cab,(fun z=>nomatch z),ok.frames,ok.stk,ok.exf,ok.bs,ok.YC,ok.PL,ok.PM,ok.Aj,ok.frf⟩
section
variable {X:Cx} {pins To:List (Addr×Obj)} {σ:St} {H H':Hp} {s:Shared}
theorem Inv.Tg (I:Inv X pins σ H s):Inv (X.Tg (X.pn++pins)) [] σ H s:=⟨I.ok.Tg _,I.os,I.bare,I.base,I.loc,I.cell,I.free,I.pV,fun p hp=>I.pin p (by simpa using hp),I.hok,I.len⟩
theorem Inv.xX (I:Inv (X.Tg (X.pn++pins)) To σ H s)(ok:X.Ok):Inv X pins σ H s:=⟨ok,I.os,I.bare,I.base,I.loc,I.cell,I.free,I.pV,fun p hp=>I.pin p (mem_append_left _ hp),I.hok,I.len⟩
theorem SP.xX {D:Ends}{f:Flow}{s':Shared}(ok:X.Ok)(h:SP (X.Tg (X.pn++pins)) [] D f s'):SP X pins D f s':=by
 cases f with
 |next=>obtain⟨σ',H',I,q⟩:=h;exact⟨σ',H',I.xX ok,q⟩
 |brk=>obtain⟨σ',H',I,q⟩:=h;exact⟨σ',H',I.xX ok,q⟩
 |cont=>obtain⟨σ',H',I,q⟩:=h;exact⟨σ',H',I.xX ok,q⟩
 |ret u=>obtain⟨v,σ',H',I,r,q⟩:=h;exact⟨v,σ',H',I.xX ok,r,q⟩
theorem Inv.hand (I:Inv X pins σ H s)(a:Addr):Inv (X.hand a) pins σ H s:=⟨I.ok.hand a,I.os,I.bare,I.base,I.loc,I.cell,I.free,I.pV,I.pin,I.hok,I.len⟩
theorem Inv.P7 {a:Addr}(I:Inv (X.hand a) pins σ H s)(ok:X.Ok):Inv X pins σ H s:=⟨ok,I.os,I.bare,I.base,I.loc,I.cell,I.free,I.pV,I.pin,I.hok,I.len⟩
theorem Inv.flown {G h' B:Heap}(I:Inv X pins σ H { s with heap:=G })(cov:∀ b o,G.get? b=some o->b ∉ frs X.stack->B.get? b=some o)(st:B.StaysIn h')(up:G.UpToSlots h'):Inv X pins σ H { s with heap:=h' }:=by
 have keep:∀ b o,G.get? b=some o->b ∉ frs X.stack->h'.get? b=some o:=fun b o e hb=>st b o (cov b o e hb);have slot:∀ b o,G.get? b=some o->b∈frs X.stack->∃ sl,h'.get? b=some { o with slots:=sl }:=fun b o e hb=>by
  obtain⟨_,o',e',hd⟩:=I.stack.mem hb;have:o'=o:=Option.some.inj (e'.symm.trans e);subst this;exact up b o' e hd
 refine I.call' (s':={ s with heap:=h' }) (ch:=[]) rfl ⟨fun b o e _ hb _=>keep b o e hb,fun b o e _ hb _=>slot b o e hb,fun _ _ _ n _=>n,fun b o e _=>?_,fun _ _ q=>q,fun _ _ _ q=>q,fun _ ps q=>⟨#[],by rw[q];simp⟩⟩ (fun b u e=>?_) I.bare fun b z=>absurd z (by simp)
 ·by_cases hb:b∈frs X.stack
  ·obtain⟨sl,z⟩:=slot b o e hb;exact⟨_,z⟩
  ·exact⟨o,keep b o e hb⟩
 ·refine(I.hok b u e).stay (fun c v hc q=>keep c v q fun hm=>?_) (fun _ q=>q) fun _ _ q=>q;have hf:=I.PN c hm;rcases hc with rfl|hc
  ·rw[hf]at e;cases e
  ·rw[hf]at hc;cases hc
end
end L2
set_option maxHeartbeats 4000000
namespace L2
open PySem PySem.Spec PyProof.Rows
structure ExA (K:Frag)(C:Addr):Prop where
 exc:ExC K C
 ga:findIn K (.ref C) "__getattribute__"=some (some (.builtin "BaseException.__getattribute__"))
 anA:findIn K (.ref C) "__getattr__"=some none
 cl:findIn K (.ref C) "__class__"=some (some (.builtin "object.__class__"))
section
variable {prog:Program} {w:World} {A:Around} {E:Value->Shared->Prop} {h:Heap} {g:Array GenState} {d:Drawn} {t:Nat} {os:OsState} {a:Addr} {o:Obj} {vs:Array Value} {K:Frag}
 {nm q:Str} {C N:Addr} {bs bm:List Value} {hdct:Bool} {sn:List Str} {sub:List Value} {ab:Bool} {col:Option Bool} {dd:Option Addr} {k0 k1 k2 k3 k5:Option Value} {newId:String}
end
section
variable {X:Cx}
theorem rW:Passes (iI X.prog X.w) X E0:=fun _ _ _ _ _ _ _ ⟨_,_,_,_,_,_,_,_,_,_,z⟩=>z.elim
end
end L2
set_option maxHeartbeats 4000000
namespace L2
open PySem PySem.Spec PyProof.Rows
section
variable {P:Program} {w:World} {K:Frag} {mg:Str->Option Value} {base:Heap}
end
section
variable {X:Cx} {tg iter elt:Expr} {ifs:List Expr} {scope:Scope} {pos:Pos} {cn:List Str} {wi:TI} {g:Bk->TG} {tc:Bk->TT} {te:Bk->TE} {TH:Bk->Prop}
end
def ab2 (x:Str)(n:Int):Str:=if n<1 then Str.empty else if(n==1||x.length==0)=true then x else { cps:=List.foldl (fun x1 x2=>x1++x2) #[] (List.replicate n.toNat x.cps) }
theorem adX {X:Cx}:uq X (binaryOp .Mult) (fun x y H Q=>∃ i n,x=.str i/\y=.int n/\-1000<n/\n<1000/\i.length<1000/\(ab2 i n).length<=sizeLine/\Q (.str (ab2 i n)) H):=by
 intro pins s σ H x y v u Q I rx ry h;obtain⟨i,n,rfl,rfl,h1,h2,h3,h4,q⟩:=h;obtain⟨t,rfl⟩:=rx;obtain⟨t',rfl⟩:=ry;refine PySem.P.mul_str ?_ (fun a b=>?_) (fun a b=>?_) ?_
 ·have e1:¬ n < -2 ^ 63:=by omega
  have e2:¬ n ≥ 2 ^ 63:=by omega
  rw[decide_eq_false e1,decide_eq_false e2];rfl
 ·have n1:1<=n:=by omega
  have:(1000:Int)<=(2 ^ 63-1) / n:=by
   refine Int.le_ediv_of_mul_le (by omega) ?_;omega
  omega
 ·have:i.length * n.toNat<=1000 * 1000:=Nat.mul_le_mul (by omega) (by omega);exact decide_eq_false (Nat.not_lt.mpr (Nat.le_trans this (by decide)))
 ·unfold ab2 at q h4;split
  ·next z=>rw[if_pos z]at q;exact⟨by decide,.str _,H,I.tok _,⟨_,rfl⟩,q⟩
  ·next z =>
   rw[if_neg z]at q h4;split
   ·next z2=>rw[if_pos z2]at q;exact⟨.str _,H,I,⟨_,rfl⟩,q⟩
   ·next z2=>rw[if_neg z2]at q h4;exact⟨h4,.str _,H,I.tok _,⟨_,rfl⟩,q⟩
end L2
set_option maxHeartbeats 4000000
namespace L2
open PySem PySem.Spec PyProof.Rows
def ags (to:TE)(tl th:St->Hp->(Option Int->Hp->Prop)->Prop):TG:=fun v σ H Q=>to σ H fun x H1=>tl σ H1 fun l H2=>th σ H2 fun u H3 =>
 ∃(p b:Addr)(xs ys:List V)(a c:Int),x=.ref p/\v=.ref b/\l=some a/\u=some c/\H3 p=some (.lst xs)/\H3 b=some (.lst ys)/\p≠b/\0<=a/\a<=c/\c<=xs.length/\xs.length+ys.length<=sizeLine/\Q σ (upd H3 p (.lst (xs.take a.toNat++ys++xs.drop c.toNat)))
theorem TQ {X:Cx}{o:Expr}{lo hi:Option Expr}{p2 pos:Pos}{to:TE}{tl th:St->Hp->(Option Int->Hp->Prop)->Prop}(ho:PE X o to)(hl:PO X lo tl)(hu:PO X hi th)
  (ha:∀ v,assign (.Subscript o (.Slice lo hi none p2) pos) X.env v=(do
   let ov <-holding [v] (eval o X.env)
   let iv <-holding [v,ov] (eval (.Slice lo hi none p2) X.env)
   standAt pos
   holding [v,ov,iv] (setItem ov iv v)
   release [iv,v,ov] []):=by intro _;rfl):PG X (.Subscript o (.Slice lo hi none p2) pos) (ags to tl th):=by
 intro pins s σ H v u Q I r h;rw[ha];refine wpAny_bind (wpAny_holding (cJ (ho pins s σ H _ I h) fun ov s1 ⟨x,H1,I1,r1,q1⟩=>?_));refine wpAny_bind (wpAny_holding ?_);refine wpAny_Slice (cJ (hl pins s1 σ H1 _ I1 q1) fun vl s2 ⟨l,H2,I2,pl,q2⟩=>cJ (hu pins s2 σ H2 _ I2 q2) fun vu s3 ⟨uu,H3,I3,pu,q3⟩=>?_);rw[evalPart_none];refine wpAny_pure ?_;have I4:Inv X pins σ H3 { s3 with heap:=s3.heap.push { cls:=.type "slice",data:=.fields #[vl,vu,.none] } }:=I3.kept (t':=s3.toks) fun b ob q=>Heap.get?_push_of_some _ q;obtain⟨p,b,xs,ys,a,c,rfl,rfl,rfl,rfl,hp,hb,hne,h0,hac,hc,hz,q4⟩:=q3;cases r1;cases r;refine wpAny_bind (wpAny_standAt (wpAny_bind (wpAny_holding ?_)));refine ZI I4 hp hb hne (Heap.IsSliceOf.new ..) (by cases pl;exact⟨_,rfl⟩) (by cases pu;exact⟨_,rfl⟩) h0 hac hc hz fun s5 I5=>?_;exact wpAny_release ⟨σ,_,I5,q4⟩
end L2
namespace L2
open PySem PySem.Spec PyProof.Rows
section
variable {X:Cx}
theorem all_range:∀ bs:List Bool,(List.range bs.length).all (fun i=>bs.getD i false)=bs.all id
 |[]=>rfl
 |b::bs=>by
  rw[length_cons,List.range_succ_eq_map,List.all_cons,List.all_map,List.all_cons];have:((fun i=>(b::bs).getD i false) ∘ Nat.succ)=fun i=>bs.getD i false:=by
   funext i
   rfl
  rw[this,all_range bs];rfl
theorem ab3:pW X (.builtin "all") (fun xs H Q=>X.calm=true/\∃(a:Addr)(bs:List Bool),xs=[.ref a]/\aZ X.K H a (bs.map V.bl)/\Q (.bl (bs.all id)) H):=by
 intro pins s σ H xs us Q I r h;obtain⟨hc,a,bs,rfl,hq,q⟩:=h;obtain⟨u,rfl,rfl⟩:=r.one;obtain⟨its,rv,p,hz⟩:=I.list hq;have hl:=rv.length;rw[length_map]at hl;have agg:∀(i:Nat)(v:Value),its.toArray[i]? = some v->v=Value.bool (bs.getD i false):=by
  intro i v hv;have hv':its[i]? = some v:=by simpa using hv
  have hi:i<its.length:=(List.getElem?_eq_some_iff.mp hv').1;have hb:i<bs.length:=by omega
  obtain⟨u,hu,ru⟩:=rv.get (i:=i) (x:=.bl (bs[i])) (by rw[getElem?_map,getElem?_eq_getElem hb];rfl);rw[hv']at hu;cases hu;have:v=.bool bs[i]:=ru;rw[this,List.getD_eq_getElem?_getD,getElem?_eq_getElem hb];rfl
 refine call_all_walk (wpAny_pyIter_list p.isList ?_);have ane:a≠s.heap.objs.size:=by
  obtain⟨o,ho,_⟩:=p.isList;exact Nat.ne_of_lt (Heap.lt_size ho)
 have hd:X.A.in1.handled=none:=I.ok.hd hc;refine⟨s.heap.objs.size,_,_,_,_,_,fun i=>bs.getD i false,rfl,Walks.list hd s.heap.objs.size a ane its.toArray,⟨⟨_,Heap.get?_push_size _ rfl,rfl,rfl⟩,p.isList.push _⟩,?_,?_⟩
 ·intro i v s' Q' E' hP hQ';rw[agg i v hP];exact wpAny_truthy_bool hQ'
 ·intro h' tk kk;have e:(List.range its.toArray.size).all (fun i=>bs.getD i false)=bs.all id:=by
   rw[size_toArray,<-hl];exact all_range bs
  rw[e];refine⟨.bl _,H,I.kept (t':=tk) fun b o e=>kk b o (fun z=>?_) (Heap.get?_push_of_some _ e),rfl,q⟩;have:b=s.heap.objs.size:=by simpa using z
  exact absurd (Heap.lt_size e) (by rw[this];exact Nat.lt_irrefl _)
def Itd (lo:Int)(n:Nat):It:={ go:=fun i _=>i<n,yld:=fun i H x H'=>H'=H/\x=V.int (lo-(i:Int)),stop:=fun i _=>n<=i }
theorem ZQ {P:Program}{w:World}{K:Frag}{tg:Expr}(it:Addr)(lo:Int)(n:Nat):Turn P w K tg (Itd lo n) [it] it (fun i h=>IsRangeIter h it (lo+(i:Nat) * (-1)) ((n:Int)-(i:Nat)) (-1)) where
 mem:=by simp
 obj:=fun i h st b hb=>by
  have e:b=it:=by simpa using hb
  subst e;exact⟨_,st,fun v z=>by
   have z':Data.fields _=Data.cell v:=z;cases z'⟩
 keep:=fun i h h' st k=>k it (by simp) _ st
 item:=by
  intro X hP hw hK hc i pins s σ H E I hf st hg;subst hP hw hK;obtain⟨f0,f1,f2,f3,f4,f5⟩:=hf it (by simp);have W:=Walks.range (prog:=X.prog) (w:=X.w) (I.ok.hd hc) it lo (-1) n;refine W.item i s _ _ hg st fun v h' tk hv st' kk=>?_;obtain⟨t,rfl⟩:=hv;have I1:Inv X pins σ H { s with heap:=h',toks:=tk }:=I.turned (fun b o hb e=>kk b o (by simpa using hb) e) f0 f1 f3 f4 f5;refine⟨_,rfl,YF (s:={ s with heap:=h',toks:=tk }) (n:="range_iterator") st' rfl rfl (by decide) ⟨.int (lo-i),H,I1,⟨t,?_⟩,⟨rfl,rfl⟩,st',fun b hb=>(hf b hb).1⟩⟩;have:lo+(i:Int) * (-1)=lo-i:=by omega
  rw[this]
 done:=by
  intro X hP hw hK hc i pins s σ H E I hf st hg;subst hP hw hK;obtain⟨f0,f1,f2,f3,f4,f5⟩:=hf it (by simp);exact wpAny_pyNext_range_end (I.ok.hd hc) st (by have:n<=i:=hg;omega) fun h' eb=>⟨rfl,I.turned (t':=s.toks) (fun b o hb e=>eb b o hb e) f0 f1 f3 f4 f5⟩
 self:=fun _ _ _ _ _ st h=>wpAny_pyIter_rangeiter st h
theorem rangeSize_down (a b:Int):Builtin.Range.rangeSize a b (-1)=if b<a then a-b else 0:=by
 unfold Builtin.Range.rangeSize;rw[if_neg (by decide)]
 by_cases h:a > b
 ·rw[if_pos h,if_pos h];show(a-b-1) / 1+1=a-b;omega
 ·rw[if_neg h,if_neg h]
theorem small_down {a b:Int}(h1:-(2 ^ 62)<=a)(h2:a<2 ^ 62)(h3:-(2 ^ 62)<=b)(h4:b<2 ^ 62):Builtin.Range.small a b (-1)=true:=by
 unfold Builtin.Range.small;rw[rangeSize_down];have f:∀ x:Int,-(2 ^ 63)<=x->x<2 ^ 63->Builtin.Range.rangeFitsLong x=true:=fun x p q=>by
  unfold Builtin.Range.rangeFitsLong;simp;omega
 rw[f a (by omega) (by omega),f b (by omega) (by omega),f (-1) (by omega) (by omega),f _ (by split <;> omega) (by split <;> omega),if_neg (show ¬((-1:Int) > 0) by decide),f (b+(-1+1)) (by omega) (by omega)];simp
theorem adY {tg:Expr}{pins:List (Addr×Obj)}{σ:St}{H:Hp}{s:Shared}{R:It->Hp->Prop}{E:Value->Shared->Prop}{lo hi:Int}{t u v:Tok}{tk:Nat}(I:Inv X pins σ H s)(h1:-(2 ^ 62)<=lo)(h2:lo<2 ^ 62)(h3:-(2 ^ 62)<=hi)(h4:hi<2 ^ 62)
  (q:R (Itd lo (lo-hi).toNat) H):wpAny (model X.prog X.w) X.A (pyIter (.ref s.heap.objs.size)) (PIE X pins σ tg R) E { s with heap:=s.heap.push { cls:=.type "range",data:=.fields #[.int lo t,.int hi u,.int (-1) v] },toks:=tk }:=by
 refine wpAny_pyIter_range (IsRange.new ..) (small_down h1 h2 h3 h4) ?_;have I1:Inv X pins σ H { s with heap:=s.heap.push { cls:=.type "range",data:=.fields #[.int lo t,.int hi u,.int (-1) v] },toks:=tk }:=I.kept fun b o e=>Heap.get?_push_of_some _ e;refine⟨(s.heap.push { cls:=.type "range",data:=.fields #[.int lo t,.int hi u,.int (-1) v] }).objs.size,[(s.heap.push { cls:=.type "range",data:=.fields #[.int lo t,.int hi u,.int (-1) v] }).objs.size],_,_,H,rfl,
  I1.kept (t':=tk) fun b o e=>Heap.get?_push_of_some _ e,ZQ _ lo (lo-hi).toNat,?_,fun b hb=>?_,q⟩
 ·have e1:lo+((0:Nat):Int) * (-1)=lo:=by simp
  have e2:(((lo-hi).toNat:Nat):Int)-((0:Nat):Int)=Builtin.Range.rangeSize lo hi (-1):=by rw[rangeSize_down];split <;> omega
  show IsRangeIter _ _ (lo+((0:Nat):Int) * (-1)) ((((lo-hi).toNat:Nat):Int)-((0:Nat):Int)) (-1);rw[e1,e2];exact Heap.get?_push_size _ rfl
 ·have e:b=(s.heap.push { cls:=.type "range",data:=.fields #[.int lo t,.int hi u,.int (-1) v] }).objs.size:=by simpa using hb
  subst e;exact I1.Tt (Nat.le_refl _) (I1.hok.fresh (Nat.le_refl _))
def aim (ta:TA):TI:=fun σ H R=>ta σ H fun vs H1=>∃ i j:Int,vs=[.int i,.int j,.int (-1)]/\(-(2 ^ 62)<=i/\i<2 ^ 62/\-(2 ^ 62)<=j/\j<2 ^ 62)/\R (Itd i (i-j).toNat) H1
theorem ZR {tg:Expr}{a b c:Expr}{ta:TA}{p pos:Pos}(hg:Gl X "range")(hm:X.mg "range"=none)(ha:PA X [a,b,c] ta)(hs:starEach [a,b,c] X.env=[(false,eval a X.env),(false,eval b X.env),(false,eval c X.env)]:=by rfl)(hs2:starEach [b,c] X.env=[(false,eval b X.env),(false,eval c X.env)]:=by rfl) :
  PI X tg (.Call (.Name "range" p) [a,b,c] [] pos) (aim ta):=by
 intro pins s σ H R I h;refine Call_ (vf I hg hm boot_range (PyProof.Rows.callWith_type1 (cJ (ha pos pins s σ H _ I h) fun us s1 ⟨vs,H1,I1,r1,q1⟩=>?_) (by rw[hs,hs2]) (by rw[hs2];rfl)));obtain⟨i,j,e,⟨q1,q2,q3,q4⟩,q⟩:=q1;subst e;cases r1 with
 |cons r rr =>
  cases rr with
  |cons r' rr =>
   cases rr with
   |cons r'' rr =>
    cases rr;obtain⟨t,rfl⟩:=r;obtain⟨t',rfl⟩:=r';obtain⟨t'',rfl⟩:=r'';exact call_range_3 (by decide) (adY I1 q1 q2 q3 q4 q) (.inl rfl)
theorem ab4 {lo:Int}{n:Nat}{g:TG}{tb:TS}{D:Ends}{σ:St}{H:Hp}(Pv:Nat->St->Hp->Prop)(h0:Pv 0 σ H)
  (hs:∀ i σ H,i<n->Pv i σ H->g (.int (lo-i)) σ H fun σ2 H2=>tb { D with nx:=Pv (i+1),ct:=Pv (i+1),bk:=D.nx } σ2 H2) (hd:∀ σ H,Pv n σ H->D.nx σ H) :
  ∃ W:Nat->Nat->St->Hp->Prop,(∃ m,W 0 m σ H)/\∀ i m σ H,W i m σ H ->
   ((Itd lo n).stop i H/\D.nx σ H)\/((Itd lo n).go i H/\∃ N:St->Hp->Prop,(∀ σ' H',N σ' H'->∃ m',m'<m/\W (i+1) m' σ' H')/\∀ x H',(Itd lo n).yld i H x H'->g x σ H' fun σ2 H2=>tb { D with nx:=N,ct:=N,bk:=D.nx } σ2 H2):=by
 refine⟨fun i m σ H=>m=n-i/\i<=n/\Pv i σ H,⟨n,by simp,Nat.zero_le _,h0⟩,?_⟩;rintro i m σ H ⟨rfl,hi,p⟩
 by_cases hlt:i<n
 ·refine .inr ⟨hlt,Pv (i+1),fun σ' H' p'=>⟨n-(i+1),by omega,rfl,hlt,p'⟩,fun x H' y=>?_⟩;obtain⟨e,y⟩:=y;subst e y;exact hs i σ _ hlt p
 ·have e:i=n:=by omega
  subst e;exact .inl ⟨Nat.le_refl _,hd _ _ p⟩
def adZ:TE:=fun _ _ _=>False
theorem ab5 {e:Expr}:PE X e adZ:=fun _ _ _ _ _ _ h=>h.elim
end
end L2
namespace L2
open PySem PySem.Spec PyProof.Rows
section
variable {κ:Type} [DecidableEq κ]
def nh (kvs:List (κ×V))(k:κ):Option V:=(kvs.find? fun kv=>decide (kv.1=k)).map (·.2)
def putK (kvs:List (κ×V))(k:κ)(v:V):List (κ×V) :=
 if(kvs.any fun kv=>decide (kv.1=k))=true then kvs.map (fun kv=>if kv.1=k then(kv.1,v) else kv) else kvs++[(k,v)]
theorem qF {p:κ×V}{r:List (κ×V)}{k:κ}(e:p.1=k):nh (p::r) k=some p.2:=by simp[nh,List.find?_cons,e]
theorem qG {p:κ×V}{r:List (κ×V)}{k:κ}(e:¬ p.1=k):nh (p::r) k=nh r k:=by simp[nh,List.find?_cons,e]
theorem Lg (k:κ):∀ kvs:List (κ×V),(kvs.any fun kv=>decide (kv.1=k))=(nh kvs k).isSome
 |[]=>rfl
 |p::r=>by
  rw[List.any_cons]
  by_cases e:p.1=k
  ·simp only [qF e,decide_eq_true e,Bool.true_or,Option.isSome_some]
  ·rw[qG e,decide_eq_false e,Bool.false_or];exact Lg k r
theorem O4 (k j:κ)(y:V):∀ kvs:List (κ×V),nh kvs k=none->nh (kvs++[(k,y)]) j=if j=k then some y else nh kvs j
 |[],_=>by
  by_cases e:k=j
  ·rw[if_pos e.symm];exact qF (p:=(k,y)) e
  ·rw[if_neg (fun z=>e z.symm)];exact qG (p:=(k,y)) e
 |p::r,hn=>by
  rw[List.cons_append];have hk:¬ p.1=k:=fun z=>by rw[qF z]at hn;cases hn
  rw[qG hk]at hn;have ih:=O4 k j y r hn
  by_cases e:p.1=j
  ·rw[qF e,qF e,if_neg (fun z=>hk (e.trans z))]
  ·rw[qG e,qG e,ih]
theorem xY (kvs:List (κ×V))(k:κ)(v:V):(putK kvs k v).length<=kvs.length+1:=by
 unfold putK;split
 ·rw[length_map];omega
 ·rw[length_append,length_cons,List.length_nil];omega
theorem Lh {kvs:List (κ×V)}{k:κ}(v:V)(h:nh kvs k=none):putK kvs k v=kvs++[(k,v)]:=by
 unfold putK;rw[Lg,h];exact if_neg (by decide)
theorem rS.Gi {o:Option V}{u:Option Value}(r:rS o u):o.isSome=u.isSome:=by
 cases o with
 |none=>cases u with
  |none=>rfl
  |some _=>exact(show False from r).elim
 |some _=>cases u with
  |none=>exact(show False from r).elim
  |some _=>rfl
theorem KV.val {kvs:List (κ×V)}{vs:List (κ×Value)}(r:KV kvs vs)(k:κ):rS (nh kvs k) (valueAt vs k):=by
 unfold KV at r
 induction r with
 |nil=>exact True.intro
 | @cons p q ps qs h t ih =>
  obtain⟨h1,h2⟩:=h
  by_cases e:p.1=k
  ·have e':q.1=k:=h1.symm.trans e;have b:valueAt (q::qs) k=some q.2:=by simp[valueAt,List.find?_cons,e']
   rw[qF e,b];exact h2
  ·have e':¬ q.1=k:=fun z=>e (h1.trans z);have b:valueAt (q::qs) k=valueAt qs k:=by simp[valueAt,List.find?_cons,e']
   rw[qG e,b];exact ih
theorem KV.any {kvs:List (κ×V)}{vs:List (κ×Value)}(r:KV kvs vs)(k:κ):(kvs.any fun kv=>decide (kv.1=k))=vs.any fun kv=>decide (kv.1=k):=by
 unfold KV at r
 induction r with
 |nil=>rfl
 |cons h t ih=>rw[List.any_cons,List.any_cons,ih,h.1]
theorem KV.repl {kvs:List (κ×V)}{vs:List (κ×Value)}(r:KV kvs vs)(k:κ){y:V}{u:Value}(ry:RelV y u) :
  KV (kvs.map fun kv=>if kv.1=k then(kv.1,y) else kv) (vs.map fun kv=>if kv.1=k then(kv.1,u) else kv):=by
 unfold KV at r ⊢
 induction r with
 |nil=>exact .nil
 | @cons p q ps qs h t ih =>
  rw[map_cons,map_cons];refine .cons ?_ ih;obtain⟨h1,h2⟩:=h
  by_cases e:p.1=k
  ·rw[if_pos e,if_pos (h1.symm.trans e)];exact⟨h1,ry⟩
  ·rw[if_neg e,if_neg (fun z=>e (h1.trans z))];exact⟨h1,h2⟩
theorem KV.put {kvs:List (κ×V)}{vs:List (κ×Value)}(r:KV kvs vs)(k:κ){y:V}{u:Value}(ry:RelV y u):KV (putK kvs k y) (stored vs k u):=by
 unfold putK stored;rw[r.any k]
 by_cases e:(vs.any fun kv=>decide (kv.1=k))=true
 ·rw[if_pos e,if_pos e];exact r.repl k ry
 ·rw[if_neg e,if_neg e];exact Paired.snoc r ⟨rfl,ry⟩
theorem KV.length {kvs:List (κ×V)}{vs:List (κ×Value)}(r:KV kvs vs):kvs.length=vs.length:=Paired.length r
end
theorem TR {P:Program}{w:World}{k:Key}{u:Value}(r:RelV (kV k) u):(c0 P w).is k u=true:=by
 cases k with
 |inl i=>obtain⟨t,e⟩:=(show ∃ t,u=Value.int i t from r);subst e;exact Tn P w i t
 |inr x=>obtain⟨t,e⟩:=(show ∃ t,u=Value.str x t from r);subst e;exact lh P w x t
theorem O5 {P:Program}{w:World}:∀{ks:List Key} {us:List Value},Vals (ks.map kV) us->ItemsAre (c0 P w) ks us
 |[],_,r=>by rw[List.map_nil]at r;cases r;exact .nil
 |k::ks,_,r=>by
  rw[map_cons]at r;cases r with
  |cons h t=>exact .cons (TR h) (O5 t)
abbrev KT (H:Hp):List (List Key×V)->List (List Key×Addr×Value)->Prop:=Paired fun p q=>p.1=q.1/\H q.2.1=some (.tup (p.1.map kV))/\RelV p.2 q.2.2
theorem KT.val {H:Hp}{kvs:List (List Key×V)}{xs:List (List Key×Addr×Value)}(r:KT H kvs xs)(k:List Key):rS (nh kvs k) ((atKey xs k).map (·.2)):=by
 induction r with
 |nil=>exact True.intro
 | @cons p q ps qs h t ih =>
  obtain⟨h1,_,h2⟩:=h
  by_cases e:p.1=k
  ·have e':q.1=k:=h1.symm.trans e;have b:atKey (q::qs) k=some q.2:=by simp[atKey,List.find?_cons,e']
   rw[qF e,b];exact h2
  ·have e':¬ q.1=k:=fun z=>e (h1.trans z);have b:atKey (q::qs) k=atKey qs k:=by simp[atKey,List.find?_cons,e']
   rw[qG e,b];exact ih
theorem KT.repl {H:Hp}{kvs:List (List Key×V)}{xs:List (List Key×Addr×Value)}(r:KT H kvs xs)(k:List Key){y:V}{u:Value}(ry:RelV y u) :
  KT H (kvs.map fun kv=>if kv.1=k then(kv.1,y) else kv) (xs.map (putAt k u)):=by
 induction r with
 |nil=>exact .nil
 | @cons p q ps qs h t ih =>
  rw[map_cons,map_cons];refine .cons ?_ ih;obtain⟨h1,h2,h3⟩:=h;unfold putAt
  by_cases e:p.1=k
  ·rw[if_pos e,if_pos (h1.symm.trans e)];exact⟨h1,h2,ry⟩
  ·rw[if_neg e,if_neg (fun z=>e (h1.trans z))];exact⟨h1,h2,h3⟩
theorem KT.put {H:Hp}{kvs:List (List Key×V)}{xs:List (List Key×Addr×Value)}(r:KT H kvs xs)(k:List Key){b:Addr}{y:V}{u:Value}(hb:H b=some (.tup (k.map kV)))(ry:RelV y u) :
  KT H (putK kvs k y) (storedH xs k b u):=by
 have e:(kvs.any fun kv=>decide (kv.1=k))=(atKey xs k).isSome:=by
  rw[Lg,(r.val k).Gi,Option.isSome_map]
 unfold putK storedH;rw[e]
 by_cases q:(atKey xs k).isSome=true
 ·rw[if_pos q,if_pos q];exact r.repl k ry
 ·rw[if_neg q,if_neg q];exact Paired.snoc r ⟨rfl,hb,ry⟩
theorem KT.keeps {H H':Hp}{kvs:List (List Key×V)}{xs:List (List Key×Addr×Value)}(r:KT H kvs xs)(ht:∀ b ys,H b=some (.tup ys)->H' b=some (.tup ys)):KT H' kvs xs :=
 Paired.afS r fun _ _ z=>⟨z.1,ht _ _ z.2.1,z.2.2⟩
section
variable {P:Program} {w:World} {H:Hp} {h:Heap} {a:Addr}
theorem afr {u:HO}(ok:xI P w H h)(e:Rd H a u):ia P w H h a u:=e.ok ok
theorem Y0 {kvs:List (Key×V)}(ok:xI P w H h)(e:Rd H a (.dK kvs)):kvs.length<=sizeLine/\(a==sysModules)=false/\∃ vs,KV kvs vs/\h.DictOf (c0 P w) a vs :=
 show ia P w H h a (.dK kvs) from afr ok e
theorem afs {kvs:List (Key×V)}(ok:xI P w H h)(e:H a=some (.dK kvs)):kvs.length<=sizeLine/\(a==sysModules)=false/\∃ vs,KV kvs vs/\h.DictOf (c0 P w) a vs:=Y0 ok (.inl e)
theorem P8 {ks:List Key}(ok:xI P w H h)(e:H a=some (.tup (ks.map kV))):(tupleKind (c0 P w)).is h ks a:=by
 obtain⟨_,its,r,o,h1,h2,n,h3⟩:=(show ia P w H h a (.tup (ks.map kV)) from ok a _ e);exact⟨o,its.toArray,n,h1,h2,h3,by simpa using O5 r⟩
theorem Y1 {kvs:List (List Key×V)}(ok:xI P w H h)(e:Rd H a (.dT kvs)):kvs.length<=sizeLine/\(a==sysModules)=false /\
  ∃ xs,KT H kvs xs/\h.DictOfH (tupleKind (c0 P w)) a xs:=by
 obtain⟨z,y,xs,r,o,es,ep,h1,h2,h3,h4,h5⟩:=(show ia P w H h a (.dT kvs) from afr ok e);refine⟨z,y,xs,r,o,es,ep,h1,h2,h3,h4,fun x hx=>?_,h5⟩;have all:∀{l:List (List Key×V)} {m:List (List Key×Addr×Value)},KT H l m->∀ x∈m,(tupleKind (c0 P w)).is h x.1 x.2.1:=by
  intro l m q
  induction q with
  |nil=>intro x hx;exact nomatch hx
  | @cons p q ps qs hq t ih =>
   intro x hx;rcases List.mem_cons.mp hx with e|hx
   ·subst e;exact P8 ok (by rw[<-hq.1];exact hq.2.1)
   ·exact ih x hx
 exact all r x hx
theorem ain {kvs:List (List Key×V)}(ok:xI P w H h)(e:H a=some (.dT kvs)):kvs.length<=sizeLine/\(a==sysModules)=false /\
  ∃ xs,KT H kvs xs/\h.DictOfH (tupleKind (c0 P w)) a xs:=Y1 ok (.inl e)
end
def Al (H:Hp)(a:Addr)(y:V)(r:Option V):Prop :=
 (∃ kvs k,Rd H a (.dK kvs)/\y=kV k/\r=nh kvs k)\/∃ kvs k b,Rd H a (.dT kvs)/\y=.ref b/\H b=some (.tup (k.map kV))/\r=nh kvs k
def ab6 (H:Hp)(a:Addr)(y v:V)(H':Hp):Prop :=
 (∃ kvs k,H a=some (.dK kvs)/\y=kV k/\kvs.length<sizeLine/\H'=upd H a (.dK (putK kvs k v))) \/
 ∃ kvs k b,H a=some (.dT kvs)/\y=.ref b/\H b=some (.tup (k.map kV))/\kvs.length<sizeLine/\H'=upd H a (.dT (putK kvs k v))
theorem Al.k {H:Hp}{a:Addr}{kvs:List (Key×V)}{k:Key}(e:H a=some (.dK kvs)):Al H a (kV k) (nh kvs k):=.inl ⟨kvs,k,.inl e,rfl,rfl⟩
theorem ab6.k {H:Hp}{a:Addr}{kvs:List (Key×V)}{k:Key}{v:V}(e:H a=some (.dK kvs))(hl:kvs.length<sizeLine):ab6 H a (kV k) v (upd H a (.dK (putK kvs k v))):=.inl ⟨kvs,k,e,rfl,hl,rfl⟩
section
variable {X:Cx} {pins:List (Addr×Obj)} {σ:St} {H:Hp} {s:Shared} {a:Addr} {y v:V} {u r:Value} {o:Option V} {A:Around} {E:Value->Shared->Prop}
theorem Inv.big (I:Inv X pins σ H s):sysModules<s.heap.objs.size:=by
 have h:mainGlobals<s.heap.objs.size:=(I.mod.glob.keeps I.bk).lt;exact Nat.lt_trans (by decide) h
theorem ZS {Q:Value->Shared->Prop}(hu:A.units+1<cLine)(I:Inv X pins σ H s)(g:Al H a y (some v))(ry:RelV y u)(h:∀ w' s',Inv X pins σ H s'->RelV v w'->Q w' s') :
  wpAny (model X.prog X.w) A (getItem (.ref a) u) Q E s:=by
 rcases g with ⟨kvs,k,e,ey,l⟩|⟨kvs,k,b,e,ey,eb,l⟩
 ·subst ey;obtain⟨z,hd,vs,rel,dd⟩:=Y0 I.hok e;obtain⟨w',hw,rw'⟩:=rS.some_of (v:=v) (o:=valueAt vs k) (by rw[l];exact rel.val k);exact wpAny_getItem_of (TR ry) dd.mapOf hw (h w' _ (I.tok _) rw')
 ·subst ey;cases (show u=Value.ref b from ry);obtain⟨z,hd,xs,rel,dd⟩:=Y1 I.hok e;obtain⟨w',hw,rw'⟩:=rS.some_of (v:=v) (o:=(atKey xs k).map (·.2)) (by rw[l];exact rel.val k);obtain⟨p,hp,hp2⟩:=Option.map_eq_some_iff.mp hw;refine wpAny_getItem_heap (tupleKind_room_in1 hu) (P8 I.hok eb) dd hp ?_;rw[hp2];exact h w' _ (I.tok _) rw'
theorem akL {Q:Value->Shared->Prop}(hu:A.units+1<cLine)(I:Inv X pins σ H s)(g:Al H a y o)(ry:RelV y u)(h:∀ s',Inv X pins σ H s'->Q (.bool o.isSome) s') :
  wpAny (model X.prog X.w) A (compareOp .In u (.ref a)) Q E s:=by
 rcases g with ⟨kvs,k,e,ey,l⟩|⟨kvs,k,b,e,ey,eb,l⟩
 ·subst ey;obtain⟨z,hd,vs,rel,dd⟩:=Y0 I.hok e;refine wpAny_in_of (TR ry) hd dd.mapOf ?_;rw[<-(rel.val k).Gi,<-l];exact h _ (I.tok _)
 ·subst ey;cases (show u=Value.ref b from ry);obtain⟨z,hd,xs,rel,dd⟩:=Y1 I.hok e;refine wpAny_in_heap (tupleKind_room_in1 hu) (P8 I.hok eb) hd dd ?_;have q:=(rel.val k).Gi;rw[Option.isSome_map]at q;rw[<-q,<-l];exact h _ (I.tok _)
theorem P9 {h':Heap}{t':Nat}{ob:HO}(I:Inv X pins σ H s)(mu:Mut (H a))(hs:Heap.SameBut a s.heap h')(he:∃ q,h'.get? a=some q)(new:ia X.prog X.w (upd H a ob) h' a ob) :
  Inv X pins σ (upd H a ob) { s with heap:=h',toks:=t' } :=
 I.write (x:=a) (e:=a) mu (.inl rfl) (fun b q hb z=>(hs.2 b hb).trans z) he new
theorem ab7 {P:Program}{w:World}{H':Hp}{h':Heap}{kvs:List (Key×V)}{vs:List (Key×Value)}(z:kvs.length<=sizeLine)(hd:(a==sysModules)=false)(rel:KV kvs vs)(dd:h'.DictOf (c0 P w) a vs) :
  ia P w H' h' a (.dK kvs):=⟨z,hd,vs,rel,dd⟩
theorem ZT {H':Hp}{Q:Unit->Shared->Prop}(hu:A.units+1<cLine)(I:Inv X pins σ H s)(g:ab6 H a y v H')(ry:RelV y u)(rv:RelV v r)(h:∀ s',Inv X pins σ H' s'->Q () s') :
  wpAny (model X.prog X.w) A (setItem (.ref a) u r) Q E s:=by
 rcases g with ⟨kvs,k,e,ey,l,eH⟩|⟨kvs,k,b,e,ey,eb,l,eH⟩
 ·subst ey eH;obtain⟨z,hd,vs,rel,dd⟩:=afs I.hok e;have hz:vs.length<=sizeLine:=by rw[<-rel.length];exact z
  have hl:(putK kvs k v).length<=sizeLine:=by have:=xY kvs k v;omega
  refine wpAny_setItem_pairs (hsz:=hz) (TR ry) dd fun h' dd' hs=>h _ ?_;have he:∃ q,h'.get? a=some q:=let ⟨q,_,_,hq,_⟩:=dd';⟨q,hq⟩;exact P9 I (by rw[e];exact True.intro) hs he (ab7 hl hd (rel.put k rv) dd')
 ·subst ey eH;cases (show u=Value.ref b from ry);obtain⟨z,hd,xs,rel,dd⟩:=ain I.hok e;have hz:xs.length<=sizeLine:=by rw[<-Paired.length rel];exact z
  have hl:(putK kvs k v).length<=sizeLine:=by have:=xY kvs k v;omega
  refine wpAny_setItem_heap (hsz:=hz) (tupleKind_room_in1 hu) (P8 I.hok eb) dd fun h' dd' hs=>h _ ?_;obtain⟨q,es,ep,hq,h2,h3,h4,_,h5⟩:=dd';refine P9 I (by rw[e];exact True.intro) hs ⟨q,hq⟩ ⟨hl,hd,_,(rel.put k eb rv).keeps fun c ys ec=>?_,q,es,ep,hq,h2,h3,h4,h5⟩;rw[ao (mZ ec e (fun z=>nomatch z))];exact ec
end
section
variable {X:Cx} {pins:List (Addr×Obj)} {σ:St} {H:Hp} {s:Shared} {a:Addr} {kvs:List (Key×V)} {k:Key} {u:Value} {A:Around} {E:Value->Shared->Prop}
end
def aio (i:Expr):Prop:=∀ ov iv,subscripted i false ov iv=operate [ov,iv] (getItem ov iv)
theorem ad0 {prog:Program}{w:World}{A:Around}{E:Value->Shared->Prop}{s:Shared}{env:Env}{value slice:Expr}{pos:Pos}{T id:String}{Q:Value->Shared->Prop}
  (hl:typeLookup (.type T) "__getitem__"=pure (some (.builtin id))) (hs:aio slice)
  (h:wpAny (model prog w) A (eval value env) (fun o s₁=>wpAny (model prog w) A (eval slice env) (fun i s₂=>s₂.TypeIs o T/\wpAny (model prog w) A (getItem o i) Q E s₂) E s₁) E s) :
  wpAny (model prog w) A (eval (.Subscript value slice pos) env) Q E s:=by
 refine Subscript_ (wpAny_mono h (fun o s₁ h₁=>wpAny_mono h₁ (fun i s₂ h₂=>?_) fun _ _ x=>x) fun _ _ x=>x);obtain⟨hT,h₂⟩:=h₂;unfold subscriptTail;refine wpAny_bind ?_;rw[getitemInPython_of_ne hT.not_modules];refine wpAny_bind (wpAny_specialOf hT hl ?_);have fin:wpAny (model prog w) A (subscripted slice false o i) (fun r s₃=>wpAny (model prog w) A (letTemporaryGo value o r >>= fun _=>pure r) Q E s₃) E s₂:=by
  rw[hs o i];exact wpAny_operating (wpAny_mono h₂ (fun r s₃ h₃=>wpAny_bind (wpAny_letTemporaryGo (wpAny_pure h₃))) fun _ _ x=>x)
 first
  |exact wpAny_pure (wpAny_bind fin)
  |exact wpAny_bind (wpAny_pure (wpAny_bind fin))
  |exact wpAny_bind fin
theorem TV {X:Cx}{pins:List (Addr×Obj)}{σ:St}{H:Hp}{s:Shared}{a:Addr}{y:V}{o:Option V}(I:Inv X pins σ H s)(g:Al H a y o):s.TypeIs (.ref a) "dict":=by
 rcases g with ⟨kvs,k,e,_,_⟩|⟨kvs,k,b,e,_,_,_⟩
 ·obtain⟨_,_,vs,_,dd⟩:=Y0 I.hok e;exact dd.typeIs
 ·obtain⟨_,_,xs,_,dd⟩:=Y1 I.hok e;exact dd.typeIs
def aip (td ty:TE):TE:=fun σ H Q=>td σ H fun x H1=>ty σ H1 fun y H2=>∃ a v,x=.ref a/\Al H2 a y (some v)/\Q v H2
def akM (ty td:TE):TE:=fun σ H Q=>ty σ H fun y H1=>td σ H1 fun x H2=>∃ a o,x=.ref a/\Al H2 a y o/\Q (.bl o.isSome) H2
def aiq (td ty tv:TE):TS:=fun D σ H=>tv σ H fun v H1=>td σ H1 fun x H2=>ty σ H2 fun y H3=>∃ a H4,x=.ref a/\ab6 H3 a y v H4/\D.nx σ H4
section
variable {X:Cx} {o i e value:Expr} {pos pos' tpos:Pos} {td ty tv:TE}
theorem DV (hu:X.A.units+1<cLine)(ho:PE X o td)(hi:PE X i ty)(hs:aio i):PE X (.Subscript o i pos) (aip td ty):=by
 intro pins s σ H Q I h;refine ad0 PySem.F.slot_dict_getitem.lookup hs (cJ (ho pins s σ H _ I h) fun u s1 ⟨x,H1,I1,rx,q1⟩=>cJ (hi pins s1 σ H1 _ I1 q1) fun iv s2 ⟨y,H2,I2,ry,a,v,ex,g,q2⟩=>?_);subst ex;obtain rfl:u=Value.ref a:=rx;exact⟨TV I2 g,ZS hu I2 g ry fun w' s3 I3 rw'=>⟨v,H2,I3,rw',q2⟩⟩
theorem agt (hu:X.A.units+1<cLine)(hi:PE X i ty)(ho:PE X o td):PC X .In i o (akM ty td):=by
 intro pins s σ H Q I h;refine cJ (hi pins s σ H _ I h) fun iv s1 ⟨y,H1,I1,ry,q1⟩=>cJ (ho pins s1 σ H1 _ I1 q1) fun u s2 ⟨x,H2,I2,rx,a,ov,ex,g,q2⟩=>?_;subst ex;obtain rfl:u=Value.ref a:=rx;exact akL hu I2 g ry fun s3 I3=>⟨.bl ov.isSome,H2,I3,rfl,q2⟩
theorem ad1 (hu:X.A.units+1<cLine)(ho:PE X o td)(hi:PE X i ty)(hv:PE X value tv)(hs:swapsWith value (some (.Subscript o i pos')) pos.line X.env=pure false) :
  PS X (.Assign [.Subscript o i pos'] value pos) (aiq td ty tv):=by
 intro pins s σ H D I h;refine wpAny_Assign_Subscript (cJ (hv pins s σ H _ I h) fun r s1 ⟨v,H1,I1,rv,q1⟩=>cJ (ho pins s1 σ H1 _ I1 q1) fun u s2 ⟨x,H2,I2,rx,q2⟩=>cJ (hi pins s2 σ H2 _ I2 q2) fun iv s3 ⟨y,H3,I3,ry,a,H4,ex,g,q3⟩=>?_) hs;subst ex;obtain rfl:u=Value.ref a:=rx;exact ZT hu I3 g ry rv fun s4 I4=>⟨σ,H4,I4,q3⟩
end
theorem TX {P:Program}{w:World}{H:Hp}(h:Heap)(hb:sysModules<h.objs.size):ia P w H (h.push { cls:=.type "dict",data:=.dict #[] }) h.objs.size (.dK []) :=
 ⟨Nat.zero_le _,beq_eq_false_iff_ne.mpr (Ne.symm (Nat.ne_of_lt hb)),[],.nil,Heap.DictOf.new h⟩
def agu:TE:=fun _ H Q=>∀ p,H p=none->Q (.ref p) (upd H p (.dK []))
section
variable {X:Cx} {pos:Pos}
theorem ab9:PE X (.Dict [] [] pos) agu:=fun pins s σ H Q I h =>
 wpAny_Dict_empty ⟨.ref s.heap.objs.size,_,I.laid (a:=s.heap.objs.size) (o:=.dK []) (t':=s.toks) (fun _ _ q=>Heap.get?_push_of_some _ q) (Nat.le_refl _) (TX s.heap I.big),rfl,h _ (I.hok.fresh (Nat.le_refl _))⟩
end
def V1:List (TE×TE)->St->Hp->(List (V×V)->Hp->Prop)->Prop
 |[],_,H,Q=>Q [] H
 |(tk,tv)::r,σ,H,Q=>tk σ H fun x H1=>tv σ H1 fun y H2=>V1 r σ H2 fun ps H3=>Q ((x,y)::ps) H3
abbrev VV:List (V×V)->List (Value×Value)->Prop:=Paired fun p q=>RelV p.1 q.1/\RelV p.2 q.2
def PDs (X:Cx)(pos:Pos)(keys:List (Option Expr))(values:List Expr)(trs:List (TE×TE)):Prop :=
 ∀(pins:List (Addr×Obj)) (s:Shared) (σ:St) (H:Hp) (Q:List (V×V)->Hp->Prop),Inv X pins σ H s->V1 trs σ H Q ->
  wpAny (model X.prog X.w) X.A (evalPairs (pairTrees keys values X.env pos)) (fun vs s'=>∃ ps H',Inv X pins σ H' s'/\VV ps vs/\Q ps H') X.xe s
theorem ad2 {X:Cx}{pos:Pos}:PDs X pos [] [] []:=fun pins s σ H Q I h=>pairTrees_nil_walk ⟨[],H,I,.nil,h⟩
theorem TY {X:Cx}{pos:Pos}{k v:Expr}{ks:List (Option Expr)}{vs:List Expr}{tk tv:TE}{trs:List (TE×TE)}(hk:PE X k tk)(hv:PE X v tv)(hr:PDs X pos ks vs trs) :
  PDs X pos (some k::ks) (v::vs) ((tk,tv)::trs):=fun pins s σ H Q I h =>
 pairTrees_cons_walk (cJ (hk pins s σ H _ I h) fun u s1 ⟨x,H1,I1,rx,q1⟩=>cJ (hv pins s1 σ H1 _ I1 q1) fun w2 s2 ⟨y,H2,I2,ry,q2⟩ =>
  cJ (hr pins s2 σ H2 _ I2 q2) fun ws s3 ⟨ps,H3,I3,rel,q3⟩=>⟨(x,y)::ps,H3,I3,.cons ⟨rx,ry⟩ rel,q3⟩)
def Bc (kvs more:List (Key×V)):List (Key×V):=more.foldl (fun acc kv=>putK acc kv.1 kv.2) kvs
theorem KV.merge:∀{more:List (Key×V)} {rs:List (Key×Value)} {kvs:List (Key×V)} {vs:List (Key×Value)},KV more rs->KV kvs vs->KV (Bc kvs more) (merged vs rs):=by
 intro more rs kvs vs r;unfold KV at r
 induction r generalizing kvs vs with
 |nil=>intro q;exact q
 | @cons p q ps qs h t ih =>
  intro r0;have e:KV (putK kvs p.1 p.2) (stored vs q.1 q.2):=by
   have:=r0.put p.1 h.2;rw[<-h.1];exact this
  exact ih e
theorem AQ:∀(more kvs:List (Key×V)),(Bc kvs more).length<=kvs.length+more.length
 |[],kvs=>by show kvs.length<=kvs.length+0;omega
 |p::r,kvs=>by
  have h1:=AQ r (putK kvs p.1 p.2);have h2:=xY kvs p.1 p.2;show(Bc (putK kvs p.1 p.2) r).length<=_;rw[length_cons];omega
theorem Li {P:Program}{w:World}:∀{kvs:List (Key×V)} {ws:List (Value×Value)},VV (kvs.map fun kv=>(kV kv.1,kv.2)) ws->∃ rs,Carries (c0 P w) ws rs/\KV kvs rs
 |[],_,r=>by rw[List.map_nil]at r;cases r;exact⟨[],True.intro,.nil⟩
 |p::kvs,_,r=>by
  rw[map_cons]at r;cases r with
  | @cons a b as bs h t =>
   obtain⟨rs,c,q⟩:=Li (P:=P) (w:=w) t;obtain⟨b1,b2⟩:=b;exact⟨(p.1,b2)::rs,⟨TR h.1,rfl,c⟩,.cons ⟨rfl,h.2⟩ q⟩
def ais (trs:List (TE×TE)):TE:=fun σ H Q=>∀ p,H p=none->V1 trs σ (upd H p (.dK [])) fun ps H2=>H2 p=some (.dK [])/\∃ kvs:List (Key×V),ps=kvs.map (fun kv=>(kV kv.1,kv.2))/\kvs.length<=15/\Q (.ref p) (upd H2 p (.dK (Bc [] kvs)))
theorem ad3 {X:Cx}{pos:Pos}{keys:List (Option Expr)}{values:List Expr}{trs:List (TE×TE)}(h:PDs X pos keys values trs)(hall:keys.all (·.isSome)=true)(hl:keys.length=values.length)(h0:keys≠[])
  (h15:keys.length<=15):PE X (.Dict keys values pos) (ais trs):=by
 intro pins s σ H Q I q;have hn:=I.hok.fresh (Nat.le_refl s.heap.objs.size);have I1:=I.laid (a:=s.heap.objs.size) (o:=.dK []) (h':=s.heap.push { cls:=.type "dict",data:=.dict #[] }) (t':=s.toks) (fun _ _ q=>Heap.get?_push_of_some _ q) (Nat.le_refl _) (TX s.heap I.big);refine wpAny_Dict_walk (knd:=c0 X.prog X.w) hall hl h0 h15 (cJ (h pins _ σ _ _ I1 (q _ hn)) fun ws s2 ⟨ps,H2,I2,rel,e,kvs,ep,lk,q2⟩=>?_);subst ep;obtain⟨rs,c,rk⟩:=Li (P:=X.prog) (w:=X.w) rel;obtain⟨z,hd,vs0,r0,dd⟩:=afs I2.hok e;cases r0;refine⟨rs,c,dd,fun h' dd' hs=>⟨.ref s.heap.objs.size,_,?_,rfl,q2⟩⟩;have hz:(Bc [] kvs).length<=sizeLine:=by
  have h1:=AQ kvs [];rw[List.length_nil]at h1;rw[sizeLine_eq];omega
 have he:∃ q,h'.get? s.heap.objs.size=some q:=let ⟨q,_,_,hq,_⟩:=dd';⟨q,hq⟩;exact P9 I2 (by rw[e];exact True.intro) hs he (ab7 hz hd (rk.merge .nil) dd')
structure M1 (X:Cx)(o:Expr)(m:Str)(apos:Pos)(e:Expr)(cpos:Pos):Prop where
 base:attributeBase o m X.env (eval o X.env)=eval o X.env
 few:((backTo cpos (starEach [e] X.env)).all (fun x=>!x.1)&&(backToKw cpos (keywordEach [] X.env)).all (fun x=>x.1.isSome)
  && decide (([e]:List Expr).length+([]:List Keyword).length+(if([]:List Keyword).isEmpty then 0 else 1)<30))=true
 line:(apos.endLine==cpos.line)=true
 trees:backTo cpos (starEach [e] X.env)=[(false,eval e X.env)]
structure M2 (X:Cx)(o:Expr)(m:Str)(apos:Pos)(e f:Expr)(cpos:Pos):Prop where
 base:attributeBase o m X.env (eval o X.env)=eval o X.env
 few:((backTo cpos (starEach [e,f] X.env)).all (fun x=>!x.1)&&(backToKw cpos (keywordEach [] X.env)).all (fun x=>x.1.isSome)
  && decide (([e,f]:List Expr).length+([]:List Keyword).length+(if([]:List Keyword).isEmpty then 0 else 1)<30))=true
 line:(apos.endLine==cpos.line)=true
 trees:backTo cpos (starEach [e,f] X.env)=[(false,eval e X.env),(false,eval f X.env)]
section
variable {X:Cx} {pins:List (Addr×Obj)} {σ:St} {H:Hp} {s:Shared} {a:Addr} {y d:V} {u r:Value} {o:Option V} {A:Around} {E:Value->Shared->Prop}
end
section
variable {X:Cx} {o e f:Expr} {apos cpos:Pos} {td ty tx:TE}
end
section
variable {X:Cx} {pins:List (Addr×Obj)} {σ:St} {H:Hp} {s:Shared} {a:Addr} {kvs:List (Key×V)} {A:Around} {E:Value->Shared->Prop}
end
section
variable {X:Cx} {pins:List (Addr×Obj)} {σ:St} {H:Hp} {s:Shared} {a:Addr} {y:V} {u:Value} {A:Around} {E:Value->Shared->Prop}
end
end L2
namespace L2
open PySem PySem.Spec PyProof.Rows
section
variable {X:Cx}
end
section
variable {κ:Type} [DecidableEq κ]
end
end L2
set_option maxHeartbeats 4000000
namespace L2
open PySem PySem.Spec PyProof.Rows
section
variable {X:Cx}
end
section
variable {P:Program} {w:World} {K:Frag} {mg:Str->Option Value} {base:Heap}
theorem Lf.P5 {x qual:Str}{st:Stmt}{f:Addr}{fd:FuncData}{dV:Value}{N ps:List Str}{k:Nat}{sp:Sp}(F:Lf K x qual st f fd dV)(S:aG N ps (ag st))(len:∀ vs H Q E,sp vs H Q E->vs.length=ps.length)
  (hbody:∀(cdv:Value)(A:Around)(outer:List Env)(s:Shared)(H:Hp)(vs:List V)(Q:VK)(E:XK),jL k (A.deeper (envOfC qual (ag st) s.heap.objs.size f cdv))->sp vs H Q E ->
   ∃ t,KS ((cK (iI P w) P w K mg base N qual (ag st) f cdv A outer s H E).wish (WD (cK (iI P w) P w K mg base N qual (ag st) f cdv A outer s H E) fun _ cls H'=>E cls none H')) (aw st) t/\t { nx:=fun _ H'=>Q .non H',rt:=Q } (start N vs) H):bK P w K mg base (iI P w) (k+1) f fd ps sp:=by
 obtain⟨oc,od,kV,doc,pm,an,cdv,ct,osl,rfl,lk,hcd⟩:=F.ex;refine YL lk hcd S len fun A outer s H vs Q E hr hsp=>?_;obtain⟨t,h,q⟩:=hbody cdv A outer s H vs Q E hr hsp;exact⟨t,h.ab0 fun _ _ z=>leaveX z,q⟩
end
end L2
set_option maxHeartbeats 4000000
namespace L2
open PySem PySem.Spec PyProof.Rows
section
variable {prog:Program} {w:World} {A:Around} {E:Value->Shared->Prop} {s:Shared}
end
section
variable {X:Cx}
end
end L2
set_option maxHeartbeats 4000000
namespace L2
open PySem PySem.Spec PyProof.Rows
section
variable {X:Cx}
structure PDw (X:Cx)(pos:Pos)(keys:List (Option Expr))(values:List Expr)(trs:List (TE×TE)):Prop where
 out:PDs X pos keys values trs
theorem agv {st:Stmt}{t:TS}(h:PS X.nox st t):PS X st t:=fun pins s σ H D I hw=>wpAny_mono (h pins s σ H D (I.wish _) hw) (fun _ _ q=>q.nc) fun _ _ z=>z.elim
def acb (K:Frag)(cls:Value)(D:Ends)(σ:St)(H:Hp):List (Addr×TS)->Prop
 |[]=>False
 |c::r=>(exmOne K cls (.ref c.1)=some true/\c.2 D σ H)\/(exmOne K cls (.ref c.1)=some false/\acb K cls D σ H r)
def PH (X:Cx)(h:ExceptHandler)(c:Addr×TS):Prop:=∃ x np b₀ suite hpos,h=.ExceptHandler (some (.Name x np)) none (b₀::suite) hpos/\Gl X x/\X.mg x=some (.ref c.1)/\(x==("__debug__":Str))=false/\∀ pn a,KS ((X.Tg pn).hand a) (b₀::suite) c.2
inductive PHs (X:Cx):List ExceptHandler->List (Addr×TS)->Prop
 |nil:PHs X [] []
 |cons {h:ExceptHandler} {c:Addr×TS} {hs:List ExceptHandler} {cs:List (Addr×TS)}:PH X h c->PHs X hs cs->PHs X (h::hs) (c::cs)
theorem ad4:PHs X [] []:=.nil
theorem ki {CT:Addr}{x:Str}{b₀:Stmt}{suite:List Stmt}{np hpos:Pos}{ts:TS}{hs:List ExceptHandler}{cs:List (Addr×TS)}(h:∀ pn a,KS ((X.Tg pn).hand a) (b₀::suite) ts)(hg:Gl X x)(hm:X.mg x=some (.ref CT))(r:PHs X hs cs)(hd:(x==("__debug__":Str))=false:=by decide) :
  PHs X (.ExceptHandler (some (.Name x np)) none (b₀::suite) hpos::hs) ((CT,ts)::cs):=.cons ⟨x,np,b₀,suite,hpos,rfl,hg,hm,hd,h⟩ r
theorem handles {pins:List (Addr×Obj)}{σ:St}{H:Hp}{G B:Heap}{s1:Shared}{a:Addr}{cls a0:Value}{l:List Env}{D:Ends}(I1:Inv X pins σ H { s1 with heap:=G })(cov:∀ b o,G.get? b=some o->b ∉ frs X.stack->B.get? b=some o)(hok:X.Ok) :
  ∀{hs:List ExceptHandler} {cs:List (Addr×TS)},PHs X hs cs->∀ h5,Heap.FlyingW B l a cls a0 h5->G.UpToSlots h5->acb X.K cls D σ H cs->wpAny (model X.prog X.w) X.A (handleBy (.ref a) X.env hs) (fun f s'=>SP X pins D f s') X.xe { s1 with heap:=h5 }:=by
 intro hs cs hh
 induction hh with
 |nil=>intro h5 _ _ p;exact p.elim
 | @cons h c hs cs h0 _ ih =>
  intro h5 fl5 U5 p;obtain⟨x,np,b₀,suite,hpos,rfl,hg,hm,hd,hsu⟩:=h0;have I5:Inv X pins σ H { s1 with heap:=h5 }:=I1.flown cov fl5.1 U5;have I5h:=I5.hand a;refine wpAny_handleBy_cons (codeAny_handlers_test (ve I5h hg hm ?_ hd)) (by intro q;cases q);obtain⟨ob,hob,hobc⟩:=fl5.there;rcases p with ⟨hx,q⟩|⟨hx,q⟩
  ·refine(exm_one (M:=model X.prog X.w) I5.xG (hobc ▸ (PySem.W.Looks.ld hob).andThen .now) hx).here ?_;refine codeAny_handlers_suite ?_;refine lands_againW fl5 fun h6 fl6 up6=>?_;have U6:=U5.trans up6;have I6:Inv X pins σ H { s1 with heap:=h6 }:=I1.flown cov fl6.1 U6;refine wpAny_mono ((hsu (X.pn++pins) a) [] _ _ _ D (I6.Tg.hand a) q) (fun f s9 z=>?_) fun _ _ z=>z.elim;cases f with
   |next=>obtain⟨σ9,H9,J,w⟩:=z;exact⟨_,H9,(J.P7 (hok.Tg _)).xX hok,w⟩
   |brk=>obtain⟨σ9,H9,J,w⟩:=z;exact⟨_,H9,(J.P7 (hok.Tg _)).xX hok,w⟩
   |cont=>obtain⟨σ9,H9,J,w⟩:=z;exact⟨_,H9,(J.P7 (hok.Tg _)).xX hok,w⟩
   |ret u=>obtain⟨v,σ9,H9,J,r,w⟩:=z;exact⟨v,_,H9,(J.P7 (hok.Tg _)).xX hok,r,w⟩
  ·refine(exm_one (M:=model X.prog X.w) I5.xG (hobc ▸ (PySem.W.Looks.ld hob).andThen .now) hx).here ?_;exact ih h5 fl5 U5 q
def ait (K:Frag)(cs:List (Addr×TS))(tb:XSt->TS):TS:=fun D σ H=>tb (fun σ' cls H'=>acb K cls D σ' H' cs) D σ H
theorem ad5 {body:List Stmt}{h₀:ExceptHandler}{hs:List ExceptHandler}{cs:List (Addr×TS)}{pos:Pos}{tb:XSt->TS}
  (hb:∀ pn XS,KS ((X.Tg pn).wish (WX (X.Tg pn) XS)) body (tb XS)) (hh:PHs X (h₀::hs) cs) (hst:X.stack=X.env::X.outer) (hfr:X.env.frame=some X.env.locals) :
  PS X (.Try body (h₀::hs) [] [] pos) (ait X.K cs tb):=by
 intro pins s σ H D I h;refine wpAny_Try_except (wpAny_mono (hb (X.pn++pins) _ [] s σ H D (I.Tg.wish _) h) (fun f s1 q=>?_) fun ev s1 z=>?_)
 ·have q':SP X pins D f s1:=q.nc.xX I.ok;cases f with
  |next=>exact wpAny_execs_nil q'
  |brk=>exact q'
  |cont=>exact q'
  |ret u=>exact q'
 ·obtain⟨To,σ',H',G,a,cls,rfl,I',⟨B,a0,cov,fl,up,hn⟩,q⟩:=z;have I1:Inv X pins σ' H' { s1 with heap:=G }:=I'.xX I.ok;have hF:X.A.frames=some (X.env::X.outer):=by rw[<-hst];exact I.ok.frames
  have fl:Heap.FlyingW B (X.env::X.outer) a cls a0 s1.heap:=by rw[<-hst];exact fl
  refine wpAny_looks_onW hF hfr fl fun h4 aiu up4=>?_;refine wpAny_landsW aiu fun h5 fl5 up5=>?_;exact handles I1 cov I.ok hh h5 fl5 ((up.trans up4).trans up5) q
end
end L2
set_option maxHeartbeats 1000000
namespace Gj
open PySem L2
inductive Kd where
 |G|D|R|s|d|r|dot|three|two
 deriving DecidableEq,Repr
def Kd.str:Kd->Str
 |.G=>"G" | .D=>"D" | .R=>"R" | .s=>"s" | .d=>"d" | .r=>"r" | .dot=>"." | .three=>"3" | .two=>"2"
def Kd.cp:Kd->Nat
 |.G=>71|.D=>68|.R=>82|.s=>115|.d=>100|.r=>114|.dot=>46|.three=>51|.two=>50
def Kd.great:Kd->Bool
 |.G=>true|.D=>true|.R=>true|_=>false
def Kd.small:Kd->Bool
 |.s=>true|.d=>true|.r=>true|_=>false
def Kd.parting:Kd->Bool
 |.dot=>true|.three=>true|.two=>true|_=>false
def Kd.meas:Kd->Bool
 |.three=>true|.two=>true|_=>false
def Kd.tM:Kd->Bool
 |.G=>true|.D=>true|.s=>true|.d=>true|_=>false
def rX:Option Kd->Str
 |some k=>k.str
 |none=>""
abbrev Sg:=Kd×Int
def V2 (x y:Str):Bool:=!(Builtin.Str.occurrences y x 0 y.length 1).isEmpty
theorem aiv (k:Kd):k.str=⟨#[k.cp]⟩:=by cases k <;> decide +kernel
theorem str_inj {a b:Kd}:a.str=b.str ↔ a=b:=by
 constructor
 ·revert a b
  have:∀ a b:Kd,a.str=b.str->a=b:=by
   intro a b;cases a <;> cases b <;> first|(intro _;rfl)|(intro h;exact absurd h (by lk))
  exact fun {a b}=>this a b
 ·exact fun h=>by rw[h]
theorem TZ {a b:Option Kd}:rX a=rX b ↔ a=b:=by
 constructor
 ·have:∀ a b:Option Kd,rX a=rX b->a=b:=by
   intro a b;cases a with
   |none=>cases b with
    |none=>intro _;rfl
    |some b=>cases b <;> (intro h;exact absurd h (by lk))
   |some a=>cases b with
    |none=>cases a <;> (intro h;exact absurd h (by lk))
    |some b=>intro h;exact congrArg some (str_inj.mp h)
  exact fun h=>this a b h
 ·exact fun h=>by rw[h]
theorem ad6 (a b:Str):decide (V.str a=V.str b)=decide (a=b):=by
 by_cases h:a=b
 ·rw[h];simp
 ·rw[decide_eq_false h];exact decide_eq_false fun e=>h (V.str.inj e)
theorem ZU (a b:Kd):decide (V.str a.str=V.str b.str)=decide (a=b):=by
 rw[ad6];exact decide_eq_decide.mpr str_inj
theorem aiw (a b:Option Kd):decide (V.str (rX a)=V.str (rX b))=decide (a=b):=by
 rw[ad6];exact decide_eq_decide.mpr TZ
theorem o_G (o:Option Kd):decide (V.str (rX o)=V.str "G")=decide (o=some .G):=aiw o (some .G)
theorem k_G (k:Kd):decide (V.str k.str=V.str "G")=decide (k=.G):=ZU k .G
theorem k_D (k:Kd):decide (V.str k.str=V.str "D")=decide (k=.D):=ZU k .D
theorem o_s (o:Option Kd):decide (V.str (rX o)=V.str "s")=decide (o=some .s):=aiw o (some .s)
theorem k_s (k:Kd):decide (V.str k.str=V.str "s")=decide (k=.s):=ZU k .s
theorem aix (k:Kd):decide (V.str k.str=V.str ".")=decide (k=.dot):=ZU k .dot
theorem Qa (k:Kd):decide (V.str k.str=V.str "3")=decide (k=.three):=ZU k .three
theorem acd (k:Kd):decide (V.str k.str=V.str "2")=decide (k=.two):=ZU k .two
def NW (H:Hp)(v:V)(s:Sg):Prop:=∃ p,v=.ref p/\H p=some (.tup [.str s.1.str,.int s.2])
theorem NW.same {H H':Hp}{v:V}{s:Sg}(e:ar H H')(h:NW H v s):NW H' v s:=by
 obtain⟨p,rfl,q⟩:=h;exact⟨p,rfl,e _ _ q⟩
abbrev h9 (H:Hp):List V->List Sg->Prop:=Paired (NW H)
theorem h9.same {H H':Hp}(e:ar H H'):∀{xs:List V} {ss:List Sg},h9 H xs ss->h9 H' xs ss
 |_,_,.nil=>.nil
 |_,_,.cons a b=>.cons (a.same e) (h9.same e b)
theorem Bd {α β:Type}{F:α->β->Prop}:∀{xs:List α} {ys:List β} {i:Nat} {x:α},Paired F xs ys->xs[i]? = some x->∃ y,ys[i]? = some y/\F x y
 |_,_,_,_,.nil,e=>by simp at e
 |_,_,0,_,.cons r _,e=>by simp at e;subst e;exact⟨_,rfl,r⟩
 |_,_,i+1,x,.cons _ t,e=>by
  obtain⟨u,h1,h2⟩:=Bd (i:=i) (x:=x) t (by simpa using e);exact⟨u,by simpa using h1,h2⟩
theorem rY {α β:Type}{F:α->β->Prop}:∀{xs:List α} {ys:List β} {i:Nat} {y:β},Paired F xs ys->ys[i]? = some y->∃ x,xs[i]? = some x/\F x y
 |_,_,_,_,.nil,e=>by simp at e
 |_,_,0,_,.cons r _,e=>by simp at e;subst e;exact⟨_,rfl,r⟩
 |_,_,i+1,x,.cons _ t,e=>by
  obtain⟨u,h1,h2⟩:=rY (i:=i) t (by simpa using e);exact⟨u,by simpa using h1,h2⟩
theorem cB {α β:Type}{F:α->β->Prop}{xs:List α}{ys:List β}(h:Paired F xs ys):xs.length=ys.length:=Paired.length h
theorem qH {α β:Type}{F:α->β->Prop}:∀{xs:List α} {ys:List β} {x:α} {y:β},Paired F xs ys->F x y->Paired F (xs++[x]) (ys++[y])
 |_,_,_,_,.nil,h=>.cons h .nil
 |_,_,_,_,.cons a b,h=>.cons a (qH b h)
theorem xZ {α β:Type}{F:α->β->Prop}:∀{xs:List α} {ys:List β} {xs':List α} {ys':List β},Paired F xs ys->Paired F xs' ys'->Paired F (xs++xs') (ys++ys')
 |_,_,_,_,.nil,h=>h
 |_,_,_,_,.cons a b,h=>.cons a (xZ b h)
theorem DW {α β:Type}{F:α->β->Prop}:∀{xs:List α} {ys:List β} (n:Nat),Paired F xs ys->Paired F (xs.drop n) (ys.drop n)
 |_,_,0,h=>h
 |_,_,n+1,.nil=>.nil
 |_,_,n+1,.cons a b=>DW n b
theorem AR {α β:Type}{F:α->β->Prop}:∀{xs:List α} {ys:List β} (n:Nat),Paired F xs ys->Paired F (xs.take n) (ys.take n)
 |_,_,0,h=>.nil
 |_,_,n+1,.nil=>.nil
 |_,_,n+1,.cons a b=>.cons a (AR n b)
theorem dy {α β:Type}{F G:α->β->Prop}(h:∀ x y,F x y->G x y):∀{xs:List α} {ys:List β},Paired F xs ys->Paired G xs ys
 |_,_,.nil=>.nil
 |_,_,.cons a b=>.cons (h _ _ a) (dy h b)
theorem jN {H0 H:Hp}{l:Addr}{o:HO}(s:ar H0 H)(hl:H0 l=none):ar H0 (upd H l o):=fun b u e=>by
 rw[ao (aq e hl)];exact s b u e
theorem ace {H:Hp}{D:Addr}{o:HO}{zs:List V}{v:V}{s:Sg}(hD:H D=some (.lst zs))(h:NW H v s):NW (upd H D o) v s:=by
 obtain⟨p,e,q⟩:=h;exact⟨p,e,by rw[ao (mZ q hD (by intro z;cases z))];exact q⟩
theorem acf {H:Hp}{D:Addr}{o:HO}{zs:List V}{xs:List V}{ss:List Sg}(hD:H D=some (.lst zs))(h:h9 H xs ss):h9 (upd H D o) xs ss:=dy (fun _ _ q=>ace hD q) h
theorem Qb {ms:List Int}{i:Nat}{x:V}(h:(ms.map V.int)[i]? = some x):∃ z,ms[i]? = some z/\x=V.int z:=by
 rw[getElem?_map]at h;cases e:ms[i]? with
 |none=>rw[e]at h;cases h
 |some z=>rw[e]at h;exact⟨z,rfl,(Option.some.inj h).symm⟩
section
variable {K:Frag} {H:Hp} {p:Addr} {Q:VK}
theorem ix0 {a b:V}(h:H p=some (.tup [a,b]))(q:Q a H):PV K (.ref p) (.int 0) H Q\/PX K (.ref p) (.int 0) H Q\/PY (.ref p) (.int 0) H Q:=.inr (.inl ⟨p,_,0,a,rfl,rfl,uo.of h,rfl,q⟩)
theorem ix1 {a b:V}(h:H p=some (.tup [a,b]))(q:Q b H):PV K (.ref p) (.int 1) H Q\/PX K (.ref p) (.int 1) H Q\/PY (.ref p) (.int 1) H Q:=.inr (.inl ⟨p,_,1,b,rfl,rfl,uo.of h,rfl,q⟩)
theorem ixL {xs:List V}{i:Int}{n:Nat}{v:V}(h:aZ K H p xs)(hn:i=n)(e:xs[n]? = some v)(q:Q v H):PV K (.ref p) (.int i) H Q\/PX K (.ref p) (.int i) H Q\/PY (.ref p) (.int i) H Q:=.inl ⟨p,xs,i,v,rfl,rfl,h,by rw[hn];exact DN e,q⟩
theorem Kb {xs:List V}{ss:List Sg}{i:Int}{n:Nat}{s:Sg}(h:aZ K H p xs)(g:h9 H xs ss)(hn:i=n)(e:ss[n]? = some s)(q:∀ b,H b=some (.tup [.str s.1.str,.int s.2])->Q (.ref b) H) :
  PV K (.ref p) (.int i) H Q\/PX K (.ref p) (.int i) H Q\/PY (.ref p) (.int i) H Q:=by
 obtain⟨x,hx,b,rfl,hb⟩:=rY g e;exact ixL h hn hx (q b hb)
theorem ach {ns:List Int}{i:Int}{n:Nat}{z:Int}(h:aZ K H p (ns.map V.int))(hn:i=n)(e:ns[n]? = some z)(q:Q (.int z) H):PV K (.ref p) (.int i) H Q\/PX K (.ref p) (.int i) H Q\/PY (.ref p) (.int i) H Q :=
 ixL h hn (by rw[getElem?_map,e];rfl) q
end
set_option maxHeartbeats 1000000
def nm (m:Int):Kd->Int
 |.three=>3
 |.two=>2
 |_=>m
def Ms (m:Int):Prop:=m=3\/m=2
theorem Ms.nm {m:Int}(h:Ms m)(k:Kd):Ms (nm m k):=by
 cases k <;> first|exact h|exact .inl rfl|exact .inr rfl
def jf (m:Int):List Kd->List Int
 |[]=>[]
 |k::t=>nm m k::jf (nm m k) t
theorem Gk (m:Int)(ks:List Kd):(jf m ks).length=ks.length:=by
 induction ks generalizing m with
 |nil=>rfl
 |cons k t ih=>simp[jf,ih]
def pw:Kd->Int->Int
 |.G,m=>if m=2 then 2 else 3
 |.R,m=>if m=2 then 2 else 3
 |.D,_=>2
 |.s,_=>1
 |.d,_=>1
 |.r,_=>1
 |_,_=>0
def bw (m:Int)(k:Kd)(n:Option Kd):Int:=if m=2/\k=.G/\n=some .dot then 3 else pw k m
def ju (m:Int):List Kd->List Int
 |[]=>[]
 |k::t=>bw (nm m k) k t.head? :: ju (nm m k) t
def Be:List Kd->List Int->List Int
 |k::t,m::ms=>bw m k t.head? :: Be t ms
 |_,_=>[]
theorem T8 (m:Int)(ks:List Kd):Be ks (jf m ks)=ju m ks:=by
 induction ks generalizing m with
 |nil=>rfl
 |cons k t ih=>simp[jf,Be,ju,ih]
theorem uA (m:Int)(ks:List Kd):(ju m ks).length=ks.length:=by
 induction ks generalizing m with
 |nil=>rfl
 |cons k t ih=>simp[ju,ih]
def inR (m:Int)(k:Kd):Bool:=decide (m≠2)&&k.small
def kj (m:Int):List Kd->List Bool
 |[]=>[]
 |k::t=>inR (nm m k) k::kj (nm m k) t
theorem qI (m:Int)(ks:List Kd):(kj m ks).length=ks.length:=by
 induction ks generalizing m with
 |nil=>rfl
 |cons k t ih=>simp[kj,ih]
def T9:List Kd->List Int->List Bool
 |k::t,m::ms=>inR m k::T9 t ms
 |_,_=>[]
theorem V3 (m:Int)(ks:List Kd):T9 ks (jf m ks)=kj m ks:=by
 induction ks generalizing m with
 |nil=>rfl
 |cons k t ih=>simp[jf,T9,kj,ih]
def fF (at' first:Nat):List Bool->List (Nat×Nat)
 |[]=>if first<at' then [(first,at')] else []
 |true::t=>fF (at'+1) first t
 |false::t=>(if first<at' then [(first,at')] else [])++fF (at'+1) (at'+1) t
def xq (m:Int)(ks:List Kd):List (Nat×Nat):=fF 0 0 (kj m ks)
def Qc (ks:List Kd)(i:Int):Option Kd:=if 0<=i then ks[i.toNat]? else none
theorem rZ (ks:List Kd)(n:Nat):Qc ks (n:Int)=ks[n]?:=by
 unfold Qc;rw[if_pos (by omega)];rfl
def tN:Option Kd->Bool
 |some k=>k.great
 |none=>false
def km (ks:List Kd)(f:List Int)(a:Nat):Bool:=decide (Qc ks ((a:Int)-1)=some .G)&&decide (f.getD (a-1) 0=3)
def iq (ks:List Kd)(z:Nat):Bool:=decide (ks[z]? = some .G) && !tN ks[z+1]?
def DX (ks:List Kd)(f:List Int)(a z:Nat):Bool×List Int:=if km ks f a then(true,f.set (a-1) 2) else if iq ks z then(true,f.set z 2) else(false,f)
def DY (ks:List Kd)(f:List Int)(a z:Nat):Bool×List Int:=if tN ks[z]? && decide (ks[z-1]? = some .s) then(true,f.set (z-1) 2) else if km ks f a&&iq ks z then(true,(f.set (a-1) 2).set z 2) else(false,f)
def settle (ks:List Kd)(f:List Int)(a z:Nat):Bool×List Int:=if(z-a) % 3=1 then DX ks f a z else if(z-a) % 3=2 then DY ks f a z else(true,f)
theorem Bf (ks:List Kd)(f:List Int)(a z:Nat):(settle ks f a z).2.length=f.length:=by
 unfold settle DX DY
 repeat' split
 all_goals simp
abbrev RdS:=List Int×List (Nat×Nat)
def tO (ks:List Kd)(c:RdS)(p:Nat×Nat):RdS:=((settle ks c.1 p.1 p.2).2,if(settle ks c.1 p.1 p.2).1 then c.2 else c.2++[p])
def lq (m:Int)(ks:List Kd):RdS:=(xq m ks).foldl (tO ks) (ju m ks,[])
theorem aci (ks:List Kd)(rs:List (Nat×Nat))(c:RdS):(rs.foldl (tO ks) c).1.length=c.1.length:=by
 induction rs generalizing c with
 |nil=>rfl
 |cons p t ih=>rw[List.foldl_cons,ih];exact Bf ..
theorem zR (m:Int)(ks:List Kd):(lq m ks).1.length=ks.length:=by
 unfold lq;rw[aci,uA]
theorem Lj:∀(bs:List Bool)(at' first:Nat),first<=at'->∀ p∈fF at' first bs,first<=p.1/\p.1<p.2/\p.2<=at'+bs.length
 |[],at',first,h,p,hp=>by
  unfold fF at hp;split at hp
  ·have:p=(first,at'):=by simpa using hp
   subst this;exact⟨Nat.le_refl _,by assumption,by simp⟩
  ·cases hp
 |true::t,at',first,h,p,hp=>by
  have:=Lj t (at'+1) first (by omega) p hp
  simp only [length_cons];omega
 |false::t,at',first,h,p,hp=>by
  unfold fF at hp;simp only [length_cons];rcases mem_append.mp hp with hp|hp
  ·split at hp
   ·have:p=(first,at'):=by simpa using hp
    subst this;exact⟨Nat.le_refl _,by assumption,by simp⟩
   ·cases hp
  ·have:=Lj t (at'+1) (at'+1) (Nat.le_refl _) p hp;omega
theorem acj (m:Int)(ks:List Kd):∀ p∈xq m ks,p.1<p.2/\p.2<=ks.length:=by
 intro p hp;have:=Lj (kj m ks) 0 0 (Nat.le_refl _) p hp;rw[qI]at this;omega
theorem oJ:∀(bs:List Bool)(at' first:Nat),(fF at' first bs).length<=bs.length+1
 |[],at',first=>by unfold fF;split <;> simp
 |true::t,at',first=>by
  unfold fF;have:=oJ t (at'+1) first
  simp only [length_cons];omega
 |false::t,at',first=>by
  unfold fF;have:=oJ t (at'+1) (at'+1);simp only [length_cons,length_append];split <;> simp <;> omega
def ZV (H:Hp)(v:V)(q:Nat×Nat):Prop:=∃ p,v=.ref p/\H p=some (.tup [.int (q.1:Int),.int (q.2:Int)])
abbrev V4 (H:Hp):List V->List (Nat×Nat)->Prop:=Paired (ZV H)
theorem ZV.same {H H':Hp}{v:V}{q:Nat×Nat}(e:ar H H')(h:ZV H v q):ZV H' v q:=by
 obtain⟨p,rfl,z⟩:=h;exact⟨p,rfl,e _ _ z⟩
theorem r9 {H H':Hp}(e:ar H H'){xs:List V}{qs:List (Nat×Nat)}(h:V4 H xs qs):V4 H' xs qs:=dy (fun _ _ z=>z.same e) h
theorem Ua {H:Hp}{D:Addr}{o:HO}{zs:List V}{v:V}{q:Nat×Nat}(hD:H D=some (.lst zs))(h:ZV H v q):ZV (upd H D o) v q:=by
 obtain⟨p,e,z⟩:=h;exact⟨p,e,by rw[ao (mZ z hD (by intro z;cases z))];exact z⟩
theorem qJ {H:Hp}{D:Addr}{o:HO}{zs:List V}{xs:List V}{qs:List (Nat×Nat)}(hD:H D=some (.lst zs))(h:V4 H xs qs):V4 (upd H D o) xs qs:=dy (fun _ _ q=>Ua hD q) h
theorem DZ {H:Hp}{a:Addr}{o:HO}(h:H a=some o):upd H a o=H:=by
 funext b
 unfold upd;split
 ·rename_i e;rw[e,h]
 ·rfl
theorem Gm {ks:List Kd}{f:List Int}{a:Nat}(h:km ks f a=true):1<=a/\a-1<ks.length:=by
 unfold km at h;have h1:=of_decide_eq_true (Bool.and_eq_true_iff.mp h).1;unfold Qc at h1;split at h1
 ·have:=(List.getElem?_eq_some_iff.mp h1).1;omega
 ·cases h1
theorem Bg {ks:List Kd}{z:Nat}(h:iq ks z=true):z<ks.length:=by
 unfold iq at h;have h1:=of_decide_eq_true (Bool.and_eq_true_iff.mp h).1;exact(List.getElem?_eq_some_iff.mp h1).1
theorem sd {n:Nat}{i:Int}{j:Nat}(e:i=j)(h:j<n):ixN n i=some j:=by
 unfold ixN;subst e;rw[if_pos (by omega),if_pos (by omega)];rfl
theorem qc {α:Type}{l:List α}{i:Nat}{x:α}(h:l[i]? = some x):l.drop i=x::l.drop (i+1):=by
 obtain⟨hi,e⟩:=List.getElem?_eq_some_iff.mp h;rw[List.drop_eq_getElem_cons hi,e]
theorem x3 {α β:Type}{l:List α}{f:α->β}{i:Nat}{x:α}(h:l[i]? = some x):(l.map f)[i]? = some (f x):=by rw[getElem?_map,h];rfl
abbrev bu (ss:List Sg):List Kd:=ss.map Prod.fst
theorem oB {fs:List Int}{j:Nat}{v:Int}:(fs.map V.int).set j (V.int v)=(fs.set j v).map V.int:=by rw[List.map_set]
theorem big {n:Nat}(h:n<=1000):n<=sizeLine:=Nat.le_of_lt (ba h)
theorem head_drop {α:Type}(l:List α)(i:Nat):(l.drop i).head? = l[i]?:=by
 rw[List.head?_drop]
def kI (m:Int):List Kd->List Bool
 |[]=>[]
 |k::t=>decide (nm m k=3)::kI (nm m k) t
theorem V5 (m:Int)(ks:List Kd):(kI m ks).length=ks.length:=by
 induction ks generalizing m with
 |nil=>rfl
 |cons k t ih=>simp[kI,ih]
def lead:List Bool->Nat
 |true::t=>lead t+1
 |_=>0
theorem Y2:∀ bs:List Bool,lead bs<=bs.length
 |[]=>Nat.le_refl _
 |true::t=>by simp only [lead,length_cons];have:=Y2 t;omega
 |false::t=>Nat.zero_le _
theorem Lk:∀(bs:List Bool)(at' first:Nat),first<at'+lead bs\/lead bs=0->first<=at'->fF at' first bs=(if first<at'+lead bs then [(first,at'+lead bs)] else [])++fF (at'+lead bs) (at'+lead bs) (bs.drop (lead bs))
 |[],at',first,_,h=>by
  show(if first<at' then [(first,at')] else [])=(if first<at' then [(first,at')] else [])++fF at' at' [];rw[show fF at' at' []=[] by unfold fF;rw[if_neg (Nat.lt_irrefl _)],append_nil]
 |true::t,at',first,h0,h=>by
  have ih:=Lk t (at'+1) first (.inl (by omega)) (by omega)
  have e:at'+1+lead t=at'+(lead t+1):=by omega
  rw[e]at ih;simp only [fF,lead,List.drop_succ_cons];exact ih
 |false::t,at',first,_,h=>by
  show(if first<at' then [(first,at')] else [])++fF (at'+1) (at'+1) t=(if first<at' then [(first,at')] else [])++((if at'<at' then [(at',at')] else [])++fF (at'+1) (at'+1) t);rw[if_neg (Nat.lt_irrefl at'),nil_append]
theorem Y3 {m:Int}(h:Ms m):∀(ks:List Kd)(i:Nat)(k:Kd),ks[i]? = some k->∃ b,(kI m ks)[i]? = some b/\(kj m ks)[i]? = some (k.small&&b)
 |[],i,k,e=>by simp at e
 |c::t,0,k,e=>by
  have:c=k:=by simpa using e
  subst this;refine⟨decide (nm m c=3),rfl,?_⟩;simp only [kj,List.getElem?_cons_zero,inR];have hm:=h.nm c;rcases hm with e|e <;> rw[e] <;> cases c <;> rfl
 |c::t,i+1,k,e=>by
  obtain⟨b,h1,h2⟩:=Y3 (h.nm c) t i k (by simpa using e);exact⟨b,by simpa [kI] using h1,by simpa [kj] using h2⟩
theorem Y4:∀(bs:List Bool)(j:Nat),j<=lead bs->(j<lead bs ↔ bs[j]? = some true)
 |[],j,h=>by simp[lead]
 |true::t,0,h=>by simp[lead]
 |true::t,j+1,h=>by
  have:=Y4 t j (by simp only [lead]at h;omega);simp only [lead,List.getElem?_cons_succ];rw[<-this];omega
 |false::t,j,h=>by
  have:j=0:=by simp only [lead]at h;omega
  subst this;simp[lead]
theorem agw {m:Int}{ks:List Kd}{low j:Nat}:((kj m ks).drop low)[j]? = (kj m ks)[low+j]?:=by rw[getElem?_drop]
set_option maxHeartbeats 1000000
theorem Ub (xs:List V)(n:Nat):Ak xs none (some (n:Int))=xs.take n:=by
 unfold Ak;have e:HT.m8 xs.length xs.length (some (n:Int))=min n xs.length:=HT.PR xs.length xs.length n;rw[HT.La,e,Nat.sub_zero,List.drop_zero];rcases Nat.le_total n xs.length with h|h
 ·rw[Nat.min_eq_left h]
 ·rw[Nat.min_eq_right h,take_length,List.take_of_length_le h]
theorem ad7 (xs:List V)(n:Nat)(h:n<=xs.length):Ak xs (some (n:Int)) none=xs.drop n:=by
 unfold Ak;have e:HT.m8 xs.length 0 (some (n:Int))=min n xs.length:=HT.PR xs.length 0 n;rw[HT.La,e,Nat.min_eq_left h];exact List.take_of_length_le (by rw[length_drop];omega)
theorem aiy {K:Frag}{H:Hp}{p p2:Addr}{s:Sg}(n:Nat)(h1:H p=some (.tup [.str s.1.str,.int s.2]))(h2:H p2=some (.tup [.str s.1.str,.int s.2])):Deq K H (n+1) (.ref p) (.ref p2):=by
 refine .tup (uo.of h1) (uo.of h2) rfl fun i x y e1 e2=>?_;have e:x=y:=Option.some.inj (e1.symm.trans e2);subst e
 match i,e1 with
 |0,e1=>cases e1;exact .flat rfl
 |1,e1=>cases e1;exact .flat rfl
 |n+2,e1=>simp at e1
theorem K0 {K:Frag}{H:Hp}{a b:Addr}{xs ys:List V}{ss:List Sg}(ha:aZ K H a xs)(hb:aZ K H b ys)(g:h9 H xs ss)(g2:h9 H ys ss):Deq K H 60 (.ref a) (.ref b):=by
 refine .lst ha hb ((cB g).trans (cB g2).symm) fun i x y e1 e2=>?_;obtain⟨sg,h1,p,rfl,hp⟩:=Bd g e1;obtain⟨sg',h2,p',rfl,hp'⟩:=Bd g2 e2;rw[h1]at h2;cases h2;exact aiy 58 hp hp'
def PrI (H:Hp)(v:V)(q:Int×Int):Prop:=∃ p,v=.ref p/\H p=some (.tup [.int q.1,.int q.2])
abbrev anL (H:Hp):List V->List (Int×Int)->Prop:=Paired (PrI H)
structure akO (H0 H:Hp)(l:Addr)(xs:List V)(ss:List Sg):Prop where
 same:ar H0 H
 new:H0 l=none
 at':H l=some (.lst xs)
 sg:h9 H xs ss
def Ll (K:Frag):Sp:=fun vs H Q _=>∃(a:Addr)(ns:List Int),vs=[.ref a]/\aZ K H a (ns.map V.int)/\ns.length<=63/\∀ H',Q (.bl true) H'
theorem ZW {K:Frag}{H:Hp}{a:Addr}{ns:List Int}(hl:ns.length<=63)(_:Only H)(hS:aZ K H a (ns.map V.int)):Ll K [.ref a] H (fun v _=>v=.bl true) fun _ _ _=>False :=
 ⟨a,ns,rfl,hS,hl,fun _=>rfl⟩
set_option maxHeartbeats 1000000
theorem tP {k:Str}{v:V}{r:List (Str×V)}:((k,v)::r).lookup k=some v:=by simp[List.lookup]
theorem aC {k g:Str}{v:V}{r:List (Str×V)}(h:¬ g=k):((k,v)::r).lookup g=r.lookup g:=by
 have:(g==k)=false:=beq_eq_false_iff_ne.mpr h;simp[List.lookup,this]
theorem kA {k g:Str}{x y:V}{r:List (Str×V)}(h:¬ g=k):mX k y ((g,x)::r)=(g,x)::mX k y r:=if_neg h
def voF (n:Str)(tm:V)(L:Addr):List (Str×V):=[("name",V.str n),("terms",tm),("signs",V.ref L)]
theorem Uc (n:Str)(tm:V)(L:Addr):(voF n tm L).lookup ("name":Str)=some (V.str n):=tP
theorem zS (n:Str)(tm:V)(L:Addr):(voF n tm L).lookup ("terms":Str)=some (tm):=(aC (by lk)).trans (tP)
theorem uB (n:Str)(tm:V)(L:Addr):(voF n tm L).lookup ("signs":Str)=some (V.ref L):=(aC (by lk)).trans ((aC (by lk)).trans (tP))
theorem Qd (v0:V):mX "name" v0 ([]:List (Str×V))=([("name",v0)]:List (Str×V)):=rfl
theorem Y5 (v0 v1:V):mX "terms" v1 ([("name",v0)]:List (Str×V))=([("name",v0),("terms",v1)]:List (Str×V)):=(kA (by lk)).trans (congrArg _ (rfl))
theorem ad8 (v0 v1 v2:V):mX "signs" v2 ([("name",v0),("terms",v1)]:List (Str×V))=([("name",v0),("terms",v1),("signs",v2)]:List (Str×V)):=(kA (by lk)).trans (congrArg _ ((kA (by lk)).trans (congrArg _ (rfl))))
def Jx (T:Addr)(at_:Int)(B A:Addr):List (Str×V):=[("things",V.ref T),("at",V.int at_),("before",V.ref B),("after",V.ref A)]
theorem Lm (T:Addr)(at_:Int)(B A:Addr):(Jx T at_ B A).lookup ("things":Str)=some (V.ref T):=tP
theorem Qe (T:Addr)(at_:Int)(B A:Addr):(Jx T at_ B A).lookup ("at":Str)=some (V.int at_):=(aC (by lk)).trans (tP)
theorem Ln (T:Addr)(at_:Int)(B A:Addr):(Jx T at_ B A).lookup ("before":Str)=some (V.ref B):=(aC (by lk)).trans ((aC (by lk)).trans (tP))
theorem O6 (T:Addr)(at_:Int)(B A:Addr):(Jx T at_ B A).lookup ("after":Str)=some (V.ref A):=(aC (by lk)).trans ((aC (by lk)).trans ((aC (by lk)).trans (tP)))
theorem O7 (T:Addr)(at_:Int)(B A:Addr):(Jx T at_ B A).lookup ("do":Str)=none:=(aC (by lk)).trans ((aC (by lk)).trans ((aC (by lk)).trans ((aC (by lk)).trans (rfl))))
theorem Ud (T:Addr)(at_:Int)(B A:Addr):(Jx T at_ B A).lookup ("undo":Str)=none:=(aC (by lk)).trans ((aC (by lk)).trans ((aC (by lk)).trans ((aC (by lk)).trans (rfl))))
theorem K2 (v0:V):mX "things" v0 ([]:List (Str×V))=([("things",v0)]:List (Str×V)):=rfl
theorem Qf (v0 v1:V):mX "at" v1 ([("things",v0)]:List (Str×V))=([("things",v0),("at",v1)]:List (Str×V)):=(kA (by lk)).trans (congrArg _ (rfl))
theorem Y6 (v0 v1 v2:V):mX "before" v2 ([("things",v0),("at",v1)]:List (Str×V))=([("things",v0),("at",v1),("before",v2)]:List (Str×V)):=(kA (by lk)).trans (congrArg _ ((kA (by lk)).trans (congrArg _ (rfl))))
theorem ad9 (v0 v1 v2 v3:V):mX "after" v3 ([("things",v0),("at",v1),("before",v2)]:List (Str×V))=([("things",v0),("at",v1),("before",v2),("after",v3)]:List (Str×V)):=(kA (by lk)).trans (congrArg _ ((kA (by lk)).trans (congrArg _ ((kA (by lk)).trans (congrArg _ (rfl))))))
def DH (V_ D U:Addr):List (Str×V):=[("voices",V.ref V_),("done",V.ref D),("undone",V.ref U)]
theorem kJ (V_ D U:Addr):(DH V_ D U).lookup ("voices":Str)=some (V.ref V_):=tP
theorem D0 (V_ D U:Addr):(DH V_ D U).lookup ("done":Str)=some (V.ref D):=(aC (by lk)).trans (tP)
theorem vB (V_ D U:Addr):(DH V_ D U).lookup ("undone":Str)=some (V.ref U):=(aC (by lk)).trans ((aC (by lk)).trans (tP))
theorem uC (V_ D U:Addr):(DH V_ D U).lookup ("add_voice":Str)=none:=(aC (by lk)).trans ((aC (by lk)).trans ((aC (by lk)).trans (rfl)))
theorem nj (V_ D U:Addr):(DH V_ D U).lookup ("add_canon":Str)=none:=(aC (by lk)).trans ((aC (by lk)).trans ((aC (by lk)).trans (rfl)))
theorem Jy (V_ D U:Addr):(DH V_ D U).lookup ("drop":Str)=none:=(aC (by lk)).trans ((aC (by lk)).trans ((aC (by lk)).trans (rfl)))
theorem Bh (V_ D U:Addr):(DH V_ D U).lookup ("put":Str)=none:=(aC (by lk)).trans ((aC (by lk)).trans ((aC (by lk)).trans (rfl)))
theorem V6 (V_ D U:Addr):(DH V_ D U).lookup ("cut":Str)=none:=(aC (by lk)).trans ((aC (by lk)).trans ((aC (by lk)).trans (rfl)))
theorem Ue (V_ D U:Addr):(DH V_ D U).lookup ("swap":Str)=none:=(aC (by lk)).trans ((aC (by lk)).trans ((aC (by lk)).trans (rfl)))
theorem Jz (V_ D U:Addr):(DH V_ D U).lookup ("undo":Str)=none:=(aC (by lk)).trans ((aC (by lk)).trans ((aC (by lk)).trans (rfl)))
theorem JA (V_ D U:Addr):(DH V_ D U).lookup ("redo":Str)=none:=(aC (by lk)).trans ((aC (by lk)).trans ((aC (by lk)).trans (rfl)))
theorem lL (V_ D U:Addr):(DH V_ D U).lookup ("names":Str)=none:=(aC (by lk)).trans ((aC (by lk)).trans ((aC (by lk)).trans (rfl)))
theorem jv (V_ D U:Addr):(DH V_ D U).lookup ("line":Str)=none:=(aC (by lk)).trans ((aC (by lk)).trans ((aC (by lk)).trans (rfl)))
theorem JB (V_ D U:Addr):(DH V_ D U).lookup ("kept":Str)=none:=(aC (by lk)).trans ((aC (by lk)).trans ((aC (by lk)).trans (rfl)))
theorem vC (V_ D U:Addr):(DH V_ D U).lookup ("canon":Str)=none:=(aC (by lk)).trans ((aC (by lk)).trans ((aC (by lk)).trans (rfl)))
theorem jw (V_ D U:Addr):(DH V_ D U).lookup ("perform":Str)=none:=(aC (by lk)).trans ((aC (by lk)).trans ((aC (by lk)).trans (rfl)))
theorem AS (V_ D U:Addr):(DH V_ D U).lookup ("put_in":Str)=none:=(aC (by lk)).trans ((aC (by lk)).trans ((aC (by lk)).trans (rfl)))
theorem se (V_ D U:Addr):(DH V_ D U).lookup ("refuse_new":Str)=none:=(aC (by lk)).trans ((aC (by lk)).trans ((aC (by lk)).trans (rfl)))
theorem ee (V_ D U:Addr):(DH V_ D U).lookup ("voice_called":Str)=none:=(aC (by lk)).trans ((aC (by lk)).trans ((aC (by lk)).trans (rfl)))
theorem ir (V_ D U:Addr):(DH V_ D U).lookup ("plain_voice":Str)=none:=(aC (by lk)).trans ((aC (by lk)).trans ((aC (by lk)).trans (rfl)))
theorem Qg (v0:V):mX "voices" v0 ([]:List (Str×V))=([("voices",v0)]:List (Str×V)):=rfl
theorem Y7 (v0 v1:V):mX "done" v1 ([("voices",v0)]:List (Str×V))=([("voices",v0),("done",v1)]:List (Str×V)):=(kA (by lk)).trans (congrArg _ (rfl))
theorem aea (v0 v1 v2:V):mX "undone" v2 ([("voices",v0),("done",v1)]:List (Str×V))=([("voices",v0),("done",v1),("undone",v2)]:List (Str×V)):=(kA (by lk)).trans (congrArg _ ((kA (by lk)).trans (congrArg _ (rfl))))
set_option maxHeartbeats 1000000
theorem bL {a b:TS}{D:Ends}{σ:St}{H:Hp}(h:∀ N:St->Hp->Prop,(∀ σ H,b D σ H->N σ H)->a { D with nx:=N } σ H):adF a b D σ H:=h (b D) fun _ _ z=>z
structure Vx where
 o:Addr
 d:Addr
 n:Str
 tm:V
 l:Addr
def aeb (C:Addr)(H:Hp)(v:V)(a:Vx):Prop:=v=.ref a.o/\H a.o=some (.ins C a.d (voF a.n a.tm a.l))
structure Dd where
 o:Addr
 d:Addr
 T:Addr
 i:Nat
 B:Addr
 A:Addr
 bs:List V
 as:List V
def mY (C:Addr)(H:Hp)(v:V)(e:Dd):Prop:=v=.ref e.o/\H e.o=some (.ins C e.d (Jx e.T (e.i:Int) e.B e.A))/\H e.B=some (.lst e.bs)/\H e.A=some (.lst e.as)
abbrev MM:=Addr->List V
def putAt (S:MM)(T:Addr)(zs:List V):MM:=fun b=>if b=T then zs else S b
theorem gC {S:MM}{T:Addr}{zs:List V}:putAt S T zs T=zs:=if_pos rfl
theorem oK {S:MM}{T b:Addr}{zs:List V}(h:b≠T):putAt S T zs b=S b:=if_neg h
def vc (e:Dd)(S:MM):MM:=putAt S e.T ((S e.T).take e.i++e.as++(S e.T).drop (e.i+e.bs.length))
def unD (e:Dd)(S:MM):MM:=putAt S e.T ((S e.T).take e.i++e.bs++(S e.T).drop (e.i+e.as.length))
def Fits (e:Dd)(S:MM):Prop:=e.i+e.bs.length<=(S e.T).length/\((S e.T).drop e.i).take e.bs.length=e.bs
theorem aiz {α:Type}{xs bs as:List α}{i:Nat}(h:i+bs.length<=xs.length):(xs.take i++as++xs.drop (i+bs.length)).take i=xs.take i/\(xs.take i++as++xs.drop (i+bs.length)).drop (i+as.length)=xs.drop (i+bs.length):=by
 have h1:(xs.take i).length=i:=by rw[length_take];omega
 constructor
 ·rw[List.append_assoc];exact List.take_left' h1
 ·exact List.drop_left' (by rw[length_append,h1])
theorem aiA {e:Dd}{S:MM}(h:Fits e S):unD e (vc e S)=S:=by
 funext b
 unfold unD
 by_cases hb:b=e.T
 ·subst hb;rw[gC];unfold vc;rw[gC,(aiz h.1).1,(aiz h.1).2];have h2:e.bs++(S e.T).drop (e.i+e.bs.length)=(S e.T).drop e.i:=by
   rw[<-List.drop_drop];have:=List.take_append_drop e.bs.length ((S e.T).drop e.i);rw[h.2]at this;exact this
  rw[List.append_assoc,h2,List.take_append_drop]
 ·rw[oK hb];unfold vc;rw[oK hb]
theorem aec {e:Dd}{S:MM}(h:Fits e S):e.i+e.as.length<=(vc e S e.T).length:=by
 unfold vc;rw[gC,length_append,length_append,length_take];have:=h.1;omega
inductive Path:List MM->List Dd->MM->Prop
 |nil {M:MM}:Path [] [] M
 |snoc {Ps:List MM} {es:List Dd} {S:MM} {e:Dd}:Path Ps es S->Fits e S->Path (Ps++[S]) (es++[e]) (vc e S)
inductive Fut:MM->List Dd->List MM->Prop
 |nil {M:MM}:Fut M [] []
 |snoc {M:MM} {us:List Dd} {Fs:List MM} {e:Dd}:Fits e M->Fut (vc e M) us Fs->Fut M (us++[e]) (Fs++[vc e M])
theorem Ug {α:Type}{a b:List α}{x y:α}(h:a++[x]=b++[y]):a=b/\x=y:=by
 have:=List.append_inj' h rfl;exact⟨this.1,by simpa using this.2⟩
theorem Path.last {Ps:List MM}{es:List Dd}{e:Dd}{M:MM}(h:Path Ps (es++[e]) M):∃ Ps' S,Ps=Ps'++[S]/\Path Ps' es S/\Fits e S/\M=vc e S:=by
 generalize he:es++[e]=es' at h;cases h with
 |nil=>simp at he
 |snoc p f =>
  obtain⟨rfl,rfl⟩:=Ug he;exact⟨_,_,rfl,p,f,rfl⟩
theorem Fut.last {us:List Dd}{e:Dd}{M:MM}{Fs:List MM}(h:Fut M (us++[e]) Fs):∃ Fs',Fs=Fs'++[vc e M]/\Fits e M/\Fut (vc e M) us Fs':=by
 generalize he:us++[e]=us' at h;cases h with
 |nil=>simp at he
 |snoc f p =>
  obtain⟨rfl,rfl⟩:=Ug he;exact⟨_,rfl,f,p⟩
theorem Path.len {Ps:List MM}{es:List Dd}{M:MM}(h:Path Ps es M):Ps.length=es.length:=by
 induction h with
 |nil=>rfl
 |snoc _ _ ih=>rw[length_append,length_append,ih];rfl
theorem Fut.len {us:List Dd}{M:MM}{Fs:List MM}(h:Fut M us Fs):Fs.length=us.length:=by
 induction h with
 |nil=>rfl
 |snoc _ _ ih=>rw[length_append,length_append,ih];rfl
def JC (s:Sg):Prop:=(s.1.tM=true->0<=s.2/\s.2<100)/\(s.1.tM=false->s.2=0)
def GV (H:Hp)(v:V):Prop:=∃ s,NW H v s/\JC s
structure WF (H:Hp)(L:Addr)(all:List Vx)(S:MM):Prop where
 vs:∃ vx:List Vx,Paired (fun v a=>v=V.ref a.o/\a∈all) (S L) vx
 ln:∀ a∈all,(S a.l).length<=200/\∀ v∈S a.l,GV H v
 len:(S L).length<=12
 out:∀ b,b≠L->(∀ a∈all,b≠a.l)->S b=[]
inductive Th where
 |pl (ss:List Sg)
 |cn (ld:Str) (lt sl:Int) (tn:Bool)
abbrev Vw:=List (Str×Th)
def acm (H:Hp)(S:MM)(a:Vx):Th->Prop
 |.pl ss=>a.tm=.non/\h9 H (S a.l) ss
 |.cn ld lt sl tn=>∃ p,a.tm=.ref p/\H p=some (.tup [.str ld,.int lt,.int sl,.bl tn])
def V7 (H:Hp)(all:List Vx)(S:MM)(v:V)(q:Str×Th):Prop:=∃ a∈all,v=.ref a.o/\a.n=q.1/\acm H S a q.2
abbrev Is (H:Hp)(L:Addr)(all:List Vx)(S:MM)(vw:Vw):Prop:=Paired (V7 H all S) (S L) vw
structure zT (vw:Vw):Prop where
 nd:(vw.map (·.1)).Nodup
 ld:∀ n ld lt sl tn,(n,Th.cn ld lt sl tn)∈vw->(∃ ss,(ld,Th.pl ss)∈vw)/\0<=lt/\lt<=999/\1<=sl/\sl<=9
 gd:∀ n ss,(n,Th.pl ss)∈vw->ss.length<=200/\∀ s∈ss,JC s
 len:vw.length<=12
structure NX (CB CV CD:Addr)(H:Hp)(x L D U:Addr)(all:List Vx)(M:MM)(Ps Fs:List MM)(es us:List Dd):Prop where
 hx:∃ dx,H x=some (.ins CB dx (DH L D U))
 hL:H L=some (.lst (M L))
 hD:∃ xs,H D=some (.lst xs)/\Paired (mY CD H) xs es
 hU:∃ xs,H U=some (.lst xs)/\Paired (mY CD H) xs us
 ha:∀ a∈all,H a.o=some (.ins CV a.d (voF a.n a.tm a.l))/\H a.l=some (.lst (M a.l))
 LD:L≠D
 LU:L≠U
 DU:D≠U
 nl:∀ a∈all,a.l≠L/\a.l≠D/\a.l≠U
 ni:∀ a∈all,∀ b∈all,a.l=b.l->a=b
 no:∀ a∈all,∀ b∈all,a.o=b.o->a=b
 dd:∀ e,e∈es\/e∈us->(e.T=L\/∃ a∈all,e.T=a.l)/\(e.B≠L/\e.B≠D/\e.B≠U/\∀ a∈all,e.B≠a.l)/\(e.A≠L/\e.A≠D/\e.A≠U/\∀ a∈all,e.A≠a.l)/\e.bs.length<=1/\e.as.length<=1
 past:Path Ps es M
 fut:Fut M us Fs
 wf:∀ S,S∈Ps\/S=M\/S∈Fs->WF H L all S
structure Uh (F:Addr->Prop)(L D U:Addr)(all:List Vx)(es us:List Dd):Prop where
 L:F L
 D:F D
 U:F U
 l:∀ a∈all,F a.l
 d:∀ e,e∈es\/e∈us->F e.B/\F e.A
structure Bk (CB CV CD:Addr)(H:Hp)(x:Addr)(F:Addr->Prop)(vw:Vw)(ps fs:List Vw):Prop where
 ex:∃(L D U:Addr)(all:List Vx)(M:MM)(Ps Fs:List MM)(es us:List Dd),NX CB CV CD H x L D U all M Ps Fs es us/\Is H L all M vw/\Paired (Is H L all) Ps ps/\Paired (Is H L all) Fs fs/\Uh F L D U all es us
 wv:∀ v,v∈ps\/v=vw\/v∈fs->zT v
def Kept (F:Addr->Prop)(H H':Hp):Prop:=∀ y o,H y=some o->(F y\/∀ xs,o≠.lst xs)->H' y=some o
theorem Kept.same {F:Addr->Prop}{H H':Hp}(s:ar H H'):Kept F H H':=fun y o e _=>s y o e
section
variable {CB CV CD:Addr} {H H':Hp} {x L D U:Addr} {all:List Vx} {M S:MM} {Ps Fs:List MM} {es us:List Dd} {F:Addr->Prop} {vw:Vw} {ps fs:List Vw}
theorem Kept.sgs (k:Kept F H H'){xs:List V}{ss:List Sg}(h:h9 H xs ss):h9 H' xs ss:=dy (fun _ _ ⟨p,e1,e2⟩=>⟨p,e1,k _ _ e2 (.inr fun _ z=>nomatch z)⟩) h
theorem Kept.gv (k:Kept F H H'){v:V}(h:GV H v):GV H' v:=by
 obtain⟨s,⟨p,e1,e2⟩,g⟩:=h;exact⟨s,⟨p,e1,k _ _ e2 (.inr fun _ z=>nomatch z)⟩,g⟩
theorem WF.kept (k:Kept F H H')(h:WF H L all S):WF H' L all S:=⟨h.vs,fun a ha=>⟨(h.ln a ha).1,fun v hv=>k.gv ((h.ln a ha).2 v hv)⟩,h.len,h.out⟩
theorem V7.kept (k:Kept F H H'){v:V}{q:Str×Th}(h:V7 H all S v q):V7 H' all S v q:=by
 obtain⟨a,ha,e1,e2,t⟩:=h;refine⟨a,ha,e1,e2,?_⟩;cases hq:q.2 with
 |pl ss=>rw[hq]at t;exact⟨t.1,k.sgs t.2⟩
 |cn ld lt sl tn =>
  rw[hq]at t;obtain⟨p,e3,e4⟩:=t;exact⟨p,e3,k _ _ e4 (.inr fun _ z=>nomatch z)⟩
theorem Is.kept (k:Kept F H H')(h:Is H L all S vw):Is H' L all S vw:=dy (fun _ _ q=>V7.kept k q) h
theorem jO (k:Kept F H H'){v:V}{e:Dd}(f:F e.B/\F e.A)(h:mY CD H v e):mY CD H' v e:=⟨h.1,k _ _ h.2.1 (.inr fun _ z=>nomatch z),k _ _ h.2.2.1 (.inl f.1),k _ _ h.2.2.2 (.inl f.2)⟩
theorem oW {α β:Type}{F G:α->β->Prop}:∀{xs:List α} {ys:List β},(∀ x y,y∈ys->F x y->G x y)->Paired F xs ys->Paired G xs ys
 |_,_,_,.nil=>.nil
 |_,_,h,.cons a b=>.cons (h _ _ (mem_cons_self ..) a) (oW (fun x y hy=>h x y (mem_cons_of_mem _ hy)) b)
theorem NX.kept (h:NX CB CV CD H x L D U all M Ps Fs es us)(f:Uh F L D U all es us)(k:Kept F H H'):NX CB CV CD H' x L D U all M Ps Fs es us :=
 {
  h with
  hx:=let ⟨dx,e⟩:=h.hx;⟨dx,k _ _ e (.inr fun _ z=>nomatch z)⟩
  hL:=k _ _ h.hL (.inl f.L)
  hD:=let ⟨xs,e,p⟩:=h.hD;⟨xs,k _ _ e (.inl f.D),oW (fun _ e he q=>jO k (f.d e (.inl he)) q) p⟩
  hU:=let ⟨xs,e,p⟩:=h.hU;⟨xs,k _ _ e (.inl f.U),oW (fun _ e he q=>jO k (f.d e (.inr he)) q) p⟩
  ha:=fun a m=>⟨k _ _ (h.ha a m).1 (.inr fun _ z=>nomatch z),k _ _ (h.ha a m).2 (.inl (f.l a m))⟩
  wf:=fun S hS=>(h.wf S hS).kept k }
theorem Bk.kept (h:Bk CB CV CD H x F vw ps fs)(k:Kept F H H'):Bk CB CV CD H' x F vw ps fs:=by
 obtain⟨L,D,U,all,M,Ps,Fs,es,us,b,i,pp,pf,f⟩:=h.ex;exact⟨⟨L,D,U,all,M,Ps,Fs,es,us,b.kept f k,Is.kept k i,dy (fun _ _ q=>Is.kept k q) pp,dy (fun _ _ q=>Is.kept k q) pf,f⟩,h.wv⟩
theorem Bk.same (h:Bk CB CV CD H x F vw ps fs)(s:ar H H'):Bk CB CV CD H' x F vw ps fs:=h.kept (.same s)
theorem NX.vD (b:NX CB CV CD H x L D U all M Ps Fs es us)(i:Is H L all M vw):∃ vx:List Vx,Paired (aeb CV H) (M L) vx/\Paired (fun a q=>a∈all/\a.n=q.1/\acm H M a q.2) vx vw:=by
 have go:∀{xs:List V} {vw:Vw},Paired (V7 H all M) xs vw->∃ vx:List Vx,Paired (aeb CV H) xs vx/\Paired (fun a q=>a∈all/\a.n=q.1/\acm H M a q.2) vx vw:=by
  intro xs vw h
  induction h with
  |nil=>exact⟨[],.nil,.nil⟩
  |cons q _ ih =>
   obtain⟨a,ha,e1,e2,e3⟩:=q;obtain⟨vx,p1,p2⟩:=ih;exact⟨a::vx,.cons ⟨e1,(b.ha a ha).1⟩ p1,.cons ⟨ha,e2,e3⟩ p2⟩
 exact go i
def ZX (L D U:Addr)(all:List Vx)(e:Dd):Prop:=(e.T=L\/∃ a∈all,e.T=a.l)/\(e.B≠L/\e.B≠D/\e.B≠U/\∀ a∈all,e.B≠a.l)/\(e.A≠L/\e.A≠D/\e.A≠U/\∀ a∈all,e.A≠a.l)/\e.bs.length<=1/\e.as.length<=1
theorem NX.lists (b:NX CB CV CD H x L D U all M Ps Fs es us){T:Addr}(tg:T=L\/∃ a∈all,T=a.l):H T=some (.lst (M T))/\T≠D/\T≠U:=by
 rcases tg with rfl|⟨a,ha,rfl⟩
 ·exact⟨b.hL,b.LD,b.LU⟩
 ·exact⟨(b.ha a ha).2,(b.nl a ha).2.1,(b.nl a ha).2.2⟩
theorem NX.chg (b:NX CB CV CD H x L D U all M Ps Fs es us){T:Addr}(tg:T=L\/∃ a∈all,T=a.l){H2:Hp}(fr:∀ y o,H y=some o->y≠T->y≠D->y≠U->H2 y=some o){M':MM}(m1:∀ c,c≠T->M' c=M c)(hT:H2 T=some (.lst (M' T)))
  {dx:List V} {es':List Dd} (hD:H2 D=some (.lst dx)) (pD:Paired (mY CD H) dx es') {ux:List V} {us':List Dd} (hU:H2 U=some (.lst ux)) (pU:Paired (mY CD H) ux us') (dd':∀ e,e∈es'\/e∈us'->ZX L D U all e)
  {Ps' Fs':List MM} (aiB:Path Ps' es' M') (akR:Fut M' us' Fs') (wf':∀ S,S∈Ps'\/S=M'\/S∈Fs'->WF H L all S):NX CB CV CD H2 x L D U all M' Ps' Fs' es' us'/\Kept (fun _=>False) H H2:=by
 obtain⟨hT0,TD,TU⟩:=b.lists tg;obtain⟨dx0,hD0,_⟩:=b.hD;obtain⟨ux0,Ti,_⟩:=b.hU;have kN:∀ y o,H y=some o->(∀ zs,o≠.lst zs)->H2 y=some o:=fun y o hy hn=>fr y o hy
  (fun e=>by rw[e,hT0]at hy;cases hy;exact hn _ rfl) (fun e=>by rw[e,hD0]at hy;cases hy;exact hn _ rfl) (fun e=>by rw[e,Ti]at hy;cases hy;exact hn _ rfl)
 have k:Kept (fun _=>False) H H2:=fun y o hy h=>kN y o hy (h.elim False.elim id);have dk:∀{v e},ZX L D U all e->mY CD H v e->mY CD H2 v e:=fun {v e} ok h=>by
  have nT:∀{c:Addr},c≠L/\c≠D/\c≠U/\(∀ a∈all,c≠a.l)->c≠T:=fun {c} q z=>by
   rcases tg with rfl|⟨a,ha,rfl⟩
   ·exact q.1 z
   ·exact q.2.2.2 a ha z
  exact⟨h.1,kN _ _ h.2.1 (fun _ z=>nomatch z),fr _ _ h.2.2.1 (nT ok.2.1) ok.2.1.2.1 ok.2.1.2.2.1,fr _ _ h.2.2.2 (nT ok.2.2.1) ok.2.2.1.2.1 ok.2.2.1.2.2.1⟩
 have at_:∀{c:Addr},(c=L\/∃ a∈all,c=a.l)->H2 c=some (.lst (M' c)):=fun {c} hc=>by
  by_cases e:c=T
  ·rw[e];exact hT
  ·obtain⟨h1,h2,h3⟩:=b.lists hc;rw[m1 c e];exact fr _ _ h1 e h2 h3
 refine⟨{
      hx:=let ⟨dx,e⟩:=b.hx;⟨dx,kN _ _ e (fun _ z=>nomatch z)⟩
      hL:=at_ (.inl rfl)
      hD:=⟨_,hD,oW (fun _ e he q=>dk (dd' e (.inl he)) q) pD⟩
      hU:=⟨_,hU,oW (fun _ e he q=>dk (dd' e (.inr he)) q) pU⟩
      ha:=fun a ha=>⟨kN _ _ (b.ha a ha).1 (fun _ z=>nomatch z),at_ (.inr ⟨a,ha,rfl⟩)⟩
      LD:=b.LD,LU:=b.LU,DU:=b.DU,nl:=b.nl,ni:=b.ni,no:=b.no,dd:=dd'
      past:=aiB
      fut:=akR
      wf:=fun S hS=>(wf' S hS).kept k },k⟩
theorem NX.grow (b:NX CB CV CD H x L D U all M Ps Fs es us){a:Vx}{H1:Hp}(s:ar H H1)(n1:H a.o=none)(n2:H a.l=none)(h1:H1 a.o=some (.ins CV a.d (voF a.n a.tm a.l)))(h2:H1 a.l=some (.lst [])):NX CB CV CD H1 x L D U (all++[a]) M Ps Fs es us:=by
 have b1:=b.kept (F:=fun _=>True) ⟨trivial,trivial,trivial,fun _ _=>trivial,fun _ _=>⟨trivial,trivial⟩⟩ (.same s);obtain⟨dx0,hD0,pD0⟩:=b.hD;obtain⟨ux0,Ti,pU0⟩:=b.hU;have nL:a.l≠L:=Ne.symm (aq b.hL n2);have nD:a.l≠D:=Ne.symm (aq hD0 n2);have nU:a.l≠U:=Ne.symm (aq Ti n2);have nA:∀ c∈all,a.l≠c.l:=fun c hc=>Ne.symm (aq (b.ha c hc).2 n2);have nO:∀ c∈all,a.o≠c.o:=fun c hc=>Ne.symm (aq (b.ha c hc).1 n1);have mem:∀{c:Vx},c∈all++[a]->c∈all\/c=a:=fun h=>by simpa using h
 have wf2:∀ S,WF H1 L all S->WF H1 L (all++[a]) S:=fun S w =>
  {
   vs:=let ⟨vx,p⟩:=w.vs;⟨vx,dy (fun _ _ q=>⟨q.1,mem_append_left _ q.2⟩) p⟩
   ln:=fun c hc=>by
    rcases mem hc with hc|rfl
    ·exact w.ln c hc
    ·have e:S c.l=[]:=w.out c.l nL fun d hd=>nA d hd;rw[e];exact⟨Nat.zero_le _,fun _ z=>nomatch z⟩
   len:=w.len
   out:=fun c h h'=>w.out c h fun d hd=>h' d (mem_append_left _ hd) }
 have dds:∀{v e},mY CD H v e->e.B≠a.l/\e.A≠a.l:=fun h=>⟨aq h.2.2.1 n2,aq h.2.2.2 n2⟩;have ddn:∀ e,e∈es\/e∈us->e.B≠a.l/\e.A≠a.l:=fun e he=>by
  rcases he with he|he
  ·obtain⟨i,hi⟩:=getElem?_of_mem he;obtain⟨v,_,q⟩:=rY pD0 hi;exact dds q
  ·obtain⟨i,hi⟩:=getElem?_of_mem he;obtain⟨v,_,q⟩:=rY pU0 hi;exact dds q
 exact { b1 with
  ha:=fun c hc=>by
   rcases mem hc with hc|rfl
   ·exact b1.ha c hc
   ·refine⟨h1,?_⟩;rw[(b.wf M (.inr (.inl rfl))).out c.l nL fun d hd=>nA d hd];exact h2
  nl:=fun c hc=>by
   rcases mem hc with hc|rfl
   ·exact b1.nl c hc
   ·exact⟨nL,nD,nU⟩
  ni:=fun c hc d hd e=>by
   rcases mem hc with z1|z1 <;> rcases mem hd with z2|z2
   ·exact b1.ni c z1 d z2 e
   ·rw[z2]at e;exact absurd e.symm (nA c z1)
   ·rw[z1]at e;exact absurd e (nA d z2)
   ·rw[z1,z2]
  no:=fun c hc d hd e=>by
   rcases mem hc with z1|z1 <;> rcases mem hd with z2|z2
   ·exact b1.no c z1 d z2 e
   ·rw[z2]at e;exact absurd e.symm (nO c z1)
   ·rw[z1]at e;exact absurd e (nO d z2)
   ·rw[z1,z2]
  dd:=fun e he=>by
   obtain⟨q1,q2,q3,q4⟩:=b1.dd e he;refine⟨q1.imp id fun⟨c,hc,z⟩=>⟨c,mem_append_left _ hc,z⟩,⟨q2.1,q2.2.1,q2.2.2.1,fun c hc=>?_⟩,⟨q3.1,q3.2.1,q3.2.2.1,fun c hc=>?_⟩,q4⟩
   ·rcases mem hc with hc|rfl
    ·exact q2.2.2.2 c hc
    ·exact(ddn e he).1
   ·rcases mem hc with hc|rfl
    ·exact q3.2.2.2 c hc
    ·exact(ddn e he).2
  wf:=fun S hS=>wf2 S (b1.wf S hS) }
theorem Is.grow {a:Vx}(h:Is H L all S vw):Is H L (all++[a]) S vw:=dy (fun _ _ ⟨c,hc,q⟩=>⟨c,mem_append_left _ hc,q⟩) h
end
set_option maxHeartbeats 1000000
section
variable {CB CV CD:Addr} {H H1 H2 H':Hp} {x L D U:Addr} {all:List Vx} {M S:MM} {Ps Fs:List MM} {es us:List Dd} {F:Addr->Prop} {vw vw':Vw} {ps fs:List Vw}
theorem Bk.deed (b:NX CB CV CD H1 x L D U all M Ps Fs es us)(i:Is H1 L all M vw)(pp:Paired (Is H1 L all) Ps ps)(f:Uh F L D U all es us)(wv:∀ v,v∈ps\/v=vw->zT v){e:Dd}(hd:mY CD H1 (.ref e.o) e)(ok:ZX L D U all e)(ft:Fits e M)(w:WF H1 L all (vc e M))
  (i':Is H1 L all (vc e M) vw') (wv':zT vw') {dx:List V} (pD:Paired (mY CD H1) dx es) (fr:∀ y o,H1 y=some o->y≠e.T->y≠D->y≠U->H2 y=some o) (hT:H2 e.T=some (.lst (vc e M e.T))) (hD2:H2 D=some (.lst (dx++[.ref e.o]))) (hU2:H2 U=some (.lst [])) :
  Bk CB CV CD H2 x (fun y=>F y\/y=e.B\/y=e.A) vw' (ps++[vw]) []:=by
 obtain⟨b2,k⟩:=b.chg ok.1 fr (M':=vc e M) (fun c hc=>oK hc) hT hD2 (qH pD hd) hU2 .nil (fun e' he=>by
  rcases he with he|he
  ·rcases mem_append.mp he with he|he
   ·exact b.dd e' (.inl he)
   ·rw[mem_singleton.mp he];exact ok
  ·cases he) (b.past.snoc ft) .nil (fun S hS=>by
  rcases hS with hS|hS|hS
  ·rcases mem_append.mp hS with hS|hS
   ·exact b.wf S (.inl hS)
   ·exact b.wf S (.inr (.inl (mem_singleton.mp hS)))
  ·rw[hS];exact w
  ·cases hS)
 refine⟨⟨L,D,U,all,_,_,_,_,_,b2,Is.kept k i',qH (dy (fun _ _ q=>Is.kept k q) pp) (Is.kept k i),.nil,⟨.inl f.L,.inl f.D,.inl f.U,fun a ha=>.inl (f.l a ha),fun e' he=>?_⟩⟩,fun v hv=>?_⟩
 ·rcases he with he|he
  ·rcases mem_append.mp he with he|he
   ·exact⟨.inl (f.d e' (.inl he)).1,.inl (f.d e' (.inl he)).2⟩
   ·rw[mem_singleton.mp he];exact⟨.inr (.inl rfl),.inr (.inr rfl)⟩
  ·cases he
 ·rcases hv with hv|hv|hv
  ·rcases mem_append.mp hv with hv|hv
   ·exact wv v (.inl hv)
   ·exact wv v (.inr (mem_singleton.mp hv))
  ·rw[hv];exact wv'
  ·cases hv
theorem Lo {α β:Type}{F:α->β->Prop}:∀{xs:List α} {x:α} {zs:List β},Paired F (xs++[x]) zs->∃ ys y,zs=ys++[y]/\Paired F xs ys/\F x y
 |[],_,_,.cons r .nil=>⟨[],_,rfl,.nil,r⟩
 |_::_,_,_,.cons r t=>by
  obtain⟨ys,y,rfl,p,q⟩:=Lo t;exact⟨_::ys,y,rfl,.cons r p,q⟩
theorem Bk.agz (b:NX CB CV CD H x L D U all M Ps Fs es us)(i:Is H L all M vw)(pp:Paired (Is H L all) Ps ps)(pf:Paired (Is H L all) Fs fs)(f:Uh F L D U all es us)(wv:∀ v,v∈ps\/v=vw\/v∈fs->zT v){e:Dd}{es0:List Dd}(he:es=es0++[e]){dx ux:List V}(pD:Paired (mY CD H) dx es0)(hd:mY CD H (.ref e.o) e)(pU:Paired (mY CD H) ux us)
  (fr:∀ y o,H y=some o->y≠e.T->y≠D->y≠U->H2 y=some o) (hT:H2 e.T=some (.lst (unD e M e.T))) (hD2:H2 D=some (.lst dx)) (hU2:H2 U=some (.lst (ux++[.ref e.o]))) :
  ∃ ps0 v,ps=ps0++[v]/\Bk CB CV CD H2 x F v ps0 (fs++[vw]):=by
 subst he;obtain⟨Ps0,S,rfl,p0,ft,rfl⟩:=b.past.last;have ok:=b.dd e (.inl (mem_append_right _ (List.mem_singleton_self _)));rw[aiA ft]at hT;obtain⟨b2,k⟩:=b.chg ok.1 fr (M':=S) (fun c hc=>(oK hc).symm) hT hD2 pD hU2 (qH pU hd) (fun e' he=>by
  rcases he with he|he
  ·exact b.dd e' (.inl (mem_append_left _ he))
  ·rcases mem_append.mp he with he|he
   ·exact b.dd e' (.inr he)
   ·rw[mem_singleton.mp he];exact ok) p0 (Fut.snoc ft b.fut) (fun T hT=>by
  rcases hT with hT|hT|hT
  ·exact b.wf T (.inl (mem_append_left _ hT))
  ·exact b.wf T (.inl (mem_append_right _ (mem_singleton.mpr hT)))
  ·rcases mem_append.mp hT with hT|hT
   ·exact b.wf T (.inr (.inr hT))
   ·exact b.wf T (.inr (.inl (mem_singleton.mp hT))))
 obtain⟨ps0,v,rfl,pp0,iv⟩:=Lo pp;refine⟨ps0,v,rfl,⟨⟨L,D,U,all,_,_,_,_,_,b2,Is.kept k iv,dy (fun _ _ q=>Is.kept k q) pp0,qH (dy (fun _ _ q=>Is.kept k q) pf) (Is.kept k i),⟨f.L,f.D,f.U,f.l,fun e' he=>?_⟩⟩,fun u hu=>?_⟩⟩
 ·rcases he with he|he
  ·exact f.d e' (.inl (mem_append_left _ he))
  ·rcases mem_append.mp he with he|he
   ·exact f.d e' (.inr he)
   ·rw[mem_singleton.mp he];exact f.d e (.inl (mem_append_right _ (List.mem_singleton_self _)))
 ·rcases hu with hu|hu|hu
  ·exact wv u (.inl (mem_append_left _ hu))
  ·exact wv u (.inl (mem_append_right _ (mem_singleton.mpr hu)))
  ·rcases mem_append.mp hu with hu|hu
   ·exact wv u (.inr (.inr hu))
   ·exact wv u (.inr (.inl (mem_singleton.mp hu)))
theorem Bk.agA (b:NX CB CV CD H x L D U all M Ps Fs es us)(i:Is H L all M vw)(pp:Paired (Is H L all) Ps ps)(pf:Paired (Is H L all) Fs fs)(f:Uh F L D U all es us)(wv:∀ v,v∈ps\/v=vw\/v∈fs->zT v){e:Dd}{us0:List Dd}(he:us=us0++[e]){dx ux:List V}(pD:Paired (mY CD H) dx es)(hd:mY CD H (.ref e.o) e)(pU:Paired (mY CD H) ux us0)
  (fr:∀ y o,H y=some o->y≠e.T->y≠D->y≠U->H2 y=some o) (hT:H2 e.T=some (.lst (vc e M e.T))) (hD2:H2 D=some (.lst (dx++[.ref e.o]))) (hU2:H2 U=some (.lst ux)) :
  ∃ fs0 v,fs=fs0++[v]/\Bk CB CV CD H2 x F v (ps++[vw]) fs0:=by
 subst he;obtain⟨Fs0,rfl,ft,p0⟩:=b.fut.last;have ok:=b.dd e (.inr (mem_append_right _ (List.mem_singleton_self _)));obtain⟨b2,k⟩:=b.chg ok.1 fr (M':=vc e M) (fun c hc=>oK hc) hT hD2 (qH pD hd) hU2 pU (fun e' he=>by
  rcases he with he|he
  ·rcases mem_append.mp he with he|he
   ·exact b.dd e' (.inl he)
   ·rw[mem_singleton.mp he];exact ok
  ·exact b.dd e' (.inr (mem_append_left _ he))) (b.past.snoc ft) p0 (fun T hT=>by
  rcases hT with hT|hT|hT
  ·rcases mem_append.mp hT with hT|hT
   ·exact b.wf T (.inl hT)
   ·exact b.wf T (.inr (.inl (mem_singleton.mp hT)))
  ·exact b.wf T (.inr (.inr (mem_append_right _ (mem_singleton.mpr hT))))
  ·exact b.wf T (.inr (.inr (mem_append_left _ hT))))
 obtain⟨fs0,v,rfl,pf0,iv⟩:=Lo pf;refine⟨fs0,v,rfl,⟨⟨L,D,U,all,_,_,_,_,_,b2,Is.kept k iv,qH (dy (fun _ _ q=>Is.kept k q) pp) (Is.kept k i),dy (fun _ _ q=>Is.kept k q) pf0,⟨f.L,f.D,f.U,f.l,fun e' he=>?_⟩⟩,fun u hu=>?_⟩⟩
 ·rcases he with he|he
  ·rcases mem_append.mp he with he|he
   ·exact f.d e' (.inl he)
   ·rw[mem_singleton.mp he];exact f.d e (.inr (mem_append_right _ (List.mem_singleton_self _)))
  ·exact f.d e' (.inr (mem_append_left _ he))
 ·rcases hu with hu|hu|hu
  ·rcases mem_append.mp hu with hu|hu
   ·exact wv u (.inl hu)
   ·exact wv u (.inr (.inl (mem_singleton.mp hu)))
  ·exact wv u (.inr (.inr (mem_append_right _ (mem_singleton.mpr hu))))
  ·exact wv u (.inr (.inr (mem_append_left _ hu)))
def aM (vw:Vw)(n:Str):Option Th:=(vw.find? fun q=>decide (q.1=n)).map (·.2)
def iY (vw:Vw)(n:Str)(th:Th):Vw:=vw.map fun q=>if q.1=n then(n,th) else q
theorem di {n:Str}{th:Th}(h:aM vw n=some th):(n,th)∈vw:=by
 unfold aM at h;cases e:vw.find? (fun q=>decide (q.1=n)) with
 |none=>rw[e]at h;cases h
 |some q =>
  rw[e]at h;have h1:=List.mem_of_find?_eq_some e;have h2:=List.find?_some e;have h3:q.1=n:=of_decide_eq_true h2;have h4:q.2=th:=Option.some.inj h;rw[<-h3,<-h4];exact h1
theorem kK {n:Str}(h:aM vw n=none):∀ q∈vw,q.1≠n:=by
 unfold aM at h;rw[Option.map_eq_none_iff]at h;intro q hq e;exact List.find?_eq_none.mp h q hq (decide_eq_true e)
theorem uD:∀{l:List Str} {i j:Nat} {n:Str},l.Nodup->l[i]? = some n->l[j]? = some n->i=j
 |[],_,_,_,_,h,_=>by simp at h
 |a::l,i,j,n,nd,h1,h2=>by
  obtain⟨na,nd'⟩:=List.nodup_cons.mp nd
  match i,j,h1,h2 with
  |0,0,_,_=>rfl
  |0,j+1,h1,h2 =>
   rw[List.getElem?_cons_zero]at h1;rw[List.getElem?_cons_succ]at h2;cases h1;exact absurd (mem_of_getElem? h2) na
  |i+1,0,h1,h2 =>
   rw[List.getElem?_cons_zero]at h2;rw[List.getElem?_cons_succ]at h1;cases h2;exact absurd (mem_of_getElem? h1) na
  |i+1,j+1,h1,h2 =>
   rw[List.getElem?_cons_succ]at h1 h2;rw[uD nd' h1 h2]
theorem zT.uniq (w:zT vw){q q':Str×Th}(h:q∈vw)(h':q'∈vw)(e:q.1=q'.1):q=q':=by
 obtain⟨i,hi⟩:=getElem?_of_mem h;obtain⟨j,hj⟩:=getElem?_of_mem h';have h1:(vw.map (·.1))[i]? = some q.1:=by rw[getElem?_map,hi];rfl
 have h2:(vw.map (·.1))[j]? = some q.1:=by rw[getElem?_map,hj,e];rfl
 have:=uD w.nd h1 h2;subst this;rw[hi]at hj;exact Option.some.inj hj
theorem zT.find (w:zT vw){n:Str}{th:Th}(h:(n,th)∈vw):aM vw n=some th:=by
 cases e:aM vw n with
 |none=>exact absurd rfl (kK e _ h)
 |some t =>
  have:=w.uniq (di e) h rfl;rw[Prod.mk.injEq]at this;rw[this.2]
theorem Lp (n:Str)(th:Th):(iY vw n th).map (·.1)=vw.map (·.1):=by
 unfold iY;rw[List.map_map];refine List.map_congr_left fun q _=>?_;show(if q.1=n then(n,th) else q).1=q.1;split
 ·next h=>exact h.symm
 ·rfl
theorem Ui {n:Str}{th:Th}{q:Str×Th}(h:q∈iY vw n th):(q=(n,th)/\∃ q'∈vw,q'.1=n)\/(q∈vw/\q.1≠n):=by
 obtain⟨q',h1,h2⟩:=mem_map.mp h;split at h2
 ·next e=>exact .inl ⟨h2.symm,q',h1,e⟩
 ·next e=>rw[<-h2];exact .inr ⟨h1,e⟩
theorem V8 {n:Str}{th:Th}{q:Str×Th}(h:q∈vw)(hn:q.1≠n):q∈iY vw n th:=mem_map.mpr ⟨q,h,if_neg hn⟩
theorem acn {n:Str}{th t:Th}(h:(n,t)∈vw):(n,th)∈iY vw n th:=mem_map.mpr ⟨(n,t),h,if_pos rfl⟩
theorem zT.set (w:zT vw){n:Str}{ss ss':List Sg}(h:(n,Th.pl ss)∈vw)(h1:ss'.length<=200)(h2:∀ s∈ss',JC s):zT (iY vw n (.pl ss')) where
 nd:=by rw[Lp];exact w.nd
 ld:=fun m ld lt sl tn hm=>by
  rcases Ui hm with ⟨e,_⟩|⟨hm',_⟩
  ·cases e
  ·obtain⟨⟨s0,h0⟩,r⟩:=w.ld m ld lt sl tn hm';refine⟨?_,r⟩
   by_cases e:ld=n
   ·rw[e];exact⟨ss',acn h⟩
   ·exact⟨s0,V8 h0 e⟩
 gd:=fun m s0 hm=>by
  rcases Ui hm with ⟨e,_⟩|⟨hm',_⟩
  ·cases e;exact⟨h1,h2⟩
  ·exact w.gd m s0 hm'
 len:=by
  have:=congrArg List.length (Lp (vw:=vw) n (.pl ss'));rw[length_map,length_map]at this;rw[this];exact w.len
theorem zT.aiC (w:zT vw){n:Str}(hn:∀ q∈vw,q.1≠n)(hl:vw.length<12):zT (vw++[(n,.pl [])]) where
 nd:=by
  rw[map_append,List.nodup_append];refine⟨w.nd,by simp,?_⟩;intro a ha c hc e;obtain⟨q,hq,e1⟩:=mem_map.mp ha;have:c=n:=by simpa using hc
  exact hn q hq (by rw[e1,e,this])
 ld:=fun m ld lt sl tn hm=>by
  rcases mem_append.mp hm with hm|hm
  ·obtain⟨⟨s0,h0⟩,r⟩:=w.ld m ld lt sl tn hm;exact⟨⟨s0,mem_append_left _ h0⟩,r⟩
  ·have:=mem_singleton.mp hm;cases this
 gd:=fun m s0 hm=>by
  rcases mem_append.mp hm with hm|hm
  ·exact w.gd m s0 hm
  ·have:=mem_singleton.mp hm;cases this;exact⟨Nat.zero_le _,fun _ z=>nomatch z⟩
 len:=by rw[length_append];exact hl
theorem zT.aiD (w:zT vw){n ld:Str}{lt sl:Int}{tn:Bool}{ss:List Sg}(hn:∀ q∈vw,q.1≠n)(hl:vw.length<12)(h:(ld,Th.pl ss)∈vw)(h1:0<=lt)(h2:lt<=999)(h3:1<=sl)(h4:sl<=9):zT (vw++[(n,.cn ld lt sl tn)]) where
 nd:=by
  rw[map_append,List.nodup_append];refine⟨w.nd,by simp,?_⟩;intro a ha c hc e;obtain⟨q,hq,e1⟩:=mem_map.mp ha;have:c=n:=by simpa using hc
  exact hn q hq (by rw[e1,e,this])
 ld:=fun m l2 t2 s2 n2 hm=>by
  rcases mem_append.mp hm with hm|hm
  ·obtain⟨⟨s0,h0⟩,r⟩:=w.ld m l2 t2 s2 n2 hm;exact⟨⟨s0,mem_append_left _ h0⟩,r⟩
  ·have:=mem_singleton.mp hm;cases this;exact⟨⟨ss,mem_append_left _ h⟩,h1,h2,h3,h4⟩
 gd:=fun m s0 hm=>by
  rcases mem_append.mp hm with hm|hm
  ·exact w.gd m s0 hm
  ·have:=mem_singleton.mp hm;cases this
 len:=by rw[length_append];exact hl
theorem afy {α β γ:Type}{F:α->β->Prop}{G:α->γ->Prop}{f:β->γ}:∀{xs:List α} {ys:List β},Paired F xs ys->(∀(k:Nat) x y,xs[k]? = some x->ys[k]? = some y->F x y->G x (f y))->Paired G xs (ys.map f)
 |_,_,.nil,_=>.nil
 |_,_,.cons a b,h=>.cons (h 0 _ _ rfl rfl a) (afy b fun k x y e1 e2=>h (k+1) x y (by simpa using e1) (by simpa using e2))
theorem Is.line (b:NX CB CV CD H x L D U all M Ps Fs es us)(i:Is H L all M vw)(w:zT vw){a:Vx}(ha:a∈all){j:Nat}{th:Th}{ss':List Sg}(hj:(M L)[j]? = some (.ref a.o))(hm:vw[j]? = some (a.n,th))(Tj:a.tm=.non){M':MM}(m1:∀ c,c≠a.l->M' c=M c)(g:h9 H (M' a.l) ss'):Is H L all M' (iY vw a.n (.pl ss')):=by
 show Paired _ (M' L) _;rw[m1 L (Ne.symm (b.nl a ha).1)];refine afy i fun k v q hk hq hvq=>?_;obtain⟨c,hc,rfl,e1,t⟩:=hvq;split
 ·next e =>
  have h1:(vw.map (·.1))[k]? = some a.n:=by rw[getElem?_map,hq,<-e];rfl
  have h2:(vw.map (·.1))[j]? = some a.n:=by rw[getElem?_map,hm];rfl
  have hkj:=uD w.nd h1 h2;subst hkj;rw[hj]at hk;have:a.o=c.o:=V.ref.inj (Option.some.inj hk);have:=b.no a ha c hc this;subst this;exact⟨a,hc,rfl,rfl,Tj,g⟩
 ·next e =>
  refine⟨c,hc,rfl,e1,?_⟩;have ne:c.l≠a.l:=fun z=>e (by rw[<-e1,b.ni c hc a ha z]);cases hq2:q.2 with
  |pl s0=>rw[hq2]at t;exact⟨t.1,by rw[m1 _ ne];exact t.2⟩
  |cn ld lt sl tn=>rw[hq2]at t;exact t
end
set_option maxHeartbeats 1000000
abbrev Sn:=Str×Int
def Gn:List V:=[.str "G",.str "D",.str "s",.str "d"]
def vE:List V:=[.str "R",.str "r",.str ".",.str "3",.str "2"]
def jg (s:Sn):Bool:=if inV (.str s.1) Gn=true then(if decide (0<=s.2)=true then decide (s.2<=99) else false) else(if inV (.str s.1) vE=true then decide (s.2=0) else false)
set_option maxHeartbeats 1000000
inductive Rf where
 |lM|zU|qk|Full|dR|gT|kB|vF|Gp|oX
structure Cs where
 B:Addr
 V:Addr
 D:Addr
 on:Bool
 x:Rf->Addr
def RX (E:XK)(c:Cs)(r:Rf)(H:Hp):Prop:=c.on=true/\E (.ref (c.x r)) none H
abbrev zV (c:Cs):=Bk c.B c.V c.D
def Fr (F:Addr->Prop)(H H':Hp):Prop:=∀ y o,H y=some o->¬ F y->H' y=some o
def Gr (F F':Addr->Prop)(H:Hp):Prop:=∀ y,F' y->F y\/H y=none
theorem Gr.refl (F:Addr->Prop)(H:Hp):Gr F F H:=fun _ h=>.inl h
theorem Gr.old {F F':Addr->Prop}{H H':Hp}(s:ar H H')(g:Gr F F' H'):Gr F F' H:=fun y z=>(g y z).imp id fun q=>s.free q
def nameB (x:Str):Bool:=decide (1<=x.length)&&(decide (x.length<=8)&&x.cps.toList.all fun c=>V2 ⟨#[c]⟩ "abcdefghijklmnopqrstuvwxyz")
theorem kinds_of {k:Str}(h:inV (.str k) Gn=true\/inV (.str k) vE=true):∃ d:Kd,d.str=k:=by
 have go:∀ l:List V,(∀ v∈l,∃ d:Kd,v=.str d.str)->inV (.str k) l=true->∃ d:Kd,d.str=k:=fun l hl h=>by
  unfold inV at h;obtain⟨y,hy,e⟩:=any_eq_true.mp h;obtain⟨d,rfl⟩:=hl y hy;have:d.str=k:=by simpa [YQ] using e
  exact⟨d,this⟩
 have c:∀(l:List Kd),∀ v∈l.map (fun d=>V.str d.str),∃ d:Kd,v=.str d.str:=fun l v hv=>by
  obtain⟨d,_,e⟩:=mem_map.mp hv;exact⟨d,e.symm⟩
 rcases h with h|h
 ·exact go Gn (c [.G,.D,.s,.d]) h
 ·exact go vE (c [.R,.r,.dot,.three,.two]) h
theorem afz (d:Kd):inV (.str d.str) Gn=d.tM:=by cases d <;> decide +kernel
theorem afA (d:Kd):inV (.str d.str) vE = !d.tM:=by cases d <;> decide +kernel
theorem Qh {sn:Sn}(h:jg sn=true):∃ s:Sg,s.1.str=sn.1/\s.2=sn.2/\JC s:=by
 unfold jg at h;split at h
 ·next h1 =>
  obtain⟨d,hd⟩:=kinds_of (.inl h1);rw[<-hd,afz]at h1;split at h
  ·next h2=>exact⟨(d,sn.2),hd,rfl,⟨(fun _=>⟨of_decide_eq_true h2,by have:=of_decide_eq_true h;show sn.2<100;omega⟩),fun z=>by rw[show d.tM=false from z]at h1;cases h1⟩⟩
  ·cases h
 ·next h1 =>
  split at h
  ·next h2 =>
   obtain⟨d,hd⟩:=kinds_of (.inr h2);rw[<-hd,afA]at h2;exact⟨(d,sn.2),hd,rfl,⟨(fun z=>by rw[show d.tM=true from z]at h2;cases h2),fun _=>of_decide_eq_true h⟩⟩
  ·cases h
theorem aed {s:Sg}(h:JC s):jg (s.1.str,s.2)=true:=by
 unfold jg;rw[afz,afA];cases hs:s.1.tM with
 |true =>
  obtain⟨a,b⟩:=h.1 hs;simp only [if_true];rw[if_pos (decide_eq_true a)];exact decide_eq_true (by omega)
 |false =>
  have:=h.2 hs;simp[this]
def O8:Kd->Kd
 |.three=>.two
 |.two=>.three
 |k=>k
def sf (s:Sg):Sg:=(O8 s.1,s.2)
def O9 (vw:Vw)(n:Str):List Sg:=match aM vw n with
 |some (.pl ss)=>ss
 |some (.cn ld _ _ tn)=>match aM vw ld with
  |some (.pl ss)=>if tn then ss.map sf else ss
  |_=>[]
 |none=>[]
def Pa (vw:Vw)(n:Str):List Int:=match aM vw n with
 |some (.pl ss)=>(lq 3 (bu ss)).1
 |some (.cn ld _ sl tn)=>match aM vw ld with
  |some (.pl ss)=>(lq (if tn then 2 else 3) (bu (if tn then ss.map sf else ss))).1.map fun w=>sl * w
  |_=>[]
 |none=>[]
theorem qK {vw:Vw}{n:Str}{ss:List Sg}(h:aM vw n=some (.pl ss)):O9 vw n=ss:=by
 unfold O9;rw[h]
theorem uE {vw:Vw}{n ld:Str}{lt sl:Int}{tn:Bool}{ss:List Sg}(h:aM vw n=some (.cn ld lt sl tn))(h':aM vw ld=some (.pl ss)):O9 vw n=if tn=true then ss.map sf else ss:=by
 unfold O9;rw[h];show(match aM vw ld with|some (.pl ss)=>if tn=true then ss.map sf else ss|_=>[])=_;rw[h']
theorem Lq {vw:Vw}{n:Str}{ss:List Sg}(h:aM vw n=some (.pl ss)):Pa vw n=(lq 3 (bu ss)).1:=by
 unfold Pa;rw[h]
theorem D7 {vw:Vw}{n ld:Str}{lt sl:Int}{tn:Bool}{ss:List Sg}(h:aM vw n=some (.cn ld lt sl tn))(h':aM vw ld=some (.pl ss)):Pa vw n=(lq (if tn then 2 else 3) (bu (if tn then ss.map sf else ss))).1.map fun w=>sl * w:=by
 unfold Pa;rw[h];show(match aM vw ld with|some (.pl ss)=>(lq (if tn then 2 else 3) (bu (if tn then ss.map sf else ss))).1.map fun w=>sl * w|_=>[])=_;rw[h']
theorem agB {H H':Hp}{x dx C:Addr}(hx:H x=none)(hdx:H dx=none)(kp:∀ y o,(upd (upd H dx (.own x)) x (.ins C dx [])) y=some o->y≠x->H' y=some o):ar H H':=fun y o hy =>
 kp y o (by rw[ao (aq hy hx),ao (aq hy hdx)];exact hy) (aq hy hx)
theorem Lr {H:Hp}{x dx D:Addr}{o1 o2:HO}(h:upd (upd H dx o1) x o2 D=none):H D=none:=by
 unfold upd at h;split at h
 ·cases h
 ·split at h
  ·cases h
  ·exact h
theorem D8 {H:Hp}{B A:Addr}{o:HO}(h:upd H B o A=none):H A=none:=by
 unfold upd at h;split at h
 ·cases h
 ·exact h
theorem aiE (z:Int){k:Int}(hk:0<k):∃ m:Nat,z % k=(m:Int)/\(m:Int)<k:=by
 have z1:=Int.emod_nonneg z (show k≠0 by omega);have z2:=Int.emod_lt_of_pos z hk;exact⟨(z % k).toNat,by omega,by omega⟩
theorem Bk.new {c:Cs}{H:Hp}{x dx L D U:Addr}(hx:H x=some (.ins c.B dx (DH L D U)))(hL:H L=some (.lst []))(hD:H D=some (.lst []))(hU:H U=some (.lst []))(LD:L≠D)(LU:L≠U)(DU:D≠U):zV c H x (fun y=>y=L\/y=D\/y=U) [] [] [] where
 ex:=⟨L,D,U,[],fun _=>[],[],[],[],[],
  {
   hx:=⟨dx,hx⟩,hL:=hL,hD:=⟨[],hD,.nil⟩,hU:=⟨[],hU,.nil⟩,ha:=fun _ h=>(nomatch h),LD:=LD,LU:=LU,DU:=DU,nl:=fun _ h=>(nomatch h),ni:=fun _ h=>(nomatch h),no:=fun _ h=>(nomatch h)
   dd:=fun _ h=>h.elim (fun z=>(nomatch z)) fun z=>(nomatch z)
   past:=.nil
   fut:=.nil
   wf:=fun S hS=>by
    rcases hS with hS|hS|hS
    ·cases hS
    ·subst hS;exact⟨⟨[],.nil⟩,fun _ h=>(nomatch h),Nat.zero_le _,fun _ _ _=>rfl⟩
    ·cases hS },
  .nil,.nil,.nil,⟨.inl rfl,.inr (.inl rfl),.inr (.inr rfl),fun _ h=>(nomatch h),fun _ h=>h.elim (fun z=>(nomatch z)) fun z=>(nomatch z)⟩⟩
 wv:=fun v hv=>by
  rcases hv with hv|hv|hv
  ·cases hv
  ·subst hv;exact⟨.nil,fun _ _ _ _ _ h=>(nomatch h),fun _ _ h=>(nomatch h),Nat.zero_le _⟩
  ·cases hv
theorem agC {R:Vx->Str×Th->Prop}{vx:List Vx}{vw:Vw}(h:Paired R vx vw)(hn:∀ a q,R a q->a.n=q.1):vx.map (fun a=>V.str a.n)=vw.map (fun a=>V.str a.1):=by
 induction h with
 |nil=>rfl
 |cons r _ ih=>rw[map_cons,map_cons,ih,hn _ _ r]
theorem JD {vx:List Vx}{vw:Vw}{R:Vx->Str×Th->Prop}(h:Paired R vx vw)(hn:∀ a q,R a q->a.n=q.1)(n:Str) :
  (vx.find? (fun a=>decide (a.n=n))=none/\aM vw n=none)\/∃ a th,∃ j:Nat,vx.find? (fun a=>decide (a.n=n))=some a/\aM vw n=some th/\R a (n,th)/\a.n=n/\vx[j]? = some a/\vw[j]? = some (n,th):=by
 induction h with
 |nil=>exact .inl ⟨rfl,rfl⟩
 | @cons a q as qs r t ih =>
  have e:=hn a q r
  by_cases hq:q.1=n
  ·refine .inr ⟨a,q.2,0,?_,?_,?_,e.trans hq,rfl,by rw[<-hq];rfl⟩
   ·rw[List.find?_cons_of_pos];exact decide_eq_true (e.trans hq)
   ·unfold aM;rw[List.find?_cons_of_pos (p:=fun q:Str×Th=>decide (q.1=n)) (decide_eq_true hq)];rfl
   ·rw[<-hq];exact r
  ·have h1:¬ decide (a.n=n)=true:=fun z=>hq (e ▸ of_decide_eq_true z);have h2:¬ decide (q.1=n)=true:=fun z=>hq (of_decide_eq_true z);have f1:(a::as).find? (fun a=>decide (a.n=n))=as.find? (fun a=>decide (a.n=n)):=List.find?_cons_of_neg h1;have f2:aM (q::qs) n=aM qs n:=by
    unfold aM;rw[List.find?_cons_of_neg (p:=fun q:Str×Th=>decide (q.1=n)) h2]
   rw[f1,f2];exact ih.imp id fun⟨a,th,j,h1,h2,h3,h4,h5,h6⟩=>⟨a,th,j+1,h1,h2,h3,h4,by simpa using h5,by simpa using h6⟩
theorem Bk.added {c:Cs}{H H1 H2 H':Hp}{x L D U:Addr}{all:List Vx}{M:MM}{Ps Fs:List MM}{es us:List Dd}{F:Addr->Prop}{vw:Vw}{ps fs:List Vw}(b:NX c.B c.V c.D H x L D U all M Ps Fs es us)(i:Is H L all M vw)(pp:Paired (Is H L all) Ps ps)(f:Uh F L D U all es us)(wv:∀ v,v∈ps\/v=vw\/v∈fs->zT v)
  {a:Vx} {th:Th} (s1:ar H H1) (n1:H a.o=none) (n2:H a.l=none) (h1:H1 a.o=some (.ins c.V a.d (voF a.n a.tm a.l))) (h2:H1 a.l=some (.lst [])) (ht:∀ M',M' a.l=[]->acm H1 M' a th) (w':zT (vw++[(a.n,th)]))
  {e:Dd} (eT:e.T=L) (ei:e.i=(M L).length) (eb:e.bs=[]) (ea:e.as=[.ref a.o]) (s2:ar H1 H2) (nB:H1 e.B=none) (nA:H1 e.A=none) (hd:mY c.D H2 (.ref e.o) e) {ds:List V} (hD:H D=some (.lst ds)) (pD:Paired (mY c.D H) ds es)
  (fr:∀ y o,H2 y=some o->y≠L->y≠D->y≠U->H' y=some o) (hL':H' L=some (.lst (M L++[.ref a.o]))) (hD':H' D=some (.lst (ds++[.ref e.o]))) (hU':H' U=some (.lst [])) :
  ∃ F',Gr F F' H/\Fr F H H'/\zV c H' x F' (vw++[(a.n,th)]) (ps++[vw]) []:=by
 have s12:=s1.trans s2;have kT:Kept (fun _=>True) H H2:=.same s12;have b2:=(b.grow s1 n1 n2 h1 h2).kept (F:=fun _=>True) ⟨trivial,trivial,trivial,fun _ _=>trivial,fun _ _=>⟨trivial,trivial⟩⟩ (.same s2);have w2:=w'.len;rw[length_append]at w2;have ll:=cB i;have w2':vw.length+1<=12:=w2;have hM:vc e M L=M L++[.ref a.o]:=by
  unfold vc;rw[eT,gC,ei,eb,ea];simp
 have mo:∀ y,y≠L->vc e M y=M y:=fun y hy=>by
  unfold vc;exact oK (by rw[eT];exact hy)
 have wM:=b2.wf M (.inr (.inl rfl));have naL:∀ z∈all++[a],z.l≠L:=fun z hz=>(b2.nl z hz).1;obtain⟨ux,hU,_⟩:=b2.hU;have old:∀{y:Addr},H1 y=none->∀{z o},H z=some o->y≠z:=fun {y} hy {z o} hz q=>by rw[q,s1 _ _ hz]at hy;cases hy
 have oA:∀{y:Addr},H1 y=none->y≠L/\y≠D/\y≠U/\∀ z∈all++[a],y≠z.l:=fun {y} hy=>by
  obtain⟨u0,Ti,_⟩:=b.hU;refine⟨old hy b.hL,old hy hD,old hy Ti,fun z hz=>?_⟩;rcases mem_append.mp hz with hz|hz
  ·exact old hy (b.ha z hz).2
  ·rw[mem_singleton.mp hz];exact fun q=>by rw[q,h2]at hy;cases hy
 have ok:ZX L D U (all++[a]) e:=⟨.inl eT,oA nB,oA nA,by rw[eb];simp,by rw[ea];simp⟩;have ft:Fits e M:=⟨by rw[ei,eb,eT];simp,by rw[eb];simp⟩;have wf2:WF H2 L (all++[a]) (vc e M) :=
  {
   vs:=(let ⟨vx,p⟩:=wM.vs;⟨vx++[a],by rw[hM];exact qH p ⟨rfl,mem_append_right _ (List.mem_singleton_self _)⟩⟩)
   ln:=fun z hz=>by rw[mo _ (naL z hz)];exact wM.ln z hz
   len:=by rw[hM,length_append,ll];exact w2'
   out:=fun y h1 h2=>by rw[mo y h1];exact wM.out y h1 h2 }
 have i2:Is H2 L (all++[a]) M vw:=Is.kept kT (Is.grow i);have i':Is H2 L (all++[a]) (vc e M) (vw++[(a.n,th)]):=by
  show Paired _ (vc e M L) _;rw[hM];refine qH ?_ ?_
  ·refine dy (fun v q hq=>?_) i2;obtain⟨z,hz,e1,e2,e3⟩:=hq;refine⟨z,hz,e1,e2,?_⟩;cases hq2:q.2 with
   |pl ss=>rw[hq2]at e3;exact⟨e3.1,by rw[mo _ (naL z hz)];exact e3.2⟩
   |cn ld lt sl tn=>rw[hq2]at e3;exact e3
  ·refine⟨a,mem_append_right _ (List.mem_singleton_self _),rfl,rfl,?_⟩;have nal:a.l≠L:=naL a (mem_append_right _ (List.mem_singleton_self _));have:=ht (vc e M) (by rw[mo _ nal];exact(b.wf M (.inr (.inl rfl))).out _ nal fun z hz q=>by rw[q,(b.ha z hz).2]at n2;cases n2);show acm H2 (vc e M) a th;cases th with
   |pl ss=>exact⟨this.1,this.2.same s2⟩
   |cn ld lt sl tn=>obtain⟨p,e1,e2⟩:=this;exact⟨p,e1,s2 _ _ e2⟩
 have B:=Bk.deed b2 i2 (dy (fun _ _ q=>Is.kept kT (Is.grow q)) pp) (F:=fun y=>F y\/y=a.l) ⟨.inl f.L,.inl f.D,.inl f.U,fun z hz=>by
   rcases mem_append.mp hz with hz|hz
   ·exact .inl (f.l z hz)
   ·rw[mem_singleton.mp hz];exact .inr rfl,fun e' he=>⟨.inl (f.d e' he).1,.inl (f.d e' he).2⟩⟩ (fun v hv=>wv v (hv.imp id .inl)) hd ok ft wf2 i' w' (oW (fun _ e' he q=>jO (F:=fun _=>True) kT ⟨trivial,trivial⟩ q) pD) (H2:=H')
  (fun y o hy y1 y2 y3=>fr y o hy (by rw[<-eT];exact y1) y2 y3) (by rw[eT,hM];exact hL') hD' hU'
 refine⟨_,fun y hy=>?_,fun y o hy hn=>fr y o (s12 y o hy) (fun q=>hn (q ▸ f.L)) (fun q=>hn (q ▸ f.D)) (fun q=>hn (q ▸ f.U)),B⟩;rcases hy with (hy|hy)|hy|hy
 ·exact .inl hy
 ·rw[hy];exact .inr n2
 ·rw[hy];exact .inr (s1.free nB)
 ·rw[hy];exact .inr (s1.free nA)
theorem Bk.aco {c:Cs}{H H1 H':Hp}{x L D U:Addr}{all:List Vx}{M:MM}{Ps Fs:List MM}{es us:List Dd}{F:Addr->Prop}{vw:Vw}{ps fs:List Vw}(b:NX c.B c.V c.D H x L D U all M Ps Fs es us)(i:Is H L all M vw)(pp:Paired (Is H L all) Ps ps)(f:Uh F L D U all es us)(wv:∀ v,v∈ps\/v=vw\/v∈fs->zT v)
  {a:Vx} (ha:a∈all) {j:Nat} {ss ss':List Sg} (hj:(M L)[j]? = some (.ref a.o)) (hm:vw[j]? = some (a.n,.pl ss)) (Tj:a.tm=.non) {e:Dd} (eT:e.T=a.l) (ft:Fits e M) (lb:e.bs.length<=1) (la:e.as.length<=1) (s1:ar H H1) (nB:H e.B=none) (nA:H e.A=none) (hd:mY c.D H1 (.ref e.o) e)
  (g':h9 H1 (vc e M a.l) ss') (gl:ss'.length<=200) (gg:∀ s∈ss',JC s) {ds:List V} (hD:H D=some (.lst ds)) (pD:Paired (mY c.D H) ds es)
  (fr:∀ y o,H1 y=some o->y≠a.l->y≠D->y≠U->H' y=some o) (hl':H' a.l=some (.lst (vc e M a.l))) (hD':H' D=some (.lst (ds++[.ref e.o]))) (hU':H' U=some (.lst [])) :
  ∃ F',Gr F F' H/\Fr F H H'/\zV c H' x F' (iY vw a.n (.pl ss')) (ps++[vw]) []:=by
 have kT:Kept (fun _=>True) H H1:=.same s1;have b2:=b.kept (F:=fun _=>True) ⟨trivial,trivial,trivial,fun _ _=>trivial,fun _ _=>⟨trivial,trivial⟩⟩ kT;have mo:∀ y,y≠a.l->vc e M y=M y:=fun y hy=>oK (by rw[eT];exact hy);have wM:=b2.wf M (.inr (.inl rfl));have wvw:=wv vw (.inr (.inl rfl));have oA:∀{y:Addr},H y=none->y≠L/\y≠D/\y≠U/\∀ z∈all,y≠z.l:=fun {y} hy=>by
  obtain⟨u0,Ti,_⟩:=b.hU;exact⟨Ne.symm (aq b.hL hy),Ne.symm (aq hD hy),Ne.symm (aq Ti hy),fun z hz=>Ne.symm (aq (b.ha z hz).2 hy)⟩
 have ok:ZX L D U all e:=⟨.inr ⟨a,ha,eT⟩,oA nB,oA nA,lb,la⟩;have nal:L≠a.l:=Ne.symm (b.nl a ha).1;have wf2:WF H1 L all (vc e M) :=
  {
   vs:=by rw[mo L nal];exact wM.vs
   ln:=fun z hz=>by
    by_cases hza:z.l=a.l
    ·rw[hza];refine⟨by rw[cB g'];exact gl,fun v hv=>?_⟩;obtain⟨k,hk⟩:=getElem?_of_mem hv;obtain⟨sg,e1,e2⟩:=Bd g' hk;exact⟨sg,e2,gg sg (mem_of_getElem? e1)⟩
    ·rw[mo _ hza];exact wM.ln z hz
   len:=by rw[mo L nal];exact wM.len
   out:=fun y h1 h2=>by rw[mo y (h2 a ha)];exact wM.out y h1 h2 }
 have i2:Is H1 L all M vw:=Is.kept kT i;have B:=Bk.deed b2 i2 (dy (fun _ _ q=>Is.kept kT q) pp) f (fun v hv=>wv v (hv.imp id .inl)) hd ok ft wf2 (Is.line b2 i2 wvw ha hj hm Tj mo g') (wvw.set (mem_of_getElem? hm) gl gg) (oW (fun _ e' he q=>jO (F:=fun _=>True) kT ⟨trivial,trivial⟩ q) pD) (H2:=H')
  (fun y o hy y1 y2 y3=>fr y o hy (by rw[<-eT];exact y1) y2 y3) (by rw[eT];exact hl') hD' hU'
 refine⟨_,fun y hy=>?_,fun y o hy hn=>fr y o (s1 y o hy) (fun q=>hn (q ▸ f.l a ha)) (fun q=>hn (q ▸ f.D)) (fun q=>hn (q ▸ f.U)),B⟩;rcases hy with hy|hy|hy
 ·exact .inl hy
 ·rw[hy];exact .inr nB
 ·rw[hy];exact .inr nA
def ThV (H:Hp)(v:V):Th->Prop
 |.pl ss=>∃ l ys,v=.ref l/\H l=some (.lst ys)/\h9 H ys ss
 |.cn ld lt sl tn=>∃ p,v=.ref p/\H p=some (.tup [.str ld,.int lt,.int sl,.bl tn])
def acp (H:Hp)(kv:Key×V)(q:Str×Th):Prop:=kv.1=Sum.inr q.1/\ThV H kv.2 q.2
def Uj (H:Hp)(d:Addr)(vw:Vw):Prop:=∃ kvs,H d=some (.dK kvs)/\Paired (acp H) kvs vw
theorem ThV.same {H H':Hp}(s:ar H H'){v:V}{th:Th}(h:ThV H v th):ThV H' v th:=by
 cases th with
 |pl ss=>obtain⟨l,ys,e1,e2,e3⟩:=h;exact⟨l,ys,e1,s _ _ e2,e3.same s⟩
 |cn ld lt sl tn=>obtain⟨p,e1,e2⟩:=h;exact⟨p,e1,s _ _ e2⟩
theorem acp.same {H H':Hp}(s:ar H H'){kv:Key×V}{q:Str×Th}(h:acp H kv q):acp H' kv q:=⟨h.1,h.2.same s⟩
theorem Uj.same {H H':Hp}(s:ar H H'){d:Addr}{vw:Vw}(h:Uj H d vw):Uj H' d vw:=by
 obtain⟨kvs,e,p⟩:=h;exact⟨kvs,s _ _ e,dy (fun _ _ q=>q.same s) p⟩
theorem agD {H:Hp}{kvs:List (Key×V)}{vw:Vw}(h:Paired (acp H) kvs vw){n:Str}{th:Th}(hf:aM vw n=some th):∃ v,nh kvs (Sum.inr n)=some v/\ThV H v th:=by
 induction h with
 |nil=>cases hf
 | @cons kv q as qs r t ih =>
  by_cases hq:q.1=n
  ·have e:aM (q::qs) n=some q.2:=by
    unfold aM;rw[List.find?_cons_of_pos (p:=fun q:Str×Th=>decide (q.1=n)) (decide_eq_true hq)];rfl
   rw[e]at hf;cases hf;refine⟨kv.2,?_,r.2⟩;unfold nh;rw[List.find?_cons_of_pos (p:=fun kv:Key×V=>decide (kv.1=Sum.inr n)) (decide_eq_true (by rw[r.1,hq]))];rfl
  ·have e:aM (q::qs) n=aM qs n:=by
    unfold aM;rw[List.find?_cons_of_neg (p:=fun q:Str×Th=>decide (q.1=n)) (fun z=>hq (of_decide_eq_true z))]
   rw[e]at hf;obtain⟨v,h1,h2⟩:=ih hf;refine⟨v,?_,h2⟩;unfold nh at h1 ⊢;rw[List.find?_cons_of_neg (p:=fun kv:Key×V=>decide (kv.1=Sum.inr n)) (fun z=>hq (Sum.inr.inj (r.1.symm.trans (of_decide_eq_true z))))];exact h1
theorem Uj.get {H:Hp}{d:Addr}{vw:Vw}(h:Uj H d vw){n:Str}{th:Th}(hf:aM vw n=some th):∃ v,Al H d (.str n) (some v)/\ThV H v th:=by
 obtain⟨kvs,e,p⟩:=h;obtain⟨v,h1,h2⟩:=agD p hf;refine⟨v,?_,h2⟩;have:=Al.k (k:=Sum.inr n) e;rw[h1]at this;exact this
set_option maxHeartbeats 1000000
theorem Bk.aiG {CB CV CD:Addr}{H:Hp}{x:Addr}{F:Addr->Prop}{vw:Vw}{ps fs:List Vw}(h:Bk CB CV CD H x F vw ps fs):∃ F0:Addr->Prop,(∀ y,F0 y->F y)/\(∀ y,F0 y->∃ xs,H y=some (.lst xs))/\Bk CB CV CD H x F0 vw ps fs:=by
 obtain⟨L,D,U,all,M,Ps,Fs,es,us,b,i,pp,pf,f⟩:=h.ex;obtain⟨ds,hD,pD⟩:=b.hD;obtain⟨ux,hU,pU⟩:=b.hU;have dd:∀ e,e∈es\/e∈us->H e.B=some (.lst e.bs)/\H e.A=some (.lst e.as):=fun e he=>by
  rcases he with he|he
  ·obtain⟨k,hk⟩:=getElem?_of_mem he;obtain⟨v,_,q⟩:=rY pD hk;exact⟨q.2.2.1,q.2.2.2⟩
  ·obtain⟨k,hk⟩:=getElem?_of_mem he;obtain⟨v,_,q⟩:=rY pU hk;exact⟨q.2.2.1,q.2.2.2⟩
 refine⟨fun y=>y=L\/y=D\/y=U\/(∃ a∈all,y=a.l)\/∃ e,(e∈es\/e∈us)/\(y=e.B\/y=e.A),fun y hy=>?_,fun y hy=>?_,⟨⟨L,D,U,all,M,Ps,Fs,es,us,b,i,pp,pf,⟨.inl rfl,.inr (.inl rfl),.inr (.inr (.inl rfl)),fun a ha=>.inr (.inr (.inr (.inl ⟨a,ha,rfl⟩))),fun e he=>⟨.inr (.inr (.inr (.inr ⟨e,he,.inl rfl⟩))),.inr (.inr (.inr (.inr ⟨e,he,.inr rfl⟩)))⟩⟩⟩,h.wv⟩⟩
 ·rcases hy with rfl|rfl|rfl|⟨a,ha,rfl⟩|⟨e,he,rfl|rfl⟩
  ·exact f.L
  ·exact f.D
  ·exact f.U
  ·exact f.l a ha
  ·exact(f.d e he).1
  ·exact(f.d e he).2
 ·rcases hy with rfl|rfl|rfl|⟨a,ha,rfl⟩|⟨e,he,rfl|rfl⟩
  ·exact⟨_,b.hL⟩
  ·exact⟨_,hD⟩
  ·exact⟨_,hU⟩
  ·exact⟨_,(b.ha a ha).2⟩
  ·exact⟨_,(dd e he).1⟩
  ·exact⟨_,(dd e he).2⟩
structure Bq (c:Cs)(H:Hp)(x:Addr)(own:List Addr)(vw:Vw)(ps fs:List Vw):Prop where
 ex:∃ F,zV c H x F vw ps fs/\(∀ y,F y->∃ xs,H y=some (.lst xs))/\∀ a∈own,¬ F a/\∃ o,H a=some o
def akW (own:List Addr)(H H':Hp):Prop:=∀ y o,H y=some o->((∀ xs,o≠.lst xs)\/y∈own)->H' y=some o
section
variable {c:Cs} {H H' H1:Hp} {x:Addr} {own:List Addr} {vw vw':Vw} {ps ps' fs fs':List Vw} {F F':Addr->Prop}
end
theorem agE {a b:Str}(h:a≠b)(v w:V):Bc [] [((Sum.inr a:Key),v),((Sum.inr b:Key),w)]=[((Sum.inr a:Key),v),((Sum.inr b:Key),w)]:=by
 unfold Bc;simp only [List.foldl];have h1:nh ([]:List (Key×V)) (Sum.inr a)=none:=rfl;rw[Lh v h1];have h2:nh ([]++[((Sum.inr a:Key),v)]) (Sum.inr b)=none:=by
  unfold nh;simp[h]
 rw[Lh w h2];rfl
set_option maxHeartbeats 1000000
structure al6 (vw:Vw):Prop where
 w:zT vw
 nm:∀ q∈vw,nameB q.1=true/\q.1 ≠ "zed"/\q.1.length<=1000
 ld:∀(i:Nat) n ld lt sl tn,vw[i]? = some (n,Th.cn ld lt sl tn)->∃ ss,(ld,Th.pl ss)∈vw.take i
 sh:∀ n ss,(n,Th.pl ss)∈vw->ss.length<=24
end Gj
set_option maxHeartbeats 1000000
namespace L2
open PySem PySem.Spec PyProof.Rows
variable {X:Cx}
def agF:V->List V->Hp->VK->Prop:=fun x vs H Q=>∃(l:Addr)(ys:List Str)(z:Str)(j:Nat),x=.ref l/\vs=[.str z]/\H l=some (.lst (ys.map V.str))/\ys[j]? = some z/\(∀ i,i<j->ys[i]? ≠ some z)/\Q (.int j) H
theorem acq:MtM X "list.index" agF:=by
 intro pins s σ H x vs v us Q I rx rv h;obtain⟨l,ys,k,j,rfl,rfl,hH,hj,hno,q⟩:=h;cases rx;obtain⟨u,rfl,t,rfl⟩:=rv.one;obtain⟨z,its,n,r,hl,e⟩:=I.P0 hH;have ha:=VZ r;have at_:∀{i:Nat} {y:Str},ys[i]? = some y->∃ t',its[i]? = some (.str y t'):=fun {i y} hy=>by
  obtain⟨u,hu,t',rfl⟩:=r.get (i:=i) (x:=.str y) (by rw[getElem?_map,hy];rfl);exact⟨t',hu⟩
 have ln:its.length=ys.length:=by rw[<-length_map (f:=V.str) (as:=ys)];exact hl.symm
 have hjl:j<ys.length:=(List.getElem?_eq_some_iff.mp hj).1;obtain⟨tj,ej⟩:=at_ hj;have b:sizeLine<2 ^ 60:=by decide
 have z':ys.length<=sizeLine:=by rw[<-length_map (f:=V.str) (as:=ys)];exact z
 refine call_meets F.slot_list_index ⟨_,e,rfl⟩ F.entry_list_index (F.args_list_index_2 _ _)
  (MeetsSeq.list_index l its.toArray n (.str k t) (isStrOf k) (fun y hy=>eq_isStrOf k t ha y (by simpa using hy)) j (by rw[size_toArray];omega) (by omega) ?_ ?_) ⟨e,?_⟩
 ·have:its.toArray[j]'(by rw[size_toArray];omega)=.str k tj:=by
   have:=(List.getElem?_eq_some_iff.mp ej).2
   simpa using this
  rw[this];exact beq_self_eq_true k
 ·intro i hi hlt;have hil:i<ys.length:=by omega
  have hy:ys[i]? = some ys[i]:=getElem?_eq_getElem hil;obtain⟨ti,ei⟩:=at_ hy;have:its.toArray[i]'hi=.str ys[i] ti:=by
   have:=(List.getElem?_eq_some_iff.mp ei).2
   simpa using this
  rw[this];exact beq_eq_false_iff_ne.mpr fun z=>hno i hlt (by rw[hy,z])
 ·exact⟨.int j,H,I.tok _,⟨_,rfl⟩,q⟩
end L2
namespace Gj
open PySem L2
theorem Bk.dropped {c:Cs}{H H1 H':Hp}{x L D U:Addr}{all:List Vx}{M:MM}{Ps Fs:List MM}{es us:List Dd}{F:Addr->Prop}{vw:Vw}{ps fs:List Vw}(b:NX c.B c.V c.D H x L D U all M Ps Fs es us)(i:Is H L all M vw)(pp:Paired (Is H L all) Ps ps)(f:Uh F L D U all es us)(wv:∀ v,v∈ps\/v=vw\/v∈fs->zT v)
  {j:Nat} {v:V} (hj:(M L)[j]? = some v) (w':zT (vw.take j++vw.drop (j+1))) {e:Dd} (eT:e.T=L) (ei:e.i=j) (eb:e.bs=[v]) (ea:e.as=[]) (s1:ar H H1) (nB:H e.B=none) (nA:H e.A=none) (hd:mY c.D H1 (.ref e.o) e)
  {ds:List V} (hD:H D=some (.lst ds)) (pD:Paired (mY c.D H) ds es)
  (fr:∀ y o,H1 y=some o->y≠L->y≠D->y≠U->H' y=some o) (hL':H' L=some (.lst ((M L).take j++(M L).drop (j+1)))) (hD':H' D=some (.lst (ds++[.ref e.o]))) (hU':H' U=some (.lst [])) :
  ∃ F',Gr F F' H/\Fr F H H'/\zV c H' x F' (vw.take j++vw.drop (j+1)) (ps++[vw]) []:=by
 have kT:Kept (fun _=>True) H H1:=.same s1;have b2:=b.kept (F:=fun _=>True) ⟨trivial,trivial,trivial,fun _ _=>trivial,fun _ _=>⟨trivial,trivial⟩⟩ kT;have hjl:j<(M L).length:=(List.getElem?_eq_some_iff.mp hj).1;have hM:vc e M L=(M L).take j++(M L).drop (j+1):=by
  unfold vc;rw[eT,gC,ei,eb,ea];simp
 have mo:∀ y,y≠L->vc e M y=M y:=fun y hy=>oK (by rw[eT];exact hy);have wM:=b2.wf M (.inr (.inl rfl));have naL:∀ z∈all,z.l≠L:=fun z hz=>(b2.nl z hz).1;have oA:∀{y:Addr},H y=none->y≠L/\y≠D/\y≠U/\∀ z∈all,y≠z.l:=fun {y} hy=>by
  obtain⟨u0,Ti,_⟩:=b.hU;exact⟨Ne.symm (aq b.hL hy),Ne.symm (aq hD hy),Ne.symm (aq Ti hy),fun z hz=>Ne.symm (aq (b.ha z hz).2 hy)⟩
 have ok:ZX L D U all e:=⟨.inl eT,oA nB,oA nA,by rw[eb];simp,by rw[ea];simp⟩;have ft:Fits e M:=by
  refine⟨by rw[ei,eb,eT];exact hjl,?_⟩;rw[eb,eT,ei];show((M L).drop j).take 1=[v];rw[List.drop_eq_getElem_cons hjl,List.take_succ_cons,List.take_zero];rw[(List.getElem?_eq_some_iff.mp hj).2]
 have wf2:WF H1 L all (vc e M) :=
  {
   vs:=(let ⟨vx,p⟩:=wM.vs;⟨vx.take j++vx.drop (j+1),by rw[hM];exact xZ (AR j p) (DW (j+1) p)⟩)
   ln:=fun z hz=>by rw[mo _ (naL z hz)];exact wM.ln z hz
   len:=by rw[hM,length_append,length_take,length_drop];have:=wM.len;omega
   out:=fun y h1 h2=>by rw[mo y h1];exact wM.out y h1 h2 }
 have i2:Is H1 L all M vw:=Is.kept kT i;have i3:Paired (V7 H1 all (vc e M)) (M L) vw:=by
  refine dy (fun v q hq=>?_) i2;obtain⟨z,hz,e1,e2,e3⟩:=hq;refine⟨z,hz,e1,e2,?_⟩;cases hq2:q.2 with
  |pl ss=>rw[hq2]at e3;exact⟨e3.1,by rw[mo _ (naL z hz)];exact e3.2⟩
  |cn ld lt sl tn=>rw[hq2]at e3;exact e3
 have i':Is H1 L all (vc e M) (vw.take j++vw.drop (j+1)):=by
  show Paired _ (vc e M L) _;rw[hM];exact xZ (AR j i3) (DW (j+1) i3)
 have B:=Bk.deed b2 i2 (dy (fun _ _ q=>Is.kept kT q) pp) f (fun v hv=>wv v (hv.imp id .inl)) hd ok ft wf2 i' w' (oW (fun _ e' he q=>jO (F:=fun _=>True) kT ⟨trivial,trivial⟩ q) pD) (H2:=H')
  (fun y o hy y1 y2 y3=>fr y o hy (by rw[<-eT];exact y1) y2 y3) (by rw[eT,hM];exact hL') hD' hU'
 refine⟨_,fun y hy=>?_,fun y o hy hn=>fr y o (s1 y o hy) (fun q=>hn (q ▸ f.L)) (fun q=>hn (q ▸ f.D)) (fun q=>hn (q ▸ f.U)),B⟩;rcases hy with hy|hy|hy
 ·exact .inl hy
 ·rw[hy];exact .inr nB
 ·rw[hy];exact .inr nA
def JE (n:Str)(q:Str×Th):Bool:=match q.2 with
 |.cn ld _ _ _=>decide (ld=n)
 |.pl _=>false
def leans (vw:Vw)(n:Str):Bool:=vw.any (JE n)
def gK (vw:Vw)(n:Str):Vw:=vw.filter fun q=>!decide (q.1=n)
theorem V9 {n:Str}:∀{vw:Vw},(∀ q∈vw,q.1≠n)->gK vw n=vw:=fun {vw} h =>
 List.filter_eq_self.mpr fun q hq=>by rw[decide_eq_false (h q hq)];rfl
theorem Ls {n:Str}{th:Th}:∀{vw:Vw} {j:Nat},(vw.map (·.1)).Nodup->vw[j]? = some (n,th)->gK vw n=vw.take j++vw.drop (j+1)
 |[],_,_,h=>by simp at h
 |q::vw,0,nd,h=>by
  simp only [List.getElem?_cons_zero,Option.some.injEq]at h;rw[map_cons]at nd;obtain⟨n1,_⟩:=List.nodup_cons.mp nd;unfold gK;rw[List.filter_cons_of_neg (by rw[h];simp)];refine V9 fun q' hq' e=>n1 ?_;rw[h];exact e ▸ mem_map.mpr ⟨q',hq',rfl⟩
 |q::vw,j+1,nd,h=>by
  rw[List.getElem?_cons_succ]at h;rw[map_cons]at nd;obtain⟨n1,n2⟩:=List.nodup_cons.mp nd;have ne:q.1≠n:=fun e=>n1 (e ▸ mem_map.mpr ⟨(n,th),mem_of_getElem? h,rfl⟩);unfold gK;rw[List.filter_cons_of_pos (by rw[decide_eq_false ne];rfl)];have:=Ls n2 h;unfold gK at this;rw[this];rfl
theorem qm {vw:Vw}{n:Str}{q:Str×Th}:q∈gK vw n ↔ q∈vw/\q.1≠n:=by
 unfold gK;rw[List.mem_filter];simp
theorem zT.dropped {vw:Vw}(w:zT vw){n:Str}(h:leans vw n=false):zT (gK vw n) where
 nd:=List.Sublist.nodup (List.Sublist.map _ List.filter_sublist) w.nd
 ld:=fun m ld lt sl tn hm=>by
  obtain⟨hm,_⟩:=qm.mp hm;obtain⟨⟨ss,hs⟩,r⟩:=w.ld m ld lt sl tn hm;refine⟨⟨ss,qm.mpr ⟨hs,fun e=>?_⟩⟩,r⟩;have:=List.any_eq_false.mp h _ hm;exact this (decide_eq_true e)
 gd:=fun m ss hm=>w.gd m ss (qm.mp hm).1
 len:=Nat.le_trans (List.length_filter_le _ _) w.len
end Gj
set_option maxHeartbeats 1000000
namespace L2
open PySem PySem.Spec PyProof.Rows
end L2
namespace Gj
open PySem L2
def kn (ks:List Kd):Nat->Nat->Nat
 |0,_=>0
 |p+1,met=>if(if(ks.getD p .dot).small=true then met else met+1)=2 then p else kn ks p (if(ks.getD p .dot).small=true then met else met+1)
def AU (wide:Bool)(k:Kd):Bool:=if wide=true then k.meas else k.parting
def D9 (ks:List Kd)(i:Nat)(wide:Bool):Nat:=i+((ks.drop i).takeWhile fun k=>!AU wide k).length
def Wa (wide:Bool):List V:=if wide=true then [.str "3",.str "2"] else [.str ".",.str "3",.str "2"]
theorem acr (wide:Bool)(k:Kd):inV (.str k.str) (Wa wide)=AU wide k:=by cases wide <;> cases k <;> decide +kernel
def NY (ss:List Sg)(i b:Nat)(ch:List Sg):List V:=[.int (kn (bu ss) i 0:Nat),.int (D9 (bu ss) b (ch.any fun s=>s.1.meas):Nat)]
theorem Uk {p:Kd->Bool}:∀{l:List Kd} {j:Nat} {k:Kd},(∀ m x,m<j->l[m]? = some x->p x=true)->l[j]? = some k->p k=false->(l.takeWhile p).length=j
 |[],_,_,_,h,_=>by simp at h
 |x::l,0,k,_,h,hk=>by
  simp only [List.getElem?_cons_zero,Option.some.injEq]at h;rw[h,List.takeWhile_cons_of_neg (by rw[hk];decide)];rfl
 |x::l,j+1,k,hi,h,hk=>by
  rw[List.takeWhile_cons_of_pos (hi 0 x (Nat.succ_pos _) rfl),length_cons,Uk (l:=l) (j:=j) (fun m y hm hy=>hi (m+1) y (Nat.succ_lt_succ hm) (by simpa using hy)) (by simpa using h) hk]
theorem Pb {p:Kd->Bool}:∀{l:List Kd},(∀(m:Nat)(x:Kd),l[m]? = some x->p x=true)->(l.takeWhile p).length=l.length
 |[],_=>rfl
 |x::l,h=>by
  rw[List.takeWhile_cons_of_pos (h 0 x rfl),length_cons,length_cons,Pb (l:=l) fun m y hy=>h (m+1) y (by simpa using hy)]
theorem Y8 {ks:List Kd}{i j:Nat}{wide:Bool}{k:Kd}(hi:∀ m x,m<j->ks[i+m]? = some x->AU wide x=false)(h:ks[i+j]? = some k)(hk:AU wide k=true):D9 ks i wide=i+j:=by
 unfold D9;rw[Uk (j:=j) (k:=k) (fun m x hm hx=>by rw[getElem?_drop]at hx;rw[hi m x hm hx];rfl) (by rw[getElem?_drop];exact h) (by rw[hk];rfl)]
theorem Ul {ks:List Kd}{i:Nat}{wide:Bool}(hl:i<=ks.length)(hi:∀(m:Nat)(x:Kd),ks[i+m]? = some x->AU wide x=false):D9 ks i wide=ks.length:=by
 unfold D9;rw[Pb (fun m x hx=>by rw[getElem?_drop]at hx;rw[hi m x hx];rfl),length_drop];omega
def kdOf (k:Str):Kd:=if k = "G" then .G else if k = "D" then .D else if k = "R" then .R else if k = "s" then .s else if k = "d" then .d else if k = "r" then .r else if k = "." then .dot else if k = "3" then .three else .two
theorem acs (k:Kd):kdOf k.str=k:=by cases k <;> decide +kernel
def gL (s:Sn):Sg:=(kdOf s.1,s.2)
theorem si {s:Sg}{n:Sn}(h1:s.1.str=n.1)(h2:s.2=n.2):gL n=s:=by
 unfold gL;rw[<-h1,<-h2,acs]
theorem Lu {n:Sn}(h:jg n=true):(gL n).1.str=n.1/\(gL n).2=n.2/\JC (gL n):=by
 obtain⟨s,h1,h2,g⟩:=Qh h;rw[si h1 h2];exact⟨h1,h2,g⟩
inductive Wy where
 |put|cut|swap|add|canon|drop|undo|Qi
 deriving DecidableEq
def Wy.str:Wy->Str
 |.put=>"put" | .cut=>"cut" | .swap=>"swap" | .add=>"add" | .canon=>"canon" | .drop=>"drop" | .undo=>"undo" | .Qi=>"redo"
structure De where
 wy:Wy
 n:Str
 ld:Str
 pl:Int
 sg:Sn
 lt:Int
 sl:Int
 tn:Bool
structure DeS (H:Hp)(v:V)(d:De):Prop where
 ex:∃ p xs,v=.ref p/\H p=some (.tup xs)/\xs[0]? = some (.str d.wy.str)/\xs[1]? = some (.str d.n)/\(d.wy=.put\/d.wy=.swap->∃ ps,xs[4]? = some (.ref ps)/\H ps=some (.tup [.str d.sg.1,.int d.sg.2]))/\(d.wy=.canon->xs[2]? = some (.str d.ld)/\xs[5]? = some (.int d.lt)/\xs[6]? = some (.int d.sl)/\xs[7]? = some (.bl d.tn))
structure Std where
 vw:Vw
 ps:List Vw
 fs:List Vw
def nk (lt sl:Int):Prop:=0<=lt/\lt<=999/\1<=sl/\sl<=9
instance (lt sl:Int):Decidable (nk lt sl):=by unfold nk;exact inferInstance
def cZ (vw:Vw)(n:Str):Option Rf:=if nameB n=false then some .zU else if(aM vw n).isSome then some .qk else if 12<=vw.length then some .Full else none
def oM (vw:Vw)(ld:Str)(lt sl:Int):Option Rf:=match aM vw ld with
 |none=>some .dR
 |some (.cn _ _ _ _)=>some .gT
 |some (.pl _)=>if nk lt sl then none else some .vF
def zW (vw:Vw)(n:Str):Option Rf:=match aM vw n with
 |none=>some .dR
 |some _=>if leans vw n=true then some .Gp else none
def sj (vw:Vw)(wy:Wy)(n:Str)(at_:Int)(sg:Sn):Option Rf:=match aM vw n with
 |none=>some .dR
 |some (.cn _ _ _ _)=>some .gT
 |some (.pl ss)=>if at_<0\/(ss.length:Int)+(if wy=.put then 1 else 0)<=at_ then some .kB else if wy≠.cut/\jg sg=false then some .lM else if wy=.put/\200<=ss.length then some .Full else none
def nq (st:Std)(d:De)(at_:Int):Option Rf:=match d.wy with
 |.undo=>if st.ps=[] then some .oX else none
 |.Qi=>if st.fs=[] then some .oX else none
 |.drop=>zW st.vw d.n
 |.add=>cZ st.vw d.n
 |.canon=>match cZ st.vw d.n with
  |some r=>some r
  |none=>oM st.vw d.ld d.lt d.sl
 |w=>sj st.vw w d.n at_ d.sg
def bO (ss:List Sg)(wy:Wy)(sg:Sn)(i:Nat):List Sg:=match wy with
 |.cut=>ss.take i++[]++ss.drop (i+1)
 |.swap=>ss.take i++[gL sg]++ss.drop (i+1)
 |_=>ss.take i++[gL sg]++ss.drop i
def vG (vw:Vw)(n:Str):List Sg:=match aM vw n with
 |some (.pl ss)=>ss
 |_=>[]
def xE (st:Std)(d:De)(at_:Int):Std:=match d.wy with
 |.undo=>⟨st.ps.getLast?.getD [],st.ps.dropLast,st.fs++[st.vw]⟩
 |.Qi=>⟨st.fs.getLast?.getD [],st.ps++[st.vw],st.fs.dropLast⟩
 |.drop=>⟨gK st.vw d.n,st.ps++[st.vw],[]⟩
 |.add=>⟨st.vw++[(d.n,.pl [])],st.ps++[st.vw],[]⟩
 |.canon=>⟨st.vw++[(d.n,.cn d.ld d.lt d.sl d.tn)],st.ps++[st.vw],[]⟩
 |w=>⟨iY st.vw d.n (.pl (bO (vG st.vw d.n) w d.sg at_.toNat)),st.ps++[st.vw],[]⟩
def pX (H:Hp)(st:Std)(d:De)(at_:Int)(v:V):Prop:=match d.wy with
 |.put=>∃ w,v=.ref w/\H w=some (.tup (NY (bO (vG st.vw d.n) .put d.sg at_.toNat) at_.toNat (at_.toNat+1) [gL d.sg]))
 |.cut=>∃ w,v=.ref w/\∃ s,(vG st.vw d.n)[at_.toNat]? = some s/\H w=some (.tup (NY (bO (vG st.vw d.n) .cut d.sg at_.toNat) at_.toNat at_.toNat [s]))
 |.swap=>∃ w,v=.ref w/\∃ s,(vG st.vw d.n)[at_.toNat]? = some s/\H w=some (.tup (NY (bO (vG st.vw d.n) .swap d.sg at_.toNat) at_.toNat (at_.toNat+1) [s,gL d.sg]))
 |_=>v=.non
def Rf.str:Rf->Str
 |.lM=>"BadSign" | .zU=>"BadName" | .qk=>"NameTaken" | .Full=>"Full" | .dR=>"NoVoice" | .gT=>"NotPlain" | .kB=>"NoPlace" | .vF=>"BadTerm" | .Gp=>"Leaned" | .oX=>"NoMore"
theorem jx {K:Frag}{H:Hp}{p:Addr}{xs:List V}{i:Nat}{v:V}{Q:VK}(h:H p=some (.tup xs))(e:xs[i]? = some v)(q:Q v H):PV K (.ref p) (.int (i:Int)) H Q\/PX K (.ref p) (.int (i:Int)) H Q\/PY (.ref p) (.int (i:Int)) H Q:=.inr (.inl ⟨p,_,i,v,rfl,rfl,uo.of h,DN e,q⟩)
theorem vH {vw:Vw}{wy:Wy}{n:Str}{a:Int}{sg:Sn}(h:aM vw n=none):sj vw wy n a sg=some .dR:=by unfold sj;rw[h]
theorem Bi {vw:Vw}{wy:Wy}{n ld:Str}{a lt sl:Int}{tn:Bool}{sg:Sn}(h:aM vw n=some (.cn ld lt sl tn)):sj vw wy n a sg=some .gT:=by unfold sj;rw[h]
theorem qL {vw:Vw}{wy:Wy}{n:Str}{a:Int}{sg:Sn}{ss:List Sg}(h:aM vw n=some (.pl ss)):sj vw wy n a sg=if a<0\/(ss.length:Int)+(if wy=.put then 1 else 0)<=a then some .kB else if wy≠.cut/\jg sg=false then some .lM else if wy=.put/\200<=ss.length then some .Full else none:=by unfold sj;rw[h]
theorem x6 (a b:Wy):decide (V.str a.str=V.str b.str)=decide (a=b):=by cases a <;> cases b <;> decide +kernel
def aee:List Str:=["G","D","R","s","d","r",".","3","2","g",""]
def noX (n:Str):Bool:=!decide (n.cps[0]? = ("x":Str).cps[0]?)
structure anY (d:De):Prop where
 nl:d.n.length<=1000
 ll:d.ld.length<=1000
 sk:d.sg.1∈aee
 nx:noX d.n=true
end Gj
set_option maxHeartbeats 1000000
local macro_rules | `(tactic| tm_up) => `(tactic| repeat w_up)
local macro_rules | `(tactic| w_up) => `(tactic| first
 |refine⟨_,rfl,?_⟩
 |refine⟨_,_,rfl,rfl,⟨by decide,by decide⟩,?_⟩
 |refine⟨_,_,rfl,rfl,(by first|decide|(show(0:Int)<_;decide)),?_⟩
 |refine .inl ⟨_,_,rfl,rfl,.inr ⟨by decide,by decide⟩,?_⟩
 |refine⟨_,_,rfl,rfl,?_⟩
 |refine .inl ⟨_,_,rfl,rfl,?_⟩
 |refine .inl ⟨rfl,?_⟩
 |refine .inr ⟨_,_,rfl,rfl,?_⟩
 |refine Gj.ix0 (by assumption) ?_
 |refine Gj.ix1 (by assumption) ?_)
namespace Gj
open PySem L2
def top (i:Nat):Stmt:=PySem.Challenge.pw_noteworth_k36_bounds_of_a_book.main.body.getD i (.Pass ⟨0,0,0,0⟩)
abbrev fG:Stmt:=inClass (top 61) 0
abbrev ck:Stmt:=inClass (top 61) 17
abbrev qo:Stmt:=inClass (top 54) 1
abbrev gU:Stmt:=inClass (top 61) 14
abbrev fH:Stmt:=inClass (top 54) 0
abbrev jP:Stmt:=inClass (top 61) 9
abbrev ib:Stmt:=inClass (top 61) 3
abbrev nr:Stmt:=top 68
abbrev lr:Stmt:=top 65
abbrev bP:Stmt:=top 56
abbrev Gq:Stmt:=top 21
abbrev cN:Stmt:=top 57
abbrev zX:Stmt:=top 22
abbrev qp:Stmt:=top 58
abbrev nt:Stmt:=top 59
abbrev gW:Stmt:=top 23
abbrev uF:Stmt:=top 60
abbrev b5:Stmt:=inClass (top 61) 18
abbrev gD:Stmt:=inClass (top 61) 4
abbrev iu:Stmt:=inClass (top 61) 12
abbrev uG:Stmt:=top 28
abbrev dz:Stmt:=inClass (top 61) 10
abbrev lu:Stmt:=inClass (top 54) 2
abbrev jy:Stmt:=inClass (top 61) 7
abbrev jz:Stmt:=inClass (top 61) 8
abbrev qq:Stmt:=top 55
abbrev bU:Stmt:=inClass (top 61) 16
abbrev iT:Stmt:=inClass (top 61) 15
abbrev eN:Stmt:=inClass (top 53) 0
abbrev cb:Stmt:=inClass (top 61) 2
abbrev jA:Stmt:=inClass (top 61) 5
abbrev fO:Stmt:=inClass (top 61) 6
abbrev dj:Stmt:=inClass (top 61) 1
abbrev kL:Stmt:=top 66
abbrev nu:Stmt:=top 67
abbrev jQ:Stmt:=top 78
abbrev qr:Stmt:=top 64
abbrev qt:Stmt:=top 69
abbrev uH:Stmt:=top 70
abbrev lx:Stmt:=top 63
abbrev nC:Stmt:=top 26
abbrev qu:Stmt:=top 37
abbrev iU:Stmt:=top 36
abbrev cA:Stmt:=top 38
abbrev Gs:Stmt:=top 27
abbrev fI:Stmt:=top 39
abbrev eO:Stmt:=top 40
abbrev dS:Stmt:=top 41
abbrev dU:Stmt:=top 42
abbrev jR:Stmt:=top 43
abbrev qv:Stmt:=top 44
abbrev uI:Stmt:=top 45
abbrev fP:Stmt:=inClass (top 61) 11
abbrev ly:Stmt:=top 71
abbrev uJ:Stmt:=top 73
abbrev qw:Stmt:=top 74
abbrev zY:Stmt:=top 75
abbrev uK:Stmt:=top 76
abbrev lz:Stmt:=top 72
abbrev cL:Stmt:=top 77
abbrev AV:Stmt:=top 79
theorem Gu:aG ["self"] ["self"] (ag fG):=⟨rfl,rfl,rfl,by lk,rfl,by lk,by lk⟩
theorem oN:aG ["self","name","voice"] ["self","name"] (ag ck):=⟨rfl,rfl,rfl,by lk,rfl,by lk,by lk⟩
theorem Wb:aG ["self"] ["self"] (ag qo):=⟨rfl,rfl,rfl,by lk,rfl,by lk,by lk⟩
theorem Kc:aG ["self","deed"] ["self","deed"] (ag gU):=⟨rfl,rfl,rfl,by lk,rfl,by lk,by lk⟩
theorem Gv:aG ["self","things","at","before","after"] ["self","things","at","before","after"] (ag fH):=⟨rfl,rfl,rfl,by lk,rfl,by lk,by lk⟩
theorem NZ:aG ["self"] ["self"] (ag jP):=⟨rfl,rfl,rfl,by lk,rfl,by lk,by lk⟩
theorem Ea:aG ["self","name","dropped"] ["self","name"] (ag ib):=⟨rfl,rfl,rfl,by lk,rfl,by lk,by lk⟩
theorem fQ:aG ["_law_line","_law_deed","_law_at","_law_behind","_law_from_on","_law_wide","_law_bars","_law_stops"] ["_law_line","_law_deed","_law_at"] (ag nr):=⟨rfl,rfl,rfl,by lk,rfl,by lk,by lk⟩
theorem Eb:aG ["_law_number","_law_kind"] ["_law_number"] (ag lr):=⟨rfl,rfl,rfl,by lk,rfl,by lk,by lk⟩
theorem vI:aG ["at","last"] ["at","last"] (ag bP):=⟨rfl,rfl,rfl,by lk,rfl,by lk,by lk⟩
theorem Qj:aG ["sign","kind","tone"] ["sign"] (ag Gq):=⟨rfl,rfl,rfl,by lk,rfl,by lk,by lk⟩
theorem Bj:aG ["sign"] ["sign"] (ag cN):=⟨rfl,rfl,rfl,by lk,rfl,by lk,by lk⟩
theorem acu:aG ["sign"] ["sign"] (ag zX):=⟨rfl,rfl,rfl,by lk,rfl,by lk,by lk⟩
theorem vJ:aG ["line","at","met","place"] ["line","at"] (ag qp):=⟨rfl,rfl,rfl,by lk,rfl,by lk,by lk⟩
theorem JF:aG ["line","first","kinds","place"] ["line","first","kinds"] (ag nt):=⟨rfl,rfl,rfl,by lk,rfl,by lk,by lk⟩
theorem Ke:aG ["sign"] ["sign"] (ag gW):=⟨rfl,rfl,rfl,by lk,rfl,by lk,by lk⟩
theorem Pc:aG ["line","at","behind","changed","kinds"] ["line","at","behind","changed"] (ag uF):=⟨rfl,rfl,rfl,by lk,rfl,by lk,by lk⟩
theorem pY:aG ["self","name","voice"] ["self","name"] (ag b5):=⟨rfl,rfl,rfl,by lk,rfl,by lk,by lk⟩
theorem JG:aG ["self","name","at","sign","signs"] ["self","name","at","sign"] (ag gD):=⟨rfl,rfl,rfl,by lk,rfl,by lk,by lk⟩
theorem N0:aG ["self","name"] ["self","name"] (ag iu):=⟨rfl,rfl,rfl,by lk,rfl,by lk,by lk⟩
theorem ZY:aG ["line"] ["line"] (ag uG):=⟨rfl,rfl,rfl,by lk,rfl,by lk,by lk⟩
theorem bV:aG ["self","name","terms","leader","later","slow","is_turned","heard"] ["self","name"] (ag dz):=⟨rfl,rfl,rfl,by lk,rfl,by lk,by lk⟩
theorem Qk:aG ["self"] ["self"] (ag lu):=⟨rfl,rfl,rfl,by lk,rfl,by lk,by lk⟩
theorem Ec:aG ["self","deed"] ["self"] (ag jy):=⟨rfl,rfl,rfl,by lk,rfl,by lk,by lk⟩
theorem Ed:aG ["self","deed"] ["self"] (ag jz):=⟨rfl,rfl,rfl,by lk,rfl,by lk,by lk⟩
theorem Wc:aG ["name"] ["name"] (ag qq):=⟨rfl,rfl,rfl,by lk,rfl,by lk,by lk⟩
theorem Bl:aG ["self","name"] ["self","name"] (ag bU):=⟨rfl,rfl,rfl,by lk,rfl,by lk,by lk⟩
theorem Lv:aG ["self","voice"] ["self","voice"] (ag iT):=⟨rfl,rfl,rfl,by lk,rfl,by lk,by lk⟩
theorem Ee:aG ["self","name","terms"] ["self","name","terms"] (ag eN):=⟨rfl,rfl,rfl,by lk,rfl,by lk,by lk⟩
theorem Ef:aG ["self","name","leader","later","slow","is_turned"] ["self","name","leader","later","slow","is_turned"] (ag cb):=⟨rfl,rfl,rfl,by lk,rfl,by lk,by lk⟩
theorem x8:aG ["self","name","at","signs","sign"] ["self","name","at"] (ag jA):=⟨rfl,rfl,rfl,by lk,rfl,by lk,by lk⟩
theorem vK:aG ["self","name","at","sign","signs","before"] ["self","name","at","sign"] (ag fO):=⟨rfl,rfl,rfl,by lk,rfl,by lk,by lk⟩
theorem Eg:aG ["self","name"] ["self","name"] (ag dj):=⟨rfl,rfl,rfl,by lk,rfl,by lk,by lk⟩
theorem Y9:aG ["_law_book","_law_deed","_law_at","_law_way","_law_name"] ["_law_book","_law_deed","_law_at"] (ag kL):=⟨rfl,rfl,rfl,by lk,rfl,by lk,by lk⟩
theorem Wd:aG ["_law_book","_law_deed","_law_at"] ["_law_book","_law_deed","_law_at"] (ag nu):=⟨rfl,rfl,rfl,by lk,rfl,by lk,by lk⟩
theorem tQ:aG ["_law_book","_law_name","_law_line","_law_k"] ["_law_book","_law_name","_law_line"] (ag jQ):=⟨rfl,rfl,rfl,by lk,rfl,by lk,by lk⟩
theorem Bm:aG ["_law_seed","_law_k","_law_one","_law_two"] ["_law_seed","_law_k"] (ag qr):=⟨rfl,rfl,rfl,by lk,rfl,by lk,by lk⟩
theorem We:aG ["_law_found"] ["_law_found"] (ag qt):=⟨rfl,rfl,rfl,by lk,rfl,by lk,by lk⟩
theorem Pd:aG ["_law_found","_law_due","_law_k"] ["_law_found","_law_due"] (ag uH):=⟨rfl,rfl,rfl,by lk,rfl,by lk,by lk⟩
theorem Ql:aG ["_law_script","_law_k"] ["_law_script","_law_k"] (ag lx):=⟨rfl,rfl,rfl,by lk,rfl,by lk,by lk⟩
theorem oO:aG ["line","begin","found","measure","sign"] ["line","begin"] (ag nC):=⟨rfl,rfl,rfl,by lk,rfl,by lk,by lk⟩
theorem Wf:aG ["line","at"] ["line","at"] (ag qu):=⟨rfl,rfl,rfl,by lk,rfl,by lk,by lk⟩
theorem Lw:aG ["kind","measure"] ["kind","measure"] (ag iU):=⟨rfl,rfl,rfl,by lk,rfl,by lk,by lk⟩
theorem eE:aG ["line","begin","found","at","measure"] ["line","begin"] (ag cA):=⟨rfl,rfl,rfl,by lk,rfl,by lk,by lk⟩
theorem vL:aG ["line","begin","found","first","at","sign","measure"] ["line","begin"] (ag Gs):=⟨rfl,rfl,rfl,by lk,rfl,by lk,by lk⟩
theorem Gw:aG ["line","found","first"] ["line","found","first"] (ag fI):=⟨rfl,rfl,rfl,by lk,rfl,by lk,by lk⟩
theorem Eh:aG ["line","behind"] ["line","behind"] (ag eO):=⟨rfl,rfl,rfl,by lk,rfl,by lk,by lk⟩
theorem Bn:aG ["line","found","first","behind"] ["line","found","first","behind"] (ag dS):=⟨rfl,rfl,rfl,by lk,rfl,by lk,by lk⟩
theorem Bo:aG ["line","found","first","behind"] ["line","found","first","behind"] (ag dU):=⟨rfl,rfl,rfl,by lk,rfl,by lk,by lk⟩
theorem AW:aG ["line","found","first","behind","rest"] ["line","found","first","behind"] (ag jR):=⟨rfl,rfl,rfl,by lk,rfl,by lk,by lk⟩
theorem qM:aG ["line","begin","found","loose_runs","first","behind"] ["line","begin"] (ag qv):=⟨rfl,rfl,rfl,by lk,rfl,by lk,by lk⟩
theorem ZZ:aG ["line","begin"] ["line","begin"] (ag uI):=⟨rfl,rfl,rfl,by lk,rfl,by lk,by lk⟩
theorem iw:aG ["self","name","terms","leader","later","slow","is_turned","begin"] ["self","name"] (ag fP):=⟨rfl,rfl,rfl,by lk,rfl,by lk,by lk⟩
theorem lN:aG ["_law_voices","_law_name","_law_thing","_law_told","_law_sign","_law_kind"] ["_law_voices","_law_name"] (ag ly):=⟨rfl,rfl,rfl,by lk,rfl,by lk,by lk⟩
theorem qx:aG ["_law_line","_law_begin","_law_told","_law_now","_law_at","_law_kind"] ["_law_line","_law_begin"] (ag uJ):=⟨rfl,rfl,rfl,by lk,rfl,by lk,by lk⟩
theorem qN:aG ["_law_line","_law_begin","_law_told","_law_now","_law_sign"] ["_law_line","_law_begin"] (ag qw):=⟨rfl,rfl,rfl,by lk,rfl,by lk,by lk⟩
theorem uL:aG ["_law_line","_law_told","_law_low","_law_high","_law_rest","_law_behind","_law_after","_law_left","_law_right"] ["_law_line","_law_told","_law_low","_law_high"] (ag zY):=⟨rfl,rfl,rfl,by lk,rfl,by lk,by lk⟩
theorem lB:aG ["_law_line","_law_begin","_law_told","_law_three_here","_law_left","_law_low","_law_high"] ["_law_line","_law_begin"] (ag uK):=⟨rfl,rfl,rfl,by lk,rfl,by lk,by lk⟩
theorem vM:aG ["_law_voices","_law_name","_law_thing","_law_line"] ["_law_voices","_law_name"] (ag lz):=⟨rfl,rfl,rfl,by lk,rfl,by lk,by lk⟩
theorem bj:aG ["_law_script","_law_book","_law_name","_law_canons","_law_line","_law_front","_law_k","_law_sign","_law_told","_law_due","_law_at","_law_deed","_law_one","_law_voices"] ["_law_script","_law_book","_law_name","_law_canons"] (ag cL):=⟨rfl,rfl,rfl,by lk,rfl,by lk,by lk⟩
theorem tR:aG ["_law_script","_law_book","_law_names","_law_canons","_law_k","_law_name","_law_why","_law_last"] ["_law_script"] (ag AV):=⟨rfl,rfl,rfl,by lk,rfl,by lk,by lk⟩
theorem Kf:(["voice","self"]:List Str).Nodup:=by lk
theorem Lx:(["voice","self","name","dropped"]:List Str).Nodup:=by lk
theorem AX:(["_law_k","_law_line","_law_deed","_law_at","_law_behind","_law_from_on","_law_wide","_law_bars","_law_stops"]:List Str).Nodup:=by lk
theorem Um:(["sign","line","at","behind","changed","kinds"]:List Str).Nodup:=by lk
theorem JH:(["kind","tone","line"]:List Str).Nodup:=by lk
theorem Qm:(["letter","name"]:List Str).Nodup:=by lk
theorem Ly:(["worth","self","name","terms","leader","later","slow","is_turned","begin"]:List Str).Nodup:=by lk
theorem Lz:(["_law_worth","_law_voices","_law_name","_law_thing","_law_line"]:List Str).Nodup:=by lk
theorem Gx:(["_law_one","_law_script","_law_book","_law_name","_law_canons","_law_line","_law_front","_law_k","_law_sign","_law_told","_law_due","_law_at","_law_deed","","_law_voices"]:List Str).Nodup:=by lk
theorem Z0:(["_law_script","_law_book","_law_names","_law_canons","","_law_name","_law_why","_law_last"]:List Str).Nodup:=by lk
theorem Pe:(["_law_k","_law_script","_law_book","_law_names","_law_canons","","_law_name","_law_why","_law_last"]:List Str).Nodup:=by lk
theorem Z1:(["_law_one","_law_script","_law_book","_law_names","_law_canons","_law_k","_law_name","_law_why","_law_last"]:List Str).Nodup:=by lk
theorem Bp {X:Cx}:xH X [(Expr.Constant (.int 0) 0 ⟨456,58,456,59⟩)] (aj (tC (V.int 0)) aT):=cF Gh qE
theorem Br {X:Cx}:xH X [(Expr.Constant (.str "r") 0 ⟨456,53,456,56⟩),(Expr.Constant (.int 0) 0 ⟨456,58,456,59⟩)] (aj (tC (V.str "r")) (aj (tC (V.int 0)) aT)):=cF lK Bp
theorem Bs {X:Cx}:NV X (Expr.Tuple [(Expr.Constant (.str "r") 0 ⟨456,53,456,56⟩),(Expr.Constant (.int 0) 0 ⟨456,58,456,59⟩)] 0 ⟨456,52,456,60⟩) (bJ (aj (tC (V.str "r")) (aj (tC (V.int 0)) aT))):=vA Br
theorem Bt {X:Cx}:xH X [(Expr.Tuple [(Expr.Constant (.str "r") 0 ⟨456,53,456,56⟩),(Expr.Constant (.int 0) 0 ⟨456,58,456,59⟩)] 0 ⟨456,52,456,60⟩)] (aj (bJ (aj (tC (V.str "r")) (aj (tC (V.int 0)) aT))) aT):=lJ Bs qE
theorem Bu {X:Cx}:xH X [(Expr.Constant (.int 0) 0 ⟨456,49,456,50⟩),(Expr.Tuple [(Expr.Constant (.str "r") 0 ⟨456,53,456,56⟩),(Expr.Constant (.int 0) 0 ⟨456,58,456,59⟩)] 0 ⟨456,52,456,60⟩)] (aj (tC (V.int 0)) (aj (bJ (aj (tC (V.str "r")) (aj (tC (V.int 0)) aT))) aT)):=cF Gh Bt
theorem Bv {X:Cx}:xH X [(Expr.Constant (.str "") 0 ⟨456,45,456,47⟩),(Expr.Constant (.int 0) 0 ⟨456,49,456,50⟩),(Expr.Tuple [(Expr.Constant (.str "r") 0 ⟨456,53,456,56⟩),(Expr.Constant (.int 0) 0 ⟨456,58,456,59⟩)] 0 ⟨456,52,456,60⟩)] (aj (tC (V.str "")) (aj (tC (V.int 0)) (aj (bJ (aj (tC (V.str "r")) (aj (tC (V.int 0)) aT))) aT))):=cF lK Bu
theorem Bx {X:Cx}:xH X [(Expr.Constant (.str "") 0 ⟨456,41,456,43⟩),(Expr.Constant (.str "") 0 ⟨456,45,456,47⟩),(Expr.Constant (.int 0) 0 ⟨456,49,456,50⟩),(Expr.Tuple [(Expr.Constant (.str "r") 0 ⟨456,53,456,56⟩),(Expr.Constant (.int 0) 0 ⟨456,58,456,59⟩)] 0 ⟨456,52,456,60⟩)] (aj (tC (V.str "")) (aj (tC (V.str "")) (aj (tC (V.int 0)) (aj (bJ (aj (tC (V.str "r")) (aj (tC (V.int 0)) aT))) aT)))):=cF lK Bv
theorem By {X:Cx}:xH X [(Expr.Constant (.str "swap") 0 ⟨456,33,456,39⟩),(Expr.Constant (.str "") 0 ⟨456,41,456,43⟩),(Expr.Constant (.str "") 0 ⟨456,45,456,47⟩),(Expr.Constant (.int 0) 0 ⟨456,49,456,50⟩),(Expr.Tuple [(Expr.Constant (.str "r") 0 ⟨456,53,456,56⟩),(Expr.Constant (.int 0) 0 ⟨456,58,456,59⟩)] 0 ⟨456,52,456,60⟩)] (aj (tC (V.str "swap")) (aj (tC (V.str "")) (aj (tC (V.str "")) (aj (tC (V.int 0)) (aj (bJ (aj (tC (V.str "r")) (aj (tC (V.int 0)) aT))) aT))))):=cF lK Bx
theorem Bz {X:Cx}:NV X (Expr.Tuple [(Expr.Constant (.str "swap") 0 ⟨456,33,456,39⟩),(Expr.Constant (.str "") 0 ⟨456,41,456,43⟩),(Expr.Constant (.str "") 0 ⟨456,45,456,47⟩),(Expr.Constant (.int 0) 0 ⟨456,49,456,50⟩),(Expr.Tuple [(Expr.Constant (.str "r") 0 ⟨456,53,456,56⟩),(Expr.Constant (.int 0) 0 ⟨456,58,456,59⟩)] 0 ⟨456,52,456,60⟩)] 0 ⟨456,32,456,61⟩) (bJ (aj (tC (V.str "swap")) (aj (tC (V.str "")) (aj (tC (V.str "")) (aj (tC (V.int 0)) (aj (bJ (aj (tC (V.str "r")) (aj (tC (V.int 0)) aT))) aT)))))):=vA By
theorem Am {X:Cx}:xH X [(Expr.Constant (.int 199) 0 ⟨456,63,456,66⟩)] (aj (tC (V.int 199)) aT):=cF Gh qE
theorem An {X:Cx}:xH X [(Expr.Tuple [(Expr.Constant (.str "swap") 0 ⟨456,33,456,39⟩),(Expr.Constant (.str "") 0 ⟨456,41,456,43⟩),(Expr.Constant (.str "") 0 ⟨456,45,456,47⟩),(Expr.Constant (.int 0) 0 ⟨456,49,456,50⟩),(Expr.Tuple [(Expr.Constant (.str "r") 0 ⟨456,53,456,56⟩),(Expr.Constant (.int 0) 0 ⟨456,58,456,59⟩)] 0 ⟨456,52,456,60⟩)] 0 ⟨456,32,456,61⟩),(Expr.Constant (.int 199) 0 ⟨456,63,456,66⟩)] (aj (bJ (aj (tC (V.str "swap")) (aj (tC (V.str "")) (aj (tC (V.str "")) (aj (tC (V.int 0)) (aj (bJ (aj (tC (V.str "r")) (aj (tC (V.int 0)) aT))) aT)))))) (aj (tC (V.int 199)) aT)):=lJ Bz Am
theorem Ao {X:Cx}:NV X (Expr.Tuple [(Expr.Tuple [(Expr.Constant (.str "swap") 0 ⟨456,33,456,39⟩),(Expr.Constant (.str "") 0 ⟨456,41,456,43⟩),(Expr.Constant (.str "") 0 ⟨456,45,456,47⟩),(Expr.Constant (.int 0) 0 ⟨456,49,456,50⟩),(Expr.Tuple [(Expr.Constant (.str "r") 0 ⟨456,53,456,56⟩),(Expr.Constant (.int 0) 0 ⟨456,58,456,59⟩)] 0 ⟨456,52,456,60⟩)] 0 ⟨456,32,456,61⟩),(Expr.Constant (.int 199) 0 ⟨456,63,456,66⟩)] 0 ⟨456,31,456,67⟩) (bJ (aj (bJ (aj (tC (V.str "swap")) (aj (tC (V.str "")) (aj (tC (V.str "")) (aj (tC (V.int 0)) (aj (bJ (aj (tC (V.str "r")) (aj (tC (V.int 0)) aT))) aT)))))) (aj (tC (V.int 199)) aT))):=vA An
theorem Ap {X:Cx}:xH X [(Expr.Constant (.int 0) 0 ⟨456,95,456,96⟩)] (aj (tC (V.int 0)) aT):=cF Gh qE
theorem Aq {X:Cx}:xH X [(Expr.Constant (.str "r") 0 ⟨456,90,456,93⟩),(Expr.Constant (.int 0) 0 ⟨456,95,456,96⟩)] (aj (tC (V.str "r")) (aj (tC (V.int 0)) aT)):=cF lK Ap
theorem Ar {X:Cx}:NV X (Expr.Tuple [(Expr.Constant (.str "r") 0 ⟨456,90,456,93⟩),(Expr.Constant (.int 0) 0 ⟨456,95,456,96⟩)] 0 ⟨456,89,456,97⟩) (bJ (aj (tC (V.str "r")) (aj (tC (V.int 0)) aT))):=vA Aq
theorem As {X:Cx}:xH X [(Expr.Tuple [(Expr.Constant (.str "r") 0 ⟨456,90,456,93⟩),(Expr.Constant (.int 0) 0 ⟨456,95,456,96⟩)] 0 ⟨456,89,456,97⟩)] (aj (bJ (aj (tC (V.str "r")) (aj (tC (V.int 0)) aT))) aT):=lJ Ar qE
theorem Au {X:Cx}:xH X [(Expr.Constant (.int 0) 0 ⟨456,86,456,87⟩),(Expr.Tuple [(Expr.Constant (.str "r") 0 ⟨456,90,456,93⟩),(Expr.Constant (.int 0) 0 ⟨456,95,456,96⟩)] 0 ⟨456,89,456,97⟩)] (aj (tC (V.int 0)) (aj (bJ (aj (tC (V.str "r")) (aj (tC (V.int 0)) aT))) aT)):=cF Gh As
theorem Av {X:Cx}:xH X [(Expr.Constant (.str "") 0 ⟨456,82,456,84⟩),(Expr.Constant (.int 0) 0 ⟨456,86,456,87⟩),(Expr.Tuple [(Expr.Constant (.str "r") 0 ⟨456,90,456,93⟩),(Expr.Constant (.int 0) 0 ⟨456,95,456,96⟩)] 0 ⟨456,89,456,97⟩)] (aj (tC (V.str "")) (aj (tC (V.int 0)) (aj (bJ (aj (tC (V.str "r")) (aj (tC (V.int 0)) aT))) aT))):=cF lK Au
theorem Aw {X:Cx}:xH X [(Expr.Constant (.str "") 0 ⟨456,78,456,80⟩),(Expr.Constant (.str "") 0 ⟨456,82,456,84⟩),(Expr.Constant (.int 0) 0 ⟨456,86,456,87⟩),(Expr.Tuple [(Expr.Constant (.str "r") 0 ⟨456,90,456,93⟩),(Expr.Constant (.int 0) 0 ⟨456,95,456,96⟩)] 0 ⟨456,89,456,97⟩)] (aj (tC (V.str "")) (aj (tC (V.str "")) (aj (tC (V.int 0)) (aj (bJ (aj (tC (V.str "r")) (aj (tC (V.int 0)) aT))) aT)))):=cF lK Av
theorem Ax {X:Cx}:xH X [(Expr.Constant (.str "cut") 0 ⟨456,71,456,76⟩),(Expr.Constant (.str "") 0 ⟨456,78,456,80⟩),(Expr.Constant (.str "") 0 ⟨456,82,456,84⟩),(Expr.Constant (.int 0) 0 ⟨456,86,456,87⟩),(Expr.Tuple [(Expr.Constant (.str "r") 0 ⟨456,90,456,93⟩),(Expr.Constant (.int 0) 0 ⟨456,95,456,96⟩)] 0 ⟨456,89,456,97⟩)] (aj (tC (V.str "cut")) (aj (tC (V.str "")) (aj (tC (V.str "")) (aj (tC (V.int 0)) (aj (bJ (aj (tC (V.str "r")) (aj (tC (V.int 0)) aT))) aT))))):=cF lK Aw
theorem Ay {X:Cx}:NV X (Expr.Tuple [(Expr.Constant (.str "cut") 0 ⟨456,71,456,76⟩),(Expr.Constant (.str "") 0 ⟨456,78,456,80⟩),(Expr.Constant (.str "") 0 ⟨456,82,456,84⟩),(Expr.Constant (.int 0) 0 ⟨456,86,456,87⟩),(Expr.Tuple [(Expr.Constant (.str "r") 0 ⟨456,90,456,93⟩),(Expr.Constant (.int 0) 0 ⟨456,95,456,96⟩)] 0 ⟨456,89,456,97⟩)] 0 ⟨456,70,456,98⟩) (bJ (aj (tC (V.str "cut")) (aj (tC (V.str "")) (aj (tC (V.str "")) (aj (tC (V.int 0)) (aj (bJ (aj (tC (V.str "r")) (aj (tC (V.int 0)) aT))) aT)))))):=vA Ax
theorem Az {X:Cx}:xH X [(Expr.Constant (.int 0) 0 ⟨456,100,456,101⟩)] (aj (tC (V.int 0)) aT):=cF Gh qE
theorem AA {X:Cx}:xH X [(Expr.Tuple [(Expr.Constant (.str "cut") 0 ⟨456,71,456,76⟩),(Expr.Constant (.str "") 0 ⟨456,78,456,80⟩),(Expr.Constant (.str "") 0 ⟨456,82,456,84⟩),(Expr.Constant (.int 0) 0 ⟨456,86,456,87⟩),(Expr.Tuple [(Expr.Constant (.str "r") 0 ⟨456,90,456,93⟩),(Expr.Constant (.int 0) 0 ⟨456,95,456,96⟩)] 0 ⟨456,89,456,97⟩)] 0 ⟨456,70,456,98⟩),(Expr.Constant (.int 0) 0 ⟨456,100,456,101⟩)] (aj (bJ (aj (tC (V.str "cut")) (aj (tC (V.str "")) (aj (tC (V.str "")) (aj (tC (V.int 0)) (aj (bJ (aj (tC (V.str "r")) (aj (tC (V.int 0)) aT))) aT)))))) (aj (tC (V.int 0)) aT)):=lJ Ay Az
theorem AB {X:Cx}:NV X (Expr.Tuple [(Expr.Tuple [(Expr.Constant (.str "cut") 0 ⟨456,71,456,76⟩),(Expr.Constant (.str "") 0 ⟨456,78,456,80⟩),(Expr.Constant (.str "") 0 ⟨456,82,456,84⟩),(Expr.Constant (.int 0) 0 ⟨456,86,456,87⟩),(Expr.Tuple [(Expr.Constant (.str "r") 0 ⟨456,90,456,93⟩),(Expr.Constant (.int 0) 0 ⟨456,95,456,96⟩)] 0 ⟨456,89,456,97⟩)] 0 ⟨456,70,456,98⟩),(Expr.Constant (.int 0) 0 ⟨456,100,456,101⟩)] 0 ⟨456,69,456,102⟩) (bJ (aj (bJ (aj (tC (V.str "cut")) (aj (tC (V.str "")) (aj (tC (V.str "")) (aj (tC (V.int 0)) (aj (bJ (aj (tC (V.str "r")) (aj (tC (V.int 0)) aT))) aT)))))) (aj (tC (V.int 0)) aT))):=vA AA
theorem AD {X:Cx}:xH X [(Expr.Tuple [(Expr.Tuple [(Expr.Constant (.str "cut") 0 ⟨456,71,456,76⟩),(Expr.Constant (.str "") 0 ⟨456,78,456,80⟩),(Expr.Constant (.str "") 0 ⟨456,82,456,84⟩),(Expr.Constant (.int 0) 0 ⟨456,86,456,87⟩),(Expr.Tuple [(Expr.Constant (.str "r") 0 ⟨456,90,456,93⟩),(Expr.Constant (.int 0) 0 ⟨456,95,456,96⟩)] 0 ⟨456,89,456,97⟩)] 0 ⟨456,70,456,98⟩),(Expr.Constant (.int 0) 0 ⟨456,100,456,101⟩)] 0 ⟨456,69,456,102⟩)] (aj (bJ (aj (bJ (aj (tC (V.str "cut")) (aj (tC (V.str "")) (aj (tC (V.str "")) (aj (tC (V.int 0)) (aj (bJ (aj (tC (V.str "r")) (aj (tC (V.int 0)) aT))) aT)))))) (aj (tC (V.int 0)) aT))) aT):=lJ AB qE
theorem AE {X:Cx}:xH X [(Expr.Tuple [(Expr.Tuple [(Expr.Constant (.str "swap") 0 ⟨456,33,456,39⟩),(Expr.Constant (.str "") 0 ⟨456,41,456,43⟩),(Expr.Constant (.str "") 0 ⟨456,45,456,47⟩),(Expr.Constant (.int 0) 0 ⟨456,49,456,50⟩),(Expr.Tuple [(Expr.Constant (.str "r") 0 ⟨456,53,456,56⟩),(Expr.Constant (.int 0) 0 ⟨456,58,456,59⟩)] 0 ⟨456,52,456,60⟩)] 0 ⟨456,32,456,61⟩),(Expr.Constant (.int 199) 0 ⟨456,63,456,66⟩)] 0 ⟨456,31,456,67⟩),(Expr.Tuple [(Expr.Tuple [(Expr.Constant (.str "cut") 0 ⟨456,71,456,76⟩),(Expr.Constant (.str "") 0 ⟨456,78,456,80⟩),(Expr.Constant (.str "") 0 ⟨456,82,456,84⟩),(Expr.Constant (.int 0) 0 ⟨456,86,456,87⟩),(Expr.Tuple [(Expr.Constant (.str "r") 0 ⟨456,90,456,93⟩),(Expr.Constant (.int 0) 0 ⟨456,95,456,96⟩)] 0 ⟨456,89,456,97⟩)] 0 ⟨456,70,456,98⟩),(Expr.Constant (.int 0) 0 ⟨456,100,456,101⟩)] 0 ⟨456,69,456,102⟩)] (aj (bJ (aj (bJ (aj (tC (V.str "swap")) (aj (tC (V.str "")) (aj (tC (V.str "")) (aj (tC (V.int 0)) (aj (bJ (aj (tC (V.str "r")) (aj (tC (V.int 0)) aT))) aT)))))) (aj (tC (V.int 199)) aT))) (aj (bJ (aj (bJ (aj (tC (V.str "cut")) (aj (tC (V.str "")) (aj (tC (V.str "")) (aj (tC (V.int 0)) (aj (bJ (aj (tC (V.str "r")) (aj (tC (V.int 0)) aT))) aT)))))) (aj (tC (V.int 0)) aT))) aT)):=lJ Ao AD
theorem AF {X:Cx}:NV X (Expr.List [(Expr.Tuple [(Expr.Tuple [(Expr.Constant (.str "swap") 0 ⟨456,33,456,39⟩),(Expr.Constant (.str "") 0 ⟨456,41,456,43⟩),(Expr.Constant (.str "") 0 ⟨456,45,456,47⟩),(Expr.Constant (.int 0) 0 ⟨456,49,456,50⟩),(Expr.Tuple [(Expr.Constant (.str "r") 0 ⟨456,53,456,56⟩),(Expr.Constant (.int 0) 0 ⟨456,58,456,59⟩)] 0 ⟨456,52,456,60⟩)] 0 ⟨456,32,456,61⟩),(Expr.Constant (.int 199) 0 ⟨456,63,456,66⟩)] 0 ⟨456,31,456,67⟩),(Expr.Tuple [(Expr.Tuple [(Expr.Constant (.str "cut") 0 ⟨456,71,456,76⟩),(Expr.Constant (.str "") 0 ⟨456,78,456,80⟩),(Expr.Constant (.str "") 0 ⟨456,82,456,84⟩),(Expr.Constant (.int 0) 0 ⟨456,86,456,87⟩),(Expr.Tuple [(Expr.Constant (.str "r") 0 ⟨456,90,456,93⟩),(Expr.Constant (.int 0) 0 ⟨456,95,456,96⟩)] 0 ⟨456,89,456,97⟩)] 0 ⟨456,70,456,98⟩),(Expr.Constant (.int 0) 0 ⟨456,100,456,101⟩)] 0 ⟨456,69,456,102⟩)] ⟨456,30,456,103⟩) (NS (aj (bJ (aj (bJ (aj (tC (V.str "swap")) (aj (tC (V.str "")) (aj (tC (V.str "")) (aj (tC (V.int 0)) (aj (bJ (aj (tC (V.str "r")) (aj (tC (V.int 0)) aT))) aT)))))) (aj (tC (V.int 199)) aT))) (aj (bJ (aj (bJ (aj (tC (V.str "cut")) (aj (tC (V.str "")) (aj (tC (V.str "")) (aj (tC (V.int 0)) (aj (bJ (aj (tC (V.str "r")) (aj (tC (V.int 0)) aT))) aT)))))) (aj (tC (V.int 0)) aT))) aT))):=abY AE
@[irreducible] def cG:Expr:=(Expr.List [(Expr.Tuple [(Expr.Tuple [(Expr.Constant (.str "swap") 0 ⟨456,33,456,39⟩),(Expr.Constant (.str "") 0 ⟨456,41,456,43⟩),(Expr.Constant (.str "") 0 ⟨456,45,456,47⟩),(Expr.Constant (.int 0) 0 ⟨456,49,456,50⟩),(Expr.Tuple [(Expr.Constant (.str "r") 0 ⟨456,53,456,56⟩),(Expr.Constant (.int 0) 0 ⟨456,58,456,59⟩)] 0 ⟨456,52,456,60⟩)] 0 ⟨456,32,456,61⟩),(Expr.Constant (.int 199) 0 ⟨456,63,456,66⟩)] 0 ⟨456,31,456,67⟩),(Expr.Tuple [(Expr.Tuple [(Expr.Constant (.str "cut") 0 ⟨456,71,456,76⟩),(Expr.Constant (.str "") 0 ⟨456,78,456,80⟩),(Expr.Constant (.str "") 0 ⟨456,82,456,84⟩),(Expr.Constant (.int 0) 0 ⟨456,86,456,87⟩),(Expr.Tuple [(Expr.Constant (.str "r") 0 ⟨456,90,456,93⟩),(Expr.Constant (.int 0) 0 ⟨456,95,456,96⟩)] 0 ⟨456,89,456,97⟩)] 0 ⟨456,70,456,98⟩),(Expr.Constant (.int 0) 0 ⟨456,100,456,101⟩)] 0 ⟨456,69,456,102⟩)] ⟨456,30,456,103⟩)
theorem Gy {X:Cx}:NV X cG (NS (aj (bJ (aj (bJ (aj (tC (V.str "swap")) (aj (tC (V.str "")) (aj (tC (V.str "")) (aj (tC (V.int 0)) (aj (bJ (aj (tC (V.str "r")) (aj (tC (V.int 0)) aT))) aT)))))) (aj (tC (V.int 199)) aT))) (aj (bJ (aj (bJ (aj (tC (V.str "cut")) (aj (tC (V.str "")) (aj (tC (V.str "")) (aj (tC (V.int 0)) (aj (bJ (aj (tC (V.str "r")) (aj (tC (V.int 0)) aT))) aT)))))) (aj (tC (V.int 0)) aT))) aT))):=by unfold cG;exact AF
theorem Gz (env:Env)(x:Value):foldedSetIterable cG env x=pure x:=by unfold cG;rfl
@[irreducible] def jS:TE:=(NS (aj (bJ (aj (bJ (aj (tC (V.str "swap")) (aj (tC (V.str "")) (aj (tC (V.str "")) (aj (tC (V.int 0)) (aj (bJ (aj (tC (V.str "r")) (aj (tC (V.int 0)) aT))) aT)))))) (aj (tC (V.int 199)) aT))) (aj (bJ (aj (bJ (aj (tC (V.str "cut")) (aj (tC (V.str "")) (aj (tC (V.str "")) (aj (tC (V.int 0)) (aj (bJ (aj (tC (V.str "r")) (aj (tC (V.int 0)) aT))) aT)))))) (aj (tC (V.int 0)) aT))) aT)))
theorem pZ:jS=(NS (aj (bJ (aj (bJ (aj (tC (V.str "swap")) (aj (tC (V.str "")) (aj (tC (V.str "")) (aj (tC (V.int 0)) (aj (bJ (aj (tC (V.str "r")) (aj (tC (V.int 0)) aT))) aT)))))) (aj (tC (V.int 199)) aT))) (aj (bJ (aj (bJ (aj (tC (V.str "cut")) (aj (tC (V.str "")) (aj (tC (V.str "")) (aj (tC (V.int 0)) (aj (bJ (aj (tC (V.str "r")) (aj (tC (V.int 0)) aT))) aT)))))) (aj (tC (V.int 0)) aT))) aT))):=by unfold jS;rfl
theorem GA {X:Cx}:NV X cG jS:=by rw[pZ];exact Gy
theorem GB {X:Cx}:PE X cG jS:=GA.out
theorem Wg {X:Cx}:xH X [(Expr.Constant (.str "Full") 0 ⟨491,39,491,45⟩)] (aj (tC (V.str "Full")) aT):=cF lK qE
theorem Wh {X:Cx}:xH X [(Expr.Constant (.str "yy") 0 ⟨491,33,491,37⟩),(Expr.Constant (.str "Full") 0 ⟨491,39,491,45⟩)] (aj (tC (V.str "yy")) (aj (tC (V.str "Full")) aT)):=cF lK Wg
theorem Wi {X:Cx}:NV X (Expr.Tuple [(Expr.Constant (.str "yy") 0 ⟨491,33,491,37⟩),(Expr.Constant (.str "Full") 0 ⟨491,39,491,45⟩)] 0 ⟨491,32,491,46⟩) (bJ (aj (tC (V.str "yy")) (aj (tC (V.str "Full")) aT))):=vA Wh
theorem Wj {X:Cx}:xH X [(Expr.Constant (.str "NameTaken") 0 ⟨491,55,491,66⟩)] (aj (tC (V.str "NameTaken")) aT):=cF lK qE
theorem Wk {X:Cx}:xH X [(Expr.Constant (.str "zz") 0 ⟨491,49,491,53⟩),(Expr.Constant (.str "NameTaken") 0 ⟨491,55,491,66⟩)] (aj (tC (V.str "zz")) (aj (tC (V.str "NameTaken")) aT)):=cF lK Wj
theorem Wl {X:Cx}:NV X (Expr.Tuple [(Expr.Constant (.str "zz") 0 ⟨491,49,491,53⟩),(Expr.Constant (.str "NameTaken") 0 ⟨491,55,491,66⟩)] 0 ⟨491,48,491,67⟩) (bJ (aj (tC (V.str "zz")) (aj (tC (V.str "NameTaken")) aT))):=vA Wk
theorem Wm {X:Cx}:xH X [(Expr.Constant (.str "BadName") 0 ⟨491,76,491,85⟩)] (aj (tC (V.str "BadName")) aT):=cF lK qE
theorem Wn {X:Cx}:xH X [(Expr.Constant (.str "YY") 0 ⟨491,70,491,74⟩),(Expr.Constant (.str "BadName") 0 ⟨491,76,491,85⟩)] (aj (tC (V.str "YY")) (aj (tC (V.str "BadName")) aT)):=cF lK Wm
theorem Wo {X:Cx}:NV X (Expr.Tuple [(Expr.Constant (.str "YY") 0 ⟨491,70,491,74⟩),(Expr.Constant (.str "BadName") 0 ⟨491,76,491,85⟩)] 0 ⟨491,69,491,86⟩) (bJ (aj (tC (V.str "YY")) (aj (tC (V.str "BadName")) aT))):=vA Wn
theorem Uo {X:Cx}:xH X [(Expr.Tuple [(Expr.Constant (.str "YY") 0 ⟨491,70,491,74⟩),(Expr.Constant (.str "BadName") 0 ⟨491,76,491,85⟩)] 0 ⟨491,69,491,86⟩)] (aj (bJ (aj (tC (V.str "YY")) (aj (tC (V.str "BadName")) aT))) aT):=lJ Wo qE
theorem Up {X:Cx}:xH X [(Expr.Tuple [(Expr.Constant (.str "zz") 0 ⟨491,49,491,53⟩),(Expr.Constant (.str "NameTaken") 0 ⟨491,55,491,66⟩)] 0 ⟨491,48,491,67⟩),(Expr.Tuple [(Expr.Constant (.str "YY") 0 ⟨491,70,491,74⟩),(Expr.Constant (.str "BadName") 0 ⟨491,76,491,85⟩)] 0 ⟨491,69,491,86⟩)] (aj (bJ (aj (tC (V.str "zz")) (aj (tC (V.str "NameTaken")) aT))) (aj (bJ (aj (tC (V.str "YY")) (aj (tC (V.str "BadName")) aT))) aT)):=lJ Wl Uo
theorem Uq {X:Cx}:xH X [(Expr.Tuple [(Expr.Constant (.str "yy") 0 ⟨491,33,491,37⟩),(Expr.Constant (.str "Full") 0 ⟨491,39,491,45⟩)] 0 ⟨491,32,491,46⟩),(Expr.Tuple [(Expr.Constant (.str "zz") 0 ⟨491,49,491,53⟩),(Expr.Constant (.str "NameTaken") 0 ⟨491,55,491,66⟩)] 0 ⟨491,48,491,67⟩),(Expr.Tuple [(Expr.Constant (.str "YY") 0 ⟨491,70,491,74⟩),(Expr.Constant (.str "BadName") 0 ⟨491,76,491,85⟩)] 0 ⟨491,69,491,86⟩)] (aj (bJ (aj (tC (V.str "yy")) (aj (tC (V.str "Full")) aT))) (aj (bJ (aj (tC (V.str "zz")) (aj (tC (V.str "NameTaken")) aT))) (aj (bJ (aj (tC (V.str "YY")) (aj (tC (V.str "BadName")) aT))) aT))):=lJ Wi Up
theorem Ur {X:Cx}:NV X (Expr.List [(Expr.Tuple [(Expr.Constant (.str "yy") 0 ⟨491,33,491,37⟩),(Expr.Constant (.str "Full") 0 ⟨491,39,491,45⟩)] 0 ⟨491,32,491,46⟩),(Expr.Tuple [(Expr.Constant (.str "zz") 0 ⟨491,49,491,53⟩),(Expr.Constant (.str "NameTaken") 0 ⟨491,55,491,66⟩)] 0 ⟨491,48,491,67⟩),(Expr.Tuple [(Expr.Constant (.str "YY") 0 ⟨491,70,491,74⟩),(Expr.Constant (.str "BadName") 0 ⟨491,76,491,85⟩)] 0 ⟨491,69,491,86⟩)] ⟨491,31,491,87⟩) (NS (aj (bJ (aj (tC (V.str "yy")) (aj (tC (V.str "Full")) aT))) (aj (bJ (aj (tC (V.str "zz")) (aj (tC (V.str "NameTaken")) aT))) (aj (bJ (aj (tC (V.str "YY")) (aj (tC (V.str "BadName")) aT))) aT)))):=abY Uq
@[irreducible] def oP:Expr:=(Expr.List [(Expr.Tuple [(Expr.Constant (.str "yy") 0 ⟨491,33,491,37⟩),(Expr.Constant (.str "Full") 0 ⟨491,39,491,45⟩)] 0 ⟨491,32,491,46⟩),(Expr.Tuple [(Expr.Constant (.str "zz") 0 ⟨491,49,491,53⟩),(Expr.Constant (.str "NameTaken") 0 ⟨491,55,491,66⟩)] 0 ⟨491,48,491,67⟩),(Expr.Tuple [(Expr.Constant (.str "YY") 0 ⟨491,70,491,74⟩),(Expr.Constant (.str "BadName") 0 ⟨491,76,491,85⟩)] 0 ⟨491,69,491,86⟩)] ⟨491,31,491,87⟩)
theorem acv {X:Cx}:NV X oP (NS (aj (bJ (aj (tC (V.str "yy")) (aj (tC (V.str "Full")) aT))) (aj (bJ (aj (tC (V.str "zz")) (aj (tC (V.str "NameTaken")) aT))) (aj (bJ (aj (tC (V.str "YY")) (aj (tC (V.str "BadName")) aT))) aT)))):=by unfold oP;exact Ur
theorem acw (env:Env)(x:Value):foldedSetIterable oP env x=pure x:=by unfold oP;rfl
@[irreducible] def Ei:TE:=(NS (aj (bJ (aj (tC (V.str "yy")) (aj (tC (V.str "Full")) aT))) (aj (bJ (aj (tC (V.str "zz")) (aj (tC (V.str "NameTaken")) aT))) (aj (bJ (aj (tC (V.str "YY")) (aj (tC (V.str "BadName")) aT))) aT))))
theorem JI:Ei=(NS (aj (bJ (aj (tC (V.str "yy")) (aj (tC (V.str "Full")) aT))) (aj (bJ (aj (tC (V.str "zz")) (aj (tC (V.str "NameTaken")) aT))) (aj (bJ (aj (tC (V.str "YY")) (aj (tC (V.str "BadName")) aT))) aT)))):=by unfold Ei;rfl
theorem acx {X:Cx}:NV X oP Ei:=by rw[JI];exact acv
theorem acy {X:Cx}:PE X oP Ei:=acx.out
set_option genInjectivity false in
set_option genSizeOf false in
structure Adr where
 cW:Addr
 oY:FuncData
 bF:Addr
 j8:FuncData
 lC:Addr
 GC:FuncData
 dA:Addr
 qO:FuncData
 cX:Addr
 oZ:FuncData
 fR:Addr
 vN:FuncData
 eJ:Addr
 x9:FuncData
 kM:Addr
 BA:FuncData
 jB:Addr
 yc:FuncData
 bE:Addr
 iZ:FuncData
 BB:Addr
 Wq:FuncData
 cw:Addr
 lO:FuncData
 vO:Addr
 Qn:FuncData
 nE:Addr
 GD:FuncData
 kO:Addr
 BC:FuncData
 eR:Addr
 qP:FuncData
 qQ:Addr
 LB:FuncData
 bD:Addr
 kP:FuncData
 dY:Addr
 BD:FuncData
 eF:Addr
 vP:FuncData
 qR:Addr
 LC:FuncData
 cy:Addr
 sq:FuncData
 ic:Addr
 yd:FuncData
 fS:Addr
 ye:FuncData
 fU:Addr
 yf:FuncData
 nF:Addr
 GF:FuncData
 bC:Addr
 lP:FuncData
 eK:Addr
 tS:FuncData
 cH:Addr
 nG:FuncData
 bI:Addr
 jT:FuncData
 jh:Addr
 eS:Tok
 eU:Tok
 gE:Addr
 BE:FuncData
 dB:Addr
 yg:FuncData
 cf:Addr
 nH:FuncData
 j9:Addr
 Wr:FuncData
 lD:Addr
 GG:FuncData
 ix:Addr
 vQ:FuncData
 nI:Addr
 GH:FuncData
 nJ:Addr
 GI:FuncData
 qS:Addr
 LF:FuncData
 jC:Addr
 yh:FuncData
 kQ:Addr
 vR:FuncData
 sr:Addr
 lQ:Tok
 nK:Addr
 GJ:FuncData
 gF:Addr
 tT:FuncData
 bQ:Addr
 i0:FuncData
 BF:Addr
 Qo:FuncData
 K4:Addr
 yi:Tok
 dZ:Addr
 o3:FuncData
 dm:Addr
 nM:FuncData
 cO:Addr
 lR:FuncData
 cP:Addr
 lS:FuncData
 iy:Addr
 vS:FuncData
 nN:Addr
 GK:FuncData
 qT:Addr
 Ej:FuncData
 zZ:Addr
 qU:Tok
 dC:Addr
 yj:FuncData
 jD:Addr
 yk:FuncData
 qV:Addr
 LG:FuncData
 nP:Addr
 GL:FuncData
 vT:Addr
 Qp:FuncData
 qW:Addr
 LH:FuncData
 jE:Addr
 ym:FuncData
 gG:Addr
 tU:FuncData
 LI:Addr
 acz:FuncData
 eL:Addr
 gH:Addr
 d7:Addr
 cY:Addr
 dq:Addr
 eV:Addr
 lT:Tok
 dD:Addr
 dE:Addr
 cg:Addr
 qd:Tok
 ji:Tok
 kC:Tok
 lU:Tok
 Aa:Tok
 lV:Tok
 oE:Tok
 qe:Tok
 Ek:Tok
 Ab:Tok
 du:Addr
 bx:Addr
 a9:Addr
 aU:Addr
 bq:Addr
 aV:Addr
 aW:Addr
 aQ:Addr
 cm:Addr
 br:Addr
 aX:Addr
 aI:Addr
 aY:Addr
structure Txt (K:Frag)(w:World)(mg:Str->Option Value)(t:Adr):Prop where
 kD:kz K "__init__" "Book.__init__" fG t.cW t.oY
 o5:Binds K t.oY ["self"] []
 gN:kz K "voice_called" "Book.voice_called" ck t.bF t.j8
 cq:Binds K t.j8 ["self","name"] []
 dF:Meth K t.a9 "voice_called" t.bF
 Ac:kz K "do" "Deed.do" qo t.lC t.GC
 Ad:Binds K t.GC ["self"] []
 LJ:Meth K t.bx "do" t.lC
 lW:kz K "perform" "Book.perform" gU t.dA t.qO
 eW:Binds K t.qO ["self","deed"] []
 iK:Meth K t.a9 "perform" t.dA
 kE:kz K "__init__" "Deed.__init__" fH t.cX t.oZ
 d8:Binds K t.oZ ["self","things","at","before","after"] []
 qf:kz K "names" "Book.names" jP t.fR t.vN
 iA:Binds K t.vN ["self"] []
 ko:Meth K t.a9 "names" t.fR
 su:kz K "drop" "Book.drop" ib t.eJ t.x9
 sv:Binds K t.x9 ["self","name"] []
 El:Meth K t.a9 "drop" t.eJ
 kR:kz K "_law_window" "_law_window" nr t.kM t.BA
 qX:Binds K t.BA ["_law_line","_law_deed","_law_at"] []
 yn:mg "_law_window"=some (.ref t.kM)
 oQ:kz K "_law_sign_by" "_law_sign_by" lr t.jB t.yc
 yo:Binds K t.yc ["_law_number"] []
 Qq:mg "_law_sign_by"=some (.ref t.jB)
 bR:kz K "refuse_other_places" "refuse_other_places" bP t.bE t.iZ
 c7:Binds K t.iZ ["at","last"] []
 iB:mg "refuse_other_places"=some (.ref t.bE)
 LK:kz K "good" "good" Gq t.BB t.Wq
 Ws:Binds K t.Wq ["sign"] []
 aef:mg "good"=some (.ref t.BB)
 dW:kz K "refuse_bad_sign" "refuse_bad_sign" cN t.cw t.lO
 jj:Binds K t.lO ["sign"] []
 qY:mg "refuse_bad_sign"=some (.ref t.cw)
 Ae:kz K "small" "small" zX t.vO t.Qn
 K5:Binds K t.Qn ["sign"] []
 Us:mg "small"=some (.ref t.vO)
 uM:kz K "low_end" "low_end" qp t.nE t.GD
 GN:Binds K t.GD ["line","at"] []
 Wt:mg "low_end"=some (.ref t.nE)
 qZ:kz K "high_end" "high_end" nt t.kO t.BC
 BG:Binds K t.BC ["line","first","kinds"] []
 Ut:mg "high_end"=some (.ref t.kO)
 gX:kz K "sets_measure" "sets_measure" gW t.eR t.qP
 lX:Binds K t.qP ["sign"] []
 xr:mg "sets_measure"=some (.ref t.eR)
 q0:kz K "window" "window" uF t.qQ t.LB
 yp:Binds K t.LB ["line","at","behind","changed"] []
 GO:mg "window"=some (.ref t.qQ)
 iC:kz K "plain_voice" "Book.plain_voice" b5 t.bD t.kP
 dr:Binds K t.kP ["self","name"] []
 gO:Meth K t.a9 "plain_voice" t.bD
 vU:kz K "put" "Book.put" gD t.dY t.BD
 q8:Binds K t.BD ["self","name","at","sign"] []
 yq:Meth K t.a9 "put" t.dY
 qg:kz K "canon" "Book.canon" iu t.eF t.vP
 lY:Binds K t.vP ["self","name"] []
 tV:Meth K t.a9 "canon" t.eF
 uN:kz K "turned" "turned" uG t.qR t.LC
 Em:Binds K t.LC ["line"] []
 Pf:mg "turned"=some (.ref t.qR)
 oR:kz K "line" "Book.line" dz t.cy t.sq
 fV:Binds K t.sq ["self","name"] []
 iD:Meth K t.a9 "line" t.cy
 sx:kz K "undo" "Deed.undo" lu t.ic t.yd
 yr:Binds K t.yd ["self"] []
 Qr:Meth K t.bx "undo" t.ic
 sy:kz K "undo" "Book.undo" jy t.fS t.ye
 sA:Binds K t.ye ["self"] []
 En:Meth K t.a9 "undo" t.fS
 sC:kz K "redo" "Book.redo" jz t.fU t.yf
 sE:Binds K t.yf ["self"] []
 Eo:Meth K t.a9 "redo" t.fU
 uO:kz K "is_name" "is_name" qq t.nF t.GF
 GP:Binds K t.GF ["name"] []
 Wu:mg "is_name"=some (.ref t.nF)
 jk:kz K "refuse_new" "Book.refuse_new" bU t.bC t.lP
 jm:Binds K t.lP ["self","name"] []
 q9:Meth K t.a9 "refuse_new" t.bC
 oF:kz K "put_in" "Book.put_in" iT t.eK t.tS
 oG:Binds K t.tS ["self","voice"] []
 yt:Meth K t.a9 "put_in" t.eK
 jU:kz K "__init__" "Voice.__init__" eN t.cH t.nG
 jV:Binds K t.nG ["self","name","terms"] []
 gY:Lf K "add_canon" "Book.add_canon" cb t.bI t.jT (.ref t.jh)
 lZ:Binds K t.jT ["self","name","leader","later","slow","is_turned"] [.int 0 t.eS,.int 1 t.eU,.bool false]
 jW:Binds K t.jT ["self","name","leader","later","slow","is_turned"] []
 l8:Meth K t.a9 "add_canon" t.bI
 vV:kz K "cut" "Book.cut" jA t.gE t.BE
 BH:Binds K t.BE ["self","name","at"] []
 Uu:Meth K t.a9 "cut" t.gE
 sF:kz K "swap" "Book.swap" fO t.dB t.yg
 yu:Binds K t.yg ["self","name","at","sign"] []
 Qs:Meth K t.a9 "swap" t.dB
 jX:kz K "add_voice" "Book.add_voice" dj t.cf t.nH
 jY:Binds K t.nH ["self","name"] []
 sG:Meth K t.a9 "add_voice" t.cf
 GQ:kz K "_law_do" "_law_do" kL t.j9 t.Wr
 Qt:Binds K t.Wr ["_law_book","_law_deed","_law_at"] []
 Za:mg "_law_do"=some (.ref t.j9)
 eP:kz K "_law_tried" "_law_tried" nu t.lD t.GG
 gZ:Binds K t.GG ["_law_book","_law_deed","_law_at"] []
 iE:mg "_law_tried"=some (.ref t.lD)
 l9:kz K "_law_all_back" "_law_all_back" jQ t.ix t.vQ
 vW:Binds K t.vQ ["_law_book","_law_name","_law_line"] []
 N2:mg "_law_all_back"=some (.ref t.ix)
 qy:kz K "_law_mixed" "_law_mixed" qr t.nI t.GH
 Af:Binds K t.GH ["_law_seed","_law_k"] []
 LL:mg "_law_mixed"=some (.ref t.nI)
 uP:kz K "_law_whole" "_law_whole" qt t.nJ t.GI
 GR:Binds K t.GI ["_law_found"] []
 Wv:mg "_law_whole"=some (.ref t.nJ)
 uQ:kz K "_law_nums" "_law_nums" uH t.qS t.LF
 Ep:Binds K t.LF ["_law_found","_law_due"] []
 Pg:mg "_law_nums"=some (.ref t.qS)
 eM:kz K "_law_cell_at" "_law_cell_at" lx t.jC t.yh
 ie:Binds K t.yh ["_law_script","_law_k"] []
 jZ:mg "_law_cell_at"=some (.ref t.jC)
 kU:Lf K "measures" "measures" nC t.kQ t.vR (.ref t.sr)
 JJ:Binds K t.vR ["line","begin"] [.int 3 t.lQ]
 vX:Binds K t.vR ["line","begin"] []
 JK:mg "measures"=some (.ref t.kQ)
 fJ:kz K "kind_at" "kind_at" qu t.nK t.GJ
 iV:Binds K t.GJ ["line","at"] []
 jF:mg "kind_at"=some (.ref t.nK)
 kq:kz K "plain_worth" "plain_worth" iU t.gF t.tT
 tW:Binds K t.tT ["kind","measure"] []
 LM:mg "plain_worth"=some (.ref t.gF)
 c8:kz K "worths_without_runs" "worths_without_runs" cA t.bQ t.i0
 i5:Binds K t.i0 ["line","begin"] []
 vY:mg "worths_without_runs"=some (.ref t.bQ)
 GS:Lf K "runs" "runs" Gs t.BF t.Qo (.ref t.K4)
 Zb:Binds K t.Qo ["line","begin"] [.int 3 t.yi]
 Ww:Binds K t.Qo ["line","begin"] []
 aeg:mg "runs"=some (.ref t.BF)
 fK:kz K "has_left_note" "has_left_note" fI t.dZ t.o3
 kF:Binds K t.o3 ["line","found","first"] []
 uR:mg "has_left_note"=some (.ref t.dZ)
 eQ:kz K "has_right_note" "has_right_note" eO t.dm t.nM
 j0:Binds K t.nM ["line","behind"] []
 sH:mg "has_right_note"=some (.ref t.dm)
 fW:kz K "settle_one_over" "settle_one_over" dS t.cO t.lR
 ma:Binds K t.lR ["line","found","first","behind"] []
 BI:mg "settle_one_over"=some (.ref t.cO)
 fX:kz K "settle_two_over" "settle_two_over" dU t.cP t.lS
 md:Binds K t.lS ["line","found","first","behind"] []
 BJ:mg "settle_two_over"=some (.ref t.cP)
 me:kz K "settle_run" "settle_run" jR t.iy t.vS
 vZ:Binds K t.vS ["line","found","first","behind"] []
 N4:mg "settle_run"=some (.ref t.iy)
 uS:kz K "reading" "reading" qv t.nN t.GK
 GU:Binds K t.GK ["line","begin"] []
 Wx:mg "reading"=some (.ref t.nN)
 rb:Lf K "worths" "worths" uI t.qT t.Ej (.ref t.zZ)
 Ph:Binds K t.Ej ["line","begin"] [.int 3 t.qU]
 Er:Binds K t.Ej ["line","begin"] []
 Pj:mg "worths"=some (.ref t.qT)
 sI:kz K "kept" "Book.kept" fP t.dC t.yj
 sJ:Binds K t.yj ["self","name"] []
 Es:Meth K t.a9 "kept" t.dC
 lE:kz K "_law_line_of" "_law_line_of" ly t.jD t.yk
 sL:Binds K t.yk ["_law_voices","_law_name"] []
 Et:mg "_law_line_of"=some (.ref t.jD)
 yv:kz K "_law_base" "_law_base" uJ t.qV t.LG
 LN:Binds K t.LG ["_law_line","_law_begin"] []
 Z2:mg "_law_base"=some (.ref t.qV)
 uT:kz K "_law_three" "_law_three" qw t.nP t.GL
 GW:Binds K t.GL ["_law_line","_law_begin"] []
 Wz:mg "_law_three"=some (.ref t.nP)
 Eu:kz K "_law_run" "_law_run" zY t.vT t.Qp
 Qu:Binds K t.Qp ["_law_line","_law_told","_law_low","_law_high"] []
 acA:mg "_law_run"=some (.ref t.vT)
 rf:kz K "_law_read" "_law_read" uK t.qW t.LH
 yw:Binds K t.LH ["_law_line","_law_begin"] []
 GX:mg "_law_read"=some (.ref t.qW)
 oS:kz K "_law_kept_of" "_law_kept_of" lz t.jE t.ym
 yx:Binds K t.ym ["_law_voices","_law_name"] []
 Qv:mg "_law_kept_of"=some (.ref t.jE)
 kr:kz K "_law_line_full" "_law_line_full" cL t.gG t.tU
 tX:Binds K t.tU ["_law_script","_law_book","_law_name","_law_canons"] []
 LO:mg "_law_line_full"=some (.ref t.gG)
 Zc:kz K "law" "law" AV t.LI t.acz
 afB:Binds K t.acz ["_law_script"] []
 akY:mg "law"=some (.ref t.LI)
 agG:mg "all"=none
 acB:mg "any"=none
 aeh:mg "bool"=none
 v7:mg "enumerate"=none
 yz:mg "int"=none
 ku:mg "isinstance"=none
 dt:mg "len"=none
 Ew:mg "list"=none
 agH:mg "max"=none
 agI:mg "min"=none
 jG:mg "range"=none
 agJ:mg "zip"=none
 AY:mg "GREAT_KINDS"=some (.ref t.eL)
 AZ:∀ H,uo K H t.eL [.str "G",.str "D",.str "R"]
 N5:mg "SMALL_KINDS"=some (.ref t.gH)
 N7:∀ H,uo K H t.gH [.str "s",.str "d",.str "r"]
 Kg:mg "PARTING_KINDS"=some (.ref t.d7)
 Kh:∀ H,uo K H t.d7 [.str ".",.str "3",.str "2"]
 xt:mg "MEASURE_KINDS"=some (.ref t.cY)
 xu:∀ H,uo K H t.cY [.str "3",.str "2"]
 GY:mg "SOUNDING_KINDS"=some (.ref t.dq)
 GZ:∀ H,uo K H t.dq [.str "G",.str "D",.str "s",.str "d"]
 LP:mg "SILENT_KINDS"=some (.ref t.eV)
 LQ:∀ H,uo K H t.eV [.str "R",.str "r",.str ".",.str "3",.str "2"]
 LR:mg "HIGHEST_TONE"=some (.int 99 t.lT)
 LS:mg "TURNED_KINDS"=some (.ref t.dD)
 Ki:KD K w t.dD [("3",.str "2"),("2",.str "3")]
 LV:mg "PLAIN_WORTHS"=some (.ref t.dE)
 Kj:KD K w t.dE [("G",.int 3),("D",.int 2),("R",.int 3),("s",.int 1),("d",.int 1),("r",.int 1),(".",.int 0),("3",.int 0),("2",.int 0)]
 uU:mg "TWOFOLD_WORTHS"=some (.ref t.cg)
 sM:KD K w t.cg [("G",.int 2),("R",.int 2)]
 Qw:mg "FULL_WORTH"=some (.int 3 t.qd)
 jn:mg "SHORTENED_WORTH"=some (.int 2 t.ji)
 Kk:mg "DOUBLED_WORTH"=some (.int 2 t.kC)
 LW:mg "DOTTED_WORTH"=some (.int 3 t.lU)
 Z3:mg "LETTERS"=some (.str "abcdefghijklmnopqrstuvwxyz" t.Aa)
 LX:mg "LONGEST_NAME"=some (.int 8 t.lV)
 N8:mg "MOST_VOICES"=some (.int 12 t.oE)
 Qx:mg "MOST_SIGNS"=some (.int 200 t.qe)
 acC:mg "LATEST"=some (.int 999 t.Ek)
 Z4:mg "SLOWEST"=some (.int 9 t.Ab)
 Uv:mg "Voice"=some (.ref t.du)
 Uw:Mk K t.du t.cH
 fY:VI K t.du
 gI:j7 K t.du "name"
 cQ:j7 K t.du "terms"
 cC:j7 K t.du "signs"
 Ex:mg "Deed"=some (.ref t.bx)
 Ey:Mk K t.bx t.cX
 fZ:VI K t.bx
 eX:j7 K t.bx "things"
 iF:j7 K t.bx "at"
 eY:j7 K t.bx "before"
 gJ:j7 K t.bx "after"
 aei:mg "Book"=some (.ref t.a9)
 aej:Mk K t.a9 t.cW
 aE:VI K t.a9
 bN:j7 K t.a9 "voices"
 eG:j7 K t.a9 "done"
 cR:j7 K t.a9 "undone"
 LY:mg "NoVoice"=some (.ref t.aU)
 Pk:mg "Leaned"=some (.ref t.bq)
 LZ:mg "NoPlace"=some (.ref t.aV)
 L0:mg "BadSign"=some (.ref t.aW)
 JL:mg "NotPlain"=some (.ref t.aQ)
 Qy:mg "Full"=some (.ref t.cm)
 G2:mg "NoMore"=some (.ref t.br)
 L4:mg "BadName"=some (.ref t.aX)
 Ez:mg "NameTaken"=some (.ref t.aI)
 L5:mg "BadTerm"=some (.ref t.aY)
 WA:ExA K t.aU
 Z5:ExA K t.bq
 WB:ExA K t.aV
 WC:ExA K t.aW
 Ux:ExA K t.aQ
 Zd:ExA K t.cm
 Pl:ExA K t.br
 WE:ExA K t.aX
 Qz:ExA K t.aI
 WG:ExA K t.aY
 eZ:exmOne K (.ref t.aU) (.ref t.aX)=some false
 dG:exmOne K (.ref t.aU) (.ref t.aI)=some false
 iL:exmOne K (.ref t.aU) (.ref t.cm)=some false
 e7:exmOne K (.ref t.aU) (.ref t.aU)=some true
 gb:exmOne K (.ref t.bq) (.ref t.aX)=some false
 eh:exmOne K (.ref t.bq) (.ref t.aI)=some false
 jH:exmOne K (.ref t.bq) (.ref t.cm)=some false
 gf:exmOne K (.ref t.bq) (.ref t.aU)=some false
 e8:exmOne K (.ref t.bq) (.ref t.aQ)=some false
 gh:exmOne K (.ref t.bq) (.ref t.aV)=some false
 gi:exmOne K (.ref t.bq) (.ref t.aW)=some false
 gj:exmOne K (.ref t.bq) (.ref t.aY)=some false
 g4:exmOne K (.ref t.bq) (.ref t.bq)=some true
 e9:exmOne K (.ref t.aV) (.ref t.aX)=some false
 dH:exmOne K (.ref t.aV) (.ref t.aI)=some false
 iN:exmOne K (.ref t.aV) (.ref t.cm)=some false
 fb:exmOne K (.ref t.aV) (.ref t.aU)=some false
 en:exmOne K (.ref t.aV) (.ref t.aQ)=some false
 fc:exmOne K (.ref t.aV) (.ref t.aV)=some true
 ff:exmOne K (.ref t.aW) (.ref t.aX)=some false
 dJ:exmOne K (.ref t.aW) (.ref t.aI)=some false
 iO:exmOne K (.ref t.aW) (.ref t.cm)=some false
 fg:exmOne K (.ref t.aW) (.ref t.aU)=some false
 eo:exmOne K (.ref t.aW) (.ref t.aQ)=some false
 fh:exmOne K (.ref t.aW) (.ref t.aV)=some false
 fi:exmOne K (.ref t.aW) (.ref t.aW)=some true
 eA:exmOne K (.ref t.aQ) (.ref t.aX)=some false
 c9:exmOne K (.ref t.aQ) (.ref t.aI)=some false
 g6:exmOne K (.ref t.aQ) (.ref t.cm)=some false
 eB:exmOne K (.ref t.aQ) (.ref t.aU)=some false
 dM:exmOne K (.ref t.aQ) (.ref t.aQ)=some true
 iP:exmOne K (.ref t.cm) (.ref t.aX)=some false
 gm:exmOne K (.ref t.cm) (.ref t.aI)=some false
 mf:exmOne K (.ref t.cm) (.ref t.cm)=some true
 gn:exmOne K (.ref t.br) (.ref t.aX)=some false
 eC:exmOne K (.ref t.br) (.ref t.aI)=some false
 jI:exmOne K (.ref t.br) (.ref t.cm)=some false
 gp:exmOne K (.ref t.br) (.ref t.aU)=some false
 fk:exmOne K (.ref t.br) (.ref t.aQ)=some false
 gq:exmOne K (.ref t.br) (.ref t.aV)=some false
 gs:exmOne K (.ref t.br) (.ref t.aW)=some false
 gu:exmOne K (.ref t.br) (.ref t.aY)=some false
 hG:exmOne K (.ref t.br) (.ref t.bq)=some false
 hI:exmOne K (.ref t.br) (.ref t.br)=some true
 fq:exmOne K (.ref t.aX) (.ref t.aX)=some true
 dN:exmOne K (.ref t.aI) (.ref t.aX)=some false
 cS:exmOne K (.ref t.aI) (.ref t.aI)=some true
 fu:exmOne K (.ref t.aY) (.ref t.aX)=some false
 dO:exmOne K (.ref t.aY) (.ref t.aI)=some false
 iQ:exmOne K (.ref t.aY) (.ref t.cm)=some false
 fz:exmOne K (.ref t.aY) (.ref t.aU)=some false
 eD:exmOne K (.ref t.aY) (.ref t.aQ)=some false
 fA:exmOne K (.ref t.aY) (.ref t.aV)=some false
 fB:exmOne K (.ref t.aY) (.ref t.aW)=some false
 fD:exmOne K (.ref t.aY) (.ref t.aY)=some true
def cs (t:Adr):Cs:=⟨t.a9,t.du,t.bx,true,fun r=>match r with
 |.lM=>t.aW
 |.zU=>t.aX
 |.qk=>t.aI
 |.Full=>t.cm
 |.dR=>t.aU
 |.gT=>t.aQ
 |.kB=>t.aV
 |.vF=>t.aY
 |.Gp=>t.bq
 |.oX=>t.br⟩
inductive EA (C:Addr)(vs:List V)(H:Hp)(Q:VK)(E:XK):Prop
 |mk (x dx:Addr) (gw:vs=[.ref x]) (gx:H x=some (.ins C dx [])) (iW:∀(L D U:Addr)(H':Hp),(∀ y o,H y=some o->y≠x->H' y=some o)->H L=none->H D=none->H U=none->L≠D->L≠U->D≠U->H' x=some (.ins C dx (DH L D U))->H' L=some (.lst [])->H' D=some (.lst [])->H' U=some (.lst [])->Q .non H'):EA C vs H Q E
variable {P:Program} {w:World} {K:Frag} {mg:Str->Option Value} {base:Heap} {t:Adr}
theorem G4 (T:Txt K w mg t):bK P w K mg base oI (0+1) t.cW t.oY ["self"] (EA t.a9):=by
 refine T.kD.ok Gu (fun vs H Q E h=>?_) (fun cdv A outer s H vs Q E hr h=>?_)
 ·obtain⟨_,_,rfl,_⟩:=h;rfl
 ·obtain⟨x,dx,rfl,hx,q⟩:=h;refine aS (ah (tK (pv 0) (bM af) rfl) (ah (tK (pv 0) (bM af) rfl) (ak (tK (pv 0) (bM af) rfl)))) ?_;refine⟨big (by show 0<=1000;omega),fun L hL=>?_⟩;have xL:x≠L:=aq hx hL;refine⟨_,rfl,x,_,dx,_,rfl,by rw[ao xL];exact hx,T.aE,T.bN,by show 0<1000;decide,?_⟩;refine⟨big (by show 0<=1000;omega),fun D hD=>?_⟩;have xD:x≠D:=aq ae hD;have DL:L≠D:=aq (show upd (upd H L (.lst [])) x _ L=some (.lst []) by rw[ao (Ne.symm xL)];exact ae) hD;have hD0:H D=none:=by rw[ao (Ne.symm xD),ao (Ne.symm DL)]at hD;exact hD
  refine⟨_,rfl,x,_,dx,_,rfl,by rw[ao xD];exact ae,T.aE,T.eG,by rw[Qg];show 1<1000;decide,?_⟩;refine⟨big (by show 0<=1000;omega),fun U hU=>?_⟩;have xU:x≠U:=aq ae hU;have DU:D≠U:=by
   rintro rfl;rw[ao (Ne.symm xU),ae]at hU;cases hU
  have LU:L≠U:=by
   rintro rfl;rw[ao (Ne.symm xU),ao DL,ao (Ne.symm xU),ae]at hU;cases hU
  have Ti:H U=none:=by rw[ao (Ne.symm xU),ao (Ne.symm DU),ao (Ne.symm xU),ao (Ne.symm LU)]at hU;exact hU
  refine⟨_,rfl,x,_,dx,_,rfl,by rw[ao xU];exact ae,T.aE,T.cR,by rw[Qg,Y7];show 2<1000;decide,?_⟩;rw[Qg,Y7,aea];refine q L D U _ (fun y o hy ny=>?_) hL hD0 Ti DL LU DU ae ?_ ?_ ?_
  ·rw[ao ny,ao (aq hy Ti),ao ny,ao (aq hy hD0),ao ny,ao (aq hy hL)];exact hy
  ·rw[ao (Ne.symm xL),ao LU,ao (Ne.symm xL),ao DL,ao (Ne.symm xL)];exact ae
  ·rw[ao (Ne.symm xD),ao DU,ao (Ne.symm xD)];exact ae
  ·rw[ao (Ne.symm xU)];exact ae
inductive oT (c:Cs)(vs:List V)(H:Hp)(Q:VK)(E:XK):Prop
 |mk (x dx L D U:Addr) (xs:List V) (vx:List Vx) (n:Str) (gw:vs=[.ref x,.str n]) (gx:H x=some (.ins c.B dx (DH L D U))) (iW:H L=some (.lst xs)) (m7:Paired (aeb c.V H) xs vx) (tJ:match vx.find? (fun a=>decide (a.n=n)) with
 |none=>RX E c .dR H
 |some a=>Q (.ref a.o) H):oT c vs H Q E
theorem Z6 {vx:List Vx}{n:Str}:∀{i:Nat},(∀ j a,j<i->vx[j]? = some a->a.n≠n)->∀{b},vx[i]? = some b->b.n=n->vx.find? (fun a=>decide (a.n=n))=some b:=by
 induction vx with
 |nil=>intro i _ b h;simp at h
 |cons v vs ih =>
  intro i hi b hb he;cases i with
  |zero =>
   simp at hb;subst hb;exact List.find?_cons_of_pos (decide_eq_true he)
  |succ i =>
   have h0:=hi 0 v (by omega) rfl;have h1:(v::vs).find? (fun a=>decide (a.n=n))=vs.find? (fun a=>decide (a.n=n)):=List.find?_cons_of_neg (fun z=>h0 (of_decide_eq_true z));rw[h1];exact ih (i:=i) (fun j a hj ha=>hi (j+1) a (Nat.succ_lt_succ hj) (by simpa using ha)) (by simpa using hb) he
theorem dP (T:Txt K w mg t):bK P w K mg base (iI P w) (0+1) t.bF t.j8 ["self","name"] (oT (cs t)):=by
 refine T.gN.P5 oN (fun vs H Q E h=>?_) (fun cdv A outer s H vs Q E hr h=>?_)
 ·obtain⟨_,_,_,_,_,_,_,_,rfl,_⟩:=h;rfl
 ·obtain⟨x,dx,L,D,U,xs,vx,n,rfl,hx,hL,g,q⟩:=h;refine aS (ah (agv (ij PassesOwn.never rfl (fN (bX (pv 0) rfl)) (aP (i:=2) oN.nd rfl (Or.inl rfl)) (ak (bf (au (bH.or (bg (az hr))) (bX (pv 2) rfl) (pv 1) (ay _)) (ak (ax (pv 2))) aF)))) (ak (iJ (X:=(cK (iI P w) P w K mg base ["self","name","voice"] "Book.voice_called" (ag ck) t.bF cdv A outer s H E)) (fun _ _ z=>z) rfl T.WA.exc rfl T.LY (aa av af)))) ?_;have xl:=cB g;refine⟨_,rfl,x,_,dx,_,_,rfl,hx,T.aE,T.bN,kJ _ _ _,L,rfl,⟨_,aZ.of hL⟩,lG (K:=K) (xs:=xs) (fun i σ H'=>∃ v,σ=[some (.ref x),some (.str n),v]/\H'=H/\∀ j a,j<i->vx[j]? = some a->a.n≠n) ⟨none,rfl,rfl,fun j a hj=>by omega⟩ ?_ ?_ ?_⟩
  ·rintro i σ H1 _ ⟨v,rfl,eH,_⟩;rw[eH];exact aZ.of hL
  ·rintro i y σ H1 hy ⟨v,rfl,eH,hi⟩;have eH:=eH.symm;subst eH;obtain⟨b,e1,rfl,hb⟩:=Bd g hy;refine⟨_,rfl,b.o,_,b.d,_,_,rfl,hb,T.fY,T.gI,Uc _ _ _,?_⟩;refine⟨_,rfl,.inl ⟨rfl,_,rfl,?_⟩⟩;refine bp (fun h=>?_) (fun h=>?_)
   ·have e:b.n=n:=V.str.inj (of_decide_eq_true h);rw[Z6 hi e1 e]at q;exact⟨_,rfl,q⟩
   ·refine⟨_,rfl,rfl,fun j a hj ha=>?_⟩;rcases Nat.lt_or_ge j i with z|z
    ·exact hi j a z ha
    ·have hij:j=i:=by omega
     rw[hij,e1]at ha;cases ha;exact fun z=>h (decide_eq_true (congrArg V.str z))
  ·rintro σ H1 ⟨v,rfl,eH,hi⟩;have eH:=eH.symm;subst eH;have hn:vx.find? (fun a=>decide (a.n=n))=none:=List.find?_eq_none.mpr fun a ha z=>by
    obtain⟨j,hj⟩:=getElem?_of_mem ha;have hjl:j<vx.length:=(List.getElem?_eq_some_iff.mp hj).1;exact hi j a (by omega) hj (of_decide_eq_true z)
   rw[hn]at q;exact⟨by show 1<=sizeLine;decide,q.2⟩
inductive L6 (C:Addr)(vs:List V)(H:Hp)(Q:VK)(E:XK):Prop
 |mk (x dx T_ B A:Addr) (i:Nat) (xs bs as:List V) (gw:vs=[.ref x]) (gx:H x=some (.ins C dx (Jx T_ (i:Int) B A))) (iW:H T_=some (.lst xs)) (m7:H B=some (.lst bs)) (tJ:H A=some (.lst as)) (Tx:T_≠A) (h6_:i+bs.length<=xs.length) (h7_:xs.length+as.length<=1000) (h8_:Q .non (upd H T_ (.lst (xs.take i++as++xs.drop (i+bs.length))))):L6 C vs H Q E
theorem L7 (T:Txt K w mg t):bK P w K mg base oI (0+1) t.lC t.GC ["self"] (L6 t.bx):=by
 refine T.Ac.ok Wb (fun vs H Q E h=>?_) (fun cdv A outer s H vs Q E hr h=>?_)
 ·obtain⟨_,_,_,_,_,_,_,_,_,rfl,_⟩:=h;rfl
 ·obtain⟨x,dx,T_,B,A_,i,xs,bs,as,rfl,hx,hT,hB,hA,hne,hi,hz,q⟩:=h;refine aS (ak (lF (bX (pv 0) rfl) (TQ (bX (pv 0) rfl) (je (bX (pv 0) rfl)) (je (aR (bW.or (aJ.or bY)) (bX (pv 0) rfl) (bc (aN.or aO) rfl T.dt dg (aa (bX (pv 0) rfl) af))))))) ?_;refine⟨_,rfl,x,_,dx,_,_,rfl,hx,T.fZ,T.gJ,O6 _ _ _ _,?_⟩;refine⟨_,rfl,x,_,dx,_,_,rfl,hx,T.fZ,T.eX,Lm _ _ _ _,?_⟩;refine⟨_,rfl,x,_,dx,_,_,rfl,hx,T.fZ,T.iF,Qe _ _ _ _,_,rfl,?_⟩;refine⟨_,rfl,x,_,dx,_,_,rfl,hx,T.fZ,T.iF,Qe _ _ _ _,?_⟩;refine⟨_,rfl,x,_,dx,_,_,rfl,hx,T.fZ,T.eY,Ln _ _ _ _,?_⟩;refine .inl ⟨B,bs,rfl,.inl (aZ.of hB),.inl ⟨_,_,rfl,rfl,_,rfl,?_⟩⟩;refine⟨T_,A_,xs,as,(i:Int),((i+bs.length:Nat):Int),rfl,rfl,rfl,by simp,hT,hA,hne,by omega,by omega,by omega,Nat.le_trans hz (by decide),?_⟩;rw[Int.toNat_natCast,Int.toNat_natCast];exact q
inductive xw (CB CD:Addr)(vs:List V)(H:Hp)(Q:VK)(E:XK):Prop
 |mk (x dx L D U d dd T_ B A:Addr) (i:Nat) (ds us xs bs as:List V) (gw:vs=[.ref x,.ref d]) (gx:H x=some (.ins CB dx (DH L D U))) (iW:H D=some (.lst ds)) (m7:H U=some (.lst us)) (tJ:H d=some (.ins CD dd (Jx T_ (i:Int) B A))) (Tx:H T_=some (.lst xs)) (h6_:H B=some (.lst bs)) (h7_:H A=some (.lst as)) (h8_:T_≠A) (h9_:T_≠D) (aiH:T_≠U) (anZ:D≠U) (an0:i+bs.length<=xs.length) (an2:xs.length+as.length<=1000) (an3:ds.length<=900) (an4:Q .non (upd (upd (upd H T_ (.lst (xs.take i++as++xs.drop (i+bs.length)))) D (.lst (ds++[.ref d]))) U (.lst []))):xw CB CD vs H Q E
theorem iR (T:Txt K w mg t):bK P w K mg base oI (0+2) t.dA t.qO ["self","deed"] (xw t.a9 t.bx):=by
 have G5:=L7 (P:=P) (base:=base) T;refine T.lW.ok Kc (fun vs H Q E h=>?_) (fun cdv A outer s H vs Q E hr h=>?_)
 ·obtain⟨_,_,_,_,_,_,_,_,_,_,_,_,_,_,_,_,rfl,_⟩:=h;rfl
 ·obtain⟨x,dx,L,D,U,d,dd,T_,B,A_,i,ds,us,xs,bs,as,rfl,hx,hD,hU,hd,hT,hB,hA,n1,n2,n3,n4,hi,hz,hds,q⟩:=h;refine aS (ah (bo (kg (pv 1) T.fZ T.LJ G5 (hr.mono (by decide)) T.Ad .nil aL)) (ah (bo (m9 plainAttrs_list slot_list_append type_list_append cz (bX (pv 0) rfl) (aa (pv 1) af))) (ak (bo (VU plainAttrs_list PySem.F.slot_list_clear PySem.F.type_list_clear abD (bX (pv 0) rfl)))))) ?_;have xT:x≠T_:=mZ hx hT (by intro z;cases z);have xD:x≠D:=mZ hx hD (by intro z;cases z);refine⟨_,rfl,d,dd,_,rfl,hd,O7 _ _ _ _,?_⟩;refine⟨d,dd,T_,B,A_,i,xs,bs,as,rfl,hd,hT,hB,hA,n1,hi,hz,?_⟩;refine⟨_,rfl,x,_,dx,_,_,rfl,by rw[ao xT];exact hx,T.aE,T.eG,D0 _ _ _,?_⟩;refine⟨.inl ⟨rfl,_,aZ.of (show upd H T_ _ D=some (.lst ds) by rw[ao (Ne.symm n2)];exact hD)⟩,_,rfl,D,_,_,rfl,rfl,by rw[ao (Ne.symm n2)];exact hD,ba (by omega),?_⟩;refine⟨_,rfl,x,_,dx,_,_,rfl,by rw[ao xD,ao xT];exact hx,T.aE,T.cR,vB _ _ _,?_⟩;have hU2:upd (upd H T_ (.lst (xs.take i++as++xs.drop (i+bs.length)))) D (.lst (ds++[.ref d])) U=some (.lst us):=by rw[ao (Ne.symm n4),ao (Ne.symm n3)];exact hU
  exact⟨.inl ⟨rfl,_,aZ.of hU2⟩,U,_,rfl,rfl,hU2,q⟩
inductive EB (C:Addr)(vs:List V)(H:Hp)(Q:VK)(E:XK):Prop
 |mk (x dx:Addr) (T_:Addr) (i:Int) (B A:Addr) (gw:vs=[.ref x,.ref T_,.int i,.ref B,.ref A]) (gx:H x=some (.ins C dx [])) (iW:Q .non (upd H x (.ins C dx (Jx T_ i B A)))):EB C vs H Q E
theorem hV (T:Txt K w mg t):bK P w K mg base oI (0+1) t.cX t.oZ ["self","things","at","before","after"] (EB t.bx):=by
 refine T.kE.ok Gv (fun vs H Q E h=>?_) (fun cdv A outer s H vs Q E hr h=>?_)
 ·obtain⟨_,_,_,_,_,_,rfl,_⟩:=h;rfl
 ·obtain⟨x,dx,T_,i,B,A_,rfl,hx,q⟩:=h;refine aS (ah (tK (pv 0) (pv 1) rfl) (ah (tK (pv 0) (pv 2) rfl) (ah (tK (pv 0) (pv 3) rfl) (ak (tK (pv 0) (pv 4) rfl))))) ?_;refine⟨_,rfl,_,rfl,x,_,dx,_,rfl,hx,T.fZ,T.eX,by show 0<1000;decide,?_⟩;refine⟨_,rfl,_,rfl,x,_,dx,_,rfl,ae,T.fZ,T.iF,by rw[K2];show 1<1000;decide,?_⟩;refine⟨_,rfl,_,rfl,x,_,dx,_,rfl,ae,T.fZ,T.eY,by rw[K2,Qf];show 2<1000;decide,?_⟩;refine⟨_,rfl,_,rfl,x,_,dx,_,rfl,ae,T.fZ,T.gJ,by rw[K2,Qf,Y6];show 3<1000;decide,?_⟩;rw[K2,Qf,Y6,ad9];simp only [cI];exact q
inductive A0 (c:Cs)(vs:List V)(H:Hp)(Q:VK)(E:XK):Prop
 |mk (x:Addr) (F:Addr->Prop) (vw:Vw) (ps fs:List Vw) (gw:vs=[.ref x]) (gx:zV c H x F vw ps fs) (iW:∀(l:Addr)(H':Hp),H l=none->ar H H'->H' l=some (.lst (vw.map fun a=>V.str a.1))->Q (.ref l) H'):A0 c vs H Q E
theorem kx (T:Txt K w mg t):bK P w K mg base oI (0+1) t.fR t.vN ["self"] (A0 (cs t)):=by
 refine T.qf.ok NZ (fun vs H Q E h=>?_) (fun cdv A outer s H vs Q E hr h=>?_)
 ·obtain⟨_,_,_,_,_,rfl,_⟩:=h;rfl
 ·obtain⟨x,F,vw,ps,fs,rfl,B,q⟩:=h;refine aS (ak (ax (oC (cn:=["voice"]) rfl (dQ.of rfl) (fN (bX (pv 0) rfl)) (fun _=>(aP (i:=0) Kf rfl (Or.inl rfl))) (fun _=>vv) (fun _=>(bX (pv 0) rfl))))) ?_;obtain⟨L,D,U,all,M,Ps,Fs,es,us,b,i,pp,pf,f⟩:=B.ex;obtain⟨dx,hx⟩:=b.hx;obtain⟨vx,g,gv⟩:=b.vD i;have hL:=b.hL;have xl:=cB g;have vl:=cB gv;have ln:=(b.wf M (.inr (.inl rfl))).len;have hn:=agC gv fun _ _ r=>r.2.1;refine⟨_,rfl,x,_,dx,_,_,rfl,hx,T.aE,T.bN,kJ _ _ _,L,rfl,⟨_,aZ.of hL⟩,fun D' b' hD'=>?_⟩;refine lp (K:=K) (xs:=M L) (fun i ys σ H'=>∃ v,σ=[v,some (.ref x)]/\H'=upd H D' (.lst ys)/\ys=(vx.take i).map fun a=>V.str a.n) ⟨none,rfl,rfl,by simp⟩ ?_ ?_ ?_
  ·rintro i ys σ H' ⟨v,rfl,rfl,_⟩;exact ip (aZ.of hL) hD'
  ·rintro i ys y σ H' hy ⟨v,rfl,rfl,rfl⟩ N hN;obtain⟨a,e1,rfl,ha⟩:=Bd g hy;have hi:i<vx.length:=(List.getElem?_eq_some_iff.mp e1).1;refine jt ?_;refine⟨_,rfl,a.o,_,a.d,_,_,rfl,by rw[ao (aq ha hD')];exact ha,T.fY,T.gI,Uc _ _ _,ae,?_,?_⟩
   ·rw[length_map,length_take];exact ba (by omega)
   ·refine hN _ _ _ ⟨_,rfl,cI,?_⟩;rw[take_succ,e1];simp
  ·rintro ys σ H' ⟨v,rfl,rfl,rfl⟩;rw[xl,take_length,hn];exact q D' _ hD' (ar.upd hD') ae
theorem Z7 {K:Frag}{H:Hp}{p:Addr}{a b c d:V}{i:Nat}{v:V}{Q:VK}(h:H p=some (.tup [a,b,c,d]))(e:[a,b,c,d][i]? = some v)(q:Q v H):PV K (.ref p) (.int (i:Int)) H Q\/PX K (.ref p) (.int (i:Int)) H Q\/PY (.ref p) (.int (i:Int)) H Q:=.inr (.inl ⟨p,_,i,v,rfl,rfl,uo.of h,DN e,q⟩)
inductive EC (c:Cs)(vs:List V)(H:Hp)(Q:VK)(E:XK):Prop
 |mk (x:Addr) (F:Addr->Prop) (vw:Vw) (ps fs:List Vw) (n:Str) (gw:vs=[.ref x,.str n]) (gx:zV c H x F vw ps fs) (iW:ps.length<=900) (m7:match aM vw n with
 |none=>RX E c .dR H
 |some _=>(leans vw n=true->∀ H',ar H H'->RX E c .Gp H')/\(leans vw n=false->∀ F' H',Gr F F' H->Fr F H H'->zV c H' x F' (gK vw n) (ps++[vw]) []->Q .non H')):EC c vs H Q E
theorem ED (T:Txt K w mg t):bK P w K mg base (iI P w) (0+3) t.eJ t.x9 ["self","name"] (EC (cs t)):=by
 have bG:=dP (P:=P) (base:=base) T;have cT:=iR (P:=P) (base:=base) T;have cD:=hV (P:=P) (base:=base) T;have eI:=kx (P:=P) (base:=base) T;refine T.su.P5 Ea (fun vs H Q E h=>?_) (fun cdv A outer s H vs Q E hr h=>?_)
 ·obtain⟨_,_,_,_,_,_,rfl,_⟩:=h;rfl
 ·obtain⟨x,F,vw,ps,fs,n,rfl,B,hps,q⟩:=h;refine aS (ah (aH (i:=2) Ea.nd rfl (Or.inl rfl) (bT (X:=(cK (iI P w) P w K mg base ["self","name","dropped"] "Book.drop" (ag ib) t.eJ cdv A outer s H E)) (pv 0) T.aE T.dF bG (hr.mono (by decide)) T.cq .nil (fun _ _ z=>Or.inl z) (aa (pv 1) af))) (ah (bf (bZ (bc TL rfl T.acB abL (aa (oC (cn:=["voice"]) rfl (dQ.of rfl) (fN (bX (pv 0) rfl)) (fun _=>(aP (i:=0) Lx rfl (Or.inl rfl))) (fun _=>vv) (fun _=>(cM (kH (bS YK (bX (pv 0) rfl) j4 (ay _)) (j5 (bS (bH.or (bg (az hr))) (aK aA (bX (pv 0) rfl) ai (fun _ _=>rfl)) (pv 2) (ay _))))))) af))) (ak (iJ (X:=(cK (iI P w) P w K mg base ["self","name","dropped"] "Book.drop" (ag ib) t.eJ cdv A outer s H E)) (fun _ _ z=>z) rfl T.Z5.exc rfl T.Pk (aa av af))) aF) (ak (bo (fE (pv 0) T.aE T.iK cT (hr.mono (by decide)) T.eW .nil aL (aa (vj T.Ey cD (hr.mono (by decide)) rfl T.Ex T.d8 .nil aL (aa (bX (pv 0) rfl) (aa (m9 plainAttrs_list PySem.F.slot_list_index PySem.F.type_list_index acq (kg (pv 0) T.aE T.ko eI (hr.mono (by decide)) T.iA .nil aL) (aa (pv 1) af)) (aa (bM (aa (pv 2) af)) (aa (bM af) af))))) af)))))) ?_;obtain⟨L,D,U,all,M,Ps,Fs,es,us,b,iM,pp,pf,f⟩:=B.ex;obtain⟨dx,hx⟩:=b.hx;obtain⟨vx,g,gv⟩:=b.vD iM;have wv:=B.wv vw (.inr (.inl rfl));have hL:=b.hL;have xl:=cB g;have vl:=cB gv;have wl:=wv.len;refine⟨_,rfl,x,dx,_,rfl,hx,ee _ _ _,_,rfl,x,dx,L,D,U,M L,vx,n,rfl,hx,b.hL,g,?_⟩;rcases JD gv (fun _ _ r=>r.2.1) n with ⟨f1,f2⟩|⟨a,th,j,f1,f2,r,an,fj,fw⟩
  ·rw[f1];rw[f2]at q;exact q
  rw[f1];rw[f2]at q;obtain⟨q1,q2⟩:=q;refine⟨_,rfl,x,_,dx,_,_,rfl,hx,T.aE,T.bN,kJ _ _ _,L,rfl,⟨_,aZ.of hL⟩,fun D' b' hD'=>?_⟩;refine lp (K:=K) (xs:=M L) (fun i ys σ H'=>∃ v,σ=[v,some (.ref x),some (.str n),some (.ref a.o)]/\H'=upd H D' (.lst ys)/\ys=((vw.take i).map (JE n)).map V.bl) ⟨none,rfl,rfl,rfl⟩ ?_ ?_ ?_
  ·rintro i ys σ H' ⟨v,rfl,rfl,_⟩;exact ip (aZ.of hL) hD'
  ·rintro i ys y σ H' hy ⟨v,rfl,rfl,rfl⟩ N hN;obtain⟨a1,e1,rfl,ha1⟩:=Bd g hy;obtain⟨q1',e2,_,an1,t1⟩:=Bd gv e1;have hi:i<vw.length:=(List.getElem?_eq_some_iff.mp e2).1;refine jt ?_;refine⟨fun v H'=>v=.bl (JE n q1')/\H'=upd H D' (.lst (((vw.take i).map (JE n)).map V.bl)),?_,?_⟩
   ·refine⟨_,rfl,a1.o,_,a1.d,_,_,rfl,by rw[ao (aq ha1 hD')];exact ha1,T.fY,T.cQ,zS _ _ _,rfl,_,rfl,?_⟩;obtain⟨m1,th1⟩:=q1';cases th1 with
    |pl ss =>
     obtain⟨e3,_⟩:=t1;rw[e3];exact dw ⟨rfl,rfl⟩
    |cn ld lt sl tn =>
     obtain⟨p,e3,hp⟩:=t1;have hp':upd H D' (.lst (((vw.take i).map (JE n)).map V.bl)) p=some (.tup [.str ld,.int lt,.int sl,.bl tn]):=by rw[ao (aq hp hD')];exact hp
     rw[e3];refine jr ?_;refine⟨_,rfl,a1.o,_,a1.d,_,_,rfl,by rw[ao (aq ha1 hD')];exact ha1,T.fY,T.cQ,zS _ _ _,?_⟩;rw[e3];refine Z7 (i:=0) hp' rfl ?_;refine⟨_,rfl,.inl ⟨rfl,?_,rfl⟩⟩;show V.bl (decide (V.str ld=V.str n))=V.bl (decide (ld=n));refine congrArg V.bl (decide_eq_decide.mpr ⟨fun z=>V.str.inj z,fun z=>congrArg V.str z⟩)
   ·rintro _ _ ⟨rfl,rfl⟩;refine⟨ae,?_,?_⟩
    ·rw[length_map,length_map,length_take];exact ba (by omega)
    ·refine hN _ _ _ ⟨_,rfl,cI,?_⟩;rw[take_succ,e2];simp
  ·rintro ys σ H' ⟨v,rfl,rfl,rfl⟩;have ml:(M L).length=vw.length:=xl.trans vl;refine⟨rfl,D',_,rfl,aZ.of ae,_,rfl,?_⟩;rw[ml,take_length,List.any_map];have sD:=ar.upd (o:=.lst ((vw.map (JE n)).map V.bl)) hD';generalize upd H D' (.lst ((vw.map (JE n)).map V.bl))=H1 at sD;refine bp (fun h=>?_) (fun h=>?_)
   ·have q:=q1 h H1 sD;exact⟨by show 1<=sizeLine;decide,q.2⟩
   have hle:leans vw n=false:=by
    cases e:leans vw n with
    |false=>rfl
    |true=>exact absurd e h
   have q2:=q2 hle;have B1:=B.same sD;have hx1:=sD _ _ hx;refine⟨_,rfl,x,dx,_,rfl,hx1,jw _ _ _,?_⟩;refine⟨_,rfl,x,_,dx,_,_,rfl,hx1,T.aE,T.bN,kJ _ _ _,?_⟩;refine⟨_,rfl,x,dx,_,rfl,hx1,lL _ _ _,x,F,vw,ps,fs,rfl,B1,fun l H2 nl s2 h2=>?_⟩;have jl:j<vw.length:=(List.getElem?_eq_some_iff.mp fw).1;have hjn:(vw.map (·.1))[j]? = some n:=by rw[getElem?_map,fw];rfl
   refine⟨.inl ⟨rfl,_,aZ.of h2⟩,_,rfl,l,vw.map (·.1),n,j,rfl,rfl,by rw[List.map_map];exact h2,hjn,fun i hi z=>?_,?_⟩
   ·have:=uD wv.nd z hjn;omega
   have s12:=sD.trans s2;clear s2 sD hx1 B1 nl h2;obtain⟨ds,hD,pD⟩:=b.hD;obtain⟨ux,hU,pU⟩:=b.hU;have dl:=cB pD;have pl:=cB pp;have pe:=b.past.len;refine⟨_,rfl,big (by show 1<=1000;omega),fun B' hB=>?_⟩;refine⟨big (by show 0<=1000;omega),fun A_ hA=>?_⟩;have WH:=D8 hA;have sB:=(ar.upd (o:=.lst [V.ref a.o]) hB).trans (ar.upd (o:=.lst []) hA);have hB2:=ar.upd (o:=.lst []) hA _ _ (ae (H:=H2) (a:=B') (o:=.lst [V.ref a.o]));have QA:=ae (H:=upd H2 B' (.lst [V.ref a.o])) (a:=A_) (o:=.lst []);have hB0:H B'=none:=s12.free hB;have WH:H A_=none:=s12.free WH;have LA:L≠A_:=aq hL WH;generalize upd (upd H2 B' (.lst [V.ref a.o])) A_ (.lst [])=H3 at sB hB2 QA;have s13:=s12.trans sB;intro d dd nd ndd ne;refine⟨d,dd,L,(j:Int),B',A_,rfl,ae,rfl,?_⟩;rw[cI];have s3:ar H3 (upd (upd H3 dd (.own d)) d (.ins t.bx dd (Jx L (j:Int) B' A_))):=fun y o hy=>by
    rw[ao (aq hy nd),ao (aq hy ndd)];exact hy
   have NP:=ae (H:=upd H3 dd (.own d)) (a:=d) (o:=.ins t.bx dd (Jx L (j:Int) B' A_));generalize upd (upd H3 dd (.own d)) d (.ins t.bx dd (Jx L (j:Int) B' A_))=H4 at s3 NP;have s4:=s13.trans s3;refine⟨x,dx,L,D,U,d,dd,L,B',A_,j,ds,ux,M L,[.ref a.o],[],rfl,s4 _ _ hx,s4 _ _ hD,s4 _ _ hU,NP,s4 _ _ hL,s3 _ _ hB2,s3 _ _ QA,LA,b.LD,b.LU,b.DU,by simp;omega,by simp;omega,by omega,?_⟩;have hj':(M L)[j]? = some (.ref a.o):=by
    obtain⟨v,hv,e1,_⟩:=rY g fj;rw[<-e1];exact hv
   have w':zT (vw.take j++vw.drop (j+1)):=by
    rw[<-Ls wv.nd fw];exact wv.dropped hle
   obtain⟨F',gr,fr,B4⟩:=Bk.dropped b iM pp f B.wv hj' w' (e:=⟨d,dd,L,j,B',A_,[.ref a.o],[]⟩) rfl rfl rfl rfl s4 hB0 WH ⟨rfl,NP,s3 _ _ hB2,s3 _ _ QA⟩ hD pD
    (H':=upd (upd (upd H4 L (.lst ((M L).take j++[]++(M L).drop (j+1)))) D (.lst (ds++[.ref d]))) U (.lst [])) (fun y o hy y1 y2 y3=>by rw[ao y3,ao y2,ao y1];exact hy) (by rw[ao b.LU,ao b.LD,ae,append_nil]) (by rw[ao b.DU,ae]) ae
   refine q2 F' _ gr fr ?_;rw[Ls wv.nd fw];exact B4
theorem aiI {a b:TS}{D:Ends}{σ:St}{H:Hp}{rt:VK}{bk ct:St->Hp->Prop}(h:adF a b D σ H):Ends.nx { nx:=adF a b D,rt:=rt,bk:=bk,ct:=ct } σ H:=h
def DeW (H:Hp)(v:V)(d:De):Prop:=∃ p xs ps,v=.ref p/\H p=some (.tup xs)/\xs[0]? = some (.str d.wy.str)/\xs[4]? = some (.ref ps)/\H ps=some (.tup [.str d.sg.1,.int d.sg.2])
theorem L8 (xs:List V)(n:Nat):Ak xs (some (n:Int)) none=xs.drop n:=by
 rcases Nat.lt_or_ge xs.length n with h|h
 ·unfold Ak;have e:HT.m8 xs.length 0 (some (n:Int))=min n xs.length:=HT.PR xs.length 0 n;rw[HT.La,e,Nat.min_eq_right (by omega),List.drop_eq_nil_of_le (Nat.le_refl _),List.take_nil,List.drop_eq_nil_of_le (by omega)]
 ·exact ad7 xs n h
theorem L9 (ks:List Kd)(p met:Nat):kn ks (p+1) met=if(if(ks.getD p .dot).small=true then met else met+1)=2 then p else kn ks p (if(ks.getD p .dot).small=true then met else met+1):=rfl
theorem Pm {ks:List Kd}{j met:Nat}{k:Kd}(h:ks[j]? = some k)(hk:k.small=true)(hm:met<2):kn ks (j+1) met=kn ks j met:=by
 have e:ks.getD j .dot=k:=by rw[List.getD_eq_getElem?_getD,h];rfl
 rw[L9,e,if_pos hk,if_neg (by omega)]
theorem ael {ks:List Kd}{j:Nat}{k:Kd}(h:ks[j]? = some k)(hk:k.small=false):kn ks (j+1) 1=j:=by
 have e:ks.getD j .dot=k:=by rw[List.getD_eq_getElem?_getD,h];rfl
 rw[L9,e,hk];rfl
theorem acD {ks:List Kd}{j:Nat}{k:Kd}(h:ks[j]? = some k)(hk:k.small=false):kn ks (j+1) 0=kn ks j 1:=by
 have e:ks.getD j .dot=k:=by rw[List.getD_eq_getElem?_getD,h];rfl
 rw[L9,e,hk];rfl
theorem aem {α:Type}(xs:List α)(b c:α):atI (xs++[b,c]) (-2)=some b:=by
 have hl:(xs++[b,c]).length=xs.length+2:=by simp
 have e:ixN (xs++[b,c]).length (-2)=some xs.length:=by
  unfold ixN;rw[hl]
  first|(rw[if_neg (by omega),if_pos (by omega)];congr 1;omega)|(simp;omega)|(split <;> simp <;> omega)
 unfold atI;rw[e];simp
theorem aen {ns:List Nat}(h:1<ns.length):∃ w b c,ns=w++[b,c]:=by
 rcases List.eq_nil_or_concat ns with rfl|⟨w,c,e⟩
 ·simp at h
 ·rw[List.concat_eq_append]at e;subst e;rcases List.eq_nil_or_concat w with rfl|⟨w',b,e⟩
  ·simp at h
  ·rw[List.concat_eq_append]at e;subst e;exact⟨w',b,c,by simp⟩
theorem aiJ (k:Kd):V2 k.str "sdr"=k.small:=by cases k <;> decide +kernel
theorem agL (k:Kd):V2 k.str "32"=k.meas:=by cases k <;> decide +kernel
theorem aiK (k:Kd):V2 k.str ".32" = k.parting:=by cases k <;> decide +kernel
inductive JM (K:Frag)(vs:List V)(H:Hp)(Q:VK)(E:XK):Prop
 |mk (l:Addr) (v:V) (ys:List V) (ss:List Sg) (de:De) (i:Nat) (gw:vs=[.ref l,v,.int (i:Int)]) (gx:H l=some (.lst ys)) (iW:h9 H ys ss) (m7:ss.length<=200) (tJ:DeW H v de) (Tx:(de.wy=.put\/de.wy=.cut\/de.wy=.swap)) (h6_:(de.wy≠.cut->jg de.sg=true)) (h7_:i<=ss.length) (h8_:(de.wy≠.put->i<ss.length)) (h9_:∀(p:Addr)(ch:List Sg)(H':Hp),ar H H'->(de.wy=.put->ch=[gL de.sg])->(∀ s,ss[i]? = some s->(de.wy=.cut->ch=[s])/\(de.wy=.swap->ch=[s,gL de.sg]))->H' p=some (.tup (NY (bO ss de.wy de.sg i) i (if de.wy=.cut then i else i+1) ch))->Q (.ref p) H'):JM K vs H Q E
theorem Uy (T:Txt K w mg t):bK P w K mg base oI (0+1) t.kM t.BA ["_law_line","_law_deed","_law_at"] (JM K):=by
 refine T.kR.ok fQ (fun vs H Q E h=>?_) (fun cdv A outer s H vs Q E hr h=>?_)
 ·obtain⟨_,_,_,_,_,_,rfl,_⟩:=h;rfl
 ·obtain⟨l,v,ys,ss,de,i,rfl,hl,g,aoa,hde,hwy,hgd,hi,hi2,q⟩:=h;obtain⟨p2,xs2,ps2,rfl,hp2,e0,e4,Z8⟩:=id hde;refine aS (ah (aH (i:=3) fQ.nd rfl (Or.inr rfl) (aR (bW.or (aJ.or bY)) (lI (qa.or (vm.or vy)) (pv 0) rV (je (pv 2))) (lI (qa.or (vm.or vy)) (pv 0) (je (aR (bW.or (aJ.or bY)) (pv 2) ai)) rV))) (ah (aH (i:=4) fQ.nd rfl (Or.inl rfl) (pv 2)) (ah (aH (i:=5) fQ.nd rfl (Or.inr rfl) (cM (kH (bS (lH.or (ik (az hr))) (aK aA (pv 1) ai (fun _ _=>rfl)) av (ay _)) (j5 (bS (cV.or cU) (aK aA (aK aA (pv 0) (pv 2) (fun _ _=>rfl)) ai (fun _ _=>rfl)) av rfl))))) (ah (tL (bf (au (lH.or (ik (az hr))) (aK aA (pv 1) ai (fun _ _=>rfl)) av (ay _)) (ah (aH (i:=3) fQ.nd rfl (Or.inr rfl) (aR (bW.or (aJ.or bY)) (aR (bW.or (aJ.or bY)) (lI (qa.or (vm.or vy)) (pv 0) rV (je (pv 2))) (bM (aa (aK aA (pv 1) ai (fun _ _=>rfl)) af))) (lI (qa.or (vm.or vy)) (pv 0) (je (aR (bW.or (aJ.or bY)) (pv 2) (jM (ng.or gy) rfl T.yz xV (aa (bS (bH.or (bg (az hr))) (aK aA (pv 1) ai (fun _ _=>rfl)) av (ay _)) af)))) rV))) (ah (aH (i:=4) fQ.nd rfl (Or.inl rfl) (aR (bW.or (aJ.or bY)) (pv 2) ai)) (ak (aH (i:=5) fQ.nd rfl (Or.inr rfl) (cM (YE (pv 5) (j5 (bS (cV.or cU) (aK aA (aK aA (pv 1) ai (fun _ _=>rfl)) ai (fun _ _=>rfl)) av rfl)))))))) aF)) (ah (Bb (i:=6) fQ.nd rfl rfl (cn:=["_law_k"]) rfl (dQ.of rfl) (lj rfl T.jG (aa (pv 2) af)) (fun _=>(aP (i:=0) AX rfl (Or.inl rfl))) (fun _=>(P2 (au (vn.or vo) (aK aA (aK aA (pv 4) (pv 0) (fun _ _=>rfl)) ai (fun _ _=>rfl)) av rfl))) (fun _=>(pv 0))) (ah (Bb (i:=7) fQ.nd rfl rfl (cn:=["_law_k"]) rfl (dQ.of rfl) (OU rfl T.jG (aa (pv 4) (aa (bc (aN.or aO) rfl T.dt dg (aa (pv 3) af)) af))) (fun _=>(aP (i:=0) AX rfl (Or.inl rfl))) (fun _=>(P2 (au (cV.or cU) (aK aA (aK aA (pv 4) (pv 0) (fun _ _=>rfl)) ai (fun _ _=>rfl)) (cM (gR (bZ (pv 6)) av av)) rfl))) (fun _=>(pv 0))) (ak (ax (bB (aa (cM (gR (au Tv (bc (aN.or aO) rfl T.dt dg (aa (pv 6) af)) ai (ay _)) (aK aA (pv 6) (YG PQ ai) (fun _ _=>rfl)) ai)) (aa (cM (gR (au (abX (az hr)) (pv 7) (bM af) (ay _)) (aK aA (pv 7) ai (fun _ _=>rfl)) (bc (aN.or aO) rfl T.dt dg (aa (pv 3) af)))) af))))))))))) ?_;have yl:=cB g;refine bL fun N hN=>?_;refine⟨_,rfl,_,rfl,i,rfl,.inl ⟨l,ys,rfl,aZ.of hl,fun c1 hc1=>?_⟩⟩;rw[Ub];have S1:=ar.upd (o:=.lst (ys.take i)) hc1;have k1:=ae (H:=H) (a:=c1) (o:=.lst (ys.take i));generalize upd H c1 (.lst (ys.take i))=H1 at S1 k1;refine⟨_,rfl,_,rfl,.inl ⟨_,_,rfl,rfl,_,rfl,.inl ⟨l,ys,rfl,aZ.of (S1 _ _ hl),fun c4 hc4=>?_⟩⟩⟩;rw[show Ak ys (some ((i:Int)+1)) none=ys.drop (i+1) from L8 ys (i+1)];have S4:=ar.upd (o:=.lst (ys.drop (i+1))) hc4;have k4:=ae (H:=H1) (a:=c4) (o:=.lst (ys.drop (i+1)));generalize upd H1 c4 (.lst (ys.drop (i+1)))=H4 at S4 k4;refine .inr (.inr ⟨c1,c4,_,_,rfl,rfl,S4 _ _ k1,k4,?_,fun c5 hc5=>?_⟩)
  ·exact big (by simp only [length_take,length_drop];omega)
  have S5:=ar.upd (o:=.lst (ys.take i++ys.drop (i+1))) hc5;have k5:=ae (H:=H4) (a:=c5) (o:=.lst (ys.take i++ys.drop (i+1)));generalize upd H4 c5 (.lst (ys.take i++ys.drop (i+1)))=H5 at S5 k5;have SS:=(S1.trans S4).trans S5;have g5:h9 H5 (ys.take i++ys.drop (i+1)) (ss.take i++ss.drop (i+1)):=h9.same SS (xZ (AR i g) (DW (i+1) g));refine hN _ _ ?_;clear hN N S1 S4 S5 k1 k4 hc1 hc4 hc5;tm_up;refine⟨fun v H'=>v=.bl (decide (de.wy≠.put)&&((ss[i]?.map fun s=>s.1.meas).getD false))/\H'=H5,?_,?_⟩
  ·refine⟨_,rfl,jx (i:=0) (SS _ _ hp2) e0 ?_⟩;tm_up;rw[show decide (V.str de.wy.str=V.str (Str.ofString "put"))=decide (de.wy=.put) from x6 de.wy .put]
   by_cases z1:de.wy=.put
   ·rw[decide_eq_true z1,decide_eq_false (fun z=>z z1)];exact dw ⟨rfl,rfl⟩
   ·rw[decide_eq_false z1,decide_eq_true (show de.wy≠.put from z1)];refine jr ?_;obtain⟨sg,hsg⟩:∃ sg,ss[i]? = some sg:=⟨_,getElem?_eq_getElem (hi2 z1)⟩;obtain⟨vp,hvp,p0,rfl,hp0⟩:=rY g hsg;refine⟨_,rfl,_,rfl,ixL (aZ.of (SS _ _ hl)) (n:=i) rfl hvp ?_⟩;refine jx (i:=0) (SS _ _ hp0) rfl ?_;tm_up;rw[hsg];exact⟨congrArg V.bl (agL sg.1),rfl⟩
  rintro _ H' ⟨rfl,eH⟩;have eH:=eH.symm;subst eH;refine aiI ?_;refine bL fun N hN=>?_;refine⟨fun σ H'=>∃(bh:Addr)(zs:List V)(ch:List Sg),σ=[some (.ref l),some (.ref p2),some (.int (i:Int)),some (.ref bh),some (.int ((if de.wy=.cut then i else i+1:Nat):Int)),some (.bl (ch.any fun s=>s.1.meas)),none,none]/\ar H H'/\H' bh=some (.lst zs)/\h9 H' zs (bO ss de.wy de.sg i)/\(de.wy=.put->ch=[gL de.sg])/\(∀ s,ss[i]? = some s->(de.wy=.cut->ch=[s])/\(de.wy=.swap->ch=[s,gL de.sg])),?_,?_⟩
  ·tm_up;refine jx (i:=0) (SS _ _ hp2) e0 ?_;tm_up;rw[show decide (V.str de.wy.str=V.str (Str.ofString "cut"))=decide (de.wy=.cut) from x6 de.wy .cut]
   by_cases z1:de.wy=.cut
   ·rw[decide_eq_true z1];obtain⟨sg,hsg⟩:∃ sg,ss[i]? = some sg:=⟨_,getElem?_eq_getElem (hi2 (by rw[z1];decide))⟩;refine dw ⟨c5,_,[sg],?_,SS,k5,?_,(fun z=>by rw[z1]at z;cases z),fun s hs=>⟨fun _=>by rw[hsg]at hs;cases hs;rfl,fun z=>by rw[z1]at z;cases z⟩⟩
    ·rw[hsg,if_pos z1,decide_eq_true (show de.wy≠.put by rw[z1];decide)];show _=[some (V.ref l),some (V.ref p2),some (V.int (i:Int)),some (V.ref c5),some (V.int (i:Int)),some (V.bl (sg.1.meas||false)),none,none];rw[Bool.or_false];rfl
    ·unfold bO;rw[z1];show h9 H5 _ (ss.take i++[]++ss.drop (i+1));rw[append_nil];exact g5
   ·rw[decide_eq_false z1];refine jr ?_;refine⟨_,rfl,_,rfl,i,rfl,.inl ⟨l,ys,rfl,aZ.of (SS _ _ hl),fun c1 hc1=>?_⟩⟩;rw[Ub];have S1:=ar.upd (o:=.lst (ys.take i)) hc1;have k1:=ae (H:=H5) (a:=c1) (o:=.lst (ys.take i));generalize upd H5 c1 (.lst (ys.take i))=H13 at S1 k1;refine⟨_,rfl,jx (i:=4) (S1 _ _ (SS _ _ hp2)) e4 ?_⟩;refine⟨big (by show 1<=1000;omega),fun c2 hc2=>?_⟩;have S2:=ar.upd (o:=.lst [V.ref ps2]) hc2;have k2:=ae (H:=H13) (a:=c2) (o:=.lst [V.ref ps2]);generalize upd H13 c2 (.lst [V.ref ps2])=H14 at S2 k2;refine .inr (.inr ⟨c1,c2,_,_,rfl,rfl,S2 _ _ k1,k2,?_,fun c3 hc3=>?_⟩)
    ·exact big (by rw[length_take];show _+1<=1000;omega)
    have S3':=ar.upd (o:=.lst (ys.take i++[V.ref ps2])) hc3;have k3:=ae (H:=H14) (a:=c3) (o:=.lst (ys.take i++[V.ref ps2]));generalize upd H14 c3 (.lst (ys.take i++[V.ref ps2]))=H15 at S3' k3;have SS2:=SS.trans ((S1.trans S2).trans S3');have g15:=g.same SS2;obtain⟨es1,es2,_⟩:=Lu (hgd z1);have akZ:NW H15 (.ref ps2) (gL de.sg):=⟨ps2,rfl,by rw[es1,es2];exact SS2 _ _ Z8⟩;refine⟨_,rfl,_,rfl,_,rfl,jx (i:=0) (SS2 _ _ hp2) e0 ?_⟩;tm_up;refine .inl (.inr ⟨_,rfl,?_⟩);rw[show decide (V.str de.wy.str=V.str (Str.ofString "swap"))=decide (de.wy=.swap) from x6 de.wy .swap];obtain⟨k,hk,hkb,hki⟩:∃ k:Nat,((i:Int)+(if decide (de.wy=.swap)=true then 1 else 0))=((i+k:Nat):Int)/\bO ss de.wy de.sg i=ss.take i++[gL de.sg]++ss.drop (i+k)/\i+k<=ss.length:=by
     by_cases z2:de.wy=.swap
     ·refine⟨1,by rw[decide_eq_true z2,if_pos rfl];omega,by unfold bO;rw[z2],hi2 (by rw[z2];decide)⟩
     ·have z3:de.wy=.put:=by rcases hwy with z|z|z;exact z;exact absurd z z1;exact absurd z z2
      refine⟨0,by rw[decide_eq_false z2,if_neg (by decide)];omega,by unfold bO;rw[z3];try rfl,hi⟩
    refine .inl ⟨_,_,rfl,rfl,_,rfl,.inl ⟨l,ys,rfl,aZ.of (SS2 _ _ hl),fun c4 hc4=>?_⟩⟩;rw[show Ak ys (some ((i:Int)+(if decide (de.wy=.swap)=true then 1 else 0))) none=ys.drop (i+k) by rw[hk];exact L8 ys (i+k)];have S4:=ar.upd (o:=.lst (ys.drop (i+k))) hc4;have k4:=ae (H:=H15) (a:=c4) (o:=.lst (ys.drop (i+k)));generalize upd H15 c4 (.lst (ys.drop (i+k)))=H16 at S4 k4;refine .inr (.inr ⟨c3,c4,_,_,rfl,rfl,S4 _ _ k3,k4,?_,fun c6 hc6=>?_⟩)
    ·exact big (by simp only [length_append,length_take,length_drop,List.length_singleton];omega)
    have S6:=ar.upd (o:=.lst (ys.take i++[V.ref ps2]++ys.drop (i+k))) hc6;have k6:=ae (H:=H16) (a:=c6) (o:=.lst (ys.take i++[V.ref ps2]++ys.drop (i+k)));generalize upd H16 c6 (.lst (ys.take i++[V.ref ps2]++ys.drop (i+k)))=H17 at S6 k6;have Uz:=(SS2.trans S4).trans S6;have g17:h9 H17 (ys.take i++[V.ref ps2]++ys.drop (i+k)) (bO ss de.wy de.sg i):=by
     rw[hkb];exact h9.same (S4.trans S6) (xZ (xZ (AR i g15) (.cons akZ .nil)) (DW (i+k) g15))
    refine⟨_,rfl,.inl ⟨_,_,rfl,rfl,?_⟩⟩;refine DT (.bl ((decide (de.wy≠.put)&&((ss[i]?.map fun s=>s.1.meas).getD false))||(gL de.sg).1.meas)) ?_ ?_
    ·refine⟨_,rfl,_,rfl,?_⟩;cases (decide (de.wy≠.put)&&((ss[i]?.map fun s=>s.1.meas).getD false)) with
     |true=>exact jr ⟨rfl,rfl⟩
     |false =>
      refine dw ?_;refine⟨_,rfl,jx (i:=4) (Uz _ _ hp2) e4 (jx (i:=0) (Uz _ _ Z8) rfl ?_)⟩;tm_up;rw[<-es1];exact⟨congrArg V.bl (agL (gL de.sg).1),rfl⟩
    ·have e1:((i:Int)+1)=((if de.wy=.cut then i else i+1:Nat):Int):=by rw[if_neg z1];omega
     by_cases z2:de.wy=.swap
     ·obtain⟨s,hs⟩:∃ s,ss[i]? = some s:=⟨_,getElem?_eq_getElem (hi2 (by rw[z2];decide))⟩;refine⟨c6,_,[s,gL de.sg],?_,Uz,k6,g17,(fun z=>by rw[z2]at z;cases z),fun s' hs'=>⟨fun z=>absurd z z1,fun _=>by rw[hs]at hs';cases hs';rfl⟩⟩;rw[hs,decide_eq_true (show de.wy≠.put by rw[z2];decide),<-e1];show _=[some (V.ref l),some (V.ref p2),some (V.int (i:Int)),some (V.ref c6),some (V.int ((i:Int)+1)),some (V.bl (s.1.meas||((gL de.sg).1.meas||false))),none,none];rw[Bool.or_false];rfl
     ·have z3:de.wy=.put:=by rcases hwy with z|z|z;exact z;exact absurd z z1;exact absurd z z2
      refine⟨c6,_,[gL de.sg],?_,Uz,k6,g17,fun _=>rfl,fun s' hs'=>⟨fun z=>absurd z z1,fun z=>absurd z z2⟩⟩;rw[decide_eq_false (show ¬ de.wy≠.put from fun z=>z z3),<-e1];show _=[some (V.ref l),some (V.ref p2),some (V.int (i:Int)),some (V.ref c6),some (V.int ((i:Int)+1)),some (V.bl ((gL de.sg).1.meas||false)),none,none];rw[Bool.or_false];rfl
  rintro _ H6 ⟨bh,zs,ch,rfl,S6,hbh,gz,hc1,hc2⟩;refine hN _ _ ?_;clear hN N;have zl:=cB gz;have ll:(bO ss de.wy de.sg i).length<=201:=by
   unfold bO;split
   ·simp;omega
   ·simp;omega
   ·simp;omega
  have fl:(if de.wy=.cut then i else i+1:Nat)<=(bO ss de.wy de.sg i).length:=by
   rcases hwy with z|z|z
   ·rw[z,if_neg (by decide)];unfold bO;simp;omega
   ·have:=hi2 (by rw[z];decide);rw[z,if_pos rfl];unfold bO;simp;omega
   ·have:=hi2 (by rw[z];decide);rw[z,if_neg (by decide)];unfold bO;simp;omega
  have il:i<=(bO ss de.wy de.sg i).length:=by
   refine Nat.le_trans ?_ fl;split <;> omega
  generalize hw:(ch.any fun s=>s.1.meas)=wide at *;generalize (if de.wy=.cut then i else i+1:Nat)=fo at *;generalize bO ss de.wy de.sg i=bs at *;refine bL fun N hN=>?_;refine⟨_,rfl,(i:Int),rfl,(by omega),(by omega),fun D b hD=>?_⟩;refine vz (lo:=0) (n:=((i:Int)).toNat) (fun j zz σ H'=>∃(v:Option V)(ns:List Nat),σ=[v,some (.ref l),some (.ref p2),some (.int (i:Int)),some (.ref bh),some (.int (fo:Int)),some (.bl wide),none,none]/\ar H6 H'/\H' D=some (.lst zz)/\zz=ns.map (fun n:Nat=>V.int (n:Int))/\ns.length<=j/\kn (bu bs) j 1=ns.getLast?.getD 0/\kn (bu bs) j 0=ns.dropLast.getLast?.getD 0) ⟨none,[],rfl,ar.upd hD,ae,rfl,Nat.le_refl _,rfl,rfl⟩ ?_ ?_
  ·rintro j zz σ H' hj ⟨v,ns,rfl,s7,hDl,rfl,nl,lo1,lo0⟩ N hN;obtain⟨sg,hsg⟩:∃ sg,bs[j]? = some sg:=⟨_,getElem?_eq_getElem (by omega)⟩;have hk:(bu bs)[j]? = some sg.1:=by rw[getElem?_map,hsg];rfl
   unfold DS;refine⟨_,rfl,_,rfl,Kb (aZ.of (s7 _ _ hbh)) (gz.same s7) (n:=j) (by omega) hsg fun b hb=>?_⟩;refine jx (i:=0) hb rfl ?_;tm_up;show(if(!V2 sg.1.str "sdr")=true then _ else _);rw[aiJ];cases hs:sg.1.small with
   |true=>exact dw (hN _ _ _ ⟨_,ns,rfl,s7,hDl,rfl,by omega,by rw[Pm hk hs (by decide)];exact lo1,by rw[Pm hk hs (by decide)];exact lo0⟩)
   |false =>
    refine jr ⟨_,rfl,hDl,by rw[length_map];exact ba (by omega),hN _ _ _ ⟨_,ns++[j],rfl,jN s7 hD,ae,?_,by rw[length_append];show _+1<=_;omega,by rw[ael hk hs];simp,by rw[acD hk hs,lo1];simp⟩⟩;rw[map_append];show _++[V.int (0+(j:Int))]=_++[V.int (j:Int)];rw[Int.zero_add]
  rintro zz σ H7 ⟨v,ns,rfl,s7,hDl,rfl,nl,lo1,lo0⟩;refine hN _ _ ?_;clear hN N;have nl':ns.length<=201:=by omega
  rw[show((i:Int)).toNat=i by omega]at lo1 lo0;refine bL fun N hN=>?_;refine⟨_,rfl,_,rfl,.inl ⟨bh,zs,rfl,.inl (aZ.of (s7 _ _ hbh)),?_⟩⟩;refine⟨(fo:Int),(zs.length:Int),rfl,⟨by omega,by omega,by omega,by omega⟩,fun D2 b2 hD2=>?_⟩;refine vz (lo:=(fo:Int)) (n:=((zs.length:Int)-(fo:Int)).toNat) (fun j zz σ H'=>∃(v:Option V)(ms:List Nat),σ=[v,some (.ref l),some (.ref p2),some (.int (i:Int)),some (.ref bh),some (.int (fo:Int)),some (.bl wide),some (.ref D),none]/\ar H7 H'/\H' D2=some (.lst zz)/\zz=ms.map (fun n:Nat=>V.int (n:Int))/\ms.length<=j/\(match ms with|[]=>∀(m:Nat)(x:Kd),m<j->(bu bs)[fo+m]? = some x->AU wide x=false|h::_=>h=D9 (bu bs) fo wide)) ⟨none,[],rfl,ar.upd hD2,ae,rfl,Nat.le_refl _,fun m x hm=>by omega⟩ ?_ ?_
  ·rintro j zz σ H' hj ⟨v,ms,rfl,s8,acF,rfl,ml,hst⟩ N hN;obtain⟨sg,hsg⟩:∃ sg,bs[fo+j]? = some sg:=⟨_,getElem?_eq_getElem (by omega)⟩;have hk:(bu bs)[fo+j]? = some sg.1:=by rw[getElem?_map,hsg];rfl
   have s78:=s7.trans s8;unfold DS;refine⟨_,rfl,_,rfl,Kb (aZ.of (s78 _ _ hbh)) (gz.same s78) (n:=fo+j) (by omega) hsg fun b hb=>?_⟩;refine jx (i:=0) hb rfl ?_;refine DT (.str (if wide=true then "32" else ".32")) ?_ ?_
   ·refine⟨_,rfl,_,rfl,?_⟩;cases wide with
    |true=>exact jr ⟨rfl,rfl⟩
    |false=>exact dw ⟨rfl,rfl⟩
   tm_up;have ek:V2 sg.1.str (if wide=true then "32" else ".32")=AU wide sg.1:=by
    unfold AU;cases wide with
    |true=>exact agL _
    |false=>exact aiK _
   show(if V2 sg.1.str (if wide=true then "32" else ".32")=true then _ else _);rw[ek];cases hs:AU wide sg.1 with
   |false =>
    refine dw (hN _ _ _ ⟨_,ms,rfl,s8,acF,rfl,by omega,?_⟩);cases ms with
    |cons h r=>exact hst
    |nil =>
     intro m x hm hx;rcases Nat.lt_or_ge m j with z|z
     ·exact hst m x z hx
     ·have e:m=j:=by omega
      subst e;rw[hk]at hx;cases hx;exact hs
   |true =>
    refine jr ⟨_,rfl,acF,by rw[length_map];exact ba (by omega),hN _ _ _ ⟨_,ms++[fo+j],rfl,jN s8 hD2,ae,?_,by rw[length_append];show _+1<=_;omega,?_⟩⟩
    ·rw[map_append];show _++[V.int ((fo:Int)+(j:Int))]=_++[V.int ((fo+j:Nat):Int)];rw[show((fo+j:Nat):Int)=(fo:Int)+(j:Int) by omega]
    ·cases ms with
     |cons h r=>exact hst
     |nil=>exact(Y8 hst hk hs).symm
  rintro zz σ H8 ⟨v,ms,rfl,s8,acF,rfl,ml,hst⟩;refine hN _ _ ?_;clear hN N;have kl:(bu bs).length=bs.length:=length_map ..;have S8:=S6.trans (s7.trans s8);refine DT (.int (kn (bu bs) i 0:Nat)) ?_ ?_
  ·refine⟨_,rfl,.inl ⟨D,_,rfl,.inl (aZ.of (s8 _ _ hDl)),?_⟩⟩;tm_up;rw[length_map];refine bp (fun h=>?_) (fun h=>?_)
   ·have h':=of_decide_eq_true h;obtain⟨w',b',c',rfl⟩:=aen (ns:=ns) (by omega);refine⟨_,rfl,2,rfl,.inl ⟨D,_,-2,V.int (b':Int),rfl,rfl,aZ.of (s8 _ _ hDl),?_,?_,rfl⟩⟩
    ·rw[map_append];exact aem _ _ _
    ·rw[lo0,show w'++[b',c']=(w'++[b'])++[c'] by simp,List.dropLast_concat];simp
   ·have h':ns.length<=1:=Nat.le_of_not_lt fun z=>h (decide_eq_true (by omega));refine⟨?_,rfl⟩;rw[lo0]
    match ns,h' with
    |[],_=>rfl
    |[_],_=>rfl
  refine⟨fun v H'=>v=.int (D9 (bu bs) fo wide:Nat)/\ar H8 H',?_,?_⟩
  ·refine⟨_,rfl,big (by show 0<=1000;omega),fun e0 he0=>?_⟩;have T0:=ar.upd (o:=.lst []) he0;refine⟨D2,e0,_,rfl,rfl,aZ.of (T0 _ _ acF),aZ.of ae,_,rfl,?_⟩;cases ms with
   |nil =>
    refine dw ?_;refine⟨_,rfl,.inl ⟨bh,zs,rfl,.inl (aZ.of (T0 _ _ ((s7.trans s8) _ _ hbh))),?_,T0⟩⟩;rw[Ul (by omega) fun m x hx=>hst m x (by have:=(List.getElem?_eq_some_iff.mp hx).1;omega) hx,kl,zl]
   |cons h r =>
    refine jr ?_;refine⟨_,rfl,ixL (aZ.of (T0 _ _ acF)) (n:=0) rfl rfl ⟨?_,T0⟩⟩;rw[hst]
  rintro _ H9 ⟨rfl,S9⟩;refine⟨by show 2<=sizeLine;decide,fun pp hpp=>?_⟩;have S10:=ar.upd (o:=.tup [V.int (kn (bu bs) i 0:Nat),V.int (D9 (bu bs) fo wide:Nat)]) hpp;refine q pp ch _ ((S8.trans S9).trans S10) hc1 hc2 ?_;unfold NY;rw[hw];exact ae
def l24:List Kd:=[.G,.G,.G,.G,.G,.s,.s,.s,.s,.s,.s,.s,.s,.s,.d,.d,.r,.r,.D,.R,.dot,.dot,.three,.two]
theorem aiO:(Str.ofString "GGGGGsssssssssddrrDR..32").cps.toList=l24.map Kd.cp:=by lk
theorem UA (k:Kd):V2 k.str "GDsd"=k.tM:=by cases k <;> decide +kernel
inductive EF (vs:List V)(H:Hp)(Q:VK)(E:XK):Prop
 |mk (m:Int) (gw:vs=[.int m]) (gx:∀(p:Addr)(s:Sg),JC s->H p=none->Q (.ref p) (upd H p (.tup [.str s.1.str,.int s.2]))):EF vs H Q E
theorem QB (T:Txt K w mg t):bK P w K mg base oI (0+1) t.jB t.yc ["_law_number"] EF:=by
 refine T.oQ.ok Eb (fun vs H Q E h=>?_) (fun cdv A outer s H vs Q E hr h=>?_)
 ·obtain⟨_,rfl,_⟩:=h;rfl
 ·obtain⟨m,rfl,q⟩:=h;refine aS (ah (aH (i:=1) Eb.nd rfl (Or.inl rfl) (aK aA av (aR j6 (pv 0) ai) (fun _ _=>rfl))) (ah (bf (au (cV.or cU) (pv 1) av rfl) (ak (ax (bB (aa (pv 1) (aa (aR j6 (aR KU (pv 0) ai) ai) af))))) aF) (ak (ax (bB (aa (pv 1) (aa ai af))))))) ?_;obtain⟨k,hk⟩:∃ k,l24[(m % 24).toNat]? = some k:=by
   have h1:(m % 24).toNat<l24.length:=by
    show _<24;omega
   exact⟨_,getElem?_eq_getElem h1⟩
  have hat:atI (Str.ofString "GGGGGsssssssssddrrDR..32").cps.toList (m % 24)=some k.cp:=by
   have e0:m % 24=(((m % 24).toNat:Nat):Int):=by omega
   rw[e0,aiO];exact DN (by rw[getElem?_map,hk];rfl)
  refine⟨_,rfl,_,_,rfl,rfl,(by decide:(0:Int)<24),.inr (.inr ⟨_,_,_,rfl,rfl,(by lk),hat,?_⟩)⟩;rw[<-aiv k];tm_up;refine bp (fun h=>?_) (fun h=>?_)
  ·have h4:k.tM=true:=by rw[<-UA];exact h
   tm_up;refine⟨(by show 2<=sizeLine;decide),fun p hp=>?_⟩;exact q p (k,m / 24 % 100) ⟨fun _=>by show 0<=m / 24 % 100/\m / 24 % 100<100;omega,fun z=>by rw[h4]at z;cases z⟩ hp
  ·have h4:k.tM=false:=by
    rw[<-UA];exact Bool.eq_false_iff.mpr h
   tm_up;refine⟨(by show 2<=sizeLine;decide),fun p hp=>?_⟩;exact q p (k,0) ⟨(fun z=>by rw[h4]at z;cases z),fun _=>rfl⟩ hp
inductive mh (c:Cs)(vs:List V)(H:Hp)(Q:VK)(E:XK):Prop
 |mk (i n:Int) (gw:vs=[.int i,.int n]) (gx:((0<=i/\i<=n->Q .non H)/\(¬(0<=i/\i<=n)->RX E c .kB H))):mh c vs H Q E
theorem iG (T:Txt K w mg t):bK P w K mg base (iI P w) (0+1) t.bE t.iZ ["at","last"] (mh (cs t)):=by
 refine T.bR.P5 vI (fun vs H Q E h=>?_) (fun cdv A outer s H vs Q E hr h=>?_)
 ·obtain⟨_,_,rfl,_⟩:=h;rfl
 ·obtain⟨i,n,rfl,q1,q2⟩:=h;refine aS (ak (bf (kG (DK xO xO ai (pv 0) (pv 1))) (ak (iJ (X:=(cK (iI P w) P w K mg base ["at","last"] "refuse_other_places" (ag bP) t.bE cdv A outer s H E)) (fun _ _ z=>z) rfl T.WB.exc rfl T.LZ (aa av af))) aF)) ?_;refine⟨_,rfl,_,_,rfl,rfl,_,rfl,?_⟩;refine bp (fun h0=>?_) (fun h0=>?_)
  ·refine⟨_,rfl,_,_,rfl,rfl,_,rfl,?_⟩;refine bp (fun h=>?_) (fun h=>?_)
   ·have h':(!decide (i<=n))=true:=h;have q:=q2 fun z=>by rw[decide_eq_true z.2]at h';cases h'
    exact⟨by show 1<=sizeLine;decide,q.2⟩
   ·have h':¬(!decide (i<=n))=true:=h;refine q1 ⟨of_decide_eq_true h0,?_⟩
    by_cases z:i<=n
    ·exact z
    ·exact absurd (by rw[decide_eq_false z];rfl) h'
  ·have q:=q2 fun z=>h0 (decide_eq_true z.1);exact⟨_,rfl,jr ⟨by show 1<=sizeLine;decide,q.2⟩⟩
inductive Ze (vs:List V)(H:Hp)(Q:VK)(E:XK):Prop
 |mk (p:Addr) (s:Sn) (gw:vs=[.ref p]) (gx:H p=some (.tup [.str s.1,.int s.2])) (iW:Q (.bl (jg s)) H):Ze vs H Q E
theorem aeq (T:Txt K w mg t):bK P w K mg base oI (0+1) t.BB t.Wq ["sign"] Ze:=by
 refine T.LK.ok Qj (fun vs H Q E h=>?_) (fun cdv A outer s H vs Q E hr h=>?_)
 ·obtain⟨_,_,rfl,_⟩:=h;rfl
 ·obtain⟨p,s,rfl,hp,q⟩:=h;unfold jg at q;refine aS (ah (lF (pv 0) (oV rfl (bA (aP (i:=1) Qj.nd rfl (Or.inl rfl)) (bA (aP (i:=2) Qj.nd rfl (Or.inl rfl)) ky)))) (ah (bf (au (cV.or cU) (pv 1) (cv (v:=.ref t.dq) rfl T.GY rfl) rfl) (ak (ax (Tw xO xO ai (pv 2) (cv (v:=.int 99) rfl T.LR ⟨_,rfl⟩)))) aF) (ak (ax (cM (kH (bS (cV.or cU) (pv 1) (cv (v:=.ref t.eV) rfl T.LP rfl) rfl) (j5 (bS (bH.or (bg (az hr))) (pv 2) ai (ay _))))))))) ?_;refine⟨_,rfl,_,_,rfl,uo.of hp,rfl,_,_,rfl,_,_,rfl,rfl,_,rfl,.inl ⟨_,_,rfl,.inr (T.GZ _),rfl,rfl,_,rfl,?_⟩⟩;refine bp (fun h=>?_) (fun h=>?_)
  ·rw[if_pos (show inV (.str s.1) Gn=true from h)]at q;refine⟨_,rfl,_,_,rfl,rfl,_,rfl,?_⟩;refine bp (fun h2=>?_) (fun h2=>?_)
   ·rw[if_pos h2]at q;exact⟨_,_,rfl,rfl,q⟩
   ·rw[if_neg h2]at q;exact q
  ·rw[if_neg (show ¬ inV (.str s.1) Gn=true from h)]at q;refine⟨fun v H'=>v=.bl (if inV (V.str s.fst) vE=true then decide (s.snd=0) else false)/\H'=H,?_,fun _ _ ⟨e1,e2⟩=>by rw[e1,e2];exact q⟩;refine⟨_,rfl,.inl ⟨_,_,rfl,.inr (T.LQ _),rfl,rfl,_,rfl,?_⟩⟩;refine bp (fun h2=>?_) (fun h2=>?_)
   ·rw[if_pos (show inV (.str s.1) vE=true from h2)];refine⟨_,rfl,.inl ⟨rfl,?_⟩⟩;rw[gS];exact⟨rfl,rfl⟩
   ·rw[if_neg (show ¬ inV (.str s.1) vE=true from h2)];exact⟨rfl,rfl⟩
inductive rg (c:Cs)(vs:List V)(H:Hp)(Q:VK)(E:XK):Prop
 |mk (p:Addr) (s:Sn) (gw:vs=[.ref p]) (gx:H p=some (.tup [.str s.1,.int s.2])) (iW:((jg s=true->Q .non H)/\(jg s=false->RX E c .lM H))):rg c vs H Q E
theorem rh (T:Txt K w mg t):bK P w K mg base (iI P w) (0+2) t.cw t.lO ["sign"] (rg (cs t)):=by
 have agN:=aeq (P:=P) (base:=base) T;refine T.dW.P5 Bj (fun vs H Q E h=>?_) (fun cdv A outer s H vs Q E hr h=>?_)
 ·obtain⟨_,_,rfl,_⟩:=h;rfl
 ·obtain⟨p,g,rfl,hp,q1,q2⟩:=h;refine aS (ak (bf (kG (bZ (aB agN (hr.mono (by decide)) rfl T.aef T.LK.kp T.Ws .nil aL (aa (pv 0) af)))) (ak (iJ (X:=(cK (iI P w) P w K mg base ["sign"] "refuse_bad_sign" (ag cN) t.cw cdv A outer s H E)) (fun _ _ z=>z) rfl T.WC.exc rfl T.L0 (aa av af))) aF)) ?_;refine⟨_,rfl,p,g,rfl,hp,_,rfl,?_⟩;cases hg:jg g with
  |true=>exact dw (q1 hg)
  |false =>
   have q:=q2 hg;exact jr ⟨by show 1<=sizeLine;decide,q.2⟩
inductive UB (vs:List V)(H:Hp)(Q:VK)(E:XK):Prop
 |mk (p:Addr) (s:Sg) (gw:vs=[.ref p]) (gx:H p=some (.tup [.str s.1.str,.int s.2])) (iW:Q (.bl s.1.small) H):UB vs H Q E
theorem EG (k:Kd):inV (.str k.str) [.str "s",.str "d",.str "r"]=k.small:=by cases k <;> decide +kernel
theorem UC (T:Txt K w mg t):bK P w K mg base oI (0+1) t.vO t.Qn ["sign"] UB:=by
 refine T.Ae.ok acu (fun vs H Q E h=>?_) (fun cdv A outer s H vs Q E hr h=>?_)
 ·obtain⟨_,_,rfl,_⟩:=h;rfl
 ·obtain⟨p,s,rfl,hp,q⟩:=h;rw[<-EG]at q;refine aS (ak (ax (bS (cV.or cU) (aK aA (pv 0) ai (fun _ _=>rfl)) (cv (v:=.ref t.gH) rfl T.N5 rfl) rfl))) ?_;tm_up;exact .inl ⟨_,_,rfl,.inr (T.N7 _),rfl,rfl,q⟩
theorem WI (ks:List Kd)(p met:Nat):kn ks (p+1) met=if(if(ks.getD p .dot).small=true then met else met+1)=2 then p else kn ks p (if(ks.getD p .dot).small=true then met else met+1):=rfl
inductive Ma (K:Frag)(vs:List V)(H:Hp)(Q:VK)(E:XK):Prop
 |mk (l:Addr) (xs:List V) (ss:List Sg) (i:Nat) (gw:vs=[.ref l,.int (i:Int)]) (gx:aZ K H l xs) (iW:h9 H xs ss) (m7:ss.length<=200) (tJ:i<=ss.length) (Tx:Q (.int (kn (bu ss) i 0:Nat)) H):Ma K vs H Q E
theorem WJ (T:Txt K w mg t):bK P w K mg base oI (0+2) t.nE t.GD ["line","at"] (Ma K):=by
 have QC:=UC (P:=P) (base:=base) T;refine T.uM.ok vJ (fun vs H Q E h=>?_) (fun cdv A outer s H vs Q E hr h=>?_)
 ·obtain⟨_,_,_,_,rfl,_⟩:=h;rfl
 ·obtain⟨l,xs,ss,i,rfl,hS,g,hl,hi,q⟩:=h;refine aS (ah (aH (i:=2) vJ.nd rfl (Or.inl rfl) ai) (ah (ij PassesOwn.never rfl (ZR rfl T.jG (aa (aR js (pv 1) ai) (aa (YG PQ ai) (aa (YG PQ ai) af)))) (aP (i:=3) vJ.nd rfl (Or.inl rfl)) (ah (tL (bf (kG (bZ (aB QC (hr.mono (by decide)) rfl T.Us T.Ae.kp T.K5 .nil aL (aa (aK aA (pv 0) (pv 3) (fun _ _=>rfl)) af)))) (ak (af0 (i:=2) vJ.nd rfl (Or.inl rfl) ai af1)) aF)) (ak (bf (au (bH.or (bg (az hr))) (pv 2) ai (ay _)) (ak (ax (pv 3))) aF)))) (ak (ax ai)))) ?_;tm_up;have xl:=cB g;refine⟨(i:Int)-1,-1,rfl,⟨by omega,by omega,by omega,by omega⟩,ab4 (fun j σ H'=>∃(met:Nat)(v:Option V),σ=[some (.ref l),some (.int (i:Int)),some (.int (met:Int)),v]/\H'=H/\met<2/\kn (bu ss) i 0=kn (bu ss) (i-j) met) ⟨0,none,rfl,rfl,by decide,rfl⟩ ?_ ?_⟩
  ·rintro j σ H1 hj ⟨met,v,rfl,eH,hm2,hgo⟩;have eH:=eH.symm;subst eH;obtain⟨sg,hsg⟩:∃ sg,ss[i-1-j]? = some sg:=⟨_,getElem?_eq_getElem (by omega)⟩;have hk:(bu ss).getD (i-1-j) .dot=sg.1:=by rw[List.getD_eq_getElem?_getD,getElem?_map,hsg];rfl
   have hij:i-j=(i-1-j)+1:=by omega
   refine⟨fun σ H'=>σ=[some (.ref l),some (.int (i:Int)),some (.int ((if sg.1.small=true then met else met+1:Nat):Int)),some (.int ((i:Int)-1-(j:Int)))]/\H'=H,?_,?_⟩
   ·tm_up;refine Kb hS g (n:=i-1-j) (by omega) hsg fun b hb=>?_;refine⟨b,sg,rfl,hb,?_⟩;refine⟨_,rfl,?_⟩;refine bp (fun hc=>?_) (fun hc=>?_)
    ·have hc':sg.1.small=false:=by simpa using hc
     rw[hc'];tm_up;exact⟨by simp,rfl⟩
    ·have hc':sg.1.small=true:=by simpa using hc
     rw[hc'];exact⟨rfl,rfl⟩
   ·rintro _ H1 ⟨rfl,eH⟩;have eH:=eH.symm;subst eH;tm_up;have acG:kn (bu ss) i 0=if(if sg.1.small=true then met else met+1)=2 then i-1-j else kn (bu ss) (i-1-j) (if sg.1.small=true then met else met+1):=by
     rw[hgo,hij,WI,hk]
    have hle:(if sg.1.small=true then met else met+1)<=2:=by split <;> omega
    generalize (if sg.1.small=true then met else met+1)=agO at acG hle;refine bp (fun hc=>?_) (fun hc=>?_)
    ·have e2:agO=2:=by have:=V.int.inj (of_decide_eq_true hc);omega
     rw[if_pos e2]at acG;refine⟨_,rfl,?_⟩;rw[acG]at q;have:((i:Int)-1-(j:Int))=((i-1-j:Nat):Int):=by omega
     rw[this];exact q
    ·have e2:¬ agO=2:=fun z=>hc (decide_eq_true (congrArg V.int (by omega)));rw[if_neg e2]at acG;exact⟨agO,_,rfl,rfl,by omega,by rw[acG];congr 1;omega⟩
  ·rintro σ H1 ⟨met,v,rfl,eH,hm2,hgo⟩;have eH:=eH.symm;subst eH;have:kn (bu ss) i 0=0:=by
    rw[hgo];have e:i-(↑i-1 - -1:Int).toNat=0:=by omega
    rw[e];rfl
   rw[this]at q;exact q
inductive JN (K:Frag)(vs:List V)(H:Hp)(Q:VK)(E:XK):Prop
 |mk (l kp:Addr) (xs:List V) (ss:List Sg) (i:Nat) (wide:Bool) (gw:vs=[.ref l,.int (i:Int),.ref kp]) (gx:aZ K H l xs) (iW:h9 H xs ss) (m7:ss.length<=200) (tJ:uo K H kp (Wa wide)) (Tx:i<=ss.length) (h6_:Q (.int (D9 (bu ss) i wide:Nat)) H):JN K vs H Q E
theorem UD (T:Txt K w mg t):bK P w K mg base oI (0+1) t.kO t.BC ["line","first","kinds"] (JN K):=by
 refine T.qZ.ok JF (fun vs H Q E h=>?_) (fun cdv A outer s H vs Q E hr h=>?_)
 ·obtain⟨_,_,_,_,_,_,rfl,_⟩:=h;rfl
 ·obtain⟨l,kp,xs,ss,i,wide,rfl,hS,g,hl,hT,hi,q⟩:=h;refine aS (ah (ij PassesOwn.never rfl (OU rfl T.jG (aa (pv 1) (aa (bc (aN.or aO) rfl T.dt dg (aa (pv 0) af)) af))) (aP (i:=3) JF.nd rfl (Or.inl rfl)) (ak (bf (au (cV.or cU) (aK aA (aK aA (pv 0) (pv 3) (fun _ _=>rfl)) ai (fun _ _=>rfl)) (pv 2) rfl) (ak (ax (pv 3))) aF))) (ak (ax (bc (aN.or aO) rfl T.dt dg (aa (pv 0) af))))) ?_;have xl:=cB g;tm_up;refine .inl ⟨l,xs,rfl,.inl hS,?_⟩;refine⟨(i:Int),(xs.length:Int),rfl,⟨by omega,by omega,by omega,by omega⟩,qj (fun j σ H'=>∃(v:Option V),σ=[some (.ref l),some (.int (i:Int)),some (.ref kp),v]/\H'=H/\∀ m x,m<j->(bu ss)[i+m]? = some x->AU wide x=false) ⟨none,rfl,rfl,fun m x hm=>by omega⟩ ?_ ?_⟩
  ·rintro j σ H1 hj ⟨v,rfl,eH,hno⟩;have eH:=eH.symm;subst eH;obtain⟨sg,hsg⟩:∃ sg,ss[i+j]? = some sg:=⟨_,getElem?_eq_getElem (by omega)⟩;tm_up;refine Kb hS g (n:=i+j) (by omega) hsg fun b hb=>?_;tm_up;refine .inl ⟨kp,_,rfl,.inr hT,rfl,by cases wide <;> rfl,_,rfl,?_⟩;have hk:(bu ss)[i+j]? = some sg.1:=by rw[getElem?_map,hsg];rfl
   rw[acr];refine bp (fun hc=>?_) (fun hc=>?_)
   ·rw[Y8 hno hk hc]at q;refine⟨_,rfl,?_⟩;have e:((i+j:Nat):Int)=(i:Int)+(j:Int):=by omega
    rw[e]at q;exact q
   ·refine⟨_,rfl,rfl,fun m x hm hx=>?_⟩;rcases Nat.lt_or_ge m j with z|z
    ·exact hno m x z hx
    ·have e:m=j:=by omega
     subst e;rw[hk]at hx;cases hx
     simpa using hc
  ·rintro σ H1 ⟨v,rfl,eH,hno⟩;have eH:=eH.symm;subst eH;refine⟨_,rfl,.inl ⟨l,_,rfl,.inl hS,?_⟩⟩;have kl:(bu ss).length=ss.length:=length_map ..;rw[Ul (by omega) fun m x hx=>hno m x (by have:=(List.getElem?_eq_some_iff.mp hx).1;omega) hx,kl,<-xl]at q;exact q
inductive xy (vs:List V)(H:Hp)(Q:VK)(E:XK):Prop
 |mk (p:Addr) (s:Sg) (gw:vs=[.ref p]) (gx:H p=some (.tup [.str s.1.str,.int s.2])) (iW:Q (.bl s.1.meas) H):xy vs H Q E
theorem agP (k:Kd):inV (.str k.str) [.str "3",.str "2"]=k.meas:=by cases k <;> decide +kernel
theorem xA (T:Txt K w mg t):bK P w K mg base oI (0+1) t.eR t.qP ["sign"] xy:=by
 refine T.gX.ok Ke (fun vs H Q E h=>?_) (fun cdv A outer s H vs Q E hr h=>?_)
 ·obtain⟨_,_,rfl,_⟩:=h;rfl
 ·obtain⟨p,s,rfl,hp,q⟩:=h;rw[<-agP]at q;refine aS (ak (ax (bS (cV.or cU) (aK aA (pv 0) ai (fun _ _=>rfl)) (cv (v:=.ref t.cY) rfl T.xt rfl) rfl))) ?_;tm_up;exact .inl ⟨_,_,rfl,.inr (T.xu _),rfl,rfl,q⟩
inductive Pn (K:Frag)(vs:List V)(H:Hp)(Q:VK)(E:XK):Prop
 |mk (l ch:Addr) (xs cx:List V) (ss cs:List Sg) (i b:Nat) (gw:vs=[.ref l,.int (i:Int),.int (b:Int),.ref ch]) (gx:aZ K H l xs) (iW:h9 H xs ss) (m7:ss.length<=200) (tJ:i<=ss.length) (Tx:b<=ss.length) (h6_:aZ K H ch cx) (h7_:h9 H cx cs) (h8_:cs.length<=100) (h9_:∀(p:Addr)(H':Hp),ar H H'->H' p=some (.tup (NY ss i b cs))->Q (.ref p) H'):Pn K vs H Q E
theorem G7 (T:Txt K w mg t):bK P w K mg base oI (0+3) t.qQ t.LB ["line","at","behind","changed"] (Pn K):=by
 have Z9:=WJ (P:=P) (base:=base) T;have WK:=UD (P:=P) (base:=base) T;have rj:=xA (P:=P) (base:=base) T;refine T.q0.ok Pc (fun vs H Q E h=>?_) (fun cdv A outer s H vs Q E hr h=>?_)
 ·obtain⟨_,_,_,_,_,_,_,_,rfl,_⟩:=h;rfl
 ·obtain⟨l,ch,xs,cx,ss,cs,i,b,rfl,hS,g,hl,hi,hb,hC,gc,hcl,q⟩:=h;refine aS (ah (aH (i:=4) Pc.nd rfl (Or.inl rfl) (cM (gR (bZ (bc TL rfl T.acB abL (aa (oC (cn:=["sign"]) rfl (dQ.of rfl) (fN (pv 3)) (fun _=>(aP (i:=0) Um rfl (Or.inl rfl))) (fun _=>vv) (fun _=>(aB rj (hr.mono (by decide)) rfl T.xr T.gX.kp T.lX .nil aL (aa (pv 0) af)))) af))) (cv (v:=.ref t.cY) rfl T.xt rfl) (cv (v:=.ref t.d7) rfl T.Kg rfl)))) (ak (ax (bB (aa (aB Z9 (hr.mono (by decide)) rfl T.Wt T.uM.kp T.GN .nil aL (aa (pv 0) (aa (pv 1) af))) (aa (aB WK (hr.mono (by decide)) rfl T.Ut T.qZ.kp T.BG .nil aL (aa (pv 0) (aa (pv 2) (aa (pv 4) af)))) af)))))) ?_;have cl:=cB gc;refine⟨fun v H'=>∃ kp,v=.ref kp/\(∀ NQ ,uo K NQ kp (Wa (cs.any fun s=>s.1.meas)))/\ar H H',?_,?_⟩
  ·refine⟨_,rfl,ch,rfl,⟨_,hC⟩,fun D b2 hD=>?_⟩;refine lp (K:=K) (xs:=cx) (fun ii ys σ H'=>∃ v,σ=[v,some (.ref l),some (.int (i:Int)),some (.int (b:Int)),some (.ref ch),none]/\H'=upd H D (.lst ys)/\ys=((cs.take ii).map fun s=>s.1.meas).map V.bl) ⟨none,rfl,rfl,rfl⟩ ?_ ?_ ?_
   ·rintro ii ys σ H' ⟨v,rfl,rfl,_⟩;exact ip hC hD
   ·rintro ii ys x σ H' hx ⟨v,rfl,rfl,rfl⟩ N hN;obtain⟨sg,e1,p,rfl,hp⟩:=Bd gc hx;have hii:ii<cs.length:=(List.getElem?_eq_some_iff.mp e1).1;refine jt ?_;refine⟨_,rfl,p,sg,rfl,(by rw[ao (aq hp hD)];exact hp),ae,?_,?_⟩
    ·rw[length_map,length_map,length_take];exact ba (by omega)
    ·refine hN _ _ _ ⟨_,rfl,cI,?_⟩;rw[take_succ,e1];simp
   ·rintro ys σ H' ⟨v,rfl,rfl,rfl⟩;refine⟨rfl,D,_,rfl,aZ.of ae,_,rfl,?_⟩;rw[cl,take_length,List.any_map];refine bp (fun hc=>?_) (fun hc=>?_)
    ·have e:(cs.any fun s=>s.1.meas)=true:=hc;refine⟨_,rfl,fun NQ=>?_,ar.upd hD⟩;rw[e];exact T.xu NQ
    ·have e:(cs.any fun s=>s.1.meas)=false:=by
      cases z:(cs.any fun s=>s.1.meas) with
      |false=>rfl
      |true=>exact absurd z hc
     refine⟨_,rfl,fun NQ=>?_,ar.upd hD⟩;rw[e];exact T.Kh NQ
  ·rintro _ H1 ⟨kp,rfl,hk,s1⟩;refine⟨_,rfl,_,rfl,l,xs,ss,i,rfl,s1.seq hS,g.same s1,hl,hi,?_⟩;refine⟨_,rfl,_,rfl,_,rfl,l,kp,xs,ss,b,_,rfl,s1.seq hS,g.same s1,hl,hk _,hb,?_⟩;refine⟨by show 2<=sizeLine;decide,fun p hp=>q p _ (s1.trans (ar.upd hp)) ae⟩
inductive p8 (c:Cs)(vs:List V)(H:Hp)(Q:VK)(E:XK):Prop
 |mk (x dx L D U:Addr) (xs:List V) (vx:List Vx) (n:Str) (gw:vs=[.ref x,.str n]) (gx:H x=some (.ins c.B dx (DH L D U))) (iW:H L=some (.lst xs)) (m7:Paired (aeb c.V H) xs vx) (tJ:match vx.find? (fun a=>decide (a.n=n)) with
 |none=>RX E c .dR H
 |some a=>(a.tm=.non->Q (.ref a.o) H)/\(∀ p,a.tm=.ref p->RX E c .gT H)/\(a.tm=.non\/∃ p,a.tm=.ref p)):p8 c vs H Q E
theorem gP (T:Txt K w mg t):bK P w K mg base (iI P w) (0+2) t.bD t.kP ["self","name"] (p8 (cs t)):=by
 have bG:=dP (P:=P) (base:=base) T;refine T.iC.P5 pY (fun vs H Q E h=>?_) (fun cdv A outer s H vs Q E hr h=>?_)
 ·obtain⟨_,_,_,_,_,_,_,_,rfl,_⟩:=h;rfl
 ·obtain⟨x,dx,L,D,U,xs,vx,n,rfl,hx,hL,g,q⟩:=h;refine aS (ah (aH (i:=2) pY.nd rfl (Or.inl rfl) (bT (X:=(cK (iI P w) P w K mg base ["self","name","voice"] "Book.plain_voice" (ag b5) t.bD cdv A outer s H E)) (pv 0) T.aE T.dF bG (hr.mono (by decide)) T.cq .nil (fun _ _ z=>Or.inl z) (aa (pv 1) af))) (ah (bf (au YK (bX (pv 2) rfl) j4 (ay _)) (ak (iJ (X:=(cK (iI P w) P w K mg base ["self","name","voice"] "Book.plain_voice" (ag b5) t.bD cdv A outer s H E)) (fun _ _ z=>z) rfl T.Ux.exc rfl T.JL (aa av af))) aF) (ak (ax (pv 2))))) ?_;refine⟨_,rfl,x,dx,_,rfl,hx,ee _ _ _,_,rfl,x,dx,L,D,U,xs,vx,n,rfl,hx,hL,g,?_⟩;cases hf:vx.find? (fun a=>decide (a.n=n)) with
  |none =>
   rw[hf]at q;exact q
  |some a =>
   rw[hf]at q;obtain⟨q1,q2,q3⟩:=q;obtain⟨j,hj⟩:=getElem?_of_mem (List.mem_of_find?_eq_some hf);obtain⟨v,hv,rfl,ha⟩:=rY g hj;refine⟨_,rfl,a.o,_,a.d,_,_,rfl,ha,T.fY,T.cQ,zS _ _ _,?_⟩;rcases q3 with e|⟨p,e⟩
   ·rw[e];refine⟨rfl,_,rfl,?_⟩;exact bp (fun h=>absurd h (by decide)) (fun _=>⟨_,rfl,q1 e⟩)
   ·have q:=q2 p e;rw[e];refine⟨rfl,_,rfl,?_⟩;exact bp (fun _=>⟨by show 1<=sizeLine;decide,q.2⟩) (fun h=>absurd (show(!decide (V.ref p=V.non))=true by rw[decide_eq_false (fun z=>nomatch z)];rfl) h)
inductive JO (c:Cs)(vs:List V)(H:Hp)(Q:VK)(E:XK):Prop
 |mk (x:Addr) (F:Addr->Prop) (vw:Vw) (ps fs:List Vw) (n:Str) (i:Int) (p:Addr) (sn:Sn) (gw:vs=[.ref x,.str n,.int i,.ref p]) (gx:zV c H x F vw ps fs) (iW:H p=some (.tup [.str sn.1,.int sn.2])) (m7:ps.length<=900) (tJ:match aM vw n with
 |none=>RX E c .dR H
 |some (.cn _ _ _ _)=>RX E c .gT H
 |some (.pl ss)=>(¬(0<=i/\i<=(ss.length:Int))->RX E c .kB H)/\((0<=i/\i<=(ss.length:Int))->jg sn=false->RX E c .lM H)/\((0<=i/\i<=(ss.length:Int))->jg sn=true->200<=ss.length->RX E c .Full H) /\
  ((0<=i/\i<=(ss.length:Int))->jg sn=true->ss.length<200->∀(s:Sg)(w:Addr) F' H',s.1.str=sn.1->s.2=sn.2->H' w=some (.tup (NY (ss.take i.toNat++[s]++ss.drop i.toNat) i.toNat (i.toNat+1) [s]))->Gr F F' H->Fr F H H'->zV c H' x F' (iY vw n (.pl (ss.take i.toNat++[s]++ss.drop i.toNat))) (ps++[vw]) []->Q (.ref w) H')):JO c vs H Q E
theorem JP (T:Txt K w mg t):bK P w K mg base (iI P w) (0+4) t.dY t.BD ["self","name","at","sign"] (JO (cs t)):=by
 have da:=iG (P:=P) (base:=base) T;have mi:=rh (P:=P) (base:=base) T;have cT:=iR (P:=P) (base:=base) T;have yA:=G7 (P:=P) (base:=base) T;have cE:=gP (P:=P) (base:=base) T;have cD:=hV (P:=P) (base:=base) T;refine T.vU.P5 JG (fun vs H Q E h=>?_) (fun cdv A outer s H vs Q E hr h=>?_)
 ·obtain⟨_,_,_,_,_,_,_,_,_,rfl,_⟩:=h;rfl
 ·obtain⟨x,F,vw,ps,fs,n,iz,p,sn,rfl,B,hp,hps,q⟩:=h;refine aS (ah (aH (i:=4) JG.nd rfl (Or.inl rfl) (bX (bT (X:=(cK (iI P w) P w K mg base ["self","name","at","sign","signs"] "Book.put" (ag gD) t.dY cdv A outer s H E)) (pv 0) T.aE T.gO cE (hr.mono (by decide)) T.dr .nil (fun _ _ z=>Or.inl z) (aa (pv 1) af)) rfl)) (ah (bo (uy (X:=(cK (iI P w) P w K mg base ["self","name","at","sign","signs"] "Book.put" (ag gD) t.dY cdv A outer s H E)) da (hr.mono (by decide)) rfl T.iB T.bR.kp T.c7 .nil (fun _ _ z=>Or.inl z) (aa (pv 2) (aa (bc (aN.or aO) rfl T.dt dg (aa (pv 4) af)) af)))) (ah (bo (uy (X:=(cK (iI P w) P w K mg base ["self","name","at","sign","signs"] "Book.put" (ag gD) t.dY cdv A outer s H E)) mi (hr.mono (by decide)) rfl T.qY T.dW.kp T.jj .nil (fun _ _ z=>Or.inl z) (aa (pv 3) af))) (ah (bf (au ae8 (bc (aN.or aO) rfl T.dt dg (aa (pv 4) af)) (cv (v:=.int 200) rfl T.Qx ⟨_,rfl⟩) (ay _)) (ak (iJ (X:=(cK (iI P w) P w K mg base ["self","name","at","sign","signs"] "Book.put" (ag gD) t.dY cdv A outer s H E)) (fun _ _ z=>z) rfl T.Zd.exc rfl T.Qy (aa av af))) aF) (ah (bo (fE (pv 0) T.aE T.iK cT (hr.mono (by decide)) T.eW .nil aL (aa (vj T.Ey cD (hr.mono (by decide)) rfl T.Ex T.d8 .nil aL (aa (pv 4) (aa (pv 2) (aa (bM af) (aa (bM (aa (pv 3) af)) af))))) af))) (ak (ax (aB yA (hr.mono (by decide)) rfl T.GO T.q0.kp T.yp .nil aL (aa (pv 4) (aa (pv 2) (aa (aR (bW.or (aJ.or bY)) (pv 2) ai) (aa (bM (aa (pv 3) af)) af)))))))))))) ?_;obtain⟨L,D,U,all,M,Ps,Fs,es,us,b,iM,pp,pf,f⟩:=B.ex;obtain⟨dx,hx⟩:=b.hx;obtain⟨vx,g,gv⟩:=b.vD iM;obtain⟨ds,hD,pD⟩:=b.hD;obtain⟨ux,hU,pU⟩:=b.hU;have dl:=cB pD;have pl:=cB pp;have pe:=b.past.len;refine⟨_,rfl,x,dx,_,rfl,hx,ir _ _ _,_,rfl,x,dx,L,D,U,M L,vx,n,rfl,hx,b.hL,g,?_⟩;rcases JD gv (fun _ _ r=>r.2.1) n with ⟨f1,f2⟩|⟨a,th,j,f1,f2,r,an,fj,fw⟩
  ·rw[f1];rw[f2]at q;exact q
  rw[f1];rw[f2]at q;subst an;cases th with
  |cn ld lt sl tn =>
   obtain⟨pt,hpt,_⟩:=r.2.2;refine⟨fun z=>?_,fun _ _=>q,.inr ⟨pt,hpt⟩⟩;rw[hpt]at z;cases z
  |pl ss =>
   obtain⟨Tj,hg⟩:=r.2.2;obtain⟨q1,q2,q3,q4⟩:=q;have haa:=r.1;obtain⟨ha,hl⟩:=b.ha a haa;have yl:=cB hg;have hj:(M L)[j]? = some (.ref a.o):=by
    obtain⟨v,hv,e1,_⟩:=rY g fj;rw[<-e1];exact hv
   refine⟨fun _=>?_,(fun pz z=>by rw[Tj]at z;cases z),.inl Tj⟩;refine⟨a.o,_,a.d,_,_,rfl,ha,T.fY,T.cC,uB _ _ _,?_⟩;refine⟨_,rfl,_,rfl,.inl ⟨a.l,M a.l,rfl,.inl (aZ.of hl),?_⟩⟩;refine⟨iz,((M a.l).length:Int),rfl,fun hi=>?_,fun hi=>?_⟩
   rotate_left
   ·have q:=q1 (by rw[<-yl];exact hi);exact q
   rw[yl]at hi;refine⟨_,rfl,p,sn,rfl,hp,fun hgd=>?_,fun hgd=>?_⟩
   rotate_left
   ·have q:=q2 hi hgd;exact q
   refine⟨_,rfl,.inl ⟨a.l,M a.l,rfl,.inl (aZ.of hl),?_⟩⟩;refine⟨_,_,rfl,rfl,_,rfl,?_⟩;refine bp (fun h=>?_) (fun h=>?_)
   ·have h':=of_decide_eq_true h;have q:=q3 hi hgd (by omega);exact⟨by show 1<=sizeLine;decide,q.2⟩
   have hlt:ss.length<200:=by
    rcases Nat.lt_or_ge ss.length 200 with z|z
    ·exact z
    ·exact absurd (decide_eq_true (by omega)) h
   obtain⟨sg,e1,e2,gt⟩:=Qh hgd;rw[<-e1,<-e2]at hp;obtain⟨i,rfl⟩:∃ i:Nat,iz=(i:Int):=⟨iz.toNat,by omega⟩;have hi:i<=ss.length:=by omega
   have q4:=q4 (by omega) hgd hlt sg;rw[Int.toNat_natCast]at q4;refine⟨_,rfl,x,dx,_,rfl,hx,jw _ _ _,?_⟩;refine⟨_,rfl,_,rfl,big (by show 0<=1000;omega),fun B' hB=>?_⟩;refine⟨_,rfl,big (by show 1<=1000;omega),fun A_ hA=>?_⟩;have WH:=D8 hA;have sB:=(ar.upd (o:=.lst []) hB).trans (ar.upd (o:=.lst [V.ref p]) hA);have hB2:=ar.upd (o:=.lst [V.ref p]) hA _ _ (ae (H:=H) (a:=B') (o:=.lst []));have QA:=ae (H:=upd H B' (.lst [])) (a:=A_) (o:=.lst [V.ref p]);have lA:a.l≠A_:=aq hl WH;generalize upd (upd H B' (.lst [])) A_ (.lst [V.ref p])=H2 at sB hB2 QA;intro d dd nd ndd ne;refine⟨d,dd,a.l,(i:Int),B',A_,rfl,ae,rfl,?_⟩;rw[cI];have s3:ar H2 (upd (upd H2 dd (.own d)) d (.ins t.bx dd (Jx a.l (i:Int) B' A_))):=fun y o hy=>by
    rw[ao (aq hy nd),ao (aq hy ndd)];exact hy
   have NP:=ae (H:=upd H2 dd (.own d)) (a:=d) (o:=.ins t.bx dd (Jx a.l (i:Int) B' A_));generalize upd (upd H2 dd (.own d)) d (.ins t.bx dd (Jx a.l (i:Int) B' A_))=H3 at s3 NP;have s4:=sB.trans s3;obtain⟨_,d1,d2⟩:=b.lists (.inr ⟨a,haa,rfl⟩);refine⟨x,dx,L,D,U,d,dd,a.l,B',A_,i,ds,ux,M a.l,[],[.ref p],rfl,s4 _ _ hx,s4 _ _ hD,s4 _ _ hU,NP,s4 _ _ hl,s3 _ _ hB2,s3 _ _ QA,lA,d1,d2,b.DU,by simp;omega,by simp;omega,by omega,?_⟩;have hM:vc ⟨d,dd,a.l,i,B',A_,[],[.ref p]⟩ M a.l=(M a.l).take i++[.ref p]++(M a.l).drop (i+0):=gC;have keep:∀ y o,H3 y=some o->y≠a.l->y≠D->y≠U->(upd (upd (upd H3 a.l (.lst ((M a.l).take i++[.ref p]++(M a.l).drop (i+0)))) D (.lst (ds++[.ref d]))) U (.lst [])) y=some o:=fun y o hy y1 y2 y3=>by
    rw[ao y3,ao y2,ao y1];exact hy
   have k1:(upd (upd (upd H3 a.l (.lst ((M a.l).take i++[.ref p]++(M a.l).drop (i+0)))) D (.lst (ds++[.ref d]))) U (.lst [])) a.l=some (.lst ((M a.l).take i++[.ref p]++(M a.l).drop (i+0))):=by
    rw[ao d2,ao d1,ae]
   have k2:(upd (upd (upd H3 a.l (.lst ((M a.l).take i++[.ref p]++(M a.l).drop (i+0)))) D (.lst (ds++[.ref d]))) U (.lst [])) D=some (.lst (ds++[.ref d])):=by
    rw[ao b.DU,ae]
   have k3:(upd (upd (upd H3 a.l (.lst ((M a.l).take i++[.ref p]++(M a.l).drop (i+0)))) D (.lst (ds++[.ref d]))) U (.lst [])) U=some (.lst []):=ae;generalize (upd (upd (upd H3 a.l (.lst ((M a.l).take i++[.ref p]++(M a.l).drop (i+0)))) D (.lst (ds++[.ref d]))) U (.lst []))=H4 at keep k1 k2 k3;have g3:=hg.same s4;have sgN:h9 H3 ((M a.l).take i++[.ref p]++(M a.l).drop (i+0)) (ss.take i++[sg]++ss.drop i):=xZ (xZ (AR i g3) (.cons ⟨p,rfl,s4 _ _ hp⟩ .nil)) (DW i g3);obtain⟨F',gr,fr,B4⟩:=Bk.aco b iM pp f B.wv haa hj fw Tj (e:=⟨d,dd,a.l,i,B',A_,[],[.ref p]⟩) rfl ⟨by simp;omega,by simp⟩ (by simp) (by simp) s4 hB WH ⟨rfl,NP,s3 _ _ hB2,s3 _ _ QA⟩ (by rw[hM];exact sgN) (by simp;omega) (fun s hs=>by
    have wg:=((B.wv vw (.inr (.inl rfl))).gd _ _ (mem_of_getElem? fw)).2;rcases mem_append.mp hs with hs|hs
    ·rcases mem_append.mp hs with hs|hs
     ·exact wg s (List.mem_of_mem_take hs)
     ·rw[mem_singleton.mp hs];exact gt
    ·exact wg s (List.mem_of_mem_drop hs)) hD pD keep (by rw[hM];exact k1) k2 k3
   have nT:∀{y us},H3 y=some (.tup us)->H4 y=some (.tup us):=fun {y us} hy=>keep y _ hy (mZ hy (s4 _ _ hl) (by intro z;cases z)) (mZ hy (s4 _ _ hD) (by intro z;cases z)) (mZ hy (s4 _ _ hU) (by intro z;cases z));have sg4:h9 H4 ((M a.l).take i++[.ref p]++(M a.l).drop (i+0)) (ss.take i++[sg]++ss.drop i):=dy (fun _ _ ⟨z,e1,e2⟩=>⟨z,e1,nT e2⟩) sgN;refine⟨_,rfl,_,rfl,_,rfl,.inl ⟨_,_,rfl,rfl,_,rfl,big (by show 1<=1000;omega),fun lc hlc=>?_⟩⟩;have sc:=ar.upd (o:=.lst [V.ref p]) hlc;refine⟨a.l,lc,_,[.ref p],ss.take i++[sg]++ss.drop i,[sg],i,i+1,rfl,aZ.of (sc _ _ k1),sg4.same sc,by simp;omega,by simp;omega,by simp;omega,aZ.of ae,.cons ⟨p,rfl,sc _ _ (nT (s4 _ _ hp))⟩ .nil,by simp,fun w H5 s5 hw5=>?_⟩;have s6:=sc.trans s5;exact q4 w F' H5 e1 e2 hw5 gr (fun y o hy hn=>s6 _ _ (fr y o hy hn)) (B4.same s6)
inductive A1 (c:Cs)(vs:List V)(H:Hp)(Q:VK)(E:XK):Prop
 |mk (x:Addr) (F:Addr->Prop) (vw:Vw) (ps fs:List Vw) (n:Str) (gw:vs=[.ref x,.str n]) (gx:zV c H x F vw ps fs) (iW:match aM vw n with
 |none=>RX E c .dR H
 |some (.pl _)=>Q .non H
 |some (.cn ld lt sl tn)=>∀ p,H p=some (.tup [.str ld,.int lt,.int sl,.bl tn])->Q (.ref p) H):A1 c vs H Q E
theorem tY (T:Txt K w mg t):bK P w K mg base (iI P w) (0+2) t.eF t.vP ["self","name"] (A1 (cs t)):=by
 have bG:=dP (P:=P) (base:=base) T;refine T.qg.P5 N0 (fun vs H Q E h=>?_) (fun cdv A outer s H vs Q E hr h=>?_)
 ·obtain⟨_,_,_,_,_,_,rfl,_⟩:=h;rfl
 ·obtain⟨x,F,vw,ps,fs,n,rfl,B,q⟩:=h;refine aS (ak (ax (bX (bT (X:=(cK (iI P w) P w K mg base ["self","name"] "Book.canon" (ag iu) t.eF cdv A outer s H E)) (pv 0) T.aE T.dF bG (hr.mono (by decide)) T.cq .nil (fun _ _ z=>Or.inl z) (aa (pv 1) af)) rfl))) ?_;obtain⟨L,D,U,all,M,Ps,Fs,es,us,b,iM,pp,pf,f⟩:=B.ex;obtain⟨dx,hx⟩:=b.hx;obtain⟨vx,g,gv⟩:=b.vD iM;refine⟨_,rfl,x,dx,_,rfl,hx,ee _ _ _,_,rfl,x,dx,L,D,U,M L,vx,n,rfl,hx,b.hL,g,?_⟩;rcases JD gv (fun _ _ r=>r.2.1) n with ⟨f1,f2⟩|⟨a,th,j,f1,f2,r,an,fj,fw⟩
  ·rw[f1];rw[f2]at q;exact q
  rw[f1];rw[f2]at q;refine⟨a.o,_,a.d,_,_,rfl,(b.ha a r.1).1,T.fY,T.cQ,zS _ _ _,?_⟩;cases th with
  |pl ss=>rw[r.2.2.1];exact q
  |cn ld lt sl tn =>
   obtain⟨p,e1,e2⟩:=r.2.2;rw[e1];exact q p e2
theorem acH (k:Kd):(([(Str.ofString "3",V.str "2"),(Str.ofString "2",V.str "3")]:List (Str×V)).lookup k.str).getD (.str k.str)=.str (O8 k).str:=by cases k <;> decide +kernel
inductive Po (K:Frag)(vs:List V)(H:Hp)(Q:VK)(E:XK):Prop
 |mk (l:Addr) (xs:List V) (ss:List Sg) (gw:vs=[.ref l]) (gx:aZ K H l xs) (iW:h9 H xs ss) (m7:ss.length<=400) (tJ:∀(f:Addr)(ys:List V)(H':Hp),ar H H'->H f=none->H' f=some (.lst ys)->h9 H' ys (ss.map sf)->Q (.ref f) H'):Po K vs H Q E
theorem Pp (T:Txt K w mg t):bK P w K mg base oI (0+1) t.qR t.LC ["line"] (Po K):=by
 refine T.uN.ok ZY (fun vs H Q E h=>?_) (fun cdv A outer s H vs Q E hr h=>?_)
 ·obtain⟨_,_,_,rfl,_⟩:=h;rfl
 ·obtain⟨l,xs,ss,rfl,hS,hg,hn,q⟩:=h;refine aS (ak (ax (oC (cn:=["kind","tone"]) rfl (dQ.of rfl) (fN (pv 0)) (fun _=>(oV rfl (bA (aP (i:=0) JH rfl (Or.inl rfl)) (bA (aP (i:=1) JH rfl (Or.inl rfl)) ky)))) (fun _=>vv) (fun _=>(bB (aa (abT (cv (v:=.ref t.dD) rfl T.LS rfl) (pv 0) (pv 0)) (aa (pv 1) af))))))) ?_;tm_up;refine⟨⟨xs,hS⟩,fun D b hD=>?_⟩;refine lp (K:=K) (xs:=xs) (fun i ys σ H'=>∃(v w:Option V),σ=[v,w,some (.ref l)]/\ar H H'/\H' D=some (.lst ys)/\h9 H' ys ((ss.take i).map sf))
   ⟨none,none,rfl,ar.upd hD,ae,.nil⟩ ?_ ?_ ?_
  ·rintro i ys σ H' ⟨v,w,rfl,s2,_⟩;exact s2.seq hS
  ·rintro i ys x σ H' hx ⟨v,w,rfl,s2,hDl,hsg⟩ N hN;obtain⟨s,hs,p,rfl,hp⟩:=Bd hg hx;have hi:i<ss.length:=(List.getElem?_eq_some_iff.mp hs).1;refine⟨p,_,rfl,uo.of (s2 _ _ hp),rfl,_,_,rfl,_,_,rfl,rfl,?_⟩;refine⟨_,_,rfl,T.Ki,?_⟩;tm_up;rw[acH];refine⟨by show 2<=sizeLine;decide,fun z hz=>?_⟩;have sz:=ar.upd (o:=.tup [.str (O8 s.1).str,.int s.2]) hz;have hD3:=sz _ _ hDl;refine⟨hD3,?_,?_⟩
   ·rw[cB hsg,length_map,length_take];exact ba (by omega)
   ·refine hN _ _ _ ⟨_,_,rfl,jN (s2.trans sz) hD,ae,?_⟩;rw[take_succ,hs,map_append];exact qH (acf hD3 (hsg.same sz)) (ace hD3 ⟨z,rfl,ae⟩)
  ·rintro ys σ H' ⟨v,w,rfl,s2,hDl,hsg⟩;rw[cB hg,take_length]at hsg;exact q D ys H' s2 hD hDl hsg
inductive A2 (c:Cs)(vs:List V)(H:Hp)(Q:VK)(E:XK):Prop
 |mk (x:Addr) (F:Addr->Prop) (vw:Vw) (ps fs:List Vw) (n:Str) (ss:List Sg) (gw:vs=[.ref x,.str n]) (gx:zV c H x F vw ps fs) (iW:aM vw n=some (.pl ss)) (m7:∀(l:Addr)(ys:List V)(H':Hp),H l=none->ar H H'->H' l=some (.lst ys)->h9 H' ys ss->Q (.ref l) H'):A2 c vs H Q E
theorem N9 (T:Txt K w mg t):bK P w K mg base (iI P w) (0+3) t.cy t.sq ["self","name"] (A2 (cs t)):=by
 have mj:=tY (P:=P) (base:=base) T;have Mb:=Pp (P:=P) (base:=base) T;have bG:=dP (P:=P) (base:=base) T;refine T.oR.P5 bV (fun vs H Q E h=>?_) (fun cdv A outer s H vs Q E hr h=>?_)
 ·obtain⟨_,_,_,_,_,_,_,rfl,_⟩:=h;rfl
 ·obtain⟨x,F,vw,ps,fs,n,ss,rfl,B,hf,q⟩:=h;refine aS (ah (aH (i:=2) bV.nd rfl (Or.inl rfl) (bT (X:=(cK (iI P w) P w K mg base ["self","name","terms","leader","later","slow","is_turned","heard"] "Book.line" (ag dz) t.cy cdv A outer s H E)) (pv 0) T.aE T.tV mj (hr.mono (by decide)) T.lY .nil (fun _ _ z=>Or.inl z) (aa (pv 1) af))) (ah (bf (au VG (pv 2) j4 (ay _)) (ak (ax (jM DP rfl T.Ew DR (aa (bX (bT (X:=(cK (iI P w) P w K mg base ["self","name","terms","leader","later","slow","is_turned","heard"] "Book.line" (ag dz) t.cy cdv A outer s H E)) (pv 0) T.aE T.dF bG (hr.mono (by decide)) T.cq .nil (fun _ _ z=>Or.inl z) (aa (pv 1) af)) rfl) af)))) aF) (ah (lF (pv 2) (oV rfl (bA (aP (i:=3) bV.nd rfl (Or.inl rfl)) (bA (aP (i:=4) bV.nd rfl (Or.inl rfl)) (bA (aP (i:=5) bV.nd rfl (Or.inl rfl)) (bA (aP (i:=6) bV.nd rfl (Or.inl rfl)) ky)))))) (ah (aH (i:=7) bV.nd rfl (Or.inl rfl) ab5) (ak (ax (cM (gR (bZ (pv 6)) (aB Mb (hr.mono (by decide)) rfl T.Pf T.uN.kp T.Em .nil aL (aa (pv 7) af)) (pv 7))))))))) ?_;obtain⟨L,D,U,all,M,Ps,Fs,es,us,b,iM,pp,pf,f⟩:=B.ex;obtain⟨dx,hx⟩:=b.hx;obtain⟨vx,g,gv⟩:=b.vD iM;refine⟨_,rfl,x,dx,_,rfl,hx,vC _ _ _,_,rfl,x,F,vw,ps,fs,n,rfl,B,?_⟩;rw[hf];refine⟨_,rfl,rfl,_,rfl,?_⟩;refine bp (fun _=>?_) (fun h=>absurd (by decide) h);refine⟨_,rfl,x,dx,_,rfl,hx,ee _ _ _,_,rfl,x,dx,L,D,U,M L,vx,n,rfl,hx,b.hL,g,?_⟩;rcases JD gv (fun _ _ r=>r.2.1) n with ⟨f1,f2⟩|⟨a,th,j,f1,f2,r,an,fj,fw⟩
  ·rw[f2]at hf;cases hf
  rw[f1];rw[f2]at hf;cases hf;refine⟨a.o,_,a.d,_,_,rfl,(b.ha a r.1).1,T.fY,T.cC,uB _ _ _,?_⟩;refine⟨_,_,rfl,.inl (aZ.of (b.ha a r.1).2),fun l hl=>?_⟩;exact q l _ _ hl (ar.upd hl) ae (r.2.2.2.same (ar.upd hl))
inductive EH (c:Cs)(vs:List V)(H:Hp)(Q:VK)(E:XK):Prop
 |mk (x:Addr) (F:Addr->Prop) (vw:Vw) (ps fs:List Vw) (n:Str) (gw:vs=[.ref x,.str n]) (gx:zV c H x F vw ps fs) (iW:match aM vw n with
 |none=>RX E c .dR H
 |some _=>∀(l:Addr)(ys:List V)(H':Hp),H l=none->ar H H'->H' l=some (.lst ys)->h9 H' ys (O9 vw n)->Q (.ref l) H'):EH c vs H Q E
theorem v8 (T:Txt K w mg t):bK P w K mg base (iI P w) (0+4) t.cy t.sq ["self","name"] (EH (cs t)):=by
 have QD:=N9 (P:=P) (base:=base) T;have mj:=tY (P:=P) (base:=base) T;have Mb:=Pp (P:=P) (base:=base) T;have bG:=dP (P:=P) (base:=base) T;refine T.oR.P5 bV (fun vs H Q E h=>?_) (fun cdv A outer s H vs Q E hr h=>?_)
 ·obtain⟨_,_,_,_,_,_,rfl,_⟩:=h;rfl
 ·obtain⟨x,F,vw,ps,fs,n,rfl,B,q⟩:=h;refine aS (ah (aH (i:=2) bV.nd rfl (Or.inl rfl) (bT (X:=(cK (iI P w) P w K mg base ["self","name","terms","leader","later","slow","is_turned","heard"] "Book.line" (ag dz) t.cy cdv A outer s H E)) (pv 0) T.aE T.tV mj (hr.mono (by decide)) T.lY .nil (fun _ _ z=>Or.inl z) (aa (pv 1) af))) (ah (bf (au VG (pv 2) j4 (ay _)) (ak (ax (jM DP rfl T.Ew DR (aa (bX (bT (X:=(cK (iI P w) P w K mg base ["self","name","terms","leader","later","slow","is_turned","heard"] "Book.line" (ag dz) t.cy cdv A outer s H E)) (pv 0) T.aE T.dF bG (hr.mono (by decide)) T.cq .nil (fun _ _ z=>Or.inl z) (aa (pv 1) af)) rfl) af)))) aF) (ah (lF (pv 2) (oV rfl (bA (aP (i:=3) bV.nd rfl (Or.inl rfl)) (bA (aP (i:=4) bV.nd rfl (Or.inl rfl)) (bA (aP (i:=5) bV.nd rfl (Or.inl rfl)) (bA (aP (i:=6) bV.nd rfl (Or.inl rfl)) ky)))))) (ah (aH (i:=7) bV.nd rfl (Or.inl rfl) (bT (X:=(cK (iI P w) P w K mg base ["self","name","terms","leader","later","slow","is_turned","heard"] "Book.line" (ag dz) t.cy cdv A outer s H E)) (pv 0) T.aE T.iD QD (hr.mono (by decide)) T.fV .nil (fun _ _ z=>Or.inl z) (aa (pv 3) af))) (ak (ax (cM (gR (bZ (pv 6)) (aB Mb (hr.mono (by decide)) rfl T.Pf T.uN.kp T.Em .nil aL (aa (pv 7) af)) (pv 7))))))))) ?_;obtain⟨L,D,U,all,M,Ps,Fs,es,us,b,iM,pp,pf,f⟩:=B.ex;obtain⟨dx,hx⟩:=b.hx;obtain⟨vx,g,gv⟩:=b.vD iM;have wv:=B.wv vw (.inr (.inl rfl));refine⟨_,rfl,x,dx,_,rfl,hx,vC _ _ _,_,rfl,x,F,vw,ps,fs,n,rfl,B,?_⟩;cases hf:aM vw n with
  |none =>
   rw[hf]at q;exact q
  |some th =>
   rw[hf]at q;cases th with
   |pl ss =>
    refine⟨_,rfl,rfl,_,rfl,?_⟩;refine bp (fun _=>?_) (fun h=>absurd (by decide) h);refine⟨_,rfl,x,dx,_,rfl,hx,ee _ _ _,_,rfl,x,dx,L,D,U,M L,vx,n,rfl,hx,b.hL,g,?_⟩;rcases JD gv (fun _ _ r=>r.2.1) n with ⟨f1,f2⟩|⟨a,th,j,f1,f2,r,an,fj,fw⟩
    ·rw[f2]at hf;cases hf
    rw[f1];rw[f2]at hf;cases hf;refine⟨a.o,_,a.d,_,_,rfl,(b.ha a r.1).1,T.fY,T.cC,uB _ _ _,?_⟩;refine⟨_,_,rfl,.inl (aZ.of (b.ha a r.1).2),fun l hl=>?_⟩;exact q l _ _ hl (ar.upd hl) ae (by rw[qK f2];exact r.2.2.2.same (ar.upd hl))
   |cn ld lt sl tn =>
    intro p hp;refine⟨_,rfl,rfl,_,rfl,?_⟩;refine bp (fun h=>by have:=of_decide_eq_true h;cases this) (fun _=>?_);obtain⟨⟨ss,hld⟩,_⟩:=wv.ld n ld lt sl tn (di hf);have hfl:=wv.find hld;have gl:=(wv.gd _ _ hld).1;rw[uE hf hfl]at q;refine⟨_,rfl,p,_,rfl,uo.of hp,rfl,_,_,rfl,_,_,rfl,_,_,rfl,_,_,rfl,rfl,?_⟩;refine⟨_,rfl,x,dx,_,rfl,hx,jv _ _ _,_,rfl,x,F,vw,ps,fs,ld,ss,rfl,B,hfl,fun l ys H1 hl s1 h1 g1=>?_⟩;refine⟨fun v H'=>∃ l' ys',v=.ref l'/\H l'=none/\ar H H'/\H' l'=some (.lst ys')/\h9 H' ys' (if tn=true then ss.map sf else ss),?_,?_⟩
    ·refine⟨_,rfl,_,rfl,?_⟩;cases tn with
     |true =>
      refine jr ⟨_,rfl,l,ys,ss,rfl,aZ.of h1,g1,by omega,fun f' ys' H2 s2 hf' h2 g2=>⟨f',ys',rfl,s1.free hf',s1.trans s2,h2,g2⟩⟩
     |false=>exact dw ⟨_,rfl,l,ys,rfl,hl,s1,h1,g1⟩
    ·rintro v H' ⟨l',ys',rfl,a1,a2,a3,a4⟩;exact q l' ys' H' a1 a2 a3 a4
inductive EI (C:Addr)(vs:List V)(H:Hp)(Q:VK)(E:XK):Prop
 |mk (x dx T_ B A:Addr) (i:Nat) (xs bs as:List V) (gw:vs=[.ref x]) (gx:H x=some (.ins C dx (Jx T_ (i:Int) B A))) (iW:H T_=some (.lst xs)) (m7:H B=some (.lst bs)) (tJ:H A=some (.lst as)) (Tx:T_≠B) (h6_:i+as.length<=xs.length) (h7_:xs.length+bs.length<=1000) (h8_:Q .non (upd H T_ (.lst (xs.take i++bs++xs.drop (i+as.length))))):EI C vs H Q E
theorem v9 (T:Txt K w mg t):bK P w K mg base oI (0+1) t.ic t.yd ["self"] (EI t.bx):=by
 refine T.sx.ok Qk (fun vs H Q E h=>?_) (fun cdv A outer s H vs Q E hr h=>?_)
 ·obtain⟨_,_,_,_,_,_,_,_,_,rfl,_⟩:=h;rfl
 ·obtain⟨x,dx,T_,B,A_,i,xs,bs,as,rfl,hx,hT,hB,hA,hne,hi,hz,q⟩:=h;refine aS (ak (lF (bX (pv 0) rfl) (TQ (bX (pv 0) rfl) (je (bX (pv 0) rfl)) (je (aR (bW.or (aJ.or bY)) (bX (pv 0) rfl) (bc (aN.or aO) rfl T.dt dg (aa (bX (pv 0) rfl) af))))))) ?_;refine⟨_,rfl,x,_,dx,_,_,rfl,hx,T.fZ,T.eY,Ln _ _ _ _,?_⟩;refine⟨_,rfl,x,_,dx,_,_,rfl,hx,T.fZ,T.eX,Lm _ _ _ _,?_⟩;refine⟨_,rfl,x,_,dx,_,_,rfl,hx,T.fZ,T.iF,Qe _ _ _ _,_,rfl,?_⟩;refine⟨_,rfl,x,_,dx,_,_,rfl,hx,T.fZ,T.iF,Qe _ _ _ _,?_⟩;refine⟨_,rfl,x,_,dx,_,_,rfl,hx,T.fZ,T.gJ,O6 _ _ _ _,?_⟩;refine .inl ⟨A_,as,rfl,.inl (aZ.of hA),.inl ⟨_,_,rfl,rfl,_,rfl,?_⟩⟩;refine⟨T_,B,xs,bs,(i:Int),((i+as.length:Nat):Int),rfl,rfl,rfl,by simp,hT,hB,hne,by omega,by omega,by omega,Nat.le_trans hz (by decide),?_⟩;rw[Int.toNat_natCast,Int.toNat_natCast];exact q
inductive EJ (c:Cs)(vs:List V)(H:Hp)(Q:VK)(E:XK):Prop
 |mk (x:Addr) (F:Addr->Prop) (vw:Vw) (ps fs:List Vw) (gw:vs=[.ref x]) (gx:zV c H x F vw ps fs) (iW:ps.length+fs.length<=900) (m7:(ps=[]->∀ H',ar H H'->RX E c .oX H')) (tJ:(∀ ps0 v,ps=ps0++[v]->∀ H',Fr F H H'->zV c H' x F v ps0 (fs++[vw])->Q .non H')):EJ c vs H Q E
theorem EK (T:Txt K w mg t):bK P w K mg base (iI P w) (0+2) t.fS t.ye ["self"] (EJ (cs t)):=by
 have yB:=v9 (P:=P) (base:=base) T;refine T.sy.P5 Ec (fun vs H Q E h=>?_) (fun cdv A outer s H vs Q E hr h=>?_)
 ·obtain⟨_,_,_,_,_,rfl,_⟩:=h;rfl
 ·obtain⟨x,F,vw,ps,fs,rfl,B,hps,q1,q2⟩:=h;refine aS (ah (bf (au (abW (az hr)) (bX (pv 0) rfl) (bM af) (ay _)) (ak (iJ (X:=(cK (iI P w) P w K mg base ["self","deed"] "Book.undo" (ag jy) t.fS cdv A outer s H E)) (fun _ _ z=>z) rfl T.Pl.exc rfl T.G2 (aa av af))) aF) (ah (aH (i:=1) Ec.nd rfl (Or.inl rfl) (VU plainAttrs_list slot_list_pop type_list_pop abC (bX (pv 0) rfl))) (ah (bo (kg (pv 1) T.fZ T.Qr yB (hr.mono (by decide)) T.yr .nil aL)) (ak (bo (m9 plainAttrs_list slot_list_append type_list_append cz (bX (pv 0) rfl) (aa (pv 1) af))))))) ?_;obtain⟨L,D,U,all,M,Ps,Fs,es,us,b,iM,pp,pf,f⟩:=B.ex;obtain⟨dx,hx⟩:=b.hx;obtain⟨ds,hD,pD⟩:=b.hD;have dl:=cB pD;have pl:=cB pp;have pe:=b.past.len;refine⟨_,rfl,x,_,dx,_,_,rfl,hx,T.aE,T.eG,D0 _ _ _,big (by show 0<=1000;omega),fun e0 he0=>?_⟩;have s0:=ar.upd (o:=.lst []) he0;refine⟨D,e0,ds,rfl,rfl,aZ.of (s0 _ _ hD),aZ.of ae,_,rfl,?_⟩;generalize upd H e0 (.lst [])=H0 at s0;refine bp (fun h=>?_) (fun h=>?_)
  ·have hds:ds=[]:=List.isEmpty_iff.mp h;rw[hds]at dl;have hp0:ps=[]:=List.length_eq_zero_iff.mp (by rw[<-pl,pe,<-dl];rfl);have q:=q1 hp0 H0 s0;exact⟨by show 1<=sizeLine;decide,q.2⟩
  have hne:ds≠[]:=fun z=>h (by rw[z];rfl);obtain⟨ds0,v,rfl⟩:∃ ds0 v,ds=ds0++[v]:=⟨ds.dropLast,ds.getLast hne,(List.dropLast_concat_getLast hne).symm⟩;obtain⟨es0,e,he,pD0,hd⟩:=Lo pD;have hvo:=hd.1;subst hvo;have B0:=B.same s0;have b0:=b.kept f (.same s0);have hd0:mY t.bx H0 (.ref e.o) e:=jO (F:=fun _=>True) (.same s0) ⟨trivial,trivial⟩ hd;have ok:=b.dd e (.inl (by rw[he];exact mem_append_right _ (List.mem_singleton_self _)));obtain⟨hT,TD,TU⟩:=b0.lists ok.1;have nTB:e.T≠e.B:=by
   rcases ok.1 with z|⟨a,ha,z⟩
   ·rw[z];exact Ne.symm ok.2.1.1
   ·rw[z];exact Ne.symm (ok.2.1.2.2.2 a ha)
  obtain⟨Ps0,S,_,_,ft,hMS⟩:=(he ▸ b.past).last;have fit:e.i+e.as.length<=(M e.T).length:=by rw[hMS];exact aec ft
  have hx0:=s0 _ _ hx;have hD0:=s0 _ _ hD;obtain⟨ux,Ti,pU⟩:=b0.hU;have ak2:(M e.T).length<=200:=by
   rcases ok.1 with z|⟨a,ha,z⟩
   ·rw[z];exact Nat.le_trans (b.wf M (.inr (.inl rfl))).len (by decide)
   ·rw[z];exact((b.wf M (.inr (.inl rfl))).ln a ha).1
  refine⟨_,rfl,x,_,dx,_,_,rfl,hx0,T.aE,T.eG,D0 _ _ _,?_⟩;refine⟨.inl ⟨rfl,_,aZ.of hD0⟩,D,ds0++[V.ref e.o],V.ref e.o,rfl,rfl,hD0,by simp,?_⟩;rw[List.dropLast_concat];have nD:∀{y C d fs},H0 y=some (.ins C d fs)->y≠D:=fun hy=>mZ hy hD0 (by intro z;cases z);have nT:∀{y C d fs},H0 y=some (.ins C d fs)->y≠e.T:=fun hy=>mZ hy hT (by intro z;cases z);have r1:∀{y o},H0 y=some o->y≠D->upd H0 D (.lst ds0) y=some o:=fun hy hn=>by rw[ao hn];exact hy
  refine⟨_,rfl,e.o,e.d,_,rfl,r1 hd0.2.1 (nD hd0.2.1),Ud _ _ _ _,?_⟩;refine⟨e.o,e.d,e.T,e.B,e.A,e.i,M e.T,e.bs,e.as,rfl,r1 hd0.2.1 (nD hd0.2.1),r1 hT TD,r1 hd0.2.2.1 ok.2.1.2.1,r1 hd0.2.2.2 ok.2.2.1.2.1,nTB,fit,by have:=ok.2.2.2.1;omega,?_⟩;have r2:∀{y o},H0 y=some o->y≠D->y≠e.T->upd (upd H0 D (.lst ds0)) e.T (.lst ((M e.T).take e.i++e.bs++(M e.T).drop (e.i+e.as.length))) y=some o:=fun hy hn hn'=>by rw[ao hn',ao hn];exact hy
  refine⟨_,rfl,x,_,dx,_,_,rfl,r2 hx0 (nD hx0) (nT hx0),T.aE,T.cR,vB _ _ _,?_⟩;have hU1:=r2 Ti (Ne.symm b.DU) (Ne.symm TU);have ul:=cB pU;have fl:=cB pf;have fe:=b.fut.len;refine⟨.inl ⟨rfl,_,aZ.of hU1⟩,_,rfl,U,_,_,rfl,rfl,hU1,ba (by omega),?_⟩;obtain⟨ps0,v,e1,B2⟩:=Bk.agz b0 (Is.kept (F:=F) (.same s0) iM) (dy (fun _ _ q=>Is.kept (F:=F) (.same s0) q) pp) (dy (fun _ _ q=>Is.kept (F:=F) (.same s0) q) pf) f B.wv he (oW (fun _ e' _ q=>jO (F:=fun _=>True) (.same s0) ⟨trivial,trivial⟩ q) pD0) hd0 pU
   (H2:=upd (upd (upd H0 D (.lst ds0)) e.T (.lst ((M e.T).take e.i++e.bs++(M e.T).drop (e.i+e.as.length)))) U (.lst (ux++[.ref e.o]))) (fun y o hy y1 y2 y3=>by rw[ao y3];exact r2 hy y2 y1) (by rw[ao TU,ae];exact congrArg (fun z=>some (HO.lst z)) gC.symm) (by rw[ao b.DU,ao (Ne.symm TD),ae]) ae
  refine q2 ps0 v e1 _ (fun y o hy hn=>?_) B2;have fT:F e.T:=by
   rcases ok.1 with z|⟨a,ha,z⟩
   ·rw[z];exact f.L
   ·rw[z];exact f.l a ha
  rw[ao (show y≠U from fun z=>hn (z ▸ f.U))];exact r2 (s0 _ _ hy) (fun z=>hn (z ▸ f.D)) (fun z=>hn (z ▸ fT))
inductive EL (c:Cs)(vs:List V)(H:Hp)(Q:VK)(E:XK):Prop
 |mk (x:Addr) (F:Addr->Prop) (vw:Vw) (ps fs:List Vw) (gw:vs=[.ref x]) (gx:zV c H x F vw ps fs) (iW:ps.length+fs.length<=900) (m7:(fs=[]->∀ H',ar H H'->RX E c .oX H')) (tJ:(∀ fs0 v,fs=fs0++[v]->∀ H',Fr F H H'->zV c H' x F v (ps++[vw]) fs0->Q .non H')):EL c vs H Q E
theorem EM (T:Txt K w mg t):bK P w K mg base (iI P w) (0+2) t.fU t.yf ["self"] (EL (cs t)):=by
 have G5:=L7 (P:=P) (base:=base) T;refine T.sC.P5 Ed (fun vs H Q E h=>?_) (fun cdv A outer s H vs Q E hr h=>?_)
 ·obtain⟨_,_,_,_,_,rfl,_⟩:=h;rfl
 ·obtain⟨x,F,vw,ps,fs,rfl,B,hps,q1,q2⟩:=h;refine aS (ah (bf (au (abW (az hr)) (bX (pv 0) rfl) (bM af) (ay _)) (ak (iJ (X:=(cK (iI P w) P w K mg base ["self","deed"] "Book.redo" (ag jz) t.fU cdv A outer s H E)) (fun _ _ z=>z) rfl T.Pl.exc rfl T.G2 (aa av af))) aF) (ah (aH (i:=1) Ed.nd rfl (Or.inl rfl) (VU plainAttrs_list slot_list_pop type_list_pop abC (bX (pv 0) rfl))) (ah (bo (kg (pv 1) T.fZ T.LJ G5 (hr.mono (by decide)) T.Ad .nil aL)) (ak (bo (m9 plainAttrs_list slot_list_append type_list_append cz (bX (pv 0) rfl) (aa (pv 1) af))))))) ?_;obtain⟨L,D,U,all,M,Ps,Fs,es,us,b,iM,pp,pf,f⟩:=B.ex;obtain⟨dx,hx⟩:=b.hx;obtain⟨ux,hU,pU⟩:=b.hU;have ul:=cB pU;have fl:=cB pf;have fe:=b.fut.len;refine⟨_,rfl,x,_,dx,_,_,rfl,hx,T.aE,T.cR,vB _ _ _,big (by show 0<=1000;omega),fun e0 he0=>?_⟩;have s0:=ar.upd (o:=.lst []) he0;refine⟨U,e0,ux,rfl,rfl,aZ.of (s0 _ _ hU),aZ.of ae,_,rfl,?_⟩;generalize upd H e0 (.lst [])=H0 at s0;refine bp (fun h=>?_) (fun h=>?_)
  ·have hds:ux=[]:=List.isEmpty_iff.mp h;rw[hds]at ul;have hp0:fs=[]:=List.length_eq_zero_iff.mp (by rw[<-fl,fe,<-ul];rfl);have q:=q1 hp0 H0 s0;exact⟨by show 1<=sizeLine;decide,q.2⟩
  have hne:ux≠[]:=fun z=>h (by rw[z];rfl);obtain⟨ux0,v,rfl⟩:∃ ux0 v,ux=ux0++[v]:=⟨ux.dropLast,ux.getLast hne,(List.dropLast_concat_getLast hne).symm⟩;obtain⟨us0,e,he,pU0,hd⟩:=Lo pU;have hvo:=hd.1;subst hvo;have b0:=b.kept f (.same s0);have hd0:mY t.bx H0 (.ref e.o) e:=jO (F:=fun _=>True) (.same s0) ⟨trivial,trivial⟩ hd;have ok:=b.dd e (.inr (by rw[he];exact mem_append_right _ (List.mem_singleton_self _)));obtain⟨hT,TD,TU⟩:=b0.lists ok.1;have nTA:e.T≠e.A:=by
   rcases ok.1 with z|⟨a,ha,z⟩
   ·rw[z];exact Ne.symm ok.2.2.1.1
   ·rw[z];exact Ne.symm (ok.2.2.1.2.2.2 a ha)
  obtain⟨Fs0,_,ft,_⟩:=(he ▸ b.fut).last;have fit:=ft.1;have hx0:=s0 _ _ hx;have Ti:=s0 _ _ hU;obtain⟨ds,hD0,pD⟩:=b0.hD;have ak2:(M e.T).length<=200:=by
   rcases ok.1 with z|⟨a,ha,z⟩
   ·rw[z];exact Nat.le_trans (b.wf M (.inr (.inl rfl))).len (by decide)
   ·rw[z];exact((b.wf M (.inr (.inl rfl))).ln a ha).1
  refine⟨_,rfl,x,_,dx,_,_,rfl,hx0,T.aE,T.cR,vB _ _ _,?_⟩;refine⟨.inl ⟨rfl,_,aZ.of Ti⟩,U,ux0++[V.ref e.o],V.ref e.o,rfl,rfl,Ti,by simp,?_⟩;rw[List.dropLast_concat];have nU:∀{y C d fs},H0 y=some (.ins C d fs)->y≠U:=fun hy=>mZ hy Ti (by intro z;cases z);have nT:∀{y C d fs},H0 y=some (.ins C d fs)->y≠e.T:=fun hy=>mZ hy hT (by intro z;cases z);have r1:∀{y o},H0 y=some o->y≠U->upd H0 U (.lst ux0) y=some o:=fun hy hn=>by rw[ao hn];exact hy
  refine⟨_,rfl,e.o,e.d,_,rfl,r1 hd0.2.1 (nU hd0.2.1),O7 _ _ _ _,?_⟩;refine⟨e.o,e.d,e.T,e.B,e.A,e.i,M e.T,e.bs,e.as,rfl,r1 hd0.2.1 (nU hd0.2.1),r1 hT TU,r1 hd0.2.2.1 ok.2.1.2.2.1,r1 hd0.2.2.2 ok.2.2.1.2.2.1,nTA,fit,by have:=ok.2.2.2.2;omega,?_⟩;have r2:∀{y o},H0 y=some o->y≠U->y≠e.T->upd (upd H0 U (.lst ux0)) e.T (.lst ((M e.T).take e.i++e.as++(M e.T).drop (e.i+e.bs.length))) y=some o:=fun hy hn hn'=>by rw[ao hn',ao hn];exact hy
  refine⟨_,rfl,x,_,dx,_,_,rfl,r2 hx0 (nU hx0) (nT hx0),T.aE,T.eG,D0 _ _ _,?_⟩;have hD1:=r2 hD0 b.DU (Ne.symm TD);have dl:=cB pD;have pl:=cB pp;have pe:=b.past.len;refine⟨.inl ⟨rfl,_,aZ.of hD1⟩,_,rfl,D,_,_,rfl,rfl,hD1,ba (by omega),?_⟩;obtain⟨fs0,v,e1,B2⟩:=Bk.agA b0 (Is.kept (F:=F) (.same s0) iM) (dy (fun _ _ q=>Is.kept (F:=F) (.same s0) q) pp) (dy (fun _ _ q=>Is.kept (F:=F) (.same s0) q) pf) f B.wv he pD hd0 (oW (fun _ e' _ q=>jO (F:=fun _=>True) (.same s0) ⟨trivial,trivial⟩ q) pU0)
   (H2:=upd (upd (upd H0 U (.lst ux0)) e.T (.lst ((M e.T).take e.i++e.as++(M e.T).drop (e.i+e.bs.length)))) D (.lst (ds++[.ref e.o]))) (fun y o hy y1 y2 y3=>by rw[ao y2];exact r2 hy y3 y1) (by rw[ao TD,ae];exact congrArg (fun z=>some (HO.lst z)) gC.symm) ae (by rw[ao (Ne.symm b.DU),ao (Ne.symm TU),ae])
  refine q2 fs0 v e1 _ (fun y o hy hn=>?_) B2;have fT:F e.T:=by
   rcases ok.1 with z|⟨a,ha,z⟩
   ·rw[z];exact f.L
   ·rw[z];exact f.l a ha
  rw[ao (show y≠D from fun z=>hn (z ▸ f.D))];exact r2 (s0 _ _ hy) (fun z=>hn (z ▸ f.U)) (fun z=>hn (z ▸ fT))
inductive Mc (vs:List V)(H:Hp)(Q:VK)(E:XK):Prop
 |mk (x:Str) (gw:vs=[.str x]) (gx:x.length<=1000) (iW:∀ H',ar H H'->Q (.bl (nameB x)) H'):Mc vs H Q E
theorem WL (T:Txt K w mg t):bK P w K mg base oI (0+1) t.nF t.GF ["name"] Mc:=by
 refine T.uO.ok Wc (fun vs H Q E h=>?_) (fun cdv A outer s H vs Q E hr h=>?_)
 ·obtain⟨_,rfl,_⟩:=h;rfl
 ·obtain⟨x,rfl,hx,q⟩:=h;refine aS (ak (ax (cM (kH (Tw xO xO ai (bc (aN.or aO) rfl T.dt dg (aa (pv 0) af)) (cv (v:=.int 8) rfl T.LX ⟨_,rfl⟩)) (j5 (bc ab3 rfl T.agG agk (aa (oC (cn:=["letter"]) rfl (dQ.of rfl) (agf (pv 0)) (fun _=>(aP (i:=0) Qm rfl (Or.inl rfl))) (fun _=>vv) (fun _=>(bS (cV.or cU) (pv 0) (cv (v:=.str "abcdefghijklmnopqrstuvwxyz") rfl T.Z3 ⟨_,rfl⟩) rfl))) af))))))) ?_;have xb:x.length<=sizeLine:=Nat.le_trans hx (by decide);refine⟨fun v H'=>v=.bl (nameB x)/\ar H H',?_,fun _ _ ⟨e1,e2⟩=>by rw[e1];exact q _ e2⟩;unfold nameB;refine⟨_,rfl,.inr ⟨_,rfl,xb,_,_,rfl,rfl,_,rfl,?_⟩⟩;refine bp (fun h1=>?_) (fun h1=>?_)
  rotate_left
  ·have e1:decide (1<=x.length)=false:=decide_eq_false fun z=>h1 (decide_eq_true (by omega));rw[e1];exact⟨_,rfl,dw ⟨rfl,ar.refl _⟩⟩
  have e1:decide (1<=x.length)=true:=decide_eq_true (by have:=of_decide_eq_true h1;omega);rw[e1,Bool.true_and];refine⟨_,_,rfl,rfl,_,rfl,?_⟩;refine bp (fun h2=>?_) (fun h2=>?_)
  rotate_left
  ·have e2:decide (x.length<=8)=false:=decide_eq_false fun z=>h2 (decide_eq_true (by omega));rw[e2];exact⟨rfl,ar.refl _⟩
  have n2:x.length<=8:=by have:=of_decide_eq_true h2;omega
  have e2:decide (x.length<=8)=true:=decide_eq_true n2;rw[e2,Bool.true_and];refine⟨_,rfl,_,rfl,fun D b hD=>?_⟩;refine abO (fun i ys σ H'=>∃ v,σ=[v,some (.str x)]/\H'=upd H D (.lst ys)/\ys=((x.cps.toList.take i).map fun c=>V2 ⟨#[c]⟩ "abcdefghijklmnopqrstuvwxyz").map V.bl/\i<=x.cps.size) ⟨none,rfl,rfl,rfl,Nat.zero_le _⟩ ?_ ?_
  ·rintro i ys c σ H' hc ⟨v,rfl,rfl,rfl,hi⟩ N hN;have hi2:i<x.cps.size:=(Array.getElem?_eq_some_iff.mp hc).1;have hcm:x.cps.toList[i]? = some c:=by simpa using hc
   have sz:x.cps.size<=8:=n2;refine jt ?_;refine⟨_,rfl,.inr ⟨_,_,rfl,rfl,ae,?_,?_⟩⟩
   ·rw[length_map,length_map,length_take];exact ba (by omega)
   ·refine hN _ _ _ ⟨_,rfl,cI,?_,hi2⟩;rw[take_succ,hcm,map_append,map_append];rfl
  ·rintro ys σ H' ⟨v,rfl,rfl,rfl,hi⟩;refine⟨rfl,D,_,rfl,aZ.of ae,?_,ar.upd hD⟩;rw[show x.cps.size=x.cps.toList.length from rfl,take_length];refine congrArg V.bl ?_;rw[List.all_map];rfl
theorem acJ {x:Str}{l:List V}(h:inV (.str x) l=true):V.str x∈l:=by
 unfold inV at h;obtain⟨y,hy,e⟩:=any_eq_true.mp h;cases y with
 |str z =>
  have:z=x:=by simpa [YQ] using e
  rw[<-this];exact hy
 |_=>simp[YQ]at e
theorem WM {x:Str}{l:List V}(h:V.str x∈l):inV (.str x) l=true:=by
 unfold inV;exact any_eq_true.mpr ⟨_,h,by simp[YQ]⟩
theorem JQ {vw:Vw}{n:Str}(h:cZ vw n=none):nameB n=true/\aM vw n=none/\vw.length<12:=by
 unfold cZ at h;split at h
 ·cases h
 ·next h1 =>
  split at h
  ·cases h
  ·next h2 =>
   split at h
   ·cases h
   ·next h3=>exact⟨by simpa using h1,by cases e:aM vw n with|none=>rfl|some _=>rw[e]at h2;exact absurd rfl h2,by omega⟩
inductive rl (c:Cs)(vs:List V)(H:Hp)(Q:VK)(E:XK):Prop
 |mk (x:Addr) (F:Addr->Prop) (vw:Vw) (ps fs:List Vw) (n:Str) (gw:vs=[.ref x,.str n]) (gx:zV c H x F vw ps fs) (iW:n.length<=1000) (m7:match cZ vw n with
 |some r=>∀ H',ar H H'->RX E c r H'
 |none=>∀ H',ar H H'->Q .non H'):rl c vs H Q E
theorem rm (T:Txt K w mg t):bK P w K mg base (iI P w) (0+2) t.bC t.lP ["self","name"] (rl (cs t)):=by
 have aab:=WL (P:=P) (base:=base) T;have eI:=kx (P:=P) (base:=base) T;refine T.jk.P5 Bl (fun vs H Q E h=>?_) (fun cdv A outer s H vs Q E hr h=>?_)
 ·obtain⟨_,_,_,_,_,_,rfl,_⟩:=h;rfl
 ·obtain⟨x,F,vw,ps,fs,n,rfl,B,hlen,q⟩:=h;refine aS (ah (bf (kG (bZ (aB aab (hr.mono (by decide)) rfl T.Wu T.uO.kp T.GP .nil aL (aa (pv 1) af)))) (ak (iJ (X:=(cK (iI P w) P w K mg base ["self","name"] "Book.refuse_new" (ag bU) t.bC cdv A outer s H E)) (fun _ _ z=>z) rfl T.WE.exc rfl T.L4 (aa av af))) aF) (ah (bf (au (cV.or cU) (pv 1) (kg (pv 0) T.aE T.ko eI (hr.mono (by decide)) T.iA .nil aL) rfl) (ak (iJ (X:=(cK (iI P w) P w K mg base ["self","name"] "Book.refuse_new" (ag bU) t.bC cdv A outer s H E)) (fun _ _ z=>z) rfl T.Qz.exc rfl T.Ez (aa av af))) aF) (ak (bf (au ae8 (bc (aN.or aO) rfl T.dt dg (aa (bX (pv 0) rfl) af)) (cv (v:=.int 12) rfl T.N8 ⟨_,rfl⟩) (ay _)) (ak (iJ (X:=(cK (iI P w) P w K mg base ["self","name"] "Book.refuse_new" (ag bU) t.bC cdv A outer s H E)) (fun _ _ z=>z) rfl T.Zd.exc rfl T.Qy (aa av af))) aF)))) ?_;refine⟨_,rfl,n,rfl,hlen,fun H1 s1=>?_⟩;unfold cZ at q;refine⟨_,rfl,?_⟩;cases hnb:nameB n with
  |false =>
   rw[if_pos hnb]at q;have q:=q H1 s1;exact jr ⟨by show 1<=sizeLine;decide,q.2⟩
  |true =>
   rw[if_neg (by rw[hnb];decide)]at q;refine dw ?_;have B1:=B.same s1;obtain⟨L,D,U,all,M,Ps,Fs,es,us,b,i,pp,pf,f⟩:=B1.ex;obtain⟨dx,hx⟩:=b.hx;refine⟨_,rfl,_,rfl,x,dx,_,rfl,hx,lL _ _ _,?_⟩;refine⟨x,F,vw,ps,fs,rfl,B1,fun l H2 hl s2 hl2=>?_⟩;refine .inl ⟨l,_,rfl,.inl (aZ.of hl2),rfl,?_,_,rfl,?_⟩
   ·rw[List.all_map];exact all_eq_true.mpr fun _ _=>rfl
   have mem:inV (.str n) (vw.map fun a=>V.str a.1)=true ↔ (aM vw n).isSome=true:=by
    constructor
    ·intro h;obtain⟨a,ha,e⟩:=mem_map.mp (acJ h);cases e2:aM vw n with
     |some _=>rfl
     |none=>exact absurd (V.str.inj e) (kK e2 a ha)
    ·intro h;cases e2:aM vw n with
     |none=>rw[e2]at h;cases h
     |some th=>exact WM (mem_map.mpr ⟨_,di e2,rfl⟩)
   refine bp (fun h=>?_) (fun h=>?_)
   ·rw[if_pos (mem.mp h)]at q;have q:=q H2 (s1.trans s2);exact⟨by show 1<=sizeLine;decide,q.2⟩
   rw[if_neg (fun z=>h (mem.mpr z))]at q;refine⟨_,rfl,x,_,dx,_,_,rfl,s2 _ _ hx,T.aE,T.bN,kJ _ _ _,?_⟩;refine .inl ⟨L,M L,rfl,.inl (aZ.of (s2 _ _ b.hL)),?_⟩;refine⟨_,_,rfl,rfl,_,rfl,?_⟩;have ll:=cB i;refine bp (fun h=>?_) (fun h=>?_)
   ·have h':=of_decide_eq_true h;rw[if_pos (by omega)]at q;have q:=q H2 (s1.trans s2);exact⟨by show 1<=sizeLine;decide,q.2⟩
   ·rw[if_neg (fun z=>h (decide_eq_true (by omega)))]at q;exact q _ (s1.trans s2)
inductive yC (c:Cs)(vs:List V)(H:Hp)(Q:VK)(E:XK):Prop
 |mk (x dx L D U v:Addr) (xs ds us:List V) (gw:vs=[.ref x,.ref v]) (gx:H x=some (.ins c.B dx (DH L D U))) (iW:H L=some (.lst xs)) (m7:H D=some (.lst ds)) (tJ:H U=some (.lst us)) (Tx:L≠D) (h6_:L≠U) (h7_:D≠U) (h8_:xs.length<=12) (h9_:ds.length<=900) (aiH:∀(e:Dd)(H1 H':Hp),e.T=L->e.i=xs.length->e.bs=[]->e.as=[.ref v]->ar H H1->H e.B=none->H e.A=none->mY c.D H1 (.ref e.o) e->(∀ y o,H1 y=some o->y≠L->y≠D->y≠U->H' y=some o)->H' L=some (.lst (xs++[.ref v]))->H' D=some (.lst (ds++[.ref e.o]))->H' U=some (.lst [])->Q .non H'):yC c vs H Q E
theorem yD (T:Txt K w mg t):bK P w K mg base oI (0+3) t.eK t.tS ["self","voice"] (yC (cs t)):=by
 have cT:=iR (P:=P) (base:=base) T;have cD:=hV (P:=P) (base:=base) T;refine T.oF.ok Lv (fun vs H Q E h=>?_) (fun cdv A outer s H vs Q E hr h=>?_)
 ·obtain⟨_,_,_,_,_,_,_,_,_,rfl,_⟩:=h;rfl
 ·obtain⟨x,dx,L,D,U,v,xs,ds,us,rfl,hx,hL,hD,hU,n1,n2,n3,hxs,hds,q⟩:=h;refine aS (ak (bo (fE (pv 0) T.aE T.iK cT (hr.mono (by decide)) T.eW .nil aL (aa (vj T.Ey cD (hr.mono (by decide)) rfl T.Ex T.d8 .nil aL (aa (bX (pv 0) rfl) (aa (bc (aN.or aO) rfl T.dt dg (aa (bX (pv 0) rfl) af)) (aa (bM af) (aa (bM (aa (pv 1) af)) af))))) af)))) ?_;refine⟨_,rfl,x,dx,_,rfl,hx,jw _ _ _,?_⟩;refine⟨_,rfl,x,_,dx,_,_,rfl,hx,T.aE,T.bN,kJ _ _ _,?_⟩;refine⟨_,rfl,x,_,dx,_,_,rfl,hx,T.aE,T.bN,kJ _ _ _,?_⟩;refine .inl ⟨L,xs,rfl,.inl (aZ.of hL),?_⟩;refine⟨big (by show 0<=1000;omega),fun B hB=>?_⟩;refine⟨_,rfl,big (by show 1<=1000;omega),fun A_ hA=>?_⟩;have WH:=D8 hA;have LA:L≠A_:=aq (ar.upd (o:=.lst []) hB _ _ hL) hA;have sB:=(ar.upd (o:=.lst []) hB).trans (ar.upd (o:=.lst [V.ref v]) hA);have hB2:=ar.upd (o:=.lst [V.ref v]) hA _ _ (ae (H:=H) (a:=B) (o:=.lst []));have QA:=ae (H:=upd H B (.lst [])) (a:=A_) (o:=.lst [V.ref v]);generalize upd (upd H B (.lst [])) A_ (.lst [V.ref v])=H2 at sB hB2 QA;intro d dd nd ndd ne;refine⟨d,dd,L,(xs.length:Int),B,A_,rfl,ae,rfl,?_⟩;rw[cI];have s3:ar H2 (upd (upd H2 dd (.own d)) d (.ins t.bx dd (Jx L (xs.length:Int) B A_))):=fun y o hy=>by
   rw[ao (aq hy nd),ao (aq hy ndd)];exact hy
  have NP:=ae (H:=upd H2 dd (.own d)) (a:=d) (o:=.ins t.bx dd (Jx L (xs.length:Int) B A_));generalize upd (upd H2 dd (.own d)) d (.ins t.bx dd (Jx L (xs.length:Int) B A_))=H3 at s3 NP;have s4:=sB.trans s3;refine⟨x,dx,L,D,U,d,dd,L,B,A_,xs.length,ds,us,xs,[],[.ref v],rfl,s4 _ _ hx,s4 _ _ hD,s4 _ _ hU,NP,s4 _ _ hL,s3 _ _ hB2,s3 _ _ QA,LA,n1,n2,n3,by simp,by simp;omega,hds,?_⟩;refine q ⟨d,dd,L,xs.length,B,A_,[],[.ref v]⟩ H3 _ rfl rfl rfl rfl s4 hB WH ⟨rfl,NP,s3 _ _ hB2,s3 _ _ QA⟩ (fun y o hy y1 y2 y3=>?_) ?_ ?_ ae
  ·rw[ao y3,ao y2,ao y1];exact hy
  ·rw[ao n2,ao n1,ae];simp
  ·rw[ao n3,ae]
inductive A3 (C:Addr)(vs:List V)(H:Hp)(Q:VK)(E:XK):Prop
 |mk (x dx:Addr) (n:Str) (tm:V) (gw:vs=[.ref x,.str n,tm]) (gx:H x=some (.ins C dx [])) (iW:∀(L:Addr)(H':Hp),(∀ y o,H y=some o->y≠x->H' y=some o)->H L=none->L≠x->H' x=some (.ins C dx (voF n tm L))->H' L=some (.lst [])->Q .non H'):A3 C vs H Q E
theorem sN (T:Txt K w mg t):bK P w K mg base oI (0+1) t.cH t.nG ["self","name","terms"] (A3 t.du):=by
 refine T.jU.ok Ee (fun vs H Q E h=>?_) (fun cdv A outer s H vs Q E hr h=>?_)
 ·obtain⟨_,_,_,_,rfl,_⟩:=h;rfl
 ·obtain⟨x,dx,n,tm,rfl,hx,q⟩:=h;refine aS (ah (tK (pv 0) (pv 1) rfl) (ah (tK (pv 0) (pv 2) rfl) (ak (tK (pv 0) (bM af) rfl)))) ?_;refine⟨_,rfl,_,rfl,x,_,dx,_,rfl,hx,T.fY,T.gI,by show 0<1000;decide,?_⟩;refine⟨_,rfl,_,rfl,x,_,dx,_,rfl,ae,T.fY,T.cQ,by rw[Qd];show 1<1000;decide,?_⟩;refine⟨big (by show 0<=1000;omega),fun L hL=>?_⟩;rw[cI]at hL;have nx:x≠L:=fun e=>by rw[<-e,ae]at hL;cases hL
  have hL0:H L=none:=by rw[ao (Ne.symm nx)]at hL;exact hL
  refine⟨_,rfl,x,_,dx,_,rfl,by rw[ao nx,cI];exact ae,T.fY,T.cC,by rw[Qd,Y5];show 2<1000;decide,?_⟩;rw[Qd,Y5,ad8];simp only [cI];refine q L _ (fun y o hy ny=>?_) hL0 (Ne.symm nx) ae ?_
  ·rw[ao ny,ao (aq hy hL0),ao ny];exact hy
  ·rw[ao (Ne.symm nx)];exact ae
inductive sO (c:Cs)(vs:List V)(H:Hp)(Q:VK)(E:XK):Prop
 |mk (x:Addr) (F:Addr->Prop) (vw:Vw) (ps fs:List Vw) (n ld:Str) (lt sl:Int) (tn:Bool) (gw:vs=[.ref x,.str n,.str ld,.int lt,.int sl,.bl tn]) (gx:zV c H x F vw ps fs) (iW:n.length<=1000) (m7:ps.length<=900) (tJ:match cZ vw n with
 |some r=>∀ H',ar H H'->RX E c r H'
 |none=>match aM vw ld with
  |none=>∀ H',ar H H'->RX E c .dR H'
  |some (.cn _ _ _ _)=>∀ H',ar H H'->RX E c .gT H'
  |some (.pl _)=>(¬ nk lt sl->∀ H',ar H H'->RX E c .vF H')/\(nk lt sl->∀ F' H',Gr F F' H->Fr F H H'->zV c H' x F' (vw++[(n,.cn ld lt sl tn)]) (ps++[vw]) []->Q .non H')):sO c vs H Q E
theorem sP (T:Txt K w mg t):bK P w K mg base (iI P w) (0+4) t.bI t.jT ["self","name","leader","later","slow","is_turned"] (sO (cs t)):=by
 have mq:=rm (P:=P) (base:=base) T;have cE:=gP (P:=P) (base:=base) T;have tZ:=yD (P:=P) (base:=base) T;have nQ:=sN (P:=P) (base:=base) T;refine T.gY.P5 Ef (fun vs H Q E h=>?_) (fun cdv A outer s H vs Q E hr h=>?_)
 ·obtain⟨_,_,_,_,_,_,_,_,_,_,rfl,_⟩:=h;rfl
 ·obtain⟨x,F,vw,ps,fs,n,ld,lt,sl,tn,rfl,B,hlen,hps,q⟩:=h;refine aS (ah (bo (bT (X:=(cK (iI P w) P w K mg base ["self","name","leader","later","slow","is_turned"] "Book.add_canon" (ag cb) t.bI cdv A outer s H E)) (pv 0) T.aE T.q9 mq (hr.mono (by decide)) T.jm .nil (fun _ _ z=>Or.inl z) (aa (pv 1) af))) (ah (bo (bT (X:=(cK (iI P w) P w K mg base ["self","name","leader","later","slow","is_turned"] "Book.add_canon" (ag cb) t.bI cdv A outer s H E)) (pv 0) T.aE T.gO cE (hr.mono (by decide)) T.dr .nil (fun _ _ z=>Or.inl z) (aa (pv 2) af))) (ah (bf (kG (dh (PW.pt (dX (DK xO xO ai (pv 3) (cv (v:=.int 999) rfl T.acC ⟨_,rfl⟩)) (gM (DK xO xO ai (pv 4) (cv (v:=.int 9) rfl T.Z4 ⟨_,rfl⟩))))))) (ak (iJ (X:=(cK (iI P w) P w K mg base ["self","name","leader","later","slow","is_turned"] "Book.add_canon" (ag cb) t.bI cdv A outer s H E)) (fun _ _ z=>z) rfl T.WG.exc rfl T.L5 (aa av af))) aF) (ak (bo (fE (pv 0) T.aE T.yt tZ (hr.mono (by decide)) T.oG .nil aL (aa (vj T.Uw nQ (hr.mono (by decide)) rfl T.Uv T.jV .nil aL (aa (pv 1) (aa (bB (aa (pv 2) (aa (pv 3) (aa (pv 4) (aa (pv 5) af))))) af))) af))))))) ?_;obtain⟨L,D,U,all,M,Ps,Fs,es,us,b,i,pp,pf,f⟩:=B.ex;obtain⟨dx,hx⟩:=b.hx;have wv:=B.wv vw (.inr (.inl rfl));refine⟨_,rfl,x,dx,_,rfl,hx,se _ _ _,_,rfl,x,F,vw,ps,fs,n,rfl,B,hlen,?_⟩;cases ho:cZ vw n with
  |some r =>
   rw[ho]at q;intro H' s';have q:=q H' s';exact q
  |none =>
   rw[ho]at q;obtain⟨_,hf,agR⟩:=JQ ho;intro H1 s1;have b1:=b.kept f (.same s1);have i1:Is H1 L all M vw:=Is.kept (F:=F) (.same s1) i;obtain⟨vx,g,gv⟩:=b1.vD i1;have hx1:=s1 _ _ hx;refine⟨_,rfl,x,dx,_,rfl,hx1,ir _ _ _,_,rfl,x,dx,L,D,U,M L,vx,ld,rfl,hx1,b1.hL,g,?_⟩;rcases JD gv (fun _ _ r=>r.2.1) ld with ⟨f1,f2⟩|⟨a,th,j,f1,f2,r,an,fj,fw⟩
   ·rw[f1];rw[f2]at q;have q:=q H1 s1;exact q
   rw[f1];rw[f2]at q;cases th with
   |cn ld2 lt2 sl2 tn2 =>
    obtain⟨pt,hpt,_⟩:=r.2.2;have q:=q H1 s1;refine⟨(fun z=>by rw[hpt]at z;cases z),(fun _ _=>q),.inr ⟨pt,hpt⟩⟩
   |pl ss =>
    obtain⟨Tj,hg⟩:=r.2.2;obtain⟨q1,q2⟩:=q;refine⟨fun _=>?_,(fun pz z=>by rw[Tj]at z;cases z),.inl Tj⟩;refine⟨fun bb H'=>bb=decide (nk lt sl)/\H'=H1,?_,?_⟩
    ·refine⟨_,rfl,_,_,rfl,rfl,_,rfl,?_⟩;refine bp (fun h1=>?_) (fun h1=>?_)
     rotate_left
     ·have e:decide (nk lt sl)=false:=decide_eq_false fun z=>h1 (decide_eq_true z.1);rw[e];exact⟨_,rfl,dw ⟨rfl,rfl⟩⟩
     refine⟨_,_,rfl,rfl,_,rfl,?_⟩;refine bp (fun h2=>?_) (fun h2=>?_)
     rotate_left
     ·have e:decide (nk lt sl)=false:=decide_eq_false fun z=>h2 (decide_eq_true z.2.1);rw[e];exact⟨rfl,rfl⟩
     refine⟨_,rfl,_,_,rfl,rfl,_,rfl,?_⟩;refine bp (fun h3=>?_) (fun h3=>?_)
     rotate_left
     ·have e:decide (nk lt sl)=false:=decide_eq_false fun z=>h3 (decide_eq_true z.2.2.1);rw[e];exact⟨_,rfl,rfl,rfl⟩
     refine⟨_,_,rfl,rfl,_,rfl,?_,rfl⟩;refine decide_eq_decide.mpr ⟨fun z=>⟨of_decide_eq_true h1,of_decide_eq_true h2,of_decide_eq_true h3,z⟩,fun z=>z.2.2.2⟩
    intro bb H1' ⟨e1,e2⟩;rw[e1,e2]
    by_cases hok:nk lt sl
    rotate_left
    ·rw[decide_eq_false hok];have q:=q1 hok H1 s1;exact jr ⟨by show 1<=sizeLine;decide,q.2⟩
    rw[decide_eq_true hok];refine dw ?_;obtain⟨ds,hD,pD⟩:=b1.hD;obtain⟨ux,hU,pU⟩:=b1.hU;have ll:=cB i;have dl:=cB pD;have pl:=cB pp;have pe:=b.past.len;refine⟨_,rfl,x,dx,_,rfl,hx1,AS _ _ _,_,rfl,_,rfl,_,rfl,_,rfl,_,rfl,(by show 4<=sizeLine;decide),fun tp htp=>?_⟩;have st:=ar.upd (o:=.tup [V.str ld,V.int lt,V.int sl,V.bl tn]) htp;have aiS:=ae (H:=H1) (a:=tp) (o:=.tup [V.str ld,V.int lt,V.int sl,V.bl tn]);generalize upd H1 tp (.tup [V.str ld,V.int lt,V.int sl,V.bl tn])=H1t at st aiS;intro v dv nv ndv ne;refine⟨v,dv,n,.ref tp,rfl,ae,fun l H2 kp hl hlv hv2 hl2=>⟨rfl,?_⟩⟩;have s2t:ar H1t H2:=fun y o hy=>kp y o (by rw[ao (aq hy nv),ao (aq hy ndv)];exact hy) (aq hy nv);have s2:=st.trans s2t;have hl1:H1 l=none:=st.free (Lr hl);refine⟨x,dx,L,D,U,v,M L,ds,ux,rfl,s2 _ _ hx1,s2 _ _ b1.hL,s2 _ _ hD,s2 _ _ hU,b.LD,b.LU,b.DU,by omega,by omega,fun e H3 H' eT ei eb ea s3 nB nA hd fr hL' hD' hU'=>?_⟩;obtain⟨F',gr,fr',B'⟩:=Bk.added b1 i1 (dy (fun _ _ q=>Is.kept (F:=F) (.same s1) q) pp) f B.wv (a:=⟨v,dv,n,.ref tp,l⟩) (th:=.cn ld lt sl tn) s2 (st.free nv) hl1 hv2 hl2 (fun M' h0=>⟨tp,rfl,s2t _ _ aiS⟩) (wv.aiD (kK hf) agR (di f2) hok.1 hok.2.1 hok.2.2.1 hok.2.2.2) eT ei eb ea s3 nB nA hd hD pD fr hL' hD' hU';exact q2 hok F' H' (gr.old s1) (fun y o hy hn=>fr' y o (s1 y o hy) hn) B'
inductive JR (c:Cs)(vs:List V)(H:Hp)(Q:VK)(E:XK):Prop
 |mk (x:Addr) (F:Addr->Prop) (vw:Vw) (ps fs:List Vw) (n:Str) (i:Int) (gw:vs=[.ref x,.str n,.int i]) (gx:zV c H x F vw ps fs) (iW:ps.length<=900) (m7:match aM vw n with
 |none=>RX E c .dR H
 |some (.cn _ _ _ _)=>RX E c .gT H
 |some (.pl ss)=>(¬(0<=i/\i<=(ss.length:Int)-1)->RX E c .kB H) /\
  ((0<=i/\i<=(ss.length:Int)-1)->∀(s:Sg)(w:Addr) F' H',ss[i.toNat]? = some s->H' w=some (.tup (NY (ss.take i.toNat++[]++ss.drop (i.toNat+1)) i.toNat i.toNat [s]))->Gr F F' H->Fr F H H'->zV c H' x F' (iY vw n (.pl (ss.take i.toNat++[]++ss.drop (i.toNat+1)))) (ps++[vw]) []->Q (.ref w) H')):JR c vs H Q E
theorem agS {α:Type}{xs:List α}{i:Nat}{y:α}(h:xs[i]? = some y):xs.drop i=y::xs.drop (i+1):=by
 obtain⟨h1,h2⟩:=List.getElem?_eq_some_iff.mp h;rw[List.drop_eq_getElem_cons h1,h2]
theorem UE (T:Txt K w mg t):bK P w K mg base (iI P w) (0+4) t.gE t.BE ["self","name","at"] (JR (cs t)):=by
 have da:=iG (P:=P) (base:=base) T;have cT:=iR (P:=P) (base:=base) T;have yA:=G7 (P:=P) (base:=base) T;have cE:=gP (P:=P) (base:=base) T;have cD:=hV (P:=P) (base:=base) T;refine T.vV.P5 x8 (fun vs H Q E h=>?_) (fun cdv A outer s H vs Q E hr h=>?_)
 ·obtain⟨_,_,_,_,_,_,_,rfl,_⟩:=h;rfl
 ·obtain⟨x,F,vw,ps,fs,n,iz,rfl,B,hps,q⟩:=h;refine aS (ah (aH (i:=3) x8.nd rfl (Or.inl rfl) (bX (bT (X:=(cK (iI P w) P w K mg base ["self","name","at","signs","sign"] "Book.cut" (ag jA) t.gE cdv A outer s H E)) (pv 0) T.aE T.gO cE (hr.mono (by decide)) T.dr .nil (fun _ _ z=>Or.inl z) (aa (pv 1) af)) rfl)) (ah (bo (uy (X:=(cK (iI P w) P w K mg base ["self","name","at","signs","sign"] "Book.cut" (ag jA) t.gE cdv A outer s H E)) da (hr.mono (by decide)) rfl T.iB T.bR.kp T.c7 .nil (fun _ _ z=>Or.inl z) (aa (pv 2) (aa (aR js (bc (aN.or aO) rfl T.dt dg (aa (pv 3) af)) ai) af)))) (ah (aH (i:=4) x8.nd rfl (Or.inl rfl) (aK aA (pv 3) (pv 2) (fun _ _=>rfl))) (ah (bo (fE (pv 0) T.aE T.iK cT (hr.mono (by decide)) T.eW .nil aL (aa (vj T.Ey cD (hr.mono (by decide)) rfl T.Ex T.d8 .nil aL (aa (pv 3) (aa (pv 2) (aa (bM (aa (pv 4) af)) (aa (bM af) af))))) af))) (ak (ax (aB yA (hr.mono (by decide)) rfl T.GO T.q0.kp T.yp .nil aL (aa (pv 3) (aa (pv 2) (aa (pv 2) (aa (bM (aa (pv 4) af)) af))))))))))) ?_;obtain⟨L,D,U,all,M,Ps,Fs,es,us,b,iM,pp,pf,f⟩:=B.ex;obtain⟨dx,hx⟩:=b.hx;obtain⟨vx,g,gv⟩:=b.vD iM;obtain⟨ds,hD,pD⟩:=b.hD;obtain⟨ux,hU,pU⟩:=b.hU;have dl:=cB pD;have pl:=cB pp;have pe:=b.past.len;refine⟨_,rfl,x,dx,_,rfl,hx,ir _ _ _,_,rfl,x,dx,L,D,U,M L,vx,n,rfl,hx,b.hL,g,?_⟩;rcases JD gv (fun _ _ r=>r.2.1) n with ⟨f1,f2⟩|⟨a,th,j,f1,f2,r,an,fj,fw⟩
  ·rw[f1];rw[f2]at q;exact q
  rw[f1];rw[f2]at q;subst an;cases th with
  |cn ld lt sl tn =>
   obtain⟨pt,hpt,_⟩:=r.2.2;refine⟨fun z=>?_,fun _ _=>q,.inr ⟨pt,hpt⟩⟩;rw[hpt]at z;cases z
  |pl ss =>
   obtain⟨Tj,hg⟩:=r.2.2;obtain⟨q1,q4⟩:=q;have haa:=r.1;obtain⟨ha,hl⟩:=b.ha a haa;have yl:=cB hg;have hj:(M L)[j]? = some (.ref a.o):=by
    obtain⟨v,hv,e1,_⟩:=rY g fj;rw[<-e1];exact hv
   refine⟨fun _=>?_,(fun pz z=>by rw[Tj]at z;cases z),.inl Tj⟩;refine⟨a.o,_,a.d,_,_,rfl,ha,T.fY,T.cC,uB _ _ _,?_⟩;refine⟨_,rfl,_,rfl,.inl ⟨a.l,M a.l,rfl,.inl (aZ.of hl),?_⟩⟩;refine⟨_,_,rfl,rfl,?_⟩;refine⟨iz,((M a.l).length:Int)-1,rfl,fun hi=>?_,fun hi=>?_⟩
   rotate_left
   ·have q:=q1 (by rw[<-yl];exact hi);exact q
   rw[yl]at hi;obtain⟨i,rfl⟩:∃ i:Nat,iz=(i:Int):=⟨iz.toNat,by omega⟩;have hi:i<ss.length:=by omega
   have hlt:ss.length<=200:=((B.wv vw (.inr (.inl rfl))).gd _ _ (mem_of_getElem? fw)).1;have q4:=q4 (by omega);rw[Int.toNat_natCast]at q4;obtain⟨sg0,hsg⟩:∃ sg,ss[i]? = some sg:=⟨_,getElem?_eq_getElem hi⟩;obtain⟨vp,hvp,p0,rfl,hp0⟩:=rY hg hsg;refine⟨_,rfl,_,rfl,ixL (aZ.of hl) (n:=i) rfl hvp ?_⟩;refine⟨_,rfl,x,dx,_,rfl,hx,jw _ _ _,?_⟩;refine⟨_,rfl,_,rfl,_,rfl,big (by show 1<=1000;omega),fun B' hB=>?_⟩;refine⟨big (by show 0<=1000;omega),fun A_ hA=>?_⟩;have WH:=D8 hA;have sB:=(ar.upd (o:=.lst [V.ref p0]) hB).trans (ar.upd (o:=.lst []) hA);have hB2:=ar.upd (o:=.lst []) hA _ _ (ae (H:=H) (a:=B') (o:=.lst [V.ref p0]));have QA:=ae (H:=upd H B' (.lst [V.ref p0])) (a:=A_) (o:=.lst []);have lA:a.l≠A_:=aq hl WH;generalize upd (upd H B' (.lst [V.ref p0])) A_ (.lst [])=H2 at sB hB2 QA;intro d dd nd ndd ne;refine⟨d,dd,a.l,(i:Int),B',A_,rfl,ae,rfl,?_⟩;rw[cI];have s3:ar H2 (upd (upd H2 dd (.own d)) d (.ins t.bx dd (Jx a.l (i:Int) B' A_))):=fun y o hy=>by
    rw[ao (aq hy nd),ao (aq hy ndd)];exact hy
   have NP:=ae (H:=upd H2 dd (.own d)) (a:=d) (o:=.ins t.bx dd (Jx a.l (i:Int) B' A_));generalize upd (upd H2 dd (.own d)) d (.ins t.bx dd (Jx a.l (i:Int) B' A_))=H3 at s3 NP;have s4:=sB.trans s3;obtain⟨_,d1,d2⟩:=b.lists (.inr ⟨a,haa,rfl⟩);refine⟨x,dx,L,D,U,d,dd,a.l,B',A_,i,ds,ux,M a.l,[.ref p0],[],rfl,s4 _ _ hx,s4 _ _ hD,s4 _ _ hU,NP,s4 _ _ hl,s3 _ _ hB2,s3 _ _ QA,lA,d1,d2,b.DU,by simp;omega,by simp;omega,by omega,?_⟩;have hM:vc ⟨d,dd,a.l,i,B',A_,[.ref p0],[]⟩ M a.l=(M a.l).take i++[]++(M a.l).drop (i+1):=gC;have keep:∀ y o,H3 y=some o->y≠a.l->y≠D->y≠U->(upd (upd (upd H3 a.l (.lst ((M a.l).take i++[]++(M a.l).drop (i+1)))) D (.lst (ds++[.ref d]))) U (.lst [])) y=some o:=fun y o hy y1 y2 y3=>by
    rw[ao y3,ao y2,ao y1];exact hy
   have k1:(upd (upd (upd H3 a.l (.lst ((M a.l).take i++[]++(M a.l).drop (i+1)))) D (.lst (ds++[.ref d]))) U (.lst [])) a.l=some (.lst ((M a.l).take i++[]++(M a.l).drop (i+1))):=by
    rw[ao d2,ao d1,ae]
   have k2:(upd (upd (upd H3 a.l (.lst ((M a.l).take i++[]++(M a.l).drop (i+1)))) D (.lst (ds++[.ref d]))) U (.lst [])) D=some (.lst (ds++[.ref d])):=by
    rw[ao b.DU,ae]
   have k3:(upd (upd (upd H3 a.l (.lst ((M a.l).take i++[]++(M a.l).drop (i+1)))) D (.lst (ds++[.ref d]))) U (.lst [])) U=some (.lst []):=ae;generalize (upd (upd (upd H3 a.l (.lst ((M a.l).take i++[]++(M a.l).drop (i+1)))) D (.lst (ds++[.ref d]))) U (.lst []))=H4 at keep k1 k2 k3;have g3:=hg.same s4;have sgN:h9 H3 ((M a.l).take i++[]++(M a.l).drop (i+1)) (ss.take i++[]++ss.drop (i+1)):=xZ (xZ (AR i g3) .nil) (DW (i+1) g3);obtain⟨F',gr,fr,B4⟩:=Bk.aco b iM pp f B.wv haa hj fw Tj (e:=⟨d,dd,a.l,i,B',A_,[.ref p0],[]⟩) rfl ⟨by show i+1<=(M a.l).length;omega,by rw[show([V.ref p0]:List V).length=1 from rfl,agS hvp];rfl⟩ (by simp) (by simp) s4 hB WH ⟨rfl,NP,s3 _ _ hB2,s3 _ _ QA⟩ (by rw[hM];exact sgN) (by simp;omega) (fun s hs=>by
    have wg:=((B.wv vw (.inr (.inl rfl))).gd _ _ (mem_of_getElem? fw)).2;rcases mem_append.mp hs with hs|hs
    ·rcases mem_append.mp hs with hs|hs
     ·exact wg s (List.mem_of_mem_take hs)
     ·cases hs
    ·exact wg s (List.mem_of_mem_drop hs)) hD pD keep (by rw[hM];exact k1) k2 k3
   have nT:∀{y us},H3 y=some (.tup us)->H4 y=some (.tup us):=fun {y us} hy=>keep y _ hy (mZ hy (s4 _ _ hl) (by intro z;cases z)) (mZ hy (s4 _ _ hD) (by intro z;cases z)) (mZ hy (s4 _ _ hU) (by intro z;cases z));have sg4:h9 H4 ((M a.l).take i++[]++(M a.l).drop (i+1)) (ss.take i++[]++ss.drop (i+1)):=dy (fun _ _ ⟨z,e1,e2⟩=>⟨z,e1,nT e2⟩) sgN;refine⟨_,rfl,_,rfl,_,rfl,_,rfl,big (by show 1<=1000;omega),fun lc hlc=>?_⟩;have sc:=ar.upd (o:=.lst [V.ref p0]) hlc;refine⟨a.l,lc,_,[.ref p0],ss.take i++[]++ss.drop (i+1),[sg0],i,i,rfl,aZ.of (sc _ _ k1),sg4.same sc,by simp;omega,by simp;omega,by simp;omega,aZ.of ae,.cons ⟨p0,rfl,sc _ _ (nT (s4 _ _ hp0))⟩ .nil,by simp,fun w H5 s5 hw5=>?_⟩;have s6:=sc.trans s5;exact q4 sg0 w F' H5 hsg hw5 gr (fun y o hy hn=>s6 _ _ (fr y o hy hn)) (B4.same s6)
inductive EN (c:Cs)(vs:List V)(H:Hp)(Q:VK)(E:XK):Prop
 |mk (x:Addr) (F:Addr->Prop) (vw:Vw) (ps fs:List Vw) (n:Str) (i:Int) (p:Addr) (sn:Sn) (gw:vs=[.ref x,.str n,.int i,.ref p]) (gx:zV c H x F vw ps fs) (iW:H p=some (.tup [.str sn.1,.int sn.2])) (m7:ps.length<=900) (tJ:match aM vw n with
 |none=>RX E c .dR H
 |some (.cn _ _ _ _)=>RX E c .gT H
 |some (.pl ss)=>(¬(0<=i/\i<=(ss.length:Int)-1)->RX E c .kB H)/\((0<=i/\i<=(ss.length:Int)-1)->jg sn=false->RX E c .lM H) /\
  ((0<=i/\i<=(ss.length:Int)-1)->jg sn=true->∀(s s0:Sg)(w:Addr) F' H',s.1.str=sn.1->s.2=sn.2->ss[i.toNat]? = some s0->H' w=some (.tup (NY (ss.take i.toNat++[s]++ss.drop (i.toNat+1)) i.toNat (i.toNat+1) [s0,s]))->Gr F F' H->Fr F H H'->zV c H' x F' (iY vw n (.pl (ss.take i.toNat++[s]++ss.drop (i.toNat+1)))) (ps++[vw]) []->Q (.ref w) H')):EN c vs H Q E
theorem aiU {α:Type}{xs:List α}{i:Nat}{y:α}(h:xs[i]? = some y):xs.drop i=y::xs.drop (i+1):=by
 obtain⟨h1,h2⟩:=List.getElem?_eq_some_iff.mp h;rw[List.drop_eq_getElem_cons h1,h2]
theorem QE (T:Txt K w mg t):bK P w K mg base (iI P w) (0+4) t.dB t.yg ["self","name","at","sign"] (EN (cs t)):=by
 have da:=iG (P:=P) (base:=base) T;have mi:=rh (P:=P) (base:=base) T;have cT:=iR (P:=P) (base:=base) T;have yA:=G7 (P:=P) (base:=base) T;have cE:=gP (P:=P) (base:=base) T;have cD:=hV (P:=P) (base:=base) T;refine T.sF.P5 vK (fun vs H Q E h=>?_) (fun cdv A outer s H vs Q E hr h=>?_)
 ·obtain⟨_,_,_,_,_,_,_,_,_,rfl,_⟩:=h;rfl
 ·obtain⟨x,F,vw,ps,fs,n,iz,p,sn,rfl,B,hp,hps,q⟩:=h;refine aS (ah (aH (i:=4) vK.nd rfl (Or.inl rfl) (bX (bT (X:=(cK (iI P w) P w K mg base ["self","name","at","sign","signs","before"] "Book.swap" (ag fO) t.dB cdv A outer s H E)) (pv 0) T.aE T.gO cE (hr.mono (by decide)) T.dr .nil (fun _ _ z=>Or.inl z) (aa (pv 1) af)) rfl)) (ah (bo (uy (X:=(cK (iI P w) P w K mg base ["self","name","at","sign","signs","before"] "Book.swap" (ag fO) t.dB cdv A outer s H E)) da (hr.mono (by decide)) rfl T.iB T.bR.kp T.c7 .nil (fun _ _ z=>Or.inl z) (aa (pv 2) (aa (aR js (bc (aN.or aO) rfl T.dt dg (aa (pv 4) af)) ai) af)))) (ah (bo (uy (X:=(cK (iI P w) P w K mg base ["self","name","at","sign","signs","before"] "Book.swap" (ag fO) t.dB cdv A outer s H E)) mi (hr.mono (by decide)) rfl T.qY T.dW.kp T.jj .nil (fun _ _ z=>Or.inl z) (aa (pv 3) af))) (ah (aH (i:=5) vK.nd rfl (Or.inl rfl) (aK aA (pv 4) (pv 2) (fun _ _=>rfl))) (ah (bo (fE (pv 0) T.aE T.iK cT (hr.mono (by decide)) T.eW .nil aL (aa (vj T.Ey cD (hr.mono (by decide)) rfl T.Ex T.d8 .nil aL (aa (pv 4) (aa (pv 2) (aa (bM (aa (pv 5) af)) (aa (bM (aa (pv 3) af)) af))))) af))) (ak (ax (aB yA (hr.mono (by decide)) rfl T.GO T.q0.kp T.yp .nil aL (aa (pv 4) (aa (pv 2) (aa (aR (bW.or (aJ.or bY)) (pv 2) ai) (aa (bM (aa (pv 5) (aa (pv 3) af))) af)))))))))))) ?_;obtain⟨L,D,U,all,M,Ps,Fs,es,us,b,iM,pp,pf,f⟩:=B.ex;obtain⟨dx,hx⟩:=b.hx;obtain⟨vx,g,gv⟩:=b.vD iM;obtain⟨ds,hD,pD⟩:=b.hD;obtain⟨ux,hU,pU⟩:=b.hU;have dl:=cB pD;have pl:=cB pp;have pe:=b.past.len;refine⟨_,rfl,x,dx,_,rfl,hx,ir _ _ _,_,rfl,x,dx,L,D,U,M L,vx,n,rfl,hx,b.hL,g,?_⟩;rcases JD gv (fun _ _ r=>r.2.1) n with ⟨f1,f2⟩|⟨a,th,j,f1,f2,r,an,fj,fw⟩
  ·rw[f1];rw[f2]at q;exact q
  rw[f1];rw[f2]at q;subst an;cases th with
  |cn ld lt sl tn =>
   obtain⟨pt,hpt,_⟩:=r.2.2;refine⟨fun z=>?_,fun _ _=>q,.inr ⟨pt,hpt⟩⟩;rw[hpt]at z;cases z
  |pl ss =>
   obtain⟨Tj,hg⟩:=r.2.2;obtain⟨q1,q2,q4⟩:=q;have haa:=r.1;obtain⟨ha,hl⟩:=b.ha a haa;have yl:=cB hg;have hj:(M L)[j]? = some (.ref a.o):=by
    obtain⟨v,hv,e1,_⟩:=rY g fj;rw[<-e1];exact hv
   refine⟨fun _=>?_,(fun pz z=>by rw[Tj]at z;cases z),.inl Tj⟩;refine⟨a.o,_,a.d,_,_,rfl,ha,T.fY,T.cC,uB _ _ _,?_⟩;refine⟨_,rfl,_,rfl,.inl ⟨a.l,M a.l,rfl,.inl (aZ.of hl),?_⟩⟩;refine⟨_,_,rfl,rfl,?_⟩;refine⟨iz,((M a.l).length:Int)-1,rfl,fun hi=>?_,fun hi=>?_⟩
   rotate_left
   ·have q:=q1 (by rw[<-yl];exact hi);exact q
   rw[yl]at hi;refine⟨_,rfl,p,sn,rfl,hp,fun hgd=>?_,fun hgd=>?_⟩
   rotate_left
   ·have q:=q2 hi hgd;exact q
   obtain⟨sg,e1,e2,gt⟩:=Qh hgd;rw[<-e1,<-e2]at hp;obtain⟨i,rfl⟩:∃ i:Nat,iz=(i:Int):=⟨iz.toNat,by omega⟩;have hi:i<ss.length:=by omega
   have hlt:ss.length<=200:=((B.wv vw (.inr (.inl rfl))).gd _ _ (mem_of_getElem? fw)).1;have q4:=q4 (by omega) hgd sg;rw[Int.toNat_natCast]at q4;obtain⟨sg0,hsg⟩:∃ sg,ss[i]? = some sg:=⟨_,getElem?_eq_getElem hi⟩;obtain⟨vp,hvp,p0,rfl,hp0⟩:=rY hg hsg;refine⟨_,rfl,_,rfl,ixL (aZ.of hl) (n:=i) rfl hvp ?_⟩;refine⟨_,rfl,x,dx,_,rfl,hx,jw _ _ _,?_⟩;refine⟨_,rfl,_,rfl,_,rfl,big (by show 1<=1000;omega),fun B' hB=>?_⟩;refine⟨_,rfl,big (by show 1<=1000;omega),fun A_ hA=>?_⟩;have WH:=D8 hA;have sB:=(ar.upd (o:=.lst [V.ref p0]) hB).trans (ar.upd (o:=.lst [V.ref p]) hA);have hB2:=ar.upd (o:=.lst [V.ref p]) hA _ _ (ae (H:=H) (a:=B') (o:=.lst [V.ref p0]));have QA:=ae (H:=upd H B' (.lst [V.ref p0])) (a:=A_) (o:=.lst [V.ref p]);have lA:a.l≠A_:=aq hl WH;generalize upd (upd H B' (.lst [V.ref p0])) A_ (.lst [V.ref p])=H2 at sB hB2 QA;intro d dd nd ndd ne;refine⟨d,dd,a.l,(i:Int),B',A_,rfl,ae,rfl,?_⟩;rw[cI];have s3:ar H2 (upd (upd H2 dd (.own d)) d (.ins t.bx dd (Jx a.l (i:Int) B' A_))):=fun y o hy=>by
    rw[ao (aq hy nd),ao (aq hy ndd)];exact hy
   have NP:=ae (H:=upd H2 dd (.own d)) (a:=d) (o:=.ins t.bx dd (Jx a.l (i:Int) B' A_));generalize upd (upd H2 dd (.own d)) d (.ins t.bx dd (Jx a.l (i:Int) B' A_))=H3 at s3 NP;have s4:=sB.trans s3;obtain⟨_,d1,d2⟩:=b.lists (.inr ⟨a,haa,rfl⟩);refine⟨x,dx,L,D,U,d,dd,a.l,B',A_,i,ds,ux,M a.l,[.ref p0],[.ref p],rfl,s4 _ _ hx,s4 _ _ hD,s4 _ _ hU,NP,s4 _ _ hl,s3 _ _ hB2,s3 _ _ QA,lA,d1,d2,b.DU,by simp;omega,by simp;omega,by omega,?_⟩;have hM:vc ⟨d,dd,a.l,i,B',A_,[.ref p0],[.ref p]⟩ M a.l=(M a.l).take i++[.ref p]++(M a.l).drop (i+1):=gC;have keep:∀ y o,H3 y=some o->y≠a.l->y≠D->y≠U->(upd (upd (upd H3 a.l (.lst ((M a.l).take i++[.ref p]++(M a.l).drop (i+1)))) D (.lst (ds++[.ref d]))) U (.lst [])) y=some o:=fun y o hy y1 y2 y3=>by
    rw[ao y3,ao y2,ao y1];exact hy
   have k1:(upd (upd (upd H3 a.l (.lst ((M a.l).take i++[.ref p]++(M a.l).drop (i+1)))) D (.lst (ds++[.ref d]))) U (.lst [])) a.l=some (.lst ((M a.l).take i++[.ref p]++(M a.l).drop (i+1))):=by
    rw[ao d2,ao d1,ae]
   have k2:(upd (upd (upd H3 a.l (.lst ((M a.l).take i++[.ref p]++(M a.l).drop (i+1)))) D (.lst (ds++[.ref d]))) U (.lst [])) D=some (.lst (ds++[.ref d])):=by
    rw[ao b.DU,ae]
   have k3:(upd (upd (upd H3 a.l (.lst ((M a.l).take i++[.ref p]++(M a.l).drop (i+1)))) D (.lst (ds++[.ref d]))) U (.lst [])) U=some (.lst []):=ae;generalize (upd (upd (upd H3 a.l (.lst ((M a.l).take i++[.ref p]++(M a.l).drop (i+1)))) D (.lst (ds++[.ref d]))) U (.lst []))=H4 at keep k1 k2 k3;have g3:=hg.same s4;have sgN:h9 H3 ((M a.l).take i++[.ref p]++(M a.l).drop (i+1)) (ss.take i++[sg]++ss.drop (i+1)):=xZ (xZ (AR i g3) (.cons ⟨p,rfl,s4 _ _ hp⟩ .nil)) (DW (i+1) g3);obtain⟨F',gr,fr,B4⟩:=Bk.aco b iM pp f B.wv haa hj fw Tj (e:=⟨d,dd,a.l,i,B',A_,[.ref p0],[.ref p]⟩) rfl ⟨by show i+1<=(M a.l).length;omega,by rw[show([V.ref p0]:List V).length=1 from rfl,aiU hvp];rfl⟩ (by simp) (by simp) s4 hB WH ⟨rfl,NP,s3 _ _ hB2,s3 _ _ QA⟩ (by rw[hM];exact sgN) (by simp;omega) (fun s hs=>by
    have wg:=((B.wv vw (.inr (.inl rfl))).gd _ _ (mem_of_getElem? fw)).2;rcases mem_append.mp hs with hs|hs
    ·rcases mem_append.mp hs with hs|hs
     ·exact wg s (List.mem_of_mem_take hs)
     ·rw[mem_singleton.mp hs];exact gt
    ·exact wg s (List.mem_of_mem_drop hs)) hD pD keep (by rw[hM];exact k1) k2 k3
   have nT:∀{y us},H3 y=some (.tup us)->H4 y=some (.tup us):=fun {y us} hy=>keep y _ hy (mZ hy (s4 _ _ hl) (by intro z;cases z)) (mZ hy (s4 _ _ hD) (by intro z;cases z)) (mZ hy (s4 _ _ hU) (by intro z;cases z));have sg4:h9 H4 ((M a.l).take i++[.ref p]++(M a.l).drop (i+1)) (ss.take i++[sg]++ss.drop (i+1)):=dy (fun _ _ ⟨z,e1,e2⟩=>⟨z,e1,nT e2⟩) sgN;refine⟨_,rfl,_,rfl,_,rfl,.inl ⟨_,_,rfl,rfl,_,rfl,_,rfl,big (by show 2<=1000;omega),fun lc hlc=>?_⟩⟩;have sc:=ar.upd (o:=.lst [V.ref p0,V.ref p]) hlc;refine⟨a.l,lc,_,[.ref p0,.ref p],ss.take i++[sg]++ss.drop (i+1),[sg0,sg],i,i+1,rfl,aZ.of (sc _ _ k1),sg4.same sc,by simp;omega,by simp;omega,by simp;omega,aZ.of ae,.cons ⟨p0,rfl,sc _ _ (nT (s4 _ _ hp0))⟩ (.cons ⟨p,rfl,sc _ _ (nT (s4 _ _ hp))⟩ .nil),by simp,fun w H5 s5 hw5=>?_⟩;have s6:=sc.trans s5;exact q4 sg0 w F' H5 e1 e2 hsg hw5 gr (fun y o hy hn=>s6 _ _ (fr y o hy hn)) (B4.same s6)
inductive sQ (c:Cs)(vs:List V)(H:Hp)(Q:VK)(E:XK):Prop
 |mk (x:Addr) (F:Addr->Prop) (vw:Vw) (ps fs:List Vw) (n:Str) (gw:vs=[.ref x,.str n]) (gx:zV c H x F vw ps fs) (iW:n.length<=1000) (m7:ps.length<=900) (tJ:match cZ vw n with
 |some r=>∀ H',ar H H'->RX E c r H'
 |none=>∀ F' H',Gr F F' H->Fr F H H'->zV c H' x F' (vw++[(n,.pl [])]) (ps++[vw]) []->Q .non H'):sQ c vs H Q E
theorem sR (T:Txt K w mg t):bK P w K mg base (iI P w) (0+4) t.cf t.nH ["self","name"] (sQ (cs t)):=by
 have mq:=rm (P:=P) (base:=base) T;have tZ:=yD (P:=P) (base:=base) T;have nQ:=sN (P:=P) (base:=base) T;refine T.jX.P5 Eg (fun vs H Q E h=>?_) (fun cdv A outer s H vs Q E hr h=>?_)
 ·obtain⟨_,_,_,_,_,_,rfl,_⟩:=h;rfl
 ·obtain⟨x,F,vw,ps,fs,n,rfl,B,hlen,hps,q⟩:=h;refine aS (ah (bo (bT (X:=(cK (iI P w) P w K mg base ["self","name"] "Book.add_voice" (ag dj) t.cf cdv A outer s H E)) (pv 0) T.aE T.q9 mq (hr.mono (by decide)) T.jm .nil (fun _ _ z=>Or.inl z) (aa (pv 1) af))) (ak (bo (fE (pv 0) T.aE T.yt tZ (hr.mono (by decide)) T.oG .nil aL (aa (vj T.Uw nQ (hr.mono (by decide)) rfl T.Uv T.jV .nil aL (aa (pv 1) (aa j4 af))) af))))) ?_;obtain⟨L,D,U,all,M,Ps,Fs,es,us,b,i,pp,pf,f⟩:=B.ex;obtain⟨dx,hx⟩:=b.hx;refine⟨_,rfl,x,dx,_,rfl,hx,se _ _ _,_,rfl,x,F,vw,ps,fs,n,rfl,B,hlen,?_⟩;cases ho:cZ vw n with
  |some r =>
   rw[ho]at q;intro H' s';have q:=q H' s';exact q
  |none =>
   rw[ho]at q;obtain⟨_,hf,agR⟩:=JQ ho;intro H1 s1;have b1:=b.kept f (.same s1);obtain⟨ds,hD,pD⟩:=b1.hD;obtain⟨ux,hU,pU⟩:=b1.hU;have ll:=cB i;have dl:=cB pD;have pl:=cB pp;have pe:=b.past.len;refine⟨_,rfl,x,dx,_,rfl,s1 _ _ hx,AS _ _ _,_,rfl,?_⟩;intro v dv nv ndv ne;refine⟨v,dv,n,.non,rfl,ae,fun l H2 kp hl hlv hv2 hl2=>⟨rfl,?_⟩⟩;have s2:ar H1 H2:=fun y o hy=>kp y o (by rw[ao (aq hy nv),ao (aq hy ndv)];exact hy) (aq hy nv);have hl1:H1 l=none:=Lr hl;refine⟨x,dx,L,D,U,v,M L,ds,ux,rfl,s2 _ _ (s1 _ _ hx),s2 _ _ b1.hL,s2 _ _ hD,s2 _ _ hU,b.LD,b.LU,b.DU,by omega,by omega,fun e H3 H' eT ei eb ea s3 nB nA hd fr hL' hD' hU'=>?_⟩;obtain⟨F',g,fr',B'⟩:=Bk.added b1 (Is.kept (F:=F) (.same s1) i) (dy (fun _ _ q=>Is.kept (F:=F) (.same s1) q) pp) f B.wv (a:=⟨v,dv,n,.non,l⟩) (th:=.pl []) s2 nv hl1 hv2 hl2 (fun M' h0=>⟨rfl,by rw[h0];exact .nil⟩) ((B.wv vw (.inr (.inl rfl))).aiC (kK hf) agR) eT ei eb ea s3 nB nA hd hD pD fr hL' hD' hU';exact q F' H' (g.old s1) (fun y o hy hn=>fr' y o (s1 y o hy) hn) B'
theorem uV {st:Std}{d:De}{a:Int}(h:d.wy=.put\/d.wy=.cut\/d.wy=.swap):nq st d a=sj st.vw d.wy d.n a d.sg:=by
 unfold nq;rcases h with h|h|h <;> rw[h]
theorem uW {vw:Vw}{n:Str}{ss:List Sg}(h:aM vw n=some (.pl ss)):vG vw n=ss:=by unfold vG;rw[h]
theorem Ag {st:Std}{d:De}{a:Int}{ss:List Sg}(h:d.wy=.put\/d.wy=.cut\/d.wy=.swap)(hf:aM st.vw d.n=some (.pl ss)):xE st d a=⟨iY st.vw d.n (.pl (bO ss d.wy d.sg a.toNat)),st.ps++[st.vw],[]⟩:=by
 unfold xE;rcases h with h|h|h <;> rw[h,uW hf]
inductive Zf (c:Cs)(vs:List V)(H:Hp)(Q:VK)(E:XK):Prop
 |mk (x:Addr) (v2:V) (F:Addr->Prop) (st:Std) (de:De) (at_:Int) (gw:vs=[.ref x,v2,.int at_]) (gx:zV c H x F st.vw st.ps st.fs) (iW:DeS H v2 de) (m7:de.n.length<=1000) (tJ:de.ld.length<=1000) (Tx:st.ps.length+st.fs.length<=900) (h6_:match nq st de at_ with
 |some r=>∀ H',ar H H'->RX E c r H'
 |none=>∀ v F' H',Gr F F' H->Fr F H H'->zV c H' x F' (xE st de at_).vw (xE st de at_).ps (xE st de at_).fs->pX H' st de at_ v->Q v H'):Zf c vs H Q E
theorem Zg (T:Txt K w mg t):bK P w K mg base (iI P w) (0+5) t.j9 t.Wr ["_law_book","_law_deed","_law_at"] (Zf (cs t)):=by
 have j1:=sP (P:=P) (base:=base) T;have wa:=JP (P:=P) (base:=base) T;have WN:=UE (P:=P) (base:=base) T;have UG:=QE (P:=P) (base:=base) T;have nR:=sR (P:=P) (base:=base) T;have yE:=ED (P:=P) (base:=base) T;have yB:=v9 (P:=P) (base:=base) T;have yF:=EK (P:=P) (base:=base) T;have yG:=EM (P:=P) (base:=base) T;refine T.GQ.P5 Y9 (fun vs H Q E h=>?_) (fun cdv A outer s H vs Q E hr h=>?_)
 ·obtain⟨_,_,_,_,_,_,rfl,_⟩:=h;rfl
 ·obtain⟨x,v2,F,st,de,at_,rfl,B,⟨p2,xs,rfl,hp2,x0,x1,x4,x5⟩,hnl,hll,hlen,q⟩:=h;refine aS (ah (afZ (i:=3) (j:=4) rfl Y9.nd rfl rfl (by decide) rfl rfl (aa (aK aA (pv 1) ai (fun _ _=>rfl)) (aa (aK aA (pv 1) ai (fun _ _=>rfl)) af)) rfl) (ah (bf (au (bH.or (bg (az hr))) (pv 3) av (ay _)) (ak (ax (bT (X:=(cK (iI P w) P w K mg base ["_law_book","_law_deed","_law_at","_law_way","_law_name"] "_law_do" (ag kL) t.j9 cdv A outer s H E)) (pv 0) T.aE T.yq wa (hr.mono (by decide)) T.q8 .nil (fun _ _ z=>Or.inl z) (aa (pv 4) (aa (pv 2) (aa (aK aA (pv 1) ai (fun _ _=>rfl)) af)))))) aF) (ah (bf (au (bH.or (bg (az hr))) (pv 3) av (ay _)) (ak (ax (bT (X:=(cK (iI P w) P w K mg base ["_law_book","_law_deed","_law_at","_law_way","_law_name"] "_law_do" (ag kL) t.j9 cdv A outer s H E)) (pv 0) T.aE T.Uu WN (hr.mono (by decide)) T.BH .nil (fun _ _ z=>Or.inl z) (aa (pv 4) (aa (pv 2) af))))) aF) (ah (bf (au (bH.or (bg (az hr))) (pv 3) av (ay _)) (ak (ax (bT (X:=(cK (iI P w) P w K mg base ["_law_book","_law_deed","_law_at","_law_way","_law_name"] "_law_do" (ag kL) t.j9 cdv A outer s H E)) (pv 0) T.aE T.Qs UG (hr.mono (by decide)) T.yu .nil (fun _ _ z=>Or.inl z) (aa (pv 4) (aa (pv 2) (aa (aK aA (pv 1) ai (fun _ _=>rfl)) af)))))) aF) (ah (bf (au (bH.or (bg (az hr))) (pv 3) av (ay _)) (ak (ax (bT (X:=(cK (iI P w) P w K mg base ["_law_book","_law_deed","_law_at","_law_way","_law_name"] "_law_do" (ag kL) t.j9 cdv A outer s H E)) (pv 0) T.aE T.sG nR (hr.mono (by decide)) T.jY .nil (fun _ _ z=>Or.inl z) (aa (pv 4) af)))) aF) (ah (bf (au (bH.or (bg (az hr))) (pv 3) av (ay _)) (ak (ax (bT (X:=(cK (iI P w) P w K mg base ["_law_book","_law_deed","_law_at","_law_way","_law_name"] "_law_do" (ag kL) t.j9 cdv A outer s H E)) (pv 0) T.aE T.El yE (hr.mono (by decide)) T.sv .nil (fun _ _ z=>Or.inl z) (aa (pv 4) af)))) aF) (ah (bf (au (bH.or (bg (az hr))) (pv 3) av (ay _)) (ak (ax (O3 (X:=(cK (iI P w) P w K mg base ["_law_book","_law_deed","_law_at","_law_way","_law_name"] "_law_do" (ag kL) t.j9 cdv A outer s H E)) (pv 0) T.aE T.En yF (hr.mono (by decide)) T.sA .nil (fun _ _ z=>Or.inl z)))) aF) (ah (bf (au (bH.or (bg (az hr))) (pv 3) av (ay _)) (ak (ax (O3 (X:=(cK (iI P w) P w K mg base ["_law_book","_law_deed","_law_at","_law_way","_law_name"] "_law_do" (ag kL) t.j9 cdv A outer s H E)) (pv 0) T.aE T.Eo yG (hr.mono (by decide)) T.sE .nil (fun _ _ z=>Or.inl z)))) aF) (ah (bf (dh (PW.pt (dX (au (bH.or (bg (az hr))) (aK aA (pv 1) ai (fun _ _=>rfl)) ai (ay _)) (dX (au (bH.or (bg (az hr))) (aK aA (pv 1) ai (fun _ _=>rfl)) ai (ay _)) (gM (kG (bZ (aK aA (pv 1) ai (fun _ _=>rfl))))))))) (ak (ax (bT (X:=(cK (iI P w) P w K mg base ["_law_book","_law_deed","_law_at","_law_way","_law_name"] "_law_do" (ag kL) t.j9 cdv A outer s H E)) (pv 0) T.aE T.l8 j1 (hr.mono (by decide)) (rT:=[.int 0,.int 1,.bl false]) T.lZ (.cons ⟨_,rfl⟩ (.cons ⟨_,rfl⟩ (.cons rfl (.nil)))) (fun _ _ z=>Or.inl z) (aa (pv 4) (aa (aK aA (pv 1) ai (fun _ _=>rfl)) af))))) aF) (ak (ax (bT (X:=(cK (iI P w) P w K mg base ["_law_book","_law_deed","_law_at","_law_way","_law_name"] "_law_do" (ag kL) t.j9 cdv A outer s H E)) (pv 0) T.aE T.l8 j1 (hr.mono (by decide)) T.jW .nil (fun _ _ z=>Or.inl z) (aa (pv 4) (aa (aK aA (pv 1) ai (fun _ _=>rfl)) (aa (aK aA (pv 1) ai (fun _ _=>rfl)) (aa (aK aA (pv 1) ai (fun _ _=>rfl)) (aa (aK aA (pv 1) ai (fun _ _=>rfl)) af))))))))))))))))) ?_;have hx:∃ dx L D U,H x=some (.ins t.a9 dx (DH L D U)):=by
   obtain⟨L,D,U,all,M,Ps,Fs,es,us,b,_⟩:=B.ex;obtain⟨dx,e⟩:=b.hx;exact⟨dx,L,D,U,e⟩
  obtain⟨dx,L,D,U,hx⟩:=hx;refine⟨_,rfl,jx (i:=0) hp2 x0 ⟨_,rfl,jx (i:=1) hp2 x1 ⟨_,_,rfl,?_⟩⟩⟩;tm_up;rw[show decide (V.str de.wy.str=V.str (Str.ofString "put"))=decide (de.wy=.put) from x6 de.wy .put]
  by_cases z1:de.wy=.put
  ·rw[decide_eq_true z1];refine jr ?_;obtain⟨ps2,x4',Z8⟩:=x4 (.inl z1);rw[uV (.inl z1)]at q;refine⟨_,rfl,x,dx,_,rfl,hx,Bh _ _ _,_,rfl,_,rfl,_,rfl,jx (i:=4) hp2 x4' ?_⟩;refine⟨x,F,st.vw,st.ps,st.fs,de.n,at_,ps2,de.sg,rfl,B,Z8,by omega,?_⟩;cases hf:aM st.vw de.n with
   |none=>rw[vH hf]at q;exact q _ (ar.refl _)
   |some th=>cases th with
    |cn ld lt sl tn=>rw[Bi hf]at q;exact q _ (ar.refl _)
    |pl ss =>
     rw[qL hf,Ag (.inl z1) hf,if_pos z1]at q;refine⟨fun z=>?_,fun z g=>?_,fun z g h=>?_,fun z g h s w F' H' e1 e2 hw gr fr b=>?_⟩
     ·rw[if_pos (by omega)]at q;exact q _ (ar.refl _)
     ·rw[if_neg (by omega),if_pos ⟨by rw[z1];decide,g⟩]at q;exact q _ (ar.refl _)
     ·rw[if_neg (by omega),if_neg (fun y=>by rw[g]at y;exact nomatch y.2),if_pos ⟨z1,h⟩]at q;exact q _ (ar.refl _)
     ·rw[if_neg (by omega),if_neg (fun y=>by rw[g]at y;exact nomatch y.2),if_neg (fun y=>by omega)]at q;have el:bO ss de.wy de.sg at_.toNat=ss.take at_.toNat++[s]++ss.drop at_.toNat:=by unfold bO;rw[z1,si e1 e2]
      refine q _ F' H' gr fr (by rw[el];exact b) ?_;unfold pX;rw[z1]at el ⊢;rw[uW hf,el,si e1 e2];exact⟨w,rfl,hw⟩
  rw[decide_eq_false z1];refine dw ?_;tm_up;rw[show decide (V.str de.wy.str=V.str (Str.ofString "cut"))=decide (de.wy=.cut) from x6 de.wy .cut]
  by_cases z2:de.wy=.cut
  ·rw[decide_eq_true z2];refine jr ?_;rw[uV (.inr (.inl z2))]at q;refine⟨_,rfl,x,dx,_,rfl,hx,V6 _ _ _,_,rfl,_,rfl,?_⟩;refine⟨x,F,st.vw,st.ps,st.fs,de.n,at_,rfl,B,by omega,?_⟩;cases hf:aM st.vw de.n with
   |none=>rw[vH hf]at q;exact q _ (ar.refl _)
   |some th=>cases th with
    |cn ld lt sl tn=>rw[Bi hf]at q;exact q _ (ar.refl _)
    |pl ss =>
     rw[qL hf,Ag (.inr (.inl z2)) hf,if_neg (show ¬ de.wy=.put by rw[z2];decide)]at q;refine⟨fun z=>?_,fun z s w F' H' es hw gr fr b=>?_⟩
     ·rw[if_pos (by omega)]at q;exact q _ (ar.refl _)
     ·rw[if_neg (by omega),if_neg (fun y=>y.1 z2),if_neg (fun y=>by rw[z2]at y;exact nomatch y.1)]at q;have el:bO ss de.wy de.sg at_.toNat=ss.take at_.toNat++[]++ss.drop (at_.toNat+1):=by unfold bO;rw[z2]
      refine q _ F' H' gr fr (by rw[el];exact b) ?_;unfold pX;rw[z2]at el ⊢;rw[uW hf,el];exact⟨w,rfl,s,es,hw⟩
  rw[decide_eq_false z2];refine dw ?_;tm_up;rw[show decide (V.str de.wy.str=V.str (Str.ofString "swap"))=decide (de.wy=.swap) from x6 de.wy .swap]
  by_cases z3:de.wy=.swap
  ·rw[decide_eq_true z3];refine jr ?_;obtain⟨ps2,x4',Z8⟩:=x4 (.inr z3);rw[uV (.inr (.inr z3))]at q;refine⟨_,rfl,x,dx,_,rfl,hx,Ue _ _ _,_,rfl,_,rfl,_,rfl,jx (i:=4) hp2 x4' ?_⟩;refine⟨x,F,st.vw,st.ps,st.fs,de.n,at_,ps2,de.sg,rfl,B,Z8,by omega,?_⟩;cases hf:aM st.vw de.n with
   |none=>rw[vH hf]at q;exact q _ (ar.refl _)
   |some th=>cases th with
    |cn ld lt sl tn=>rw[Bi hf]at q;exact q _ (ar.refl _)
    |pl ss =>
     rw[qL hf,Ag (.inr (.inr z3)) hf,if_neg (show ¬ de.wy=.put by rw[z3];decide)]at q;refine⟨fun z=>?_,fun z g=>?_,fun z g s s0 w F' H' e1 e2 es hw gr fr b=>?_⟩
     ·rw[if_pos (by omega)]at q;exact q _ (ar.refl _)
     ·rw[if_neg (by omega),if_pos ⟨by rw[z3];decide,g⟩]at q;exact q _ (ar.refl _)
     ·rw[if_neg (by omega),if_neg (fun y=>by rw[g]at y;exact nomatch y.2),if_neg (fun y=>by rw[z3]at y;exact nomatch y.1)]at q;have el:bO ss de.wy de.sg at_.toNat=ss.take at_.toNat++[s]++ss.drop (at_.toNat+1):=by unfold bO;rw[z3,si e1 e2]
      refine q _ F' H' gr fr (by rw[el];exact b) ?_;unfold pX;rw[z3]at el ⊢;rw[uW hf,el,si e1 e2];exact⟨w,rfl,s0,es,hw⟩
  rw[decide_eq_false z3];refine dw ?_;tm_up;rw[show decide (V.str de.wy.str=V.str (Str.ofString "add"))=decide (de.wy=.add) from x6 de.wy .add]
  by_cases z4:de.wy=.add
  ·rw[decide_eq_true z4];refine jr ?_;have e0:nq st de at_=cZ st.vw de.n:=by unfold nq;rw[z4]
   have eb:xE st de at_=⟨st.vw++[(de.n,.pl [])],st.ps++[st.vw],[]⟩:=by unfold xE;rw[z4]
   rw[e0,eb]at q;refine⟨_,rfl,x,dx,_,rfl,hx,uC _ _ _,_,rfl,x,F,st.vw,st.ps,st.fs,de.n,rfl,B,hnl,by omega,?_⟩;cases hn:cZ st.vw de.n with
   |some r=>rw[hn]at q;exact q
   |none =>
    rw[hn]at q;exact fun F' H' gr fr b=>q _ F' H' gr fr b (by unfold pX;rw[z4])
  rw[decide_eq_false z4];refine dw ?_;tm_up;rw[show decide (V.str de.wy.str=V.str (Str.ofString "drop"))=decide (de.wy=.drop) from x6 de.wy .drop]
  by_cases z5:de.wy=.drop
  ·rw[decide_eq_true z5];refine jr ?_;have e0:nq st de at_=zW st.vw de.n:=by unfold nq;rw[z5]
   have eb:xE st de at_=⟨gK st.vw de.n,st.ps++[st.vw],[]⟩:=by unfold xE;rw[z5]
   rw[e0,eb]at q;refine⟨_,rfl,x,dx,_,rfl,hx,Jy _ _ _,_,rfl,x,F,st.vw,st.ps,st.fs,de.n,rfl,B,by omega,?_⟩;cases hf:aM st.vw de.n with
   |none =>
    have ed:zW st.vw de.n=some .dR:=by unfold zW;rw[hf]
    rw[ed]at q;exact q _ (ar.refl _)
   |some th =>
    have ed:zW st.vw de.n=if leans st.vw de.n=true then some .Gp else none:=by unfold zW;rw[hf]
    rw[ed]at q;refine⟨fun z=>?_,fun z=>?_⟩
    ·rw[if_pos z]at q;exact q
    ·rw[if_neg (by rw[z];decide)]at q;exact fun F' H' gr fr b=>q _ F' H' gr fr b (by unfold pX;rw[z5])
  rw[decide_eq_false z5];refine dw ?_;tm_up;rw[show decide (V.str de.wy.str=V.str (Str.ofString "undo"))=decide (de.wy=.undo) from x6 de.wy .undo]
  by_cases z6:de.wy=.undo
  ·rw[decide_eq_true z6];refine jr ?_;have e0:nq st de at_=if st.ps=[] then some .oX else none:=by unfold nq;rw[z6]
   rw[e0]at q;refine⟨_,rfl,x,dx,_,rfl,hx,Jz _ _ _,x,F,st.vw,st.ps,st.fs,rfl,B,hlen,fun z=>?_,fun ps0 v0 ez H' fr b=>?_⟩
   ·rw[if_pos z]at q;exact q
   ·rw[if_neg (by rw[ez];simp)]at q;have eb:xE st de at_=⟨v0,ps0,st.fs++[st.vw]⟩:=by
     unfold xE;rw[z6,ez];simp
    rw[eb]at q;exact q _ F H' (Gr.refl _ _) fr b (by unfold pX;rw[z6])
  rw[decide_eq_false z6];refine dw ?_;tm_up;rw[show decide (V.str de.wy.str=V.str (Str.ofString "redo"))=decide (de.wy=.Qi) from x6 de.wy .Qi]
  by_cases z7:de.wy=.Qi
  ·rw[decide_eq_true z7];refine jr ?_;have e0:nq st de at_=if st.fs=[] then some .oX else none:=by unfold nq;rw[z7]
   rw[e0]at q;refine⟨_,rfl,x,dx,_,rfl,hx,JA _ _ _,x,F,st.vw,st.ps,st.fs,rfl,B,hlen,fun z=>?_,fun fs0 v0 ez H' fr b=>?_⟩
   ·rw[if_pos z]at q;exact q
   ·rw[if_neg (by rw[ez];simp)]at q;have eb:xE st de at_=⟨v0,st.ps++[st.vw],fs0⟩:=by
     unfold xE;rw[z7,ez];simp
    rw[eb]at q;exact q _ F H' (Gr.refl _ _) fr b (by unfold pX;rw[z7])
  rw[decide_eq_false z7];refine dw ?_;have z8:de.wy=.canon:=by
   cases hw:de.wy with
   |put=>exact absurd hw z1
   |cut=>exact absurd hw z2
   |swap=>exact absurd hw z3
   |add=>exact absurd hw z4
   |canon=>rfl
   |drop=>exact absurd hw z5
   |undo=>exact absurd hw z6
   |Qi=>exact absurd hw z7
  obtain⟨y2,y5,y6,y7⟩:=x5 z8;have e0:nq st de at_=match cZ st.vw de.n with|some r=>some r|none=>oM st.vw de.ld de.lt de.sl:=by unfold nq;rw[z8];try rfl
  have eb:xE st de at_=⟨st.vw++[(de.n,.cn de.ld de.lt de.sl de.tn)],st.ps++[st.vw],[]⟩:=by unfold xE;rw[z8]
  rw[e0,eb]at q;have ea:∀ H',pX H' st de at_ .non:=fun H'=>by unfold pX;rw[z8]
  have fin:∀{E':XK},(∀ cls H',E' cls none H'=E cls none H')->match cZ st.vw de.n with
   |some r=>∀ H',ar H H'->RX E' (cs t) r H'
   |none=>match aM st.vw de.ld with
    |none=>∀ H',ar H H'->RX E' (cs t) .dR H'
    |some (.cn _ _ _ _)=>∀ H',ar H H'->RX E' (cs t) .gT H'
    |some (.pl _)=>(¬ nk de.lt de.sl->∀ H',ar H H'->RX E' (cs t) .vF H')/\(nk de.lt de.sl->∀ F' H',Gr F F' H->Fr F H H'->zV (cs t) H' x F' (st.vw++[(de.n,.cn de.ld de.lt de.sl de.tn)]) (st.ps++[st.vw]) []->Q .non H'):=by
   intro E' hE;have rx:∀{r H'},RX E (cs t) r H'->RX E' (cs t) r H':=fun {r H'} z=>⟨z.1,by rw[hE];exact z.2⟩;cases hn:cZ st.vw de.n with
   |some r =>
    rw[hn]at q;exact fun H' s'=>rx (q H' s')
   |none =>
    rw[hn]at q;cases hf:aM st.vw de.ld with
    |none =>
     have ed:oM st.vw de.ld de.lt de.sl=some .dR:=by unfold oM;rw[hf]
     rw[ed]at q;exact fun H' s'=>rx (q H' s')
    |some th=>cases th with
     |cn ld lt sl tn =>
      have ed:oM st.vw de.ld de.lt de.sl=some .gT:=by unfold oM;rw[hf]
      rw[ed]at q;exact fun H' s'=>rx (q H' s')
     |pl ss =>
      have ed:oM st.vw de.ld de.lt de.sl=if nk de.lt de.sl then none else some .vF:=by unfold oM;rw[hf]
      rw[ed]at q;refine⟨fun z=>?_,fun z=>?_⟩
      ·rw[if_neg z]at q;exact fun H' s'=>rx (q H' s')
      ·rw[if_pos z]at q;exact fun F' H' gr fr b=>q _ F' H' gr fr b (ea H')
  refine uw (decide (de.lt=0/\de.sl=1/\de.tn=false)) ?_ ?_
  ·refine⟨_,rfl,jx (i:=5) hp2 y5 ?_⟩;tm_up
   by_cases u1:de.lt=0
   ·rw[decide_eq_true (congrArg V.int u1)];refine jr ?_;refine⟨_,rfl,jx (i:=6) hp2 y6 ?_⟩;tm_up
    by_cases u2:de.sl=1
    ·rw[decide_eq_true (congrArg V.int u2)];refine jr ?_;refine⟨_,rfl,jx (i:=7) hp2 y7 ⟨_,rfl,?_,rfl⟩⟩;cases u3:de.tn with
     |true=>exact(decide_eq_false (fun y=>nomatch y.2.2)).symm
     |false=>exact(decide_eq_true ⟨u1,u2,rfl⟩).symm
    ·rw[decide_eq_false (fun y=>u2 (V.int.inj y)),decide_eq_false (fun y=>u2 y.2.1)];exact dw ⟨rfl,rfl⟩
   ·rw[decide_eq_false (fun y=>u1 (V.int.inj y)),decide_eq_false (fun y=>u1 y.1)];exact dw ⟨rfl,rfl⟩
  refine bp (fun z=>?_) (fun z=>?_)
  ·obtain⟨u1,u2,u3⟩:=of_decide_eq_true z;refine⟨_,rfl,x,dx,_,rfl,hx,nj _ _ _,_,rfl,_,rfl,jx (i:=2) hp2 y2 ?_⟩;rw[u1,u2,u3]at fin;refine⟨x,F,st.vw,st.ps,st.fs,de.n,de.ld,0,1,false,rfl,B,hnl,by omega,?_⟩;exact fin fun _ _=>rfl
  ·refine⟨_,rfl,x,dx,_,rfl,hx,nj _ _ _,_,rfl,_,rfl,jx (i:=2) hp2 y2 ⟨_,rfl,jx (i:=5) hp2 y5 ⟨_,rfl,jx (i:=6) hp2 y6 ⟨_,rfl,jx (i:=7) hp2 y7 ?_⟩⟩⟩⟩;refine⟨x,F,st.vw,st.ps,st.fs,de.n,de.ld,de.lt,de.sl,de.tn,rfl,B,hnl,by omega,?_⟩;exact fin fun _ _=>rfl
inductive Md (c:Cs)(vs:List V)(H:Hp)(Q:VK)(E:XK):Prop
 |mk (x:Addr) (v2:V) (F:Addr->Prop) (st:Std) (de:De) (at_:Int) (gw:vs=[.ref x,v2,.int at_]) (gx:zV c H x F st.vw st.ps st.fs) (iW:DeS H v2 de) (m7:de.n.length<=1000) (tJ:de.ld.length<=1000) (Tx:st.ps.length+st.fs.length<=900) (h6_:match nq st de at_ with
 |some r=>∀ t H',ar H H'->H' t=some (.tup [.non,.str r.str])->Q (.ref t) H'
 |none=>∀ t v F' H',Gr F F' H->Fr F H H'->zV c H' x F' (xE st de at_).vw (xE st de at_).ps (xE st de at_).fs->pX H' st de at_ v->H' t=some (.tup [v,.str ""])->Q (.ref t) H'):Md c vs H Q E
theorem pX.same {H H':Hp}{st:Std}{de:De}{a:Int}{v:V}(s:ar H H')(h:pX H st de a v):pX H' st de a v:=by
 unfold pX at h ⊢;generalize de.wy=wy at h ⊢;cases wy with
 |put=>obtain⟨w,e,h⟩:=h;exact⟨w,e,s _ _ h⟩
 |cut=>obtain⟨w,e,x,ex,h⟩:=h;exact⟨w,e,x,ex,s _ _ h⟩
 |swap=>obtain⟨w,e,x,ex,h⟩:=h;exact⟨w,e,x,ex,s _ _ h⟩
 |_=>exact h
theorem BK (T:Txt K w mg t):bK P w K mg base oI (0+6) t.lD t.GG ["_law_book","_law_deed","_law_at"] (Md (cs t)):=by
 have WO:=Zg (P:=P) (base:=base) T;refine T.eP.ok Wd (fun vs H Q E h=>?_) (fun cdv A outer s H vs Q E hr h=>?_)
 ·obtain⟨_,_,_,_,_,_,rfl,_⟩:=h;rfl
 ·obtain⟨x,v2,F,st,de,at_,rfl,B,hde,hnl,hll,hlen,q⟩:=h;refine aS (ak (ad5 (fun pn XS=>(ak (ax (bB (aa (uy (X:=Cx.Tg (cK oI P w K mg base ["_law_book","_law_deed","_law_at"] "_law_tried" (ag nu) t.lD cdv A outer s H E).nox pn) (XS:=XS) WO (hr.mono (by decide)) rfl T.Za T.GQ.kp T.Qt .nil (fun _ _ z=>z) (aa (pv 0) (aa (pv 1) (aa (pv 2) af)))) (aa av af)))))) (ki (CT:=t.aX) (fun pn a=>(ak (ax (bB (aa j4 (aa av af)))))) rfl T.L4 (ki (CT:=t.aI) (fun pn a=>(ak (ax (bB (aa j4 (aa av af)))))) rfl T.Ez (ki (CT:=t.cm) (fun pn a=>(ak (ax (bB (aa j4 (aa av af)))))) rfl T.Qy (ki (CT:=t.aU) (fun pn a=>(ak (ax (bB (aa j4 (aa av af)))))) rfl T.LY (ki (CT:=t.aQ) (fun pn a=>(ak (ax (bB (aa j4 (aa av af)))))) rfl T.JL (ki (CT:=t.aV) (fun pn a=>(ak (ax (bB (aa j4 (aa av af)))))) rfl T.LZ (ki (CT:=t.aW) (fun pn a=>(ak (ax (bB (aa j4 (aa av af)))))) rfl T.L0 (ki (CT:=t.aY) (fun pn a=>(ak (ax (bB (aa j4 (aa av af)))))) rfl T.L5 (ki (CT:=t.bq) (fun pn a=>(ak (ax (bB (aa j4 (aa av af)))))) rfl T.Pk (ki (CT:=t.br) (fun pn a=>(ak (ax (bB (aa j4 (aa av af)))))) rfl T.G2 ad4)))))))))) rfl rfl)) ?_;refine⟨_,rfl,_,rfl,_,rfl,?_⟩;refine⟨x,v2,F,st,de,at_,rfl,B,hde,hnl,hll,hlen,?_⟩;cases ho:nq st de at_ with
  |none =>
   rw[ho]at q;intro v F' H' gr fr b an;refine⟨by show 2<=sizeLine;decide,fun t0 ht0=>?_⟩;have s1:=ar.upd (o:=.tup [v,V.str ""]) ht0;exact q t0 v F' _ gr (fun y o e n=>s1 _ _ (fr y o e n)) (b.same s1) (an.same s1) ae
  |some r =>
   rw[ho]at q;intro H' s';refine⟨rfl,?_⟩;have fin:(2<=sizeLine)/\∀ t0,H' t0=none->Q (.ref t0) (upd H' t0 (.tup [V.non,V.str r.str])):=⟨by decide,fun t0 ht0=>q t0 _ (s'.trans (ar.upd ht0)) ae⟩;cases r with
   |zU=>exact .inl ⟨T.fq,fin⟩
   |qk=>exact .inr ⟨T.dN,.inl ⟨T.cS,fin⟩⟩
   |Full=>exact .inr ⟨T.iP,.inr ⟨T.gm,.inl ⟨T.mf,fin⟩⟩⟩
   |dR=>exact .inr ⟨T.eZ,.inr ⟨T.dG,.inr ⟨T.iL,.inl ⟨T.e7,fin⟩⟩⟩⟩
   |gT=>exact .inr ⟨T.eA,.inr ⟨T.c9,.inr ⟨T.g6,.inr ⟨T.eB,.inl ⟨T.dM,fin⟩⟩⟩⟩⟩
   |kB=>exact .inr ⟨T.e9,.inr ⟨T.dH,.inr ⟨T.iN,.inr ⟨T.fb,.inr ⟨T.en,.inl ⟨T.fc,fin⟩⟩⟩⟩⟩⟩
   |lM=>exact .inr ⟨T.ff,.inr ⟨T.dJ,.inr ⟨T.iO,.inr ⟨T.fg,.inr ⟨T.eo,.inr ⟨T.fh,.inl ⟨T.fi,fin⟩⟩⟩⟩⟩⟩⟩
   |vF=>exact .inr ⟨T.fu,.inr ⟨T.dO,.inr ⟨T.iQ,.inr ⟨T.fz,.inr ⟨T.eD,.inr ⟨T.fA,.inr ⟨T.fB,.inl ⟨T.fD,fin⟩⟩⟩⟩⟩⟩⟩⟩
   |Gp=>exact .inr ⟨T.gb,.inr ⟨T.eh,.inr ⟨T.jH,.inr ⟨T.gf,.inr ⟨T.e8,.inr ⟨T.gh,.inr ⟨T.gi,.inr ⟨T.gj,.inl ⟨T.g4,fin⟩⟩⟩⟩⟩⟩⟩⟩⟩
   |oX=>exact .inr ⟨T.gn,.inr ⟨T.eC,.inr ⟨T.jI,.inr ⟨T.gp,.inr ⟨T.fk,.inr ⟨T.gq,.inr ⟨T.gs,.inr ⟨T.gu,.inr ⟨T.hG,.inl ⟨T.hI,fin⟩⟩⟩⟩⟩⟩⟩⟩⟩⟩
structure Bw (c:Cs)(H0 H:Hp)(x:Addr)(own:List Addr)(vw:Vw)(ps fs:List Vw):Prop where
 ex:∃ F,zV c H x F vw ps fs/\(∀ y,F y->∃ xs,H y=some (.lst xs))/\(∀ y,F y->H0 y=none)/\∀ a∈own,¬ F a/\∃ o,H a=some o
 sm:ar H0 H
section
variable {c:Cs} {H0 H H' H1:Hp} {x:Addr} {own:List Addr} {vw vw':Vw} {ps ps' fs fs':List Vw} {F F':Addr->Prop}
theorem Bw.mk' (b:zV c H' x F' vw' ps' fs')(sm:ar H0 H)(hF:∀ y,F y->∃ xs,H y=some (.lst xs))(h0:∀ y,F y->H0 y=none)(ho:∀ a∈own,¬ F a/\∃ o,H a=some o)(g:Gr F F' H)(fr:Fr F H H'):Bw c H0 H' x own vw' ps' fs'/\akW own H H':=by
 obtain⟨F0,h1,h2,b0⟩:=b.aiG;refine⟨⟨⟨F0,b0,h2,fun y z=>?_,fun a ha=>?_⟩,fun y o e=>fr y o (sm y o e) fun z=>?_⟩,fun y o e k=>fr y o e fun z=>?_⟩
 ·rcases g y (h1 y z) with q|q
  ·exact h0 y q
  ·exact sm.free q
 ·obtain⟨n,o,e⟩:=ho a ha;refine⟨fun z=>?_,o,fr a o e n⟩;rcases g a (h1 a z) with q|q
  ·exact n q
  ·rw[e]at q;cases q
 ·rw[h0 y z]at e;cases e
 ·rcases k with k|k
  ·obtain⟨xs,q⟩:=hF y z;rw[e]at q;cases q;exact k _ rfl
  ·exact(ho y k).1 z
theorem Bw.same (h:Bw c H0 H x own vw ps fs)(s:ar H H'):Bw c H0 H' x own vw ps fs:=by
 obtain⟨F,b,hF,h0,ho⟩:=h.ex;exact⟨⟨F,b.same s,fun y z=>let ⟨xs,e⟩:=hF y z;⟨xs,s _ _ e⟩,h0,fun a ha=>⟨(ho a ha).1,let ⟨o,e⟩:=(ho a ha).2;⟨o,s _ _ e⟩⟩⟩,h.sm.trans s⟩
theorem Bw.wv (h:Bw c H0 H x own vw ps fs):zT vw:=by
 obtain⟨F,b,_⟩:=h.ex;exact b.wv vw (.inr (.inl rfl))
theorem Bw.hx (h:Bw c H0 H x own vw ps fs):∃ dx L D U,H x=some (.ins c.B dx (DH L D U)):=by
 obtain⟨F,b,_⟩:=h.ex;obtain⟨L,D,U,all,M,Ps,Fs,es,us,b,_⟩:=b.ex;obtain⟨dx,e⟩:=b.hx;exact⟨dx,L,D,U,e⟩
theorem Bw.new {dx L D U:Addr}(hx:H' x=some (.ins c.B dx (DH L D U)))(hL:H' L=some (.lst []))(hD:H' D=some (.lst []))(hU:H' U=some (.lst []))(LD:L≠D)(LU:L≠U)(DU:D≠U)(s:ar H H')(nL:H L=none)(nD:H D=none)(nU:H U=none):Bw c H H' x [] [] [] []:=by
 refine⟨⟨_,Bk.new hx hL hD hU LD LU DU,fun y hy=>?_,fun y hy=>?_,fun a ha=>nomatch ha⟩,s⟩
 ·rcases hy with rfl|rfl|rfl
  ·exact⟨_,hL⟩
  ·exact⟨_,hD⟩
  ·exact⟨_,hU⟩
 ·rcases hy with rfl|rfl|rfl
  ·exact nL
  ·exact nD
  ·exact nU
end
theorem agT {vw:Vw}{fs:List Vw}{de:De}{a:Int}(h:de.wy=.undo):nq ⟨vw,[],fs⟩ de a=some .oX:=by
 unfold nq;rw[h];exact if_pos rfl
theorem agU {vw:Vw}{ps:List Vw}{de:De}{a:Int}(h:de.wy=.Qi):nq ⟨vw,ps,[]⟩ de a=some .oX:=by
 unfold nq;rw[h];exact if_pos rfl
theorem Oa:("":Str).length<=1000:=by lk
theorem acK {α:Type}{xs ys:List α}{x y:α}(h:xs++[x]=ys++[y]):xs=ys/\x=y:=by
 obtain⟨h1,h2⟩:=List.append_inj' h rfl;exact⟨h1,by cases h2;rfl⟩
inductive A4 (K:Frag)(c:Cs)(vs:List V)(H:Hp)(Q:VK)(E:XK):Prop
 |mk (x l:Addr) (n:Str) (H0:Hp) (vw:Vw) (ps:List Vw) (ys:List V) (ss:List Sg) (gw:vs=[.ref x,.str n,.ref l]) (gx:Bw c H0 H x [] vw ps []) (iW:ps.length=217) (m7:ps.head? = some []) (tJ:aM vw n=some (.pl ss)) (Tx:H0 l=some (.lst ys)) (h6_:h9 H0 ys ss) (h7_:∀ H',Q (.bl true) H'):A4 K c vs H Q E
set_option maxHeartbeats 8000000 in
theorem Ob (T:Txt K w mg t):bK P w K mg base oI (0+7) t.ix t.vQ ["_law_book","_law_name","_law_line"] (A4 K (cs t)):=by
 have yB:=v9 (P:=P) (base:=base) T;have yF:=EK (P:=P) (base:=base) T;have yG:=EM (P:=P) (base:=base) T;have eI:=kx (P:=P) (base:=base) T;have ig:=v8 (P:=P) (base:=base) T;have hX:=BK (P:=P) (base:=base) T;refine T.l9.ok tQ (fun vs H Q E h=>?_) (fun cdv A outer s H vs Q E hr h=>?_)
 ·obtain⟨_,_,_,_,_,_,_,_,rfl,_⟩:=h;rfl
 ·obtain⟨x,l,n,H0,vw,ps,ys,ss,rfl,B0,pl,phd,hf,hl,g,q⟩:=h;refine aS (ah (ij PassesOwn.never rfl (lj rfl T.jG (aa ai af)) (aP (i:=3) tQ.nd rfl (Or.inl rfl)) (ak (bo (kg (pv 0) T.aE T.En yF (hr.mono (by decide)) T.sA .nil rW)))) (ah (bf (dh (PW.pt (xK (au (abX (az hr)) (kg (pv 0) T.aE T.ko eI (hr.mono (by decide)) T.iA .nil aL) (bM af) (ay _)) (qA (au (lH.or (ik (az hr))) (aK aA (aB hX (hr.mono (by decide)) rfl T.iE T.eP.kp T.gZ .nil aL (aa (pv 0) (aa (bB (aa av (aa av af))) (aa ai af)))) ai (fun _ _=>rfl)) av (ay _)))))) (ak (ax fM)) aF) (ah (ij PassesOwn.never rfl (lj rfl T.jG (aa ai af)) (aP (i:=3) tQ.nd rfl (Or.inl rfl)) (ak (bo (kg (pv 0) T.aE T.Eo yG (hr.mono (by decide)) T.sE .nil rW)))) (ak (ax (cM (kH (bS (bH.or (bg (az hr))) (fE (pv 0) T.aE T.iD ig (hr.mono (by decide)) T.fV .nil rW (aa (pv 1) af)) (pv 2) (ay _)) (j5 (bS (bH.or (bg (az hr))) (aK aA (aB hX (hr.mono (by decide)) rfl T.iE T.eP.kp T.gZ .nil aL (aa (pv 0) (aa (bB (aa av (aa av af))) (aa ai af)))) ai (fun _ _=>rfl)) av (ay _)))))))))) ?_;have al:(ps++[vw]).length=218:=by rw[length_append,pl];rfl
  have an:(ps++[vw])[217]? = some vw:=by rw[getElem?_append_right (by omega),pl];rfl
  have ahd:(ps++[vw])[0]? = some []:=by
   cases ps with
   |nil=>cases phd
   |cons p r=>rw[List.head?_cons]at phd;cases phd;rfl
  have B1:Bw (cs t) H0 H x [] vw ((ps++[vw]).take 217) ((((ps++[vw]).drop 218)).reverse):=by
   rw[List.take_left' pl,List.drop_eq_nil_of_le (by omega)];exact B0
  generalize ps++[vw]=all at al an ahd B1;clear B0 pl phd;refine bL fun N hN=>?_;refine⟨217,rfl,by decide,by decide,?_⟩;refine qj (n:=217) (fun i σ H'=>∃(u:Option V)(cu:Vw),σ=[some (.ref x),some (.str n),some (.ref l),u]/\i<=217/\all[217-i]? = some cu/\Bw (cs t) H0 H' x [] cu (all.take (217-i)) ((all.drop (217-i+1)).reverse)) ⟨_,vw,rfl,Nat.zero_le _,an,B1⟩ ?_ ?_
  ·rintro i σ H' hi ⟨u,cu,rfl,il,ec,B⟩;obtain⟨pv',epv⟩:∃ pv',all[217-i-1]? = some pv':=⟨_,getElem?_eq_getElem (show 217-i-1<all.length by omega)⟩;have et:all.take (217-i)=all.take (217-i-1)++[pv']:=by
    have:217-i=(217-i-1)+1:=by omega
    rw[this,take_succ,show 217-i-1+1-1=217-i-1 by omega,epv];rfl
   have ef:(all.drop (217-i+1)).reverse++[cu]=(all.drop (217-i)).reverse:=by
    obtain⟨h1,h2⟩:=List.getElem?_eq_some_iff.mp ec;rw[List.drop_eq_getElem_cons h1,h2,List.reverse_cons]
   obtain⟨dx,L,D',U,hx⟩:=B.hx;obtain⟨F,b,f,z,o⟩:=B.ex;refine⟨_,rfl,x,dx,_,rfl,hx,Jz _ _ _,x,F,cu,_,_,rfl,b,?_,(fun z=>by rw[et]at z;simp at z),fun ps0 v0 e0 H3 fr3 b3=>?_⟩
   ·rw[length_take,List.length_reverse,length_drop];omega
   rw[et]at e0;obtain⟨e01,e02⟩:=acK e0;subst e01 e02;rw[ef]at b3;obtain⟨B3,k3⟩:=Bw.mk' b3 B.sm f z o (Gr.refl _ _) fr3;refine⟨_,pv',rfl,by omega,by rw[show 217-(i+1)=217-i-1 by omega];exact epv,?_⟩;rw[show 217-(i+1)=217-i-1 by omega,show 217-i-1+1=217-i by omega];exact B3
  ·rintro σ H' ⟨u,cu,rfl,il,ec,B⟩;rw[show 217-217=0 from rfl]at ec B;have ecn:cu=[]:=Option.some.inj (ec.symm.trans ahd);subst ecn;have B0:Bw (cs t) H0 H' x [] [] [] ((all.drop 1).reverse):=B;refine hN _ _ ?_;clear hN N B;refine bL fun N hN=>?_;refine⟨fun bb H2=>bb=false/\ar H' H2,?_,?_⟩
   ·obtain⟨dx,L,D',U,hx⟩:=B0.hx;obtain⟨F,b,f,z,o⟩:=B0.ex;refine⟨_,rfl,x,dx,_,rfl,hx,lL _ _ _,x,F,[],[],_,rfl,b,fun l1 H1 nl1 s1 h1=>?_⟩;refine⟨big (by show 0<=1000;omega),fun e0 he0=>?_⟩;have S1:=s1.trans (ar.upd (o:=.lst []) he0);have k1:=ae (H:=H1) (a:=e0) (o:=.lst []);have h1':=ar.upd (o:=.lst []) he0 _ _ h1;generalize upd H1 e0 (.lst [])=H2 at S1 k1 h1';refine⟨l1,e0,[],rfl,rfl,aZ.of h1',aZ.of k1,⟨false,rfl,dw ?_⟩⟩;tm_up;refine⟨by show 2<=sizeLine;decide,fun tu htu=>?_⟩;have T1:=S1.trans (ar.upd (o:=.tup [V.str "undo",V.str ""]) htu);have t1:=ae (H:=H2) (a:=tu) (o:=.tup [V.str "undo",V.str ""]);generalize upd H2 tu (.tup [V.str "undo",V.str ""])=H4 at T1 t1;have B4:=B0.same T1;obtain⟨F4,b4,f4,z4,o4⟩:=B4.ex;refine⟨x,_,F4,⟨[],[],(all.drop 1).reverse⟩,⟨.undo,"","",0,("",0),0,0,false⟩,0,rfl,b4,⟨tu,_,rfl,t1,rfl,rfl,(fun z=>by rcases z with z|z <;> cases z),fun z=>nomatch z⟩,Oa,Oa,?_,?_⟩
    ·show 0+((all.drop 1).reverse).length<=900;rw[List.length_reverse,length_drop];omega
    rw[agT rfl];intro t0 H5 S5 ht0;refine jx (i:=1) ht0 rfl ?_;refine .inl ⟨rfl,_,rfl,?_⟩;exact⟨by rw[show decide (V.str Rf.oX.str=V.str (Str.ofString "NoMore"))=true from decide_eq_true rfl];rfl,T1.trans S5⟩
   rintro _ H2 ⟨rfl,S2⟩;refine dw ?_;have B2:=B0.same S2;refine hN _ _ ?_;clear hN N B0;refine bL fun N hN=>?_;refine⟨217,rfl,by decide,by decide,?_⟩;refine qj (n:=217) (fun i σ H'=>∃(u:Option V)(cu:Vw),σ=[some (.ref x),some (.str n),some (.ref l),u]/\i<=217/\all[i]? = some cu/\Bw (cs t) H0 H' x [] cu (all.take i) ((all.drop (i+1)).reverse)) ⟨_,[],rfl,Nat.zero_le _,ahd,by rw[List.take_zero];exact B2⟩ ?_ ?_
   ·rintro i σ H4 hi ⟨u,cu,rfl,il,ei,B⟩;obtain⟨nv,env⟩:∃ nv,all[i+1]? = some nv:=⟨_,getElem?_eq_getElem (show i+1<all.length by omega)⟩;have et:all.take i++[cu]=all.take (i+1):=by
     rw[take_succ,ei];rfl
    have ef:(all.drop (i+1)).reverse=(all.drop (i+1+1)).reverse++[nv]:=by
     obtain⟨h1,h2⟩:=List.getElem?_eq_some_iff.mp env;rw[List.drop_eq_getElem_cons h1,h2,List.reverse_cons]
    obtain⟨dx,L,D',U,hx⟩:=B.hx;obtain⟨F,b,f,z,o⟩:=B.ex;refine⟨_,rfl,x,dx,_,rfl,hx,JA _ _ _,x,F,cu,_,_,rfl,b,?_,(fun z=>by rw[ef]at z;simp at z),fun fs0 v0 e0 H6 fr6 b6=>?_⟩
    ·rw[length_take,List.length_reverse,length_drop];omega
    rw[ef]at e0;obtain⟨e01,e02⟩:=acK e0;subst e01 e02;rw[et]at b6;obtain⟨B6,k6⟩:=Bw.mk' b6 B.sm f z o (Gr.refl _ _) fr6;exact⟨_,nv,rfl,by omega,env,B6⟩
   ·rintro σ H4 ⟨u,cu,rfl,il,ei,B⟩;have:cu=vw:=Option.some.inj (ei.symm.trans an);subst this;have B0:Bw (cs t) H0 H4 x [] cu (all.take 217) []:=by
     rw[List.drop_eq_nil_of_le (by omega)]at B;exact B
    refine hN _ _ ?_;clear hN N B;refine⟨fun v H'=>v=.bl true,?_,?_⟩
    ·obtain⟨dx,L,D',U,hx⟩:=B0.hx;obtain⟨F,b,f,z,o⟩:=B0.ex;refine⟨_,rfl,x,dx,_,rfl,hx,jv _ _ _,_,rfl,x,F,cu,_,_,n,rfl,b,?_⟩;rw[hf];intro l1 ys1 H5 nl1 S5 h5 g5;rw[qK hf]at g5;have B5:=B0.same S5;refine⟨_,rfl,.inr ⟨l1,l,rfl,rfl,K0 (aZ.of h5) (aZ.of (B5.sm _ _ hl)) g5 (g.same B5.sm),?_⟩⟩;refine⟨_,rfl,jr ?_⟩;tm_up;refine⟨by show 2<=sizeLine;decide,fun tu htu=>?_⟩;have T1:=ar.upd (o:=.tup [V.str "redo",V.str ""]) htu;have t1:=ae (H:=H5) (a:=tu) (o:=.tup [V.str "redo",V.str ""]);generalize upd H5 tu (.tup [V.str "redo",V.str ""])=H6 at T1 t1;have B6:=B5.same T1;obtain⟨F6,b6,f6,z6,o6⟩:=B6.ex;refine⟨x,_,F6,⟨cu,all.take 217,[]⟩,⟨.Qi,"","",0,("",0),0,0,false⟩,0,rfl,b6,⟨tu,_,rfl,t1,rfl,rfl,(fun z=>by rcases z with z|z <;> cases z),fun z=>nomatch z⟩,Oa,Oa,?_,?_⟩
     ·show(all.take 217).length+0<=900;rw[length_take];omega
     rw[agU rfl];intro t0 H7 S7 ht0;refine jx (i:=1) ht0 rfl ?_;refine .inl ⟨rfl,?_⟩;exact congrArg V.bl (decide_eq_true rfl)
    ·rintro _ H5 rfl;exact q _
inductive Me (vs:List V)(H:Hp)(Q:VK)(E:XK):Prop
 |mk (seed k:Int) (gw:vs=[.int seed,.int k]) (gx:∀ r:Int,0<=r->r<65521->Q (.int r) H):Me vs H Q E
theorem Mf (T:Txt K w mg t):bK P w K mg base oI (0+1) t.nI t.GH ["_law_seed","_law_k"] Me:=by
 refine T.qy.ok Bm (fun vs H Q E h=>?_) (fun cdv A outer s H vs Q E hr h=>?_)
 ·obtain⟨_,_,rfl,_⟩:=h;rfl
 ·obtain⟨seed,k,rfl,q⟩:=h;refine aS (ah (aH (i:=2) Bm.nd rfl (Or.inl rfl) (aR j6 (aR (bW.or (aJ.or bY)) (aR (bW.or (aJ.or bY)) (aR (vh.or vq) (aR j6 (pv 0) ai) ai) (aR (vh.or vq) (pv 1) ai)) ai) ai)) (ah (aH (i:=3) Bm.nd rfl (Or.inl rfl) (aR j6 (aR (bW.or (aJ.or bY)) (aR (bW.or (aJ.or bY)) (aR (vh.or vq) (pv 2) (pv 2)) (aR (vh.or vq) (pv 1) ai)) (aR j6 (aR KU (pv 0) ai) ai)) ai)) (ak (ax (aR j6 (aR (bW.or (aJ.or bY)) (aR KU (aR (vh.or vq) (pv 3) (pv 3)) ai) (pv 3)) ai))))) ?_;have p2:(2:Int) ^ 64=18446744073709551616:=by decide
  refine⟨_,rfl,_,_,rfl,rfl,(by decide:(0:Int)<1000003),.inl ⟨_,_,rfl,rfl,.inr ⟨by decide,by decide⟩,_,rfl,.inl ⟨_,_,rfl,rfl,.inr ⟨by decide,by decide⟩,.inl ⟨_,_,rfl,rfl,.inl ⟨_,_,rfl,rfl,_,_,rfl,rfl,(by decide:(0:Int)<1000033),?_⟩⟩⟩⟩⟩;generalize hone:(seed % 1000003 * 48271+k * 30011+17) % 1000033=one;have b1:0<=one/\one<1000033:=by omega
  refine⟨_,rfl,_,rfl,.inl ⟨_,_,rfl,rfl,.inl ⟨by rw[p2];omega,by rw[p2];omega⟩,_,rfl,.inl ⟨_,_,rfl,rfl,.inr ⟨by decide,by decide⟩,.inl ⟨_,_,rfl,rfl,_,rfl,_,_,rfl,rfl,⟨by decide,by decide⟩,_,_,rfl,rfl,(by decide:(0:Int)<997),.inl ⟨_,_,rfl,rfl,_,_,rfl,rfl,(by decide:(0:Int)<999983),?_⟩⟩⟩⟩⟩;generalize aoi:(one * one+k * 613+seed / 1000003 % 997) % 999983=two;have b2:0<=two/\two<999983:=by omega
  refine⟨_,rfl,_,rfl,.inl ⟨_,_,rfl,rfl,.inl ⟨by rw[p2];omega,by rw[p2];omega⟩,_,_,rfl,rfl,⟨by decide,by decide⟩,_,rfl,.inl ⟨_,_,rfl,rfl,_,_,rfl,rfl,(by decide:(0:Int)<65521),?_⟩⟩⟩;exact q _ (by omega) (by omega)
inductive Mg (vs:List V)(H:Hp)(Q:VK)(E:XK):Prop
 |mk (n:Int) (gw:vs=[.int n]) (gx:Q (.bl true) H):Mg vs H Q E
theorem WQ (T:Txt K w mg t):bK P w K mg base oI (0+1) t.nJ t.GI ["_law_found"] Mg:=by
 refine T.uP.ok We (fun vs H Q E h=>?_) (fun cdv A outer s H vs Q E hr h=>?_)
 ·obtain⟨_,rfl,_⟩:=h;rfl
 ·obtain⟨n,rfl,q⟩:=h;refine aS (ak (ax (cM (kH (bc xS rfl T.ku kh (aa (pv 0) (aa (DI (v:=.ty "int") rfl T.yz xV rfl) af))) (j5 (afW (bc xS rfl T.ku kh (aa (pv 0) (aa (DI (v:=.ty "bool") rfl T.aeh adQ rfl) af))))))))) ?_;refine DT (.bl true) ?_ q;exact⟨_,rfl,_,_,_,_,rfl,ur.int _,rfl,_,rfl,jr ⟨_,rfl,_,_,_,_,rfl,ur.int _,rfl,_,rfl,qb rfl⟩⟩
inductive Pq (K:Frag)(vs:List V)(H:Hp)(Q:VK)(E:XK):Prop
 |mk (f d:Addr) (fs ds:List Int) (gw:vs=[.ref f,.ref d]) (gx:H f=some (.lst (fs.map V.int))) (iW:aZ K H d (ds.map V.int)) (m7:ds.length<=1000) (tJ:Q (.bl (decide (fs=ds))) H):Pq K vs H Q E
theorem aac (T:Txt K w mg t):bK P w K mg base oI (0+2) t.qS t.LF ["_law_found","_law_due"] (Pq K):=by
 have aad:=WQ (P:=P) (base:=base) T;refine T.uQ.ok Pd (fun vs H Q E h=>?_) (fun cdv A outer s H vs Q E hr h=>?_)
 ·obtain⟨_,_,_,_,rfl,_⟩:=h;rfl
 ·obtain⟨f,d,fs,ds,rfl,hf,hd,hn,q⟩:=h;refine aS (ah (bf (dh (PW.pt (xK (kG (bZ (bc xS rfl T.ku kh (aa (pv 0) (aa (DI (v:=.ty "list") rfl T.Ew DR rfl) af))))) (qA (au (lH.or (ik (az hr))) (bc (aN.or aO) rfl T.dt dg (aa (pv 0) af)) (bc (aN.or aO) rfl T.dt dg (aa (pv 1) af)) (ay _)))))) (ak (ax fM)) aF) (ah (ij PassesOwn.never rfl (lj rfl T.jG (aa (bc (aN.or aO) rfl T.dt dg (aa (pv 1) af)) af)) (aP (i:=2) Pd.nd rfl (Or.inl rfl)) (ak (bf (dh (PW.pt (xK (kG (bZ (aB aad (hr.mono (by decide)) rfl T.Wv T.uP.kp T.GR .nil aL (aa (aK aA (pv 0) (pv 2) (fun _ _=>rfl)) af)))) (qA (au (lH.or (ik (az hr))) (aK aA (pv 0) (pv 2) (fun _ _=>rfl)) (aK aA (pv 1) (pv 2) (fun _ _=>rfl)) (ay _)))))) (ak (ax fM)) aF))) (ak (ax fM)))) ?_;refine uw (decide (fs.length≠ds.length)) ?_ ?_
  ·tm_up;refine⟨_,_,_,_,rfl,ur.lst hf,rfl,_,rfl,?_⟩;refine dw ?_;tm_up;refine .inl ⟨_,_,rfl,.inl (aZ.of hf),?_⟩;tm_up;refine .inl ⟨_,_,rfl,.inl hd,?_⟩;tm_up;rw[length_map,length_map];refine gB ?_;rw[gS]
   by_cases e:fs.length=ds.length
   ·simp[e]
   ·have:¬((fs.length:Int)=(ds.length:Int)):=by omega
    simp[e,this]
  ·refine bp (fun h=>?_) (fun h=>?_)
   ·have e:fs≠ds:=fun z=>by
     have:=of_decide_eq_true h;rw[z]at this;exact this rfl
    rw[decide_eq_false e]at q;exact q
   ·have el:fs.length=ds.length:=by
     by_cases e:fs.length=ds.length
     ·exact e
     ·exact absurd (decide_eq_true e) h
    tm_up;refine .inl ⟨_,_,rfl,.inl hd,?_⟩;rw[length_map];have p62:(2:Int) ^ 62=4611686018427387904:=by decide
    refine⟨(ds.length:Int),rfl,by rw[p62];omega,by rw[p62];omega,?_⟩;refine qj (n:=((ds.length:Int)).toNat) (fun i σ H'=>∃ v,σ=[some (.ref f),some (.ref d),v]/\H'=H/\fs.take i=ds.take i) ⟨none,rfl,rfl,rfl⟩ ?_ ?_
    ·rintro i σ H' hi ⟨v,rfl,rfl,ht⟩;have hid:i<ds.length:=by omega
     have hif:i<fs.length:=by omega
     refine uw (decide (fs[i]≠ds[i])) ?_ ?_
     ·tm_up;refine ach (aZ.of hf) (n:=i) (by omega) (getElem?_eq_getElem hif) ?_;tm_up;refine ach (aZ.of hf) (n:=i) (by omega) (getElem?_eq_getElem hif) ?_;tm_up;refine ach hd (n:=i) (by omega) (getElem?_eq_getElem hid) ?_;tm_up;refine gB ?_;rw[gS];simp
     ·refine bp (fun h=>?_) (fun h=>?_)
      ·have e:fs≠ds:=fun z=>by
        subst z;exact(of_decide_eq_true h) rfl
       rw[decide_eq_false e]at q;exact q
      ·have e:fs[i]=ds[i]:=by
        by_cases z:fs[i]=ds[i]
        ·exact z
        ·exact absurd (decide_eq_true z) h
       refine⟨_,rfl,rfl,?_⟩;rw[List.take_succ_eq_append_getElem hif,List.take_succ_eq_append_getElem hid,ht,e]
    ·rintro σ H' ⟨v,rfl,rfl,ht⟩;have e:fs=ds:=by
      have h1:((ds.length:Int)).toNat=ds.length:=by omega
      rw[h1,take_length,<-el,take_length]at ht;exact ht
     rw[decide_eq_true e]at q;exact q
def JS (ns:List Int)(k:Nat):Int:=ns.getD k 0
inductive EO (K:Frag)(vs:List V)(H:Hp)(Q:VK)(E:XK):Prop
 |mk (a:Addr) (ns:List Int) (k:Nat) (gw:vs=[.ref a,.int (k:Int)]) (gx:aZ K H a (ns.map V.int)) (iW:ns.length<=63) (m7:Q (.int (JS ns k)) H):EO K vs H Q E
theorem ER (T:Txt K w mg t):bK P w K mg base oI (0+1) t.jC t.yh ["_law_script","_law_k"] (EO K):=by
 refine T.eM.ok Ql (fun vs H Q E h=>?_) (fun cdv A outer s H vs Q E hr h=>?_)
 ·obtain⟨a,ns,k,rfl,_⟩:=h;rfl
 ·obtain⟨a,ns,k,rfl,hS,hl,q⟩:=h;refine aS (ah (bf (au DJ (pv 1) (bc (ZA rfl) rfl T.agI agh (aa ai (aa (bc (aN.or aO) rfl T.dt dg (aa (pv 0) af)) af))) (ay _)) (ak (ax (aK aA (pv 0) (pv 1) (fun _ _=>rfl)))) aF) (ak (ax ai))) ?_;refine⟨_,rfl,_,rfl,.inl ⟨_,_,rfl,.inl hS,_,_,rfl,_,_,rfl,rfl,_,rfl,?_⟩⟩;rw[length_map];refine bp (fun h=>?_) (fun h=>?_)
  ·have hk:k<ns.length:=by
    have:=of_decide_eq_true h;split at this <;> omega
   have e:(ns.map V.int)[k]? = some (V.int (JS ns k)):=by
    rw[getElem?_map,getElem?_eq_getElem hk];unfold JS;rw[List.getD_eq_getElem?_getD,getElem?_eq_getElem hk];rfl
   exact⟨_,rfl,_,rfl,.inl ⟨_,_,_,_,rfl,rfl,hS,DN e,q⟩⟩
  ·have hk:ns.length<=k:=by
    have h':¬((k:Int)<if(ns.length:Int)<63 then(ns.length:Int) else 63):=fun z=>h (decide_eq_true z);split at h' <;> omega
   have e:JS ns k=0:=by
    unfold JS;rw[List.getD_eq_getElem?_getD,List.getElem?_eq_none hk];rfl
   rw[e]at q;exact q
inductive JT (K:Frag)(vs:List V)(H:Hp)(Q:VK)(E:XK):Prop
 |mk (l:Addr) (b:Int) (xs:List V) (ss:List Sg) (gw:vs=[.ref l,.int b]) (gx:aZ K H l xs) (iW:h9 H xs ss) (m7:ss.length<=400) (tJ:∀(f:Addr)(H':Hp),ar H H'->H f=none->H' f=some (.lst ((jf b (bu ss)).map V.int))->Q (.ref f) H'):JT K vs H Q E
theorem aiW {k:Kd}(h:k.meas=true)(m:Int):intText? k.str=some (nm m k)/\k.str.length<=640:=by
 cases k <;> first|(cases h;done)|exact⟨by first|exact(show intText? Kd.three.str=some 3 by lk)|exact(show intText? Kd.two.str=some 2 by lk),by lk⟩
theorem agV {k:Kd}(h:¬ k.meas=true)(m:Int):nm m k=m:=by
 cases k <;> first|rfl|exact absurd rfl h
theorem JU (T:Txt K w mg t):bK P w K mg base oI (0+2) t.kQ t.vR ["line","begin"] (JT K):=by
 have rj:=xA (P:=P) (base:=base) T;refine T.kU.ok oO (fun vs H Q E h=>?_) (fun cdv A outer s H vs Q E hr h=>?_)
 ·obtain⟨_,_,_,_,rfl,_⟩:=h;rfl
 ·obtain⟨l,b,xs,ss,rfl,hS,hg,hn,q⟩:=h;refine aS (ah (aH (i:=2) oO.nd rfl (Or.inl rfl) (bM af)) (ah (aH (i:=3) oO.nd rfl (Or.inl rfl) (pv 1)) (ah (ij PassesOwn.never rfl (fN (pv 0)) (aP (i:=4) oO.nd rfl (Or.inl rfl)) (ah (tL (bf (bZ (aB rj (hr.mono (by decide)) rfl T.xr T.gX.kp T.lX .nil aL (aa (pv 4) af))) (ak (aH (i:=3) oO.nd rfl (Or.inl rfl) (jM (ng.or gy) rfl T.yz xV (aa (aK aA (pv 4) ai (fun _ _=>rfl)) af)))) aF)) (ak (bo (m9 plainAttrs_list slot_list_append type_list_append cz (pv 2) (aa (pv 3) af)))))) (ak (ax (pv 2)))))) ?_;refine⟨big (by show 0<=1000;omega),fun f hf=>?_⟩;tm_up;refine⟨⟨xs,ip hS hf⟩,lG (K:=K) (xs:=xs) (fun i σ H'=>∃(m:Int)(v:Option V)(fs:List Int),σ=[some (.ref l),some (.int b),some (.ref f),some (.int m),v]/\H'=upd H f (.lst (fs.map V.int))/\fs++jf m ((bu ss).drop i)=jf b (bu ss))
   ⟨b,none,[],rfl,rfl,rfl⟩ ?_ ?_ ?_⟩
  ·rintro i σ H' _ ⟨m,v,fs,rfl,rfl,_⟩;exact ip hS hf
  ·rintro i x σ H' hx ⟨m,v,fs,rfl,rfl,hm⟩;obtain⟨s,hs,p,rfl,hp⟩:=Bd hg hx;have hd:=qc (x3 (f:=Prod.fst) hs);rw[hd]at hm;have hp':upd H f (.lst (fs.map V.int)) p=some (.tup [.str s.1.str,.int s.2]):=by rw[ao (aq hp hf)];exact hp
   have hl:=congrArg List.length hm;simp only [length_append,jf,length_cons,Gk,length_map]at hl;refine abU [some (.ref l),some (.int b),some (.ref f),some (.int (nm m s.1)),some (.ref p)] (upd H f (.lst (fs.map V.int))) ?_ ?_
   ·refine⟨_,rfl,p,s,rfl,hp',_,rfl,?_⟩;refine bp (fun h=>?_) (fun h=>?_)
    ·obtain⟨e1,e2⟩:=aiW h m;tm_up;exact .inr ⟨_,_,rfl,e1,e2,rfl,rfl⟩
    ·rw[agV h];exact⟨rfl,rfl⟩
   ·tm_up;refine⟨.inl ⟨rfl,_,aZ.of ae⟩,?_⟩;tm_up;refine⟨_,_,_,rfl,rfl,ae,by rw[length_map];exact ba (by omega),?_⟩;exact⟨_,_,fs++[nm m s.1],rfl,by rw[cI,map_append];rfl,by rw[List.append_assoc];exact hm⟩
  ·rintro σ H' ⟨m,v,fs,rfl,rfl,hm⟩;rw[List.drop_eq_nil_of_le (by rw[length_map,cB hg];exact Nat.le_refl _)]at hm;tm_up;have e:fs=jf b (bu ss):=by rw[<-hm];simp[jf]
   subst e;exact q f _ (ar.upd hf) hf ae
inductive Mh (K:Frag)(vs:List V)(H:Hp)(Q:VK)(E:XK):Prop
 |mk (l:Addr) (i:Int) (xs:List V) (ss:List Sg) (gw:vs=[.ref l,.int i]) (gx:aZ K H l xs) (iW:h9 H xs ss) (m7:Q (.str (rX (Qc (bu ss) i))) H):Mh K vs H Q E
theorem wb (T:Txt K w mg t):bK P w K mg base oI (0+1) t.nK t.GJ ["line","at"] (Mh K):=by
 refine T.fJ.ok Wf (fun vs H Q E h=>?_) (fun cdv A outer s H vs Q E hr h=>?_)
 ·obtain⟨_,_,_,_,rfl,_⟩:=h;rfl
 ·obtain⟨l,i,xs,ss,rfl,hS,hg,q⟩:=h;have out:¬(0<=i/\i<ss.length)->Qc (bu ss) i=none:=fun z=>by
   unfold Qc;split
   ·exact List.getElem?_eq_none (by rw[length_map];omega)
   ·rfl
  refine aS (ah (bf (DK xO DJ ai (pv 1) (bc (aN.or aO) rfl T.dt dg (aa (pv 0) af))) (ak (ax (aK aA (aK aA (pv 0) (pv 1) (fun _ _=>rfl)) ai (fun _ _=>rfl)))) aF) (ak (ax av))) ?_;tm_up;refine bp (fun h0=>?_) (fun h0=>?_)
  ·have h0':=of_decide_eq_true h0;tm_up;refine .inl ⟨_,_,rfl,.inl hS,?_⟩;rw[cB hg];tm_up;refine bp (fun h1=>?_) (fun h1=>?_)
   ·have h1':=of_decide_eq_true h1;have hi:i.toNat<ss.length:=by omega
    have e:Qc (bu ss) i=some (ss[i.toNat]).1:=by
     unfold Qc;rw[if_pos h0',getElem?_map,getElem?_eq_getElem hi];rfl
    rw[e]at q;tm_up;refine Kb hS hg (n:=i.toNat) (by omega) (getElem?_eq_getElem hi) fun b hb=>?_;tm_up;exact q
   ·rw[out fun z=>h1 (decide_eq_true z.2)]at q;exact q
  ·rw[out fun z=>h0 (decide_eq_true z.1)]at q;exact⟨_,rfl,dw q⟩
inductive yH (vs:List V)(H:Hp)(Q:VK)(E:XK):Prop
 |mk (k:Kd) (m:Int) (gw:vs=[.str k.str,.int m]) (gx:Q (.int (pw k m)) H):yH vs H Q E
theorem Mi (T:Txt K w mg t):bK P w K mg base oI (0+1) t.gF t.tT ["kind","measure"] yH:=by
 refine T.kq.ok Lw (fun vs H Q E h=>?_) (fun cdv A outer s H vs Q E hr h=>?_)
 ·obtain⟨_,_,rfl,_⟩:=h;rfl
 ·obtain⟨k,m,rfl,q⟩:=h;refine aS (ah (bf (dh (PW.pt (dX (au (bH.or (bg (az hr))) (pv 1) ai (ay _)) (gM (au abS (pv 0) (cv (v:=.ref t.cg) rfl T.uU rfl) rfl))))) (ak (ax (aK afp (cv (v:=.ref t.cg) rfl T.uU rfl) (pv 0) (fun _ _=>rfl)))) aF) (ak (ax (aK afp (cv (v:=.ref t.dE) rfl T.LV rfl) (pv 0) (fun _ _=>rfl))))) ?_;refine uw (decide (m=2)&&(decide (k=.G)||decide (k=.R))) ?_ ?_
  ·tm_up;rw[gS];refine bp (fun h=>?_) (fun h=>?_)
   ·tm_up;refine⟨_,_,_,rfl,rfl,T.sM,_,rfl,gB ?_⟩;rw[h];cases k <;> decide +kernel
   ·exact gB (by rw[Bool.eq_false_iff.mpr h];rfl)
  ·refine bp (fun h=>?_) (fun h=>?_)
   ·tm_up;obtain⟨h1,h2⟩:=Bool.and_eq_true_iff.mp h;have hm:=of_decide_eq_true h1;have e:[(Str.ofString "G",V.int 2),(Str.ofString "R",V.int 2)].lookup k.str=some (.int (pw k m)):=by
     rw[hm];cases k <;> first|decide +kernel|(exfalso;revert h2;decide)
    exact⟨_,_,_,_,rfl,rfl,T.sM,e,q⟩
   ·tm_up;have e:[(Str.ofString "G",V.int 3),(Str.ofString "D",V.int 2),(Str.ofString "R",V.int 3),(Str.ofString "s",V.int 1),(Str.ofString "d",V.int 1),(Str.ofString "r",V.int 1),(Str.ofString ".",V.int 0),(Str.ofString "3",V.int 0),(Str.ofString "2",V.int 0)].lookup k.str=some (.int (pw k m)):=by
     by_cases hm:m=2
     ·rw[hm]at h ⊢;cases k <;> first|decide +kernel|(exfalso;revert h;decide)
     ·cases k <;> first|decide +kernel|(simp only [pw,if_neg hm];decide +kernel)
    exact⟨_,_,_,_,rfl,rfl,T.Kj,e,q⟩
inductive mr (K:Frag)(vs:List V)(H:Hp)(Q:VK)(E:XK):Prop
 |mk (l:Addr) (b:Int) (xs:List V) (ss:List Sg) (gw:vs=[.ref l,.int b]) (gx:aZ K H l xs) (iW:h9 H xs ss) (m7:ss.length<=400) (tJ:∀(f:Addr)(H':Hp),ar H H'->H f=none->H' f=some (.lst ((ju b (bu ss)).map V.int))->Q (.ref f) H'):mr K vs H Q E
theorem wc (T:Txt K w mg t):bK P w K mg base oI (0+3) t.bQ t.i0 ["line","begin"] (mr K):=by
 have BL:=JU (P:=P) (base:=base) T;have hZ:=wb (P:=P) (base:=base) T;have Oc:=Mi (P:=P) (base:=base) T;refine T.c8.ok eE (fun vs H Q E h=>?_) (fun cdv A outer s H vs Q E hr h=>?_)
 ·obtain⟨_,_,_,_,rfl,_⟩:=h;rfl
 ·obtain⟨l,b,xs,ss,rfl,hS,hg,hn,q⟩:=h;refine aS (ah (aH (i:=2) eE.nd rfl (Or.inl rfl) (bM af)) (ah (ij PassesOwn.never rfl (YW rfl T.v7 (aB BL (hr.mono (by decide)) rfl T.JK T.kU.kp T.vX .nil aL (aa (pv 0) (aa (pv 1) af)))) (oV rfl (bA (aP (i:=3) eE.nd rfl (Or.inl rfl)) (bA (aP (i:=4) eE.nd rfl (Or.inl rfl)) ky))) (ak (bf (dh (PW.pt (dX (au (bH.or (bg (az hr))) (pv 4) ai (ay _)) (dX (au (bH.or (bg (az hr))) (aB hZ (hr.mono (by decide)) rfl T.jF T.fJ.kp T.iV .nil aL (aa (pv 0) (aa (pv 3) af))) av (ay _)) (gM (au (bH.or (bg (az hr))) (aB hZ (hr.mono (by decide)) rfl T.jF T.fJ.kp T.iV .nil aL (aa (pv 0) (aa (aR (bW.or (aJ.or bY)) (pv 3) ai) af))) av (ay _))))))) (ak (bo (m9 plainAttrs_list slot_list_append type_list_append cz (pv 2) (aa (cv (v:=.int 3) rfl T.LW ⟨_,rfl⟩) af)))) (ak (bo (m9 plainAttrs_list slot_list_append type_list_append cz (pv 2) (aa (aB Oc (hr.mono (by decide)) rfl T.LM T.kq.kp T.tW .nil aL (aa (aB hZ (hr.mono (by decide)) rfl T.jF T.fJ.kp T.iV .nil aL (aa (pv 0) (aa (pv 3) af))) (aa (pv 4) af))) af))))))) (ak (ax (pv 2))))) ?_;refine⟨big (by show 0<=1000;omega),fun f hf=>?_⟩;tm_up;refine⟨l,b,xs,ss,rfl,ip hS hf,hg.same (ar.upd hf),hn,fun f2 H2 s2 n2 h2=>⟨_,rfl,⟨_,aZ.of h2⟩,?_⟩⟩;have ml:(jf b (bu ss)).length=ss.length:=by rw[Gk,length_map]
  have nff:f2≠f:=fun e=>by rw[e,ae]at n2;cases n2
  refine TM (K:=K) (xs:=(jf b (bu ss)).map V.int) (fun i σ H'=>∃(v w:Option V)(fs:List Int),σ=[some (.ref l),some (.int b),some (.ref f),v,w]/\ar H H'/\H' f=some (.lst (fs.map V.int))/\H' f2=some (.lst ((jf b (bu ss)).map V.int))/\fs++Be ((bu ss).drop i) ((jf b (bu ss)).drop i)=ju b (bu ss))
   ⟨none,none,[],rfl,(ar.upd hf).trans s2,s2 _ _ ae,h2,T8 ..⟩ ?_ ?_ ?_
  ·rintro i σ H' ⟨v,w,fs,rfl,_,_,h3,_⟩;exact aZ.of h3
  ·rintro i x t σ H' hx ⟨v,w,fs,rfl,s3,h3,h4,hm⟩ ht;obtain⟨m,hm1,rfl⟩:=Qb hx;have hil:i<ss.length:=by
    have:=(List.getElem?_eq_some_iff.mp hm1).1;omega
   have hk:(bu ss)[i]? = some (ss[i]).1:=x3 (getElem?_eq_getElem hil);rw[qc hk,qc hm1]at hm;simp only [Be,head_drop]at hm;have hl:=congrArg List.length hm;simp only [length_append,length_cons,uA,length_map]at hl;have sT:ar H' (upd H' t (.tup [.int i,.int m])):=ar.upd ht;have hS':aZ K (upd H' t (.tup [.int i,.int m])) l xs:=(s3.trans sT).seq hS;have hg':=hg.same (s3.trans sT);have h3':=sT _ _ h3;have ka:Qc (bu ss) (i:Int)=some (ss[i]).1:=by rw[rZ];exact hk
   have kb:Qc (bu ss) ((i:Int)+1)=(bu ss)[i+1]?:=by rw[<-rZ];rfl
   refine⟨t,_,rfl,uo.of ae,rfl,_,_,rfl,_,_,rfl,rfl,?_⟩;have fin:∀ z:Int,z=bw m (ss[i]).1 (bu ss)[i+1]?->∃(v w:Option V)(fs':List Int),[some (V.ref l),some (V.int b),some (V.ref f),some (V.int (i:Int)),some (V.int m)]=[some (.ref l),some (.int b),some (.ref f),v,w]/\ar H (upd (upd H' t (.tup [.int i,.int m])) f (.lst (fs.map V.int++[V.int z]))) /\
     (upd (upd H' t (.tup [.int i,.int m])) f (.lst (fs.map V.int++[V.int z]))) f=some (.lst (fs'.map V.int))/\(upd (upd H' t (.tup [.int i,.int m])) f (.lst (fs.map V.int++[V.int z]))) f2=some (.lst ((jf b (bu ss)).map V.int))/\fs'++Be ((bu ss).drop (i+1)) ((jf b (bu ss)).drop (i+1))=ju b (bu ss):=by
    intro z hz;refine⟨_,_,fs++[z],rfl,jN (s3.trans sT) hf,by rw[ae,map_append];rfl,by rw[ao nff];exact sT _ _ h4,?_⟩;rw[List.append_assoc,hz];exact hm
   refine uw (decide (m=2)&&(decide (rX (Qc (bu ss) (i:Int)) = "G")&&decide (rX (Qc (bu ss) ((i:Int)+1)) = "."))) ?_ ?_
   ·tm_up;rw[gS];refine bp (fun h=>?_) (fun h=>?_)
    ·tm_up;refine⟨l,_,xs,ss,rfl,hS',hg',?_⟩;tm_up;rw[ad6];refine bp (fun h2=>?_) (fun h2=>?_)
     ·tm_up;refine⟨l,_,xs,ss,rfl,hS',hg',?_⟩;tm_up;rw[ad6];exact gB (by rw[h,h2];rfl)
     ·exact gB (by rw[h,Bool.eq_false_iff.mpr h2];rfl)
    ·exact gB (by rw[Bool.eq_false_iff.mpr h];rfl)
   ·refine bp (fun h=>?_) (fun h=>?_)
    ·tm_up;refine⟨.inl ⟨rfl,_,aZ.of h3'⟩,?_⟩;refine⟨_,_,_,rfl,rfl,h3',by rw[length_map];exact ba (by omega),fin 3 ?_⟩;obtain⟨h1,h2⟩:=Bool.and_eq_true_iff.mp h;obtain⟨h2,h5⟩:=Bool.and_eq_true_iff.mp h2;have e1:(ss[i]).1=.G:=by
      have:=of_decide_eq_true h2;rw[ka]at this;exact str_inj.mp (this.trans (rfl:("G":Str)=Kd.G.str))
     have e2:(bu ss)[i+1]? = some .dot:=by
      have:=of_decide_eq_true h5;rw[kb]at this;exact TZ.mp (this.trans (rfl:(".":Str)=rX (some .dot)))
     unfold bw;rw[if_pos ⟨of_decide_eq_true h1,e1,e2⟩]
    ·tm_up;refine⟨.inl ⟨rfl,_,aZ.of h3'⟩,?_⟩;tm_up;refine⟨l,_,xs,ss,rfl,hS',hg',?_⟩;tm_up;rw[ka];refine⟨_,_,rfl,?_⟩;refine⟨_,_,_,rfl,rfl,h3',by rw[length_map];exact ba (by omega),fin _ ?_⟩;unfold bw;rw[if_neg];rintro⟨h1,h2,h5⟩;refine h ?_;rw[ka,kb,h2,h5,h1];decide +kernel
  ·rintro σ H' ⟨v,w,fs,rfl,s3,h3,_,hm⟩;rw[length_map,ml,List.drop_eq_nil_of_le (by rw[length_map];exact Nat.le_refl _)]at hm;tm_up;have e:fs=ju b (bu ss):=by rw[<-hm];simp[Be]
   subst e;exact q f _ s3 hf h3
inductive Zh (K:Frag)(vs:List V)(H:Hp)(Q:VK)(E:XK):Prop
 |mk (l:Addr) (b:Int) (xs:List V) (ss:List Sg) (gw:vs=[.ref l,.int b]) (gx:aZ K H l xs) (iW:h9 H xs ss) (m7:ss.length<=400) (tJ:∀(f:Addr)(ys:List V)(H':Hp),ar H H'->H f=none->H' f=some (.lst ys)->V4 H' ys (xq b (bu ss))->Q (.ref f) H'):Zh K vs H Q E
theorem aer (T:Txt K w mg t):bK P w K mg base oI (0+3) t.BF t.Qo ["line","begin"] (Zh K):=by
 have BL:=JU (P:=P) (base:=base) T;have QC:=UC (P:=P) (base:=base) T;refine T.GS.ok vL (fun vs H Q E h=>?_) (fun cdv A outer s H vs Q E hr h=>?_)
 ·obtain⟨_,_,_,_,rfl,_⟩:=h;rfl
 ·obtain⟨l,b,xs,ss,rfl,hS,hg,hn,q⟩:=h;refine aS (ah (aH (i:=2) vL.nd rfl (Or.inl rfl) (bM af)) (ah (aH (i:=3) vL.nd rfl (Or.inl rfl) ai) (ah (ij PassesOwn.never rfl (aid rfl T.agJ rfl T.v7 (pv 0) (aB BL (hr.mono (by decide)) rfl T.JK T.kU.kp T.vX .nil aL (aa (pv 0) (aa (pv 1) af)))) (oV rfl (bA (aP (i:=4) vL.nd rfl (Or.inl rfl)) (bA (oV rfl (bA (aP (i:=5) vL.nd rfl (Or.inl rfl)) (bA (aP (i:=6) vL.nd rfl (Or.inl rfl)) ky))) ky))) (ak (bf (dh (PW.pt (xK (au (bH.or (bg (az hr))) (pv 6) ai (ay _)) (qA (kG (bZ (aB QC (hr.mono (by decide)) rfl T.Us T.Ae.kp T.K5 .nil aL (aa (pv 5) af)))))))) (ah (tL (bf (au DJ (pv 3) (pv 4) (ay _)) (ak (bo (m9 plainAttrs_list slot_list_append type_list_append cz (pv 2) (aa (bB (aa (pv 3) (aa (pv 4) af))) af)))) aF)) (ak (aH (i:=3) vL.nd rfl (Or.inl rfl) (aR (bW.or (aJ.or bY)) (pv 4) ai)))) aF))) (ah (tL (bf (au DJ (pv 3) (bc (aN.or aO) rfl T.dt dg (aa (pv 0) af)) (ay _)) (ak (bo (m9 plainAttrs_list slot_list_append type_list_append cz (pv 2) (aa (bB (aa (pv 3) (aa (bc (aN.or aO) rfl T.dt dg (aa (pv 0) af)) af))) af)))) aF)) (ak (ax (pv 2))))))) ?_;refine⟨big (by show 0<=1000;omega),fun f hf=>?_⟩;tm_up;refine⟨l,b,xs,ss,rfl,ip hS hf,hg.same (ar.upd hf),hn,fun f2 H2 s2 n2 h2=>⟨_,_,rfl,rfl,⟨xs,((ar.upd hf).trans s2).seq hS⟩,⟨_,aZ.of h2⟩,?_⟩⟩;have ml:(jf b (bu ss)).length=ss.length:=by rw[Gk,length_map]
  have nff:f2≠f:=fun e=>by rw[e,ae]at n2;cases n2
  have cnt:(xq b (bu ss)).length<=401:=by
   have:=oJ (kj b (bu ss)) 0 0;rw[qI,length_map]at this;exact Nat.le_trans this (by omega)
  refine ago (K:=K) (xs:=xs) (ys:=(jf b (bu ss)).map V.int) (fun i σ H'=>∃(v w u:Option V)(first:Nat)(ys:List V)(qs:List (Nat×Nat)),σ=[some (.ref l),some (.int b),some (.ref f),some (.int (first:Int)),v,w,u]/\ar H H'/\H' f=some (.lst ys)/\V4 H' ys qs/\H' f2=some (.lst ((jf b (bu ss)).map V.int))/\first<=i/\qs++fF i first (T9 ((bu ss).drop i) ((jf b (bu ss)).drop i))=xq b (bu ss))
   (by rw[length_map,ml];exact cB hg) ⟨none,none,none,0,[],[],rfl,(ar.upd hf).trans s2,s2 _ _ ae,.nil,h2,Nat.le_refl _,by rw[List.drop_zero,List.drop_zero,V3];rfl⟩ ?_ ?_ ?_
  ·rintro i σ H' ⟨v,w,u,first,ys,qs,rfl,s3,_,_,h4,_⟩;exact⟨s3.seq hS,aZ.of h4⟩
  ·rintro i x y t u' σ H' hx hy ⟨v,w,u,first,ys,qs,rfl,s3,h3,hq,h4,hfi,hm⟩ ht hu htu;obtain⟨s,hs,p,rfl,hp⟩:=Bd hg hx;obtain⟨m,hm1,rfl⟩:=Qb hy;rw[qc (x3 (f:=Prod.fst) hs),qc hm1]at hm;simp only [T9]at hm;have sT:ar H' (upd (upd H' t (.tup [.ref p,.int m])) u' (.tup [.int i,.ref t])):=(ar.upd ht).trans (ar.upd (by rw[ao htu.symm];exact hu));have ut:upd (upd H' t (.tup [.ref p,.int m])) u' (.tup [.int i,.ref t]) t=some (.tup [.ref p,.int m]):=by rw[ao htu,ae]
   refine⟨u',_,rfl,uo.of ae,rfl,_,_,rfl,_,_,rfl,t,_,rfl,uo.of ut,rfl,_,_,rfl,_,_,rfl,rfl,rfl,?_⟩;generalize upd (upd H' t (.tup [.ref p,.int m])) u' (.tup [.int i,.ref t])=H3 at sT;have hp3:=(s3.trans sT) _ _ hp;have h33:=sT _ _ h3;have hq3:=r9 sT hq;refine uw (!inR m s.1) ?_ ?_
   ·tm_up;rw[gS];refine bp (fun h=>?_) (fun h=>?_)
    ·refine gB ?_;unfold inR;have:=of_decide_eq_true h;simp[this]
    ·tm_up;refine⟨p,s,rfl,hp3,_,rfl,gB ?_⟩;have hm2:m≠2:=fun e=>h (decide_eq_true e);unfold inR;simp[hm2]
   ·cases hin:inR m s.1 with
    |false =>
     rw[hin]at hm;refine jr ?_;refine⟨fun σ1 H1=>σ1=[some (.ref l),some (.int b),some (.ref f),some (.int (first:Int)),some (.int i),some (.ref p),some (.int m)]/\ar H H1/\(∃ ys',H1 f=some (.lst ys')/\V4 H1 ys' (qs++if first<i then [(first,i)] else []))/\H1 f2=some (.lst ((jf b (bu ss)).map V.int)),?_,?_⟩
     ·tm_up;refine bp (fun h=>?_) (fun h=>?_)
      ·have hlt:first<i:=by have:=of_decide_eq_true h;omega
       have ql:qs.length<=401:=by
        have:=congrArg List.length hm;simp only [length_append]at this;omega
       tm_up;refine⟨.inl ⟨rfl,_,aZ.of h33⟩,?_⟩;tm_up;refine⟨by show 2<=sizeLine;decide,fun z hz=>?_⟩;have sz:ar H3 (upd H3 z (.tup [.int (first:Int),.int i])):=ar.upd hz;have h3z:=sz _ _ h33;refine⟨_,_,_,rfl,rfl,h3z,by rw[cB hq3];exact ba (by omega),?_⟩;rw[if_pos hlt];exact⟨rfl,jN ((s3.trans sT).trans sz) hf,⟨_,ae,qH (qJ h3z (r9 sz hq3)) (Ua h3z ⟨z,rfl,ae⟩)⟩,by rw[ao nff];exact sz _ _ (sT _ _ h4)⟩
      ·have hlt:¬ first<i:=fun z=>h (decide_eq_true (by omega))
       rw[if_neg hlt,append_nil];exact⟨rfl,s3.trans sT,⟨_,h33,hq3⟩,sT _ _ h4⟩
     ·rintro σ1 H1 ⟨rfl,sa,⟨ys',hb,hc⟩,hd⟩;tm_up;refine⟨_,_,_,i+1,ys',_,rfl,sa,hb,hc,hd,Nat.le_refl _,?_⟩;rw[<-hm,List.append_assoc];rfl
    |true =>
     rw[hin]at hm;refine dw ?_;exact⟨_,_,_,first,ys,qs,rfl,s3.trans sT,h33,hq3,sT _ _ h4,by omega,hm⟩
  ·rintro σ H' ⟨v,w,u,first,ys,qs,rfl,s3,h3,hq,h4,hfi,hm⟩;rw[cB hg]at hm hfi;rw[List.drop_eq_nil_of_le (by rw[length_map];exact Nat.le_refl _)]at hm;have hm':qs++(if first<ss.length then [(first,ss.length)] else [])=xq b (bu ss):=hm;have ql:qs.length<=401:=by
    have:=congrArg List.length hm;simp only [length_append]at this;omega
   refine⟨fun σ1 H1=>σ1=[some (.ref l),some (.int b),some (.ref f),some (.int (first:Int)),v,w,u]/\ar H H1/\∃ ys',H1 f=some (.lst ys')/\V4 H1 ys' (xq b (bu ss)),?_,?_⟩
   ·tm_up;refine .inl ⟨_,_,rfl,.inl (s3.seq hS),?_⟩;rw[cB hg];tm_up;refine bp (fun h=>?_) (fun h=>?_)
    ·have hlt:first<ss.length:=by have:=of_decide_eq_true h;omega
     tm_up;refine⟨.inl ⟨rfl,_,aZ.of h3⟩,?_⟩;tm_up;refine .inl ⟨_,_,rfl,.inl (s3.seq hS),?_⟩;rw[cB hg];refine⟨by show 2<=sizeLine;decide,fun z hz=>?_⟩;have sz:ar H' (upd H' z (.tup [.int (first:Int),.int (ss.length:Int)])):=ar.upd hz;have h3z:=sz _ _ h3;refine⟨_,_,_,rfl,rfl,h3z,by rw[cB hq];exact ba (by omega),?_⟩;rw[if_pos hlt]at hm';rw[<-hm'];exact⟨rfl,jN (s3.trans sz) hf,_,ae,qH (qJ h3z (r9 sz hq)) (Ua h3z ⟨z,rfl,ae⟩)⟩
    ·have hlt:¬ first<ss.length:=fun z=>h (decide_eq_true (by omega))
     rw[if_neg hlt,append_nil]at hm';rw[<-hm'];exact⟨rfl,s3,_,h3,hq⟩
   ·rintro σ1 H1 ⟨rfl,sa,ys',hb,hc⟩;tm_up;exact q f ys' H1 sa hf hb hc
inductive uX (K:Frag)(vs:List V)(H:Hp)(Q:VK)(E:XK):Prop
 |mk (l f:Addr) (a:Nat) (xs:List V) (ss:List Sg) (fs:List Int) (gw:vs=[.ref l,.ref f,.int (a:Int)]) (gx:aZ K H l xs) (iW:h9 H xs ss) (m7:H f=some (.lst (fs.map V.int))) (tJ:fs.length=ss.length) (Tx:Q (.bl (km (bu ss) fs a)) H):uX K vs H Q E
theorem uY (T:Txt K w mg t):bK P w K mg base oI (0+2) t.dZ t.o3 ["line","found","first"] (uX K):=by
 have hZ:=wb (P:=P) (base:=base) T;refine T.fK.ok Gw (fun vs H Q E h=>?_) (fun cdv A outer s H vs Q E hr h=>?_)
 ·obtain⟨_,_,_,_,_,_,rfl,_⟩:=h;rfl
 ·obtain⟨l,f,a,xs,ss,fs,rfl,hS,hg,hf,hl,q⟩:=h;refine aS (ak (ax (cM (kH (bS (bH.or (bg (az hr))) (aB hZ (hr.mono (by decide)) rfl T.jF T.fJ.kp T.iV .nil aL (aa (pv 0) (aa (aR js (pv 2) ai) af))) av (ay _)) (j5 (bS (bH.or (bg (az hr))) (aK aA (pv 1) (aR js (pv 2) ai) (fun _ _=>rfl)) (cv (v:=.int 3) rfl T.Qw ⟨_,rfl⟩) (ay _))))))) ?_;refine DT (.bl (km (bu ss) fs a)) ?_ q;tm_up;refine⟨l,_,xs,ss,rfl,hS,hg,?_⟩;tm_up;rw[o_G];refine bp (fun h=>?_) (fun h=>?_)
  ·have e:=of_decide_eq_true h;have e':1<=a/\a-1<ss.length:=by
    unfold Qc at e;split at e
    ·have:=(List.getElem?_eq_some_iff.mp e).1;rw[length_map]at this;omega
    ·cases e
   tm_up;refine ach (aZ.of hf) (n:=a-1) (by omega) (getElem?_eq_getElem (by omega)) ?_;tm_up;rw[gS];refine qb ?_;unfold km;rw[h,List.getD_eq_getElem?_getD,getElem?_eq_getElem (by omega)];rfl
  ·refine qb ?_;unfold km;rw[Bool.eq_false_iff.mpr h];rfl
inductive sS (K:Frag)(vs:List V)(H:Hp)(Q:VK)(E:XK):Prop
 |mk (l:Addr) (z:Nat) (xs:List V) (ss:List Sg) (gw:vs=[.ref l,.int (z:Int)]) (gx:aZ K H l xs) (iW:h9 H xs ss) (m7:Q (.bl (iq (bu ss) z)) H):sS K vs H Q E
theorem Zi (k:Option Kd):inV (.str (rX k)) [.str "G",.str "D",.str "R"]=tN k:=by
 cases k with
 |none=>decide +kernel
 |some k=>cases k <;> decide +kernel
theorem sU (T:Txt K w mg t):bK P w K mg base oI (0+2) t.dm t.nM ["line","behind"] (sS K):=by
 have hZ:=wb (P:=P) (base:=base) T;refine T.eQ.ok Eh (fun vs H Q E h=>?_) (fun cdv A outer s H vs Q E hr h=>?_)
 ·obtain⟨_,_,_,_,rfl,_⟩:=h;rfl
 ·obtain⟨l,z,xs,ss,rfl,hS,hg,q⟩:=h;refine aS (ak (ax (cM (kH (bS (bH.or (bg (az hr))) (aB hZ (hr.mono (by decide)) rfl T.jF T.fJ.kp T.iV .nil aL (aa (pv 0) (aa (pv 1) af))) av (ay _)) (j5 (bS (vn.or vo) (aB hZ (hr.mono (by decide)) rfl T.jF T.fJ.kp T.iV .nil aL (aa (pv 0) (aa (aR (bW.or (aJ.or bY)) (pv 1) ai) af))) (cv (v:=.ref t.eL) rfl T.AY rfl) rfl)))))) ?_;refine DT (.bl (iq (bu ss) z)) ?_ q;tm_up;refine⟨l,_,xs,ss,rfl,hS,hg,?_⟩;tm_up;rw[o_G];refine bp (fun h=>?_) (fun h=>?_)
  ·tm_up;refine⟨l,_,xs,ss,rfl,hS,hg,?_⟩;tm_up;refine .inl ⟨_,_,rfl,.inr (T.AZ _),rfl,rfl,qb ?_⟩;unfold iq;rw[rZ]at h;have e:Qc (bu ss) ((z:Int)+1)=(bu ss)[z+1]?:=by rw[<-rZ];rfl
   rw[h,<-Zi,<-e];rfl
  ·refine qb ?_;unfold iq;rw[rZ]at h;rw[Bool.eq_false_iff.mpr h];rfl
def acM (K:Frag)(g:List Kd->List Int->Nat->Nat->Bool×List Int):Sp:=fun vs H Q _=>∃(l f:Addr)(a z:Nat)(xs:List V)(ss:List Sg)(fs:List Int),vs=[.ref l,.ref f,.int (a:Int),.int (z:Int)]/\aZ K H l xs/\h9 H xs ss/\H f=some (.lst (fs.map V.int))/\fs.length=ss.length/\a<z/\z<=ss.length /\
 Q (.bl (g (bu ss) fs a z).1) (upd H f (.lst ((g (bu ss) fs a z).2.map V.int)))
theorem BM (T:Txt K w mg t):bK P w K mg base oI (0+3) t.cO t.lR ["line","found","first","behind"] (acM K DX):=by
 have o8:=uY (P:=P) (base:=base) T;have nS:=sU (P:=P) (base:=base) T;refine T.fW.ok Bn (fun vs H Q E h=>?_) (fun cdv A outer s H vs Q E hr h=>?_)
 ·obtain⟨_,_,_,_,_,_,_,rfl,_⟩:=h;rfl
 ·obtain⟨l,f,a,z,xs,ss,fs,rfl,hS,hg,hf,hl,haz,hz,q⟩:=h;unfold DX at q;refine aS (ah (bf (bZ (aB o8 (hr.mono (by decide)) rfl T.uR T.fK.kp T.kF .nil aL (aa (pv 0) (aa (pv 1) (aa (pv 2) af))))) (ah (lF (cv (v:=.int 2) rfl T.jn ⟨_,rfl⟩) (xM (pv 1) (aR js (pv 2) ai) set_list)) (ak (ax fM))) aF) (ah (bf (bZ (aB nS (hr.mono (by decide)) rfl T.sH T.eQ.kp T.j0 .nil aL (aa (pv 0) (aa (pv 3) af)))) (ah (lF (cv (v:=.int 2) rfl T.jn ⟨_,rfl⟩) (xM (pv 1) (pv 3) set_list)) (ak (ax fM))) aF) (ak (ax fM)))) ?_;tm_up;refine⟨l,f,a,xs,ss,fs,rfl,hS,hg,hf,hl,_,rfl,?_⟩;refine bp (fun h=>?_) (fun h=>?_)
  ·rw[if_pos h]at q;have hp:=Gm h;rw[length_map]at hp;tm_up;refine⟨_,_,_,_,rfl,rfl,hf,sd (j:=a-1) (by omega) (by rw[length_map];omega),?_⟩;rw[oB];exact q
  ·rw[if_neg h]at q;tm_up;refine⟨l,z,xs,ss,rfl,hS,hg,_,rfl,?_⟩;refine bp (fun h2=>?_) (fun h2=>?_)
   ·rw[if_pos h2]at q;have hp:=Bg h2;rw[length_map]at hp;tm_up;refine⟨_,_,_,_,rfl,rfl,hf,sd (j:=z) rfl (by rw[length_map];omega),?_⟩;rw[oB];exact q
   ·rw[if_neg h2,DZ hf]at q;exact q
theorem BN (T:Txt K w mg t):bK P w K mg base oI (0+3) t.cP t.lS ["line","found","first","behind"] (acM K DY):=by
 have o8:=uY (P:=P) (base:=base) T;have nS:=sU (P:=P) (base:=base) T;have hZ:=wb (P:=P) (base:=base) T;refine T.fX.ok Bo (fun vs H Q E h=>?_) (fun cdv A outer s H vs Q E hr h=>?_)
 ·obtain⟨_,_,_,_,_,_,_,rfl,_⟩:=h;rfl
 ·obtain⟨l,f,a,z,xs,ss,fs,rfl,hS,hg,hf,hl,haz,hz,q⟩:=h;unfold DY at q;refine aS (ah (bf (dh (PW.pt (dX (au (cV.or cU) (aB hZ (hr.mono (by decide)) rfl T.jF T.fJ.kp T.iV .nil aL (aa (pv 0) (aa (pv 3) af))) (cv (v:=.ref t.eL) rfl T.AY rfl) rfl) (gM (au (bH.or (bg (az hr))) (aB hZ (hr.mono (by decide)) rfl T.jF T.fJ.kp T.iV .nil aL (aa (pv 0) (aa (aR js (pv 3) ai) af))) av (ay _)))))) (ah (lF (cv (v:=.int 2) rfl T.Kk ⟨_,rfl⟩) (xM (pv 1) (aR js (pv 3) ai) set_list)) (ak (ax fM))) aF) (ah (bf (dh (PW.pt (dX (bZ (aB o8 (hr.mono (by decide)) rfl T.uR T.fK.kp T.kF .nil aL (aa (pv 0) (aa (pv 1) (aa (pv 2) af))))) (gM (bZ (aB nS (hr.mono (by decide)) rfl T.sH T.eQ.kp T.j0 .nil aL (aa (pv 0) (aa (pv 3) af)))))))) (ah (lF (cv (v:=.int 2) rfl T.jn ⟨_,rfl⟩) (xM (pv 1) (aR js (pv 2) ai) set_list)) (ah (lF (cv (v:=.int 2) rfl T.jn ⟨_,rfl⟩) (xM (pv 1) (pv 3) set_list)) (ak (ax fM)))) aF) (ak (ax fM)))) ?_;refine uw (tN (bu ss)[z]? && decide ((bu ss)[z-1]? = some .s)) ?_ ?_
  ·tm_up;refine⟨l,_,xs,ss,rfl,hS,hg,?_⟩;tm_up;refine .inl ⟨_,_,rfl,.inr (T.AZ _),rfl,rfl,_,rfl,?_⟩;show if inV (.str (rX (Qc (bu ss) (z:Int)))) [.str "G",.str "D",.str "R"]=true then _ else _;rw[Zi,rZ];refine bp (fun h=>?_) (fun h=>?_)
   ·tm_up;refine⟨l,_,xs,ss,rfl,hS,hg,?_⟩;tm_up;rw[o_s];have e:Qc (bu ss) ((z:Int)-1)=(bu ss)[z-1]?:=by rw[<-rZ];congr 1;omega
    rw[e];exact gB (by rw[h];rfl)
   ·exact gB (by rw[Bool.eq_false_iff.mpr h];rfl)
  ·refine bp (fun h=>?_) (fun h=>?_)
   ·rw[if_pos h]at q;tm_up;refine⟨_,_,_,_,rfl,rfl,hf,sd (j:=z-1) (by omega) (by rw[length_map];omega),?_⟩;rw[oB];exact q
   ·rw[if_neg h]at q;refine uw (km (bu ss) fs a&&iq (bu ss) z) ?_ ?_
    ·tm_up;refine⟨l,f,a,xs,ss,fs,rfl,hS,hg,hf,hl,_,rfl,?_⟩;refine bp (fun h=>?_) (fun h=>?_)
     ·tm_up;refine⟨l,z,xs,ss,rfl,hS,hg,_,rfl,gB ?_⟩;rw[h];rfl
     ·exact gB (by rw[Bool.eq_false_iff.mpr h];rfl)
    ·refine bp (fun h2=>?_) (fun h2=>?_)
     ·rw[if_pos h2]at q;have hp:=Gm (Bool.and_eq_true_iff.mp h2).1;have hr:=Bg (Bool.and_eq_true_iff.mp h2).2;rw[length_map]at hp hr;tm_up;refine⟨_,_,_,_,rfl,rfl,hf,sd (j:=a-1) (by omega) (by rw[length_map];omega),?_⟩;rw[oB];tm_up;refine⟨_,_,_,_,rfl,rfl,ae,sd (j:=z) rfl (by rw[length_map,List.length_set];omega),?_⟩;rw[oB,cI];exact q
     ·rw[if_neg h2,DZ hf]at q;exact q
theorem Od (T:Txt K w mg t):bK P w K mg base oI (0+4) t.iy t.vS ["line","found","first","behind"] (acM K settle):=by
 have ES:=BM (P:=P) (base:=base) T;have ET:=BN (P:=P) (base:=base) T;refine T.me.ok AW (fun vs H Q E h=>?_) (fun cdv A outer s H vs Q E hr h=>?_)
 ·obtain⟨_,_,_,_,_,_,_,rfl,_⟩:=h;rfl
 ·obtain⟨l,f,a,z,xs,ss,fs,rfl,hS,hg,hf,hl,haz,hz,q⟩:=h;unfold settle at q;refine aS (ah (aH (i:=4) AW.nd rfl (Or.inl rfl) (aR j6 (aR js (pv 3) (pv 2)) ai)) (ah (bf (au (bH.or (bg (az hr))) (pv 4) ai (ay _)) (ak (ax (aB ES (hr.mono (by decide)) rfl T.BI T.fW.kp T.ma .nil aL (aa (pv 0) (aa (pv 1) (aa (pv 2) (aa (pv 3) af))))))) aF) (ah (bf (au (bH.or (bg (az hr))) (pv 4) ai (ay _)) (ak (ax (aB ET (hr.mono (by decide)) rfl T.BJ T.fX.kp T.md .nil aL (aa (pv 0) (aa (pv 1) (aa (pv 2) (aa (pv 3) af))))))) aF) (ak (ax fM))))) ?_;tm_up;rw[gS];have e:((z:Int)-(a:Int)) % 3=(((z-a) % 3:Nat):Int):=by omega
  refine bp (fun h=>?_) (fun h=>?_)
  ·have h1:(z-a) % 3=1:=by have:((z:Int)-(a:Int)) % 3=1:=of_decide_eq_true h;omega
   rw[if_pos h1]at q;tm_up;exact⟨l,f,a,z,xs,ss,fs,rfl,hS,hg,hf,hl,haz,hz,q⟩
  ·have h1:¬(z-a) % 3=1:=fun c=>h (decide_eq_true (by show((z:Int)-(a:Int)) % 3=1;omega));rw[if_neg h1]at q;tm_up;rw[gS];refine bp (fun h=>?_) (fun h=>?_)
   ·have h2:(z-a) % 3=2:=by have:((z:Int)-(a:Int)) % 3=2:=of_decide_eq_true h;omega
    rw[if_pos h2]at q;tm_up;exact⟨l,f,a,z,xs,ss,fs,rfl,hS,hg,hf,hl,haz,hz,q⟩
   ·have h2:¬(z-a) % 3=2:=fun c=>h (decide_eq_true (by show((z:Int)-(a:Int)) % 3=2;omega));rw[if_neg h2,DZ hf]at q;exact q
inductive Mj (K:Frag)(vs:List V)(H:Hp)(Q:VK)(E:XK):Prop
 |mk (l:Addr) (b:Int) (xs:List V) (ss:List Sg) (gw:vs=[.ref l,.int b]) (gx:aZ K H l xs) (iW:h9 H xs ss) (m7:ss.length<=400) (tJ:∀(p f lo:Addr)(ys:List V)(H':Hp),ar H H'->H f=none->H lo=none->f≠lo->H' p=some (.tup [.ref f,.ref lo])->H' f=some (.lst ((lq b (bu ss)).1.map V.int))->H' lo=some (.lst ys)->V4 H' ys (lq b (bu ss)).2->Q (.ref p) H'):Mj K vs H Q E
theorem WR (T:Txt K w mg t):bK P w K mg base oI (0+5) t.nN t.GK ["line","begin"] (Mj K):=by
 have xF:=wc (P:=P) (base:=base) T;have agX:=aer (P:=P) (base:=base) T;have QF:=Od (P:=P) (base:=base) T;refine T.uS.ok qM (fun vs H Q E h=>?_) (fun cdv A outer s H vs Q E hr h=>?_)
 ·obtain⟨_,_,_,_,rfl,_⟩:=h;rfl
 ·obtain⟨l,b,xs,ss,rfl,hS,hg,hn,q⟩:=h;refine aS (ah (aH (i:=2) qM.nd rfl (Or.inl rfl) (aB xF (hr.mono (by decide)) rfl T.vY T.c8.kp T.i5 .nil aL (aa (pv 0) (aa (pv 1) af)))) (ah (aH (i:=3) qM.nd rfl (Or.inl rfl) (bM af)) (ah (ij PassesOwn.never rfl (fN (aB agX (hr.mono (by decide)) rfl T.aeg T.GS.kp T.Ww .nil aL (aa (pv 0) (aa (pv 1) af)))) (oV rfl (bA (aP (i:=4) qM.nd rfl (Or.inl rfl)) (bA (aP (i:=5) qM.nd rfl (Or.inl rfl)) ky))) (ak (bf (kG (bZ (aB QF (hr.mono (by decide)) rfl T.N4 T.me.kp T.vZ .nil aL (aa (pv 0) (aa (pv 2) (aa (pv 4) (aa (pv 5) af))))))) (ak (bo (m9 plainAttrs_list slot_list_append type_list_append cz (pv 3) (aa (bB (aa (pv 4) (aa (pv 5) af))) af)))) aF))) (ak (ax (bB (aa (pv 2) (aa (pv 3) af)))))))) ?_;tm_up;refine⟨l,b,xs,ss,rfl,hS,hg,hn,fun f H1 s1 n1 h1=>?_⟩;refine⟨big (by show 0<=1000;omega),fun lo hlo=>?_⟩;have s1':=s1.trans (ar.upd (o:=.lst []) hlo);tm_up;refine⟨l,b,xs,ss,rfl,s1'.seq hS,hg.same s1',hn,fun r zs H2 s2 n2 h2 hz=>⟨_,rfl,⟨_,aZ.of h2⟩,?_⟩⟩;have acN:H lo=none:=s1.free hlo;have nfl:f≠lo:=aq h1 hlo;have nrf:r≠f:=fun e=>by
   have:=s1'.free n2;have h1':=ar.upd (o:=.lst []) hlo _ _ h1;rw[<-e,n2]at h1';cases h1'
  have nrl:r≠lo:=fun e=>by rw[e,ae]at n2;cases n2
  have bl:(ju b (bu ss)).length=ss.length:=by rw[uA,length_map]
  have cnt:(xq b (bu ss)).length<=401:=by
   have:=oJ (kj b (bu ss)) 0 0;rw[qI,length_map]at this;exact Nat.le_trans this (by omega)
  refine lG (K:=K) (xs:=zs) (fun i σ H'=>∃(v w:Option V)(c:RdS)(ys:List V),σ=[some (.ref l),some (.int b),some (.ref f),some (.ref lo),v,w]/\ar H H'/\H' f=some (.lst (c.1.map V.int))/\H' lo=some (.lst ys)/\V4 H' ys c.2/\H' r=some (.lst zs)/\V4 H' zs (xq b (bu ss))/\c.1.length=ss.length/\c.2.length<=i/\((xq b (bu ss)).drop i).foldl (tO (bu ss)) c=lq b (bu ss))
   ⟨none,none,(ju b (bu ss),[]),[],rfl,s1'.trans s2,s2 _ _ (ar.upd (o:=.lst []) hlo _ _ h1),s2 _ _ ae,.nil,h2,hz,bl,Nat.le_refl _,rfl⟩ ?_ ?_ ?_
  ·rintro i σ H' _ ⟨v,w,c,ys,rfl,_,_,_,_,hr,_⟩;exact aZ.of hr
  ·rintro i x σ H' hx ⟨v,w,c,ys,rfl,s3,hf3,ag0,hys,hr3,hzs,hcl,hci,sV⟩;obtain⟨pr,hpr,p,rfl,hp⟩:=Bd hzs hx;have hin:=acj b (bu ss) pr (mem_of_getElem? hpr);rw[length_map]at hin;rw[qc hpr,List.foldl_cons]at sV;have hil:i<401:=by
    have:=(List.getElem?_eq_some_iff.mp hpr).1;omega
   refine⟨p,_,rfl,uo.of hp,rfl,_,_,rfl,_,_,rfl,rfl,?_⟩;tm_up;refine⟨l,f,pr.1,pr.2,xs,ss,c.1,rfl,s3.seq hS,hg.same s3,hf3,hcl,hin.1,hin.2,?_⟩;have s4:ar H (upd H' f (.lst ((settle (bu ss) c.1 pr.1 pr.2).2.map V.int))):=jN s3 n1;have WS:upd H' f (.lst ((settle (bu ss) c.1 pr.1 pr.2).2.map V.int)) lo=some (.lst ys):=by rw[ao nfl.symm];exact ag0
   have hr4:upd H' f (.lst ((settle (bu ss) c.1 pr.1 pr.2).2.map V.int)) r=some (.lst zs):=by rw[ao nrf];exact hr3
   have aiZ:(settle (bu ss) c.1 pr.1 pr.2).2.length=ss.length:=by rw[Bf];exact hcl
   tm_up;refine bp (fun h=>?_) (fun h=>?_)
   ·have hst:(settle (bu ss) c.1 pr.1 pr.2).1=false:=by
     cases e:(settle (bu ss) c.1 pr.1 pr.2).1
     ·rfl
     ·rw[e]at h;cases h
    tm_up;refine⟨.inl ⟨rfl,_,aZ.of WS⟩,?_⟩;tm_up;refine⟨by show 2<=sizeLine;decide,fun z hz=>?_⟩;have sz:=ar.upd (o:=.tup [.int (pr.1:Int),.int (pr.2:Int)]) hz;have UH:=sz _ _ WS;refine⟨_,_,_,rfl,rfl,UH,by rw[cB hys];exact ba (by omega),?_⟩;refine⟨_,_,((settle (bu ss) c.1 pr.1 pr.2).2,c.2++[pr]),_,rfl,jN (s4.trans sz) acN,by rw[ao nfl];exact sz _ _ ae,ae,qH (qJ UH (r9 sz (qJ hf3 hys))) (Ua UH ⟨z,rfl,ae⟩),
     by rw[ao nrl];exact sz _ _ hr4,qJ UH (r9 sz (qJ hf3 hzs)),aiZ,by simp;omega,?_⟩
    rw[<-sV];unfold tO;rw[hst];rfl
   ·have hst:(settle (bu ss) c.1 pr.1 pr.2).1=true:=by
     cases e:(settle (bu ss) c.1 pr.1 pr.2).1
     ·rw[e]at h;exact absurd rfl h
     ·rfl
    refine⟨_,_,((settle (bu ss) c.1 pr.1 pr.2).2,c.2),ys,rfl,s4,ae,WS,qJ hf3 hys,hr4,qJ hf3 hzs,aiZ,by show c.2.length<=i+1;omega,?_⟩;rw[<-sV];unfold tO;rw[hst];rfl
  ·rintro σ H' ⟨v,w,c,ys,rfl,s3,hf3,ag0,hys,hr3,hzs,hcl,hci,sV⟩;rw[cB hz,List.drop_length]at sV;have e:c=lq b (bu ss):=sV;subst e;tm_up;refine⟨by show 2<=sizeLine;decide,fun z hz=>?_⟩;have sz:=ar.upd (o:=.tup [.ref f,.ref lo]) hz;exact q z f lo ys _ (s3.trans sz) n1 acN nfl ae (sz _ _ hf3) (sz _ _ ag0) (r9 sz hys)
inductive Pr (K:Frag)(vs:List V)(H:Hp)(Q:VK)(E:XK):Prop
 |mk (l:Addr) (b:Int) (xs:List V) (ss:List Sg) (gw:vs=[.ref l,.int b]) (gx:aZ K H l xs) (iW:h9 H xs ss) (m7:ss.length<=400) (tJ:∀(f:Addr)(H':Hp),ar H H'->H f=none->H' f=some (.lst ((lq b (bu ss)).1.map V.int))->Q (.ref f) H'):Pr K vs H Q E
theorem aae (T:Txt K w mg t):bK P w K mg base oI (0+6) t.qT t.Ej ["line","begin"] (Pr K):=by
 have aaf:=WR (P:=P) (base:=base) T;refine T.rb.ok ZZ (fun vs H Q E h=>?_) (fun cdv A outer s H vs Q E hr h=>?_)
 ·obtain⟨_,_,_,_,rfl,_⟩:=h;rfl
 ·obtain⟨l,b,xs,ss,rfl,hS,hg,hn,q⟩:=h;refine aS (ak (ax (aK aA (aB aaf (hr.mono (by decide)) rfl T.Wx T.uS.kp T.GU .nil aL (aa (pv 0) (aa (pv 1) af))) ai (fun _ _=>rfl)))) ?_;tm_up;refine⟨l,b,xs,ss,rfl,hS,hg,hn,fun p f lo ys H' s1 n1 n2 _ hp hf _ _=>?_⟩;tm_up;exact q f H' s1 n1 hf
inductive EU (c:Cs)(vs:List V)(H:Hp)(Q:VK)(E:XK):Prop
 |mk (x:Addr) (F:Addr->Prop) (vw:Vw) (ps fs:List Vw) (n:Str) (gw:vs=[.ref x,.str n]) (gx:zV c H x F vw ps fs) (iW:match aM vw n with
 |none=>RX E c .dR H
 |some _=>∀(l:Addr)(H':Hp),H l=none->ar H H'->H' l=some (.lst ((Pa vw n).map V.int))->Q (.ref l) H'):EU c vs H Q E
theorem QG (T:Txt K w mg t):bK P w K mg base (iI P w) (0+7) t.dC t.yj ["self","name"] (EU (cs t)):=by
 have mj:=tY (P:=P) (base:=base) T;have UI:=aae (P:=P) (base:=base) T;have ig:=v8 (P:=P) (base:=base) T;refine T.sI.P5 iw (fun vs H Q E h=>?_) (fun cdv A outer s H vs Q E hr h=>?_)
 ·obtain⟨_,_,_,_,_,_,rfl,_⟩:=h;rfl
 ·obtain⟨x,F,vw,ps,fs,n,rfl,B,q⟩:=h;refine aS (ah (aH (i:=2) iw.nd rfl (Or.inl rfl) (bT (X:=(cK (iI P w) P w K mg base ["self","name","terms","leader","later","slow","is_turned","begin"] "Book.kept" (ag fP) t.dC cdv A outer s H E)) (pv 0) T.aE T.tV mj (hr.mono (by decide)) T.lY .nil (fun _ _ z=>Or.inl z) (aa (pv 1) af))) (ah (bf (au VG (pv 2) j4 (ay _)) (ak (ax (aB UI (hr.mono (by decide)) rfl T.Pj T.rb.kp T.Er .nil aL (aa (bT (X:=(cK (iI P w) P w K mg base ["self","name","terms","leader","later","slow","is_turned","begin"] "Book.kept" (ag fP) t.dC cdv A outer s H E)) (pv 0) T.aE T.iD ig (hr.mono (by decide)) T.fV .nil (fun _ _ z=>Or.inl z) (aa (pv 1) af)) (aa ai af))))) aF) (ah (lF (pv 2) (oV rfl (bA (aP (i:=3) iw.nd rfl (Or.inl rfl)) (bA (aP (i:=4) iw.nd rfl (Or.inl rfl)) (bA (aP (i:=5) iw.nd rfl (Or.inr rfl)) (bA (aP (i:=6) iw.nd rfl (Or.inl rfl)) ky)))))) (ah (aH (i:=7) iw.nd rfl (Or.inl rfl) (cM (gR (bZ (pv 6)) ai ai))) (ak (ax (oC (cn:=["worth"]) rfl (dQ.of rfl) (fN (aB UI (hr.mono (by decide)) rfl T.Pj T.rb.kp T.Er .nil aL (aa (bT (X:=(cK (iI P w) P w K mg base ["self","name","terms","leader","later","slow","is_turned","begin"] "Book.kept" (ag fP) t.dC cdv A outer s H E)) (pv 0) T.aE T.iD ig (hr.mono (by decide)) T.fV .nil (fun _ _ z=>Or.inl z) (aa (pv 1) af)) (aa (pv 7) af)))) (fun _=>(aP (i:=0) Ly rfl (Or.inl rfl))) (fun _=>vv) (fun _=>(aR (vh.or vq) (pv 6) (pv 0)))))))))) ?_;obtain⟨L,D,U,all,M,Ps,Fs,es,us,b,iM,pp,pf,f⟩:=B.ex;obtain⟨dx,hx⟩:=b.hx;have wv:=B.wv vw (.inr (.inl rfl));refine⟨_,rfl,x,dx,_,rfl,hx,vC _ _ _,_,rfl,x,F,vw,ps,fs,n,rfl,B,?_⟩;cases hf:aM vw n with
  |none =>
   rw[hf]at q;exact q
  |some th =>
   rw[hf]at q;cases th with
   |pl ss =>
    have gl:=(wv.gd _ _ (di hf)).1;refine⟨_,rfl,rfl,_,rfl,?_⟩;refine bp (fun _=>?_) (fun h=>absurd (by decide) h);refine⟨_,rfl,x,dx,_,rfl,hx,jv _ _ _,_,rfl,x,F,vw,ps,fs,n,rfl,B,?_⟩;rw[hf];intro l ys H1 hl s1 h1 g1;rw[qK hf]at g1;refine⟨l,3,ys,ss,rfl,aZ.of h1,g1,by omega,fun f' H2 s2 n2 h2=>?_⟩;exact q f' H2 (s1.free n2) (s1.trans s2) (by rw[Lq hf];exact h2)
   |cn ld lt sl tn =>
    intro p hp;obtain⟨⟨ss,hld⟩,lt0,lt1,sl0,sl1⟩:=wv.ld n ld lt sl tn (di hf);have hfl:=wv.find hld;have gl:=(wv.gd _ _ hld).1;rw[D7 hf hfl]at q;refine⟨_,rfl,rfl,_,rfl,?_⟩;refine bp (fun h=>by have:=of_decide_eq_true h;cases this) (fun _=>?_);refine⟨_,rfl,p,_,rfl,uo.of hp,rfl,_,_,rfl,_,_,rfl,_,_,rfl,_,_,rfl,rfl,?_⟩;refine⟨fun v H'=>v=.int (if tn=true then 2 else 3)/\H'=H,?_,?_⟩
    ·refine⟨_,rfl,_,rfl,?_⟩;cases tn with
     |true=>exact jr ⟨rfl,rfl⟩
     |false=>exact dw ⟨rfl,rfl⟩
    intro v0 H0 ⟨e1,e2⟩;rw[e1,e2];refine⟨_,rfl,x,dx,_,rfl,hx,jv _ _ _,_,rfl,x,F,vw,ps,fs,n,rfl,B,?_⟩;rw[hf];intro l ys H1 hl s1 h1 g1;rw[uE hf hfl]at g1;have gl2:(if tn=true then ss.map sf else ss).length<=400:=by
     split
     ·rw[length_map];omega
     ·omega
    refine⟨_,rfl,l,(if tn=true then 2 else 3),ys,_,rfl,aZ.of h1,g1,gl2,fun f' H2 s2 n2 h2=>?_⟩;generalize hW:(lq (if tn=true then 2 else 3) (bu (if tn=true then ss.map sf else ss))).1=W at q h2;have hWl:W.length<=400:=by rw[<-hW,zR,length_map];exact gl2
    refine⟨f',rfl,⟨_,aZ.of h2⟩,fun D' b' hD'=>?_⟩;generalize hbz:(if tn=true then(2:Int) else 3)=bz;refine lp (K:=K) (xs:=W.map V.int) (fun i ys σ H'=>∃ v,σ=[v,some (.ref x),some (.str n),some (.ref p),some (.str ld),some (.int lt),some (.int sl),some (.bl tn),some (.int bz)]/\H'=upd H2 D' (.lst ys)/\ys=((W.take i).map fun w=>sl * w).map V.int) ⟨none,rfl,rfl,by simp⟩ ?_ ?_ ?_
    ·rintro i ys σ H' ⟨v,rfl,rfl,_⟩;exact ip (aZ.of h2) hD'
    ·rintro i ys y σ H' hy ⟨v,rfl,rfl,rfl⟩ N hN;obtain⟨z,hz,rfl⟩:=Qb hy;have hi:i<W.length:=(List.getElem?_eq_some_iff.mp hz).1;refine jt ?_;refine⟨_,rfl,_,rfl,.inl ⟨_,_,rfl,rfl,.inl ⟨by omega,by omega⟩,ae,?_,?_⟩⟩
     ·rw[length_map,length_map,length_take];exact ba (by omega)
     ·refine hN _ _ _ ⟨_,rfl,cI,?_⟩;rw[take_succ,hz,map_append,map_append];rfl
    ·rintro ys σ H' ⟨v,rfl,rfl,rfl⟩;rw[length_map,take_length];exact q D' _ (s1.free (s2.free hD')) ((s1.trans s2).trans (ar.upd hD')) ae
theorem _root_.L2.Al.same {H H':Hp}{a:Addr}{y:V}{r:Option V}(s:ar H H')(h:Al H a y r):Al H' a y r:=by
 have rd:∀{u},Rd H a u->Rd H' a u:=fun z=>z.imp (fun e=>s _ _ e) fun⟨o,e⟩=>⟨o,s _ _ e⟩;rcases h with ⟨kvs,k,e,e2,e3⟩|⟨kvs,k,b,e,e2,e3,e4⟩
 ·exact .inl ⟨kvs,k,rd e,e2,e3⟩
 ·exact .inr ⟨kvs,k,b,rd e,e2,s _ _ e3,e4⟩
inductive EV (K:Frag)(vs:List V)(H:Hp)(Q:VK)(E:XK):Prop
 |mk (d:Addr) (vw:Vw) (n:Str) (th:Th) (gw:vs=[.ref d,.str n]) (gx:Uj H d vw) (iW:zT vw) (m7:aM vw n=some th) (tJ:∀(l:Addr)(ys:List V)(H':Hp),ar H H'->H' l=some (.lst ys)->h9 H' ys (O9 vw n)->Q (.ref l) H'):EV K vs H Q E
theorem EW (T:Txt K w mg t):bK P w K mg base oI (0+1) t.jD t.yk ["_law_voices","_law_name"] (EV K):=by
 refine T.lE.ok lN (fun vs H Q E h=>?_) (fun cdv A outer s H vs Q E hr h=>?_)
 ·obtain⟨_,_,_,_,rfl,_⟩:=h;rfl
 ·obtain⟨d,vw,n,th,rfl,hd,wv,hf,q⟩:=h;refine aS (ah (aH (i:=2) lN.nd rfl (Or.inl rfl) (DV (Ld hr) (pv 0) (pv 1) (fun _ _=>rfl))) (ah (bf (bZ (bc xS rfl T.ku kh (aa (pv 2) (aa (DI (v:=.ty "list") rfl T.Ew DR rfl) af)))) (ak (ax (pv 2))) aF) (ah (bf (kG (bZ (aK aA (pv 2) ai (fun _ _=>rfl)))) (ak (ax (DV (Ld hr) (pv 0) (aK aA (pv 2) ai (fun _ _=>rfl)) (fun _ _=>rfl)))) aF) (ah (aH (i:=3) lN.nd rfl (Or.inl rfl) (bM af)) (ah (ij PassesOwn.never rfl (fN (DV (Ld hr) (pv 0) (aK aA (pv 2) ai (fun _ _=>rfl)) (fun _ _=>rfl))) (aP (i:=4) lN.nd rfl (Or.inl rfl)) (ah (aH (i:=5) lN.nd rfl (Or.inl rfl) (cM (gR (au (bH.or (bg (az hr))) (aK aA (pv 4) ai (fun _ _=>rfl)) av (ay _)) av (cM (gR (au (bH.or (bg (az hr))) (aK aA (pv 4) ai (fun _ _=>rfl)) av (ay _)) av (aK aA (pv 4) ai (fun _ _=>rfl))))))) (ak (bo (m9 plainAttrs_list slot_list_append type_list_append cz (pv 3) (aa (bB (aa (pv 5) (aa (aK aA (pv 4) ai (fun _ _=>rfl)) af))) af)))))) (ak (ax (pv 3)))))))) ?_;obtain⟨v,hg,hv⟩:=hd.get hf;refine⟨_,rfl,_,rfl,d,v,rfl,hg,?_⟩;cases th with
  |pl ss =>
   obtain⟨l,ys,rfl,h1,h2⟩:=hv;tm_up;refine⟨_,_,_,_,rfl,ur.lst h1,rfl,_,rfl,jr ?_⟩;exact⟨_,rfl,q l ys H (ar.refl _) h1 (by rw[qK hf];exact h2)⟩
  |cn ld lt sl tn =>
   obtain⟨p,rfl,hp⟩:=hv;obtain⟨⟨ss,hld⟩,_⟩:=wv.ld n ld lt sl tn (di hf);have hfl:=wv.find hld;have gl:=(wv.gd _ _ hld).1;rw[uE hf hfl]at q;obtain⟨v2,hg2,l,ys,rfl,h1,h2⟩:=hd.get hfl;tm_up;refine⟨_,_,_,_,rfl,ur.tup hp,rfl,_,rfl,dw ?_⟩;refine⟨_,rfl,Z7 (i:=3) hp rfl ?_⟩;refine⟨_,rfl,?_⟩;cases tn with
   |false =>
    refine jr ?_;refine⟨_,rfl,_,rfl,Z7 (i:=0) hp rfl ?_⟩;exact⟨d,_,rfl,hg2,q l ys H (ar.refl _) h1 h2⟩
   |true =>
    refine dw ?_;refine⟨big (by show 0<=1000;omega),fun told acO=>?_⟩;have s1:=ar.upd (o:=.lst []) acO;have ht1:=ae (H:=H) (a:=told) (o:=.lst []);generalize upd H told (.lst [])=H1 at s1 ht1;have y3:=cB h2;refine⟨_,rfl,_,rfl,Z7 (i:=0) (s1 _ _ hp) rfl ?_⟩;have nlt:l≠told:=aq h1 acO;have hg3:Al H1 d (.str ld) (some (.ref l)):=hg2.same s1;refine⟨d,_,rfl,hg3,l,rfl,⟨_,aZ.of (s1 _ _ h1)⟩,lG (K:=K) (xs:=ys) (fun i σ H'=>∃(u k:Option V)(zs:List V),σ=[some (.ref d),some (.str n),some (.ref p),some (.ref told),u,k]/\ar H H'/\H' told=some (.lst zs)/\h9 H' zs ((ss.take i).map sf)) ⟨none,none,[],rfl,s1,ht1,.nil⟩ ?_ ?_ ?_⟩
    ·rintro i σ H' _ ⟨u,k,zs,rfl,s2,_⟩;exact aZ.of (s2 _ _ h1)
    ·rintro i y σ H' hy ⟨u,k,zs,rfl,s2,ht2,gz⟩;obtain⟨sg,hsg,ps,rfl,hps⟩:=Bd h2 hy;have hi:i<ss.length:=(List.getElem?_eq_some_iff.mp hsg).1;have aes:=s2 _ _ hps;have zl:=cB gz;rw[length_map,length_take]at zl;refine⟨fun v Hx=>v=.str (O8 sg.1).str/\Hx=H',?_,?_⟩
     ·refine⟨_,rfl,ix0 aes ?_⟩;refine .inl ⟨rfl,_,rfl,?_⟩;rw[acd];refine bp (fun h=>?_) (fun h=>?_)
      ·rw[of_decide_eq_true h];exact⟨rfl,rfl⟩
      ·have h':sg.1≠.two:=fun z=>h (decide_eq_true z);refine⟨fun v Hx=>v=.str (O8 sg.1).str/\Hx=H',?_,fun _ _ z=>z⟩;refine⟨_,rfl,ix0 aes ?_⟩;refine .inl ⟨rfl,_,rfl,?_⟩;rw[Qa];refine bp (fun h3=>?_) (fun h3=>?_)
       ·rw[of_decide_eq_true h3];exact⟨rfl,rfl⟩
       ·have h3':sg.1≠.three:=fun z=>h3 (decide_eq_true z);refine⟨_,rfl,ix0 aes ⟨?_,rfl⟩⟩;cases hk:sg.1 <;> first|rfl|exact absurd hk h'|exact absurd hk h3'
     intro v Hx ⟨e1,e2⟩;rw[e1,e2];refine⟨_,rfl,.inl ⟨rfl,_,aZ.of ht2⟩,_,rfl,_,rfl,ix1 aes ?_⟩;refine⟨by show 2<=sizeLine;decide,fun tp htp=>?_⟩;have s3:=ar.upd (o:=.tup [V.str (O8 sg.1).str,V.int sg.2]) htp;refine⟨told,_,_,rfl,rfl,s3 _ _ ht2,ba (by omega),?_⟩;refine⟨_,_,zs++[.ref tp],rfl,jN (s2.trans s3) acO,ae,?_⟩;rw[take_succ,hsg,map_append];exact qH (acf (s3 _ _ ht2) (gz.same s3)) (ace (s3 _ _ ht2) ⟨tp,rfl,ae⟩)
    ·rintro σ H' ⟨u,k,zs,rfl,s2,ht2,gz⟩;rw[y3,take_length]at gz;exact⟨_,rfl,q told zs H' s2 ht2 gz⟩
theorem ag1 {k:Kd}(h:k.meas=true)(m:Int):intText? k.str=some (nm m k)/\k.str.length<=640:=by
 cases k <;> first|(cases h;done)|exact⟨by first|exact(show intText? Kd.three.str=some 3 by lk)|exact(show intText? Kd.two.str=some 2 by lk),by lk⟩
theorem ai1 {k:Kd}(h:¬ k.meas=true)(m:Int):nm m k=m:=by
 cases k <;> first|rfl|exact absurd rfl h
theorem UJ (k:Kd):k.meas=(decide (k=.three)||decide (k=.two)):=by cases k <;> rfl
theorem Zj (k:Kd):V2 k.str ".32" = k.parting:=by cases k <;> decide +kernel
theorem EX (k:Kd):V2 k.str "sdr"=k.small:=by cases k <;> decide +kernel
theorem aet {k:Kd}(h:k.parting=true)(m:Int)(n:Option Kd):bw m k n=0:=by cases k <;> first|(cases h;done)|(unfold bw;rw[if_neg (by rintro⟨_,z,_⟩;cases z)];rfl)
theorem acP {k:Kd}(h:k.small=true)(m:Int)(n:Option Kd):bw m k n=1:=by cases k <;> first|(cases h;done)|(unfold bw;rw[if_neg (by rintro⟨_,z,_⟩;cases z)];rfl)
theorem ak9 (m:Int)(n:Option Kd):bw m .D n=2:=by unfold bw;rw[if_neg (by rintro⟨_,z,_⟩;cases z)];rfl
theorem aeu {k:Kd}{m:Int}{n:Option Kd}(hm:Ms m)(h1:k.parting=false)(h2:k.small=false)(h3:k≠.D)(h4:¬(m=2/\k=.G/\n=some .dot)):bw m k n=m:=by
 unfold bw;rw[if_neg h4];rcases hm with rfl|rfl <;> cases k <;> first|(cases h1;done)|(cases h2;done)|rfl|exact absurd rfl h3
inductive Pt (K:Frag)(vs:List V)(H:Hp)(Q:VK)(E:XK):Prop
 |mk (l:Addr) (b:Int) (xs:List V) (ss:List Sg) (gw:vs=[.ref l,.int b]) (gx:Ms b) (iW:aZ K H l xs) (m7:h9 H xs ss) (tJ:ss.length<=400) (Tx:∀(f:Addr)(H':Hp),ar H H'->H f=none->H' f=some (.lst ((ju b (bu ss)).map V.int))->Q (.ref f) H'):Pt K vs H Q E
theorem aag (T:Txt K w mg t):bK P w K mg base oI (0+1) t.qV t.LG ["_law_line","_law_begin"] (Pt K):=by
 refine T.yv.ok qx (fun vs H Q E h=>?_) (fun cdv A outer s H vs Q E hr h=>?_)
 ·obtain⟨_,_,_,_,rfl,_⟩:=h;rfl
 ·obtain⟨l,b,xs,ss,rfl,hMs,hS,hg,hn,q⟩:=h;have p62:(2:Int) ^ 62=4611686018427387904:=by decide
  refine aS (ah (aH (i:=2) qx.nd rfl (Or.inl rfl) (bM af)) (ah (aH (i:=3) qx.nd rfl (Or.inl rfl) (pv 1)) (ah (ij PassesOwn.never rfl (lj rfl T.jG (aa (bc (aN.or aO) rfl T.dt dg (aa (pv 0) af)) af)) (aP (i:=4) qx.nd rfl (Or.inl rfl)) (ah (aH (i:=5) qx.nd rfl (Or.inl rfl) (aK aA (aK aA (pv 0) (pv 4) (fun _ _=>rfl)) ai (fun _ _=>rfl))) (ah (tL (bf (dh (PW.pt (xK (au (bH.or (bg (az hr))) (pv 5) av (ay _)) (qA (au (bH.or (bg (az hr))) (pv 5) av (ay _)))))) (ak (aH (i:=3) qx.nd rfl (Or.inl rfl) (jM (ng.or gy) rfl T.yz xV (aa (pv 5) af)))) aF)) (ak (bf (au (cV.or cU) (pv 5) av rfl) (ak (bo (m9 plainAttrs_list slot_list_append type_list_append cz (pv 2) (aa ai af)))) (ak (bf (au (cV.or cU) (pv 5) av rfl) (ak (bo (m9 plainAttrs_list slot_list_append type_list_append cz (pv 2) (aa ai af)))) (ak (bf (au (bH.or (bg (az hr))) (pv 5) av (ay _)) (ak (bo (m9 plainAttrs_list slot_list_append type_list_append cz (pv 2) (aa ai af)))) (ak (bf (dh (PW.pt (dX (au (bH.or (bg (az hr))) (pv 3) ai (ay _)) (dX (au (bH.or (bg (az hr))) (pv 5) av (ay _)) (dX (au DJ (aR (bW.or (aJ.or bY)) (pv 4) ai) (bc (aN.or aO) rfl T.dt dg (aa (pv 0) af)) (ay _)) (gM (au (bH.or (bg (az hr))) (aK aA (aK aA (pv 0) (aR (bW.or (aJ.or bY)) (pv 4) ai) (fun _ _=>rfl)) ai (fun _ _=>rfl)) av (ay _)))))))) (ak (bo (m9 plainAttrs_list slot_list_append type_list_append cz (pv 2) (aa ai af)))) (ak (bo (m9 plainAttrs_list slot_list_append type_list_append cz (pv 2) (aa (pv 3) af))))))))))))))) (ak (ax (pv 2)))))) ?_;refine⟨big (by show 0<=1000;omega),fun f hf=>?_⟩;tm_up;refine .inl ⟨_,_,rfl,.inl (ip hS hf),?_⟩;rw[cB hg];refine⟨(ss.length:Int),rfl,by rw[p62];omega,by rw[p62];omega,?_⟩;refine qj (n:=((ss.length:Int)).toNat) (fun i σ H'=>∃(m:Int)(v w:Option V)(fs:List Int),σ=[some (.ref l),some (.int b),some (.ref f),some (.int m),v,w]/\Ms m/\H'=upd H f (.lst (fs.map V.int))/\fs++ju m ((bu ss).drop i)=ju b (bu ss))
   ⟨b,none,none,[],rfl,hMs,rfl,rfl⟩ ?_ ?_
  ·rintro i σ H' hi ⟨m,v,w,fs,rfl,hm3,rfl,hm⟩;have hil:i<ss.length:=by omega
   have hd:=qc (x3 (f:=Prod.fst) (getElem?_eq_getElem hil));rw[hd]at hm;have hS':aZ K (upd H f (.lst (fs.map V.int))) l xs:=ip hS hf;have hg':h9 (upd H f (.lst (fs.map V.int))) xs ss:=hg.same (ar.upd hf);have hl:=congrArg List.length hm;simp only [length_append,ju,length_cons,uA,length_map]at hl;simp only [ju,head_drop]at hm;tm_up;refine Kb hS' hg' (n:=i) (by omega) (getElem?_eq_getElem hil) fun p hp=>?_;generalize hk:(ss[i]).1=k at hm hp;tm_up;refine abU [some (.ref l),some (.int b),some (.ref f),some (.int (nm m k)),some (.int (0+(i:Int))),some (.str k.str)] (upd H f (.lst (fs.map V.int))) ?_ ?_
   ·refine uw k.meas ?_ ?_
    ·tm_up;rw[Qa];refine bp (fun h=>?_) (fun h=>?_)
     ·exact gB (by rw[UJ,h];rfl)
     ·tm_up;rw[acd];exact gB (by rw[UJ,Bool.eq_false_iff.mpr h];rfl)
    refine bp (fun h=>?_) (fun h=>?_)
    ·obtain⟨e1,e2⟩:=ag1 h m;tm_up;exact .inr ⟨_,_,rfl,e1,e2,rfl,rfl⟩
    ·rw[ai1 h];exact⟨rfl,rfl⟩
   have hm4:=hm3.nm k;have fin:∀(z:Int),z=bw (nm m k) k (bu ss)[i+1]?->∃(m':Int)(v w:Option V)(fs':List Int),[some (V.ref l),some (V.int b),some (V.ref f),some (V.int (nm m k)),some (V.int (0+(i:Int))),some (V.str k.str)]=[some (.ref l),some (.int b),some (.ref f),some (.int m'),v,w]/\Ms m'/\upd (upd H f (.lst (fs.map V.int))) f (.lst (fs.map V.int++[V.int z]))=upd H f (.lst (fs'.map V.int))/\fs'++ju m' ((bu ss).drop (i+1))=ju b (bu ss):=by
    intro z hz;exact⟨nm m k,_,_,fs++[z],rfl,hm4,by rw[cI,map_append];rfl,by rw[List.append_assoc,hz];exact hm⟩
   tm_up;refine bp (fun h=>?_) (fun h=>?_)
   ·have h':k.parting=true:=by rw[<-Zj];exact h
    tm_up;refine⟨.inl ⟨rfl,_,aZ.of ae⟩,?_⟩;refine⟨_,_,_,rfl,rfl,ae,by rw[length_map];exact ba (by omega),fin 0 (aet h' ..).symm⟩
   ·have h1:k.parting=false:=by rw[<-Zj];exact Bool.eq_false_iff.mpr h
    tm_up;refine bp (fun h=>?_) (fun h=>?_)
    ·have h':k.small=true:=by rw[<-EX];exact h
     tm_up;refine⟨.inl ⟨rfl,_,aZ.of ae⟩,?_⟩;refine⟨_,_,_,rfl,rfl,ae,by rw[length_map];exact ba (by omega),fin 1 (acP h' ..).symm⟩
    ·have h2:k.small=false:=by rw[<-EX];exact Bool.eq_false_iff.mpr h
     tm_up;rw[k_D];refine bp (fun h=>?_) (fun h=>?_)
     ·have h':k=.D:=of_decide_eq_true h;tm_up;refine⟨.inl ⟨rfl,_,aZ.of ae⟩,?_⟩;refine⟨_,_,_,rfl,rfl,ae,by rw[length_map];exact ba (by omega),fin 2 (by rw[h'];exact(ak9 ..).symm)⟩
     ·have h3:k≠.D:=fun z=>h (decide_eq_true z);refine uw (decide (nm m k=2/\k=.G/\(bu ss)[i+1]? = some .dot)) ?_ ?_
      ·tm_up;rw[gS];refine bp (fun h=>?_) (fun h=>?_)
       ·have e1:=of_decide_eq_true h;tm_up;rw[k_G];refine bp (fun h=>?_) (fun h=>?_)
        ·have e2:=of_decide_eq_true h;tm_up;refine .inl ⟨_,_,rfl,.inl hS',?_⟩;rw[cB hg];tm_up;refine bp (fun h=>?_) (fun h=>?_)
         ·have hlt:i+1<ss.length:=by have:=of_decide_eq_true h;omega
          tm_up;refine Kb hS' hg' (n:=i+1) (by omega) (getElem?_eq_getElem hlt) fun p2 hp2=>?_;tm_up;rw[aix];refine gB ?_;have e3:(bu ss)[i+1]? = some (ss[i+1]).1:=x3 (getElem?_eq_getElem hlt);rw[e3];subst e2;simp[e1]
         ·refine gB ?_;have e3:(bu ss)[i+1]? = none:=List.getElem?_eq_none (by rw[length_map];have:¬(0+(i:Int)+1<ss.length):=fun z=>h (decide_eq_true z);omega);rw[e3];simp
        ·refine gB ?_;have e2:k≠.G:=fun z=>h (decide_eq_true z);simp[e2]
       ·refine gB ?_;have e1:nm m k≠2:=fun z=>h (decide_eq_true z);simp[e1]
      ·refine bp (fun h=>?_) (fun h=>?_)
       ·have h':=of_decide_eq_true h;tm_up;refine⟨.inl ⟨rfl,_,aZ.of ae⟩,?_⟩;refine⟨_,_,_,rfl,rfl,ae,by rw[length_map];exact ba (by omega),fin 3 (by unfold bw;rw[if_pos h'])⟩
       ·have h':¬(nm m k=2/\k=.G/\(bu ss)[i+1]? = some .dot):=fun z=>h (decide_eq_true z);tm_up;refine⟨.inl ⟨rfl,_,aZ.of ae⟩,?_⟩;tm_up;refine⟨_,_,_,rfl,rfl,ae,by rw[length_map];exact ba (by omega),fin _ (aeu hm4 h1 h2 h3 h').symm⟩
  ·rintro σ H' ⟨m,v,w,fs,rfl,_,rfl,hm⟩;have e0:((ss.length:Int)).toNat=ss.length:=by omega
   rw[e0,List.drop_eq_nil_of_le (by rw[length_map];exact Nat.le_refl _)]at hm;tm_up;have e:fs=ju b (bu ss):=by rw[<-hm];simp[ju]
   subst e;exact q f _ (ar.upd hf) hf ae
inductive Ml (K:Frag)(vs:List V)(H:Hp)(Q:VK)(E:XK):Prop
 |mk (l:Addr) (b:Int) (xs:List V) (ss:List Sg) (gw:vs=[.ref l,.int b]) (gx:aZ K H l xs) (iW:h9 H xs ss) (m7:ss.length<=400) (tJ:∀(f:Addr)(H':Hp),ar H H'->H f=none->H' f=some (.lst ((kI b (bu ss)).map V.bl))->Q (.ref f) H'):Ml K vs H Q E
theorem ai2 {k:Kd}(h:k.meas=true)(m:Int):intText? k.str=some (nm m k)/\k.str.length<=640:=by
 cases k <;> first|(cases h;done)|exact⟨by first|exact(show intText? Kd.three.str=some 3 by lk)|exact(show intText? Kd.two.str=some 2 by lk),by lk⟩
theorem alb {k:Kd}(h:¬ k.meas=true)(m:Int):nm m k=m:=by
 cases k <;> first|rfl|exact absurd rfl h
theorem Zk (k:Kd):k.meas=(decide (k=.three)||decide (k=.two)):=by cases k <;> rfl
theorem WT (T:Txt K w mg t):bK P w K mg base oI (0+1) t.nP t.GL ["_law_line","_law_begin"] (Ml K):=by
 refine T.uT.ok qN (fun vs H Q E h=>?_) (fun cdv A outer s H vs Q E hr h=>?_)
 ·obtain⟨_,_,_,_,rfl,_⟩:=h;rfl
 ·obtain⟨l,b,xs,ss,rfl,hS,hg,hn,q⟩:=h;refine aS (ah (aH (i:=2) qN.nd rfl (Or.inl rfl) (bM af)) (ah (aH (i:=3) qN.nd rfl (Or.inl rfl) (pv 1)) (ah (ij PassesOwn.never rfl (fN (pv 0)) (aP (i:=4) qN.nd rfl (Or.inl rfl)) (ah (tL (bf (dh (PW.pt (xK (au (bH.or (bg (az hr))) (aK aA (pv 4) ai (fun _ _=>rfl)) av (ay _)) (qA (au (bH.or (bg (az hr))) (aK aA (pv 4) ai (fun _ _=>rfl)) av (ay _)))))) (ak (aH (i:=3) qN.nd rfl (Or.inl rfl) (jM (ng.or gy) rfl T.yz xV (aa (aK aA (pv 4) ai (fun _ _=>rfl)) af)))) aF)) (ak (bo (m9 plainAttrs_list slot_list_append type_list_append cz (pv 2) (aa (bS (bH.or (bg (az hr))) (pv 3) ai (ay _)) af)))))) (ak (ax (pv 2)))))) ?_;refine⟨big (by show 0<=1000;omega),fun f hf=>?_⟩;tm_up;refine⟨⟨xs,ip hS hf⟩,lG (K:=K) (xs:=xs) (fun i σ H'=>∃(m:Int)(v:Option V)(fs:List Bool),σ=[some (.ref l),some (.int b),some (.ref f),some (.int m),v]/\H'=upd H f (.lst (fs.map V.bl))/\fs++kI m ((bu ss).drop i)=kI b (bu ss))
   ⟨b,none,[],rfl,rfl,rfl⟩ ?_ ?_ ?_⟩
  ·rintro i σ H' _ ⟨m,v,fs,rfl,rfl,_⟩;exact ip hS hf
  ·rintro i x σ H' hx ⟨m,v,fs,rfl,rfl,hm⟩;obtain⟨s,hs,p,rfl,hp⟩:=Bd hg hx;have hd:=qc (x3 (f:=Prod.fst) hs);rw[hd]at hm;have hp':upd H f (.lst (fs.map V.bl)) p=some (.tup [.str s.1.str,.int s.2]):=by rw[ao (aq hp hf)];exact hp
   have hl:=congrArg List.length hm;simp only [length_append,kI,length_cons,V5,length_map]at hl;refine abU [some (.ref l),some (.int b),some (.ref f),some (.int (nm m s.1)),some (.ref p)] (upd H f (.lst (fs.map V.bl))) ?_ ?_
   ·refine uw s.1.meas ?_ ?_
    ·tm_up;rw[Qa];refine bp (fun h=>?_) (fun h=>?_)
     ·exact gB (by rw[Zk,h];rfl)
     ·tm_up;rw[acd];exact gB (by rw[Zk,Bool.eq_false_iff.mpr h];rfl)
    refine bp (fun h=>?_) (fun h=>?_)
    ·obtain⟨e1,e2⟩:=ai2 h m;tm_up;exact .inr ⟨_,_,rfl,e1,e2,rfl,rfl⟩
    ·rw[alb h];exact⟨rfl,rfl⟩
   ·tm_up;refine⟨.inl ⟨rfl,_,aZ.of ae⟩,?_⟩;tm_up;rw[gS];refine⟨_,_,_,rfl,rfl,ae,by rw[length_map];exact ba (by omega),?_⟩;exact⟨_,_,fs++[decide (nm m s.1=3)],rfl,by rw[cI,map_append];rfl,by rw[List.append_assoc];exact hm⟩
  ·rintro σ H' ⟨m,v,fs,rfl,rfl,hm⟩;rw[List.drop_eq_nil_of_le (by rw[length_map,cB hg];exact Nat.le_refl _)]at hm;tm_up;have e:fs=kI b (bu ss):=by rw[<-hm];simp[kI]
   subst e;exact q f _ (ar.upd hf) hf ae
def alc (K:Frag)(g:List Kd->List Int->Nat->Nat->Bool×List Int):Sp:=fun vs H Q _=>∃(l f:Addr)(a z:Nat)(xs:List V)(ss:List Sg)(fs:List Int),vs=[.ref l,.ref f,.int (a:Int),.int (z:Int)]/\aZ K H l xs/\h9 H xs ss/\l≠f/\H f=some (.lst (fs.map V.int))/\fs.length=ss.length/\a<z/\z<=ss.length /\
 Q (.bl (g (bu ss) fs a z).1) (upd H f (.lst ((g (bu ss) fs a z).2.map V.int)))
theorem Mm (k:Kd):V2 k.str "GDR"=k.great:=by cases k <;> decide +kernel
theorem G8 (o:Option Kd):(o.getD .dot).great=tN o:=by cases o <;> rfl
theorem ald (o:Option Kd):decide (o.getD .dot=.G)=decide (o=some .G):=by
 cases o with
 |none=>decide
 |some k=>simp
theorem aah {ks:List Kd}{f:List Int}{a z:Nat}{r:Nat}(hr:(z-a) % 3=r)(hr3:r<3) :
  settle ks f a z=if decide (r=2)&&(tN ks[z]? && decide (ks[z-1]? = some .s)) then(true,f.set (z-1) 2) else
   (decide (r=0)||((decide (r=1)&&(km ks f a||iq ks z))||(decide (r=2)&&(km ks f a&&iq ks z))),
    let g:=if(decide (r=1)&&km ks f a)||(decide (r=2)&&(km ks f a&&iq ks z)) then f.set (a-1) 2 else f
    if(decide (r=1)&&(iq ks z && !km ks f a))||(decide (r=2)&&(km ks f a&&iq ks z)) then g.set z 2 else g):=by
 unfold settle DX DY;rw[hr];have:r=0\/r=1\/r=2:=by omega
 rcases this with rfl|rfl|rfl <;> cases km ks f a <;> cases iq ks z <;> cases tN ks[z]? <;> cases decide (ks[z-1]? = some .s) <;> rfl
theorem acQ (T:Txt K w mg t):bK P w K mg base oI (0+1) t.vT t.Qp ["_law_line","_law_told","_law_low","_law_high"] (alc K settle):=by
 refine T.Eu.ok uL (fun vs H Q E h=>?_) (fun cdv A outer s H vs Q E hr h=>?_)
 ·obtain⟨_,_,_,_,_,_,_,rfl,_⟩:=h;rfl
 ·obtain⟨l,f,a,z,xs,ss,fs,rfl,hS,hg,hlf,hf,hl,haz,hz,q⟩:=h;obtain⟨r,hrr⟩:∃ r:Nat,(z-a) % 3=r:=⟨_,rfl⟩;have hr3:r<3:=by omega
  rw[aah hrr hr3]at q;have hri:((z:Int)-(a:Int)) % 3=(r:Int):=by omega
  have dI:∀ n:Nat,decide (V.int (((z:Int)-(a:Int)) % 3)=V.int (n:Int))=decide (r=n):=fun n=>by
   rw[hri,gS]
   by_cases e:r=n
   ·simp[e]
   ·have:¬((r:Int)=(n:Int)):=by omega
    simp[e,this]
  have d0:decide (V.int (((z:Int)-(a:Int)) % 3)=V.int 0)=decide (r=0):=dI 0;have d1:decide (V.int (((z:Int)-(a:Int)) % 3)=V.int 1)=decide (r=1):=dI 1;have d2:decide (V.int (((z:Int)-(a:Int)) % 3)=V.int 2)=decide (r=2):=dI 2;refine aS (ah (aH (i:=4) uL.nd rfl (Or.inl rfl) (aR j6 (aR js (pv 3) (pv 2)) ai)) (ah (aH (i:=5) uL.nd rfl (Or.inl rfl) (cM (gR (au DJ (pv 3) (bc (aN.or aO) rfl T.dt dg (aa (pv 0) af)) (ay _)) (aK aA (aK aA (pv 0) (pv 3) (fun _ _=>rfl)) ai (fun _ _=>rfl)) av))) (ah (aH (i:=6) uL.nd rfl (Or.inl rfl) (cM (gR (au DJ (aR (bW.or (aJ.or bY)) (pv 3) ai) (bc (aN.or aO) rfl T.dt dg (aa (pv 0) af)) (ay _)) (aK aA (aK aA (pv 0) (aR (bW.or (aJ.or bY)) (pv 3) ai) (fun _ _=>rfl)) ai (fun _ _=>rfl)) av))) (ah (aH (i:=7) uL.nd rfl (Or.inl rfl) (cM (kH (bS Tv (pv 2) ai (ay _)) (kH (bS (bH.or (bg (az hr))) (aK aA (aK aA (pv 0) (aR js (pv 2) ai) (fun _ _=>rfl)) ai (fun _ _=>rfl)) av (ay _)) (j5 (bS (bH.or (bg (az hr))) (aK aA (pv 1) (aR js (pv 2) ai) (fun _ _=>rfl)) ai (ay _))))))) (ah (aH (i:=8) uL.nd rfl (Or.inl rfl) (cM (kH (bS (bH.or (bg (az hr))) (pv 5) av (ay _)) (j5 (bS (vn.or vo) (pv 6) av rfl))))) (ah (bf (dh (PW.pt (dX (au (bH.or (bg (az hr))) (pv 4) ai (ay _)) (dX (au (cV.or cU) (pv 5) av rfl) (gM (au (bH.or (bg (az hr))) (aK aA (aK aA (pv 0) (aR js (pv 3) ai) (fun _ _=>rfl)) ai (fun _ _=>rfl)) av (ay _))))))) (ah (lF ai (xM (pv 1) (aR js (pv 3) ai) set_list)) (ak (ax fM))) aF) (ah (tL (bf (dh (PW.pt (xK (dh (PW.pt (dX (au (bH.or (bg (az hr))) (pv 4) ai (ay _)) (gM (bZ (pv 7)))))) (qA (dh (PW.pt (dX (au (bH.or (bg (az hr))) (pv 4) ai (ay _)) (dX (bZ (pv 7)) (gM (bZ (pv 8))))))))))) (ak (lF ai (xM (pv 1) (aR js (pv 2) ai) set_list))) aF)) (ah (tL (bf (dh (PW.pt (xK (dh (PW.pt (dX (au (bH.or (bg (az hr))) (pv 4) ai (ay _)) (dX (bZ (pv 8)) (gM (kG (bZ (pv 7)))))))) (qA (dh (PW.pt (dX (au (bH.or (bg (az hr))) (pv 4) ai (ay _)) (dX (bZ (pv 7)) (gM (bZ (pv 8))))))))))) (ak (lF ai (xM (pv 1) (pv 3) set_list))) aF)) (ak (ax (cM (YE (bS (bH.or (bg (az hr))) (pv 4) ai (ay _)) (YE (cM (kH (bS (bH.or (bg (az hr))) (pv 4) ai (ay _)) (j5 (cM (YE (pv 7) (j5 (pv 8))))))) (j5 (cM (kH (bS (bH.or (bg (az hr))) (pv 4) ai (ay _)) (kH (pv 7) (j5 (pv 8))))))))))))))))))) ?_;tm_up;refine DT (.str ((bu ss)[z]?.getD .dot).str) ?_ ?_
  ·tm_up;refine .inl ⟨_,_,rfl,.inl hS,?_⟩;rw[cB hg];tm_up;refine bp (fun h=>?_) (fun h=>?_)
   ·have hlt:z<ss.length:=by have:=of_decide_eq_true h;omega
    tm_up;refine Kb hS hg (n:=z) rfl (getElem?_eq_getElem hlt) fun p hp=>?_;tm_up;refine qb ?_;rw[getElem?_map,getElem?_eq_getElem hlt];rfl
   ·refine qb ?_;have hge:¬ z<ss.length:=fun c=>h (decide_eq_true (by omega));rw[List.getElem?_eq_none (by rw[length_map];omega)];rfl
  refine DT (.str ((bu ss)[z+1]?.getD .dot).str) ?_ ?_
  ·tm_up;refine .inl ⟨_,_,rfl,.inl hS,?_⟩;rw[cB hg];tm_up;refine bp (fun h=>?_) (fun h=>?_)
   ·have hlt:z+1<ss.length:=by have:=of_decide_eq_true h;omega
    tm_up;refine Kb hS hg (n:=z+1) (by omega) (getElem?_eq_getElem hlt) fun p hp=>?_;tm_up;refine qb ?_;rw[getElem?_map,getElem?_eq_getElem hlt];rfl
   ·refine qb ?_;have hge:¬ z+1<ss.length:=fun c=>h (decide_eq_true (by omega));rw[List.getElem?_eq_none (by rw[length_map];omega)];rfl
  refine DT (.bl (km (bu ss) fs a)) ?_ ?_
  ·tm_up;refine bp (fun h=>?_) (fun h=>?_)
   ·have hp:0<a:=by have:=of_decide_eq_true h;omega
    have hlt:a-1<ss.length:=by omega
    have ek:Qc (bu ss) ((a:Int)-1)=some (ss[a-1]).1:=by
     have:(a:Int)-1=((a-1:Nat):Int):=by omega
     rw[this,rZ,getElem?_map,getElem?_eq_getElem hlt];rfl
    tm_up;refine Kb hS hg (n:=a-1) (by omega) (getElem?_eq_getElem hlt) fun p hp=>?_;tm_up;rw[k_G];refine bp (fun h2=>?_) (fun h2=>?_)
    ·tm_up;refine ach (aZ.of hf) (n:=a-1) (by omega) (getElem?_eq_getElem (by omega)) ?_;tm_up;rw[gS];refine qb ?_;unfold km;rw[ek,of_decide_eq_true h2,List.getD_eq_getElem?_getD,getElem?_eq_getElem (by omega)];simp
    ·refine qb ?_;unfold km;rw[ek];have:(ss[a-1]).1≠.G:=fun c=>h2 (decide_eq_true c);simp[this]
   ·refine qb ?_;have hp:a=0:=by
     have:¬ 0<a:=fun c=>h (decide_eq_true (by omega));omega
    subst hp;unfold km Qc;simp
  refine DT (.bl (iq (bu ss) z)) ?_ ?_
  ·tm_up;rw[k_G,ald];refine bp (fun h=>?_) (fun h=>?_)
   ·tm_up;refine qb ?_;unfold iq;rw[h];show V.bl (!V2 _ _)=_;rw[Mm,G8];rfl
   ·refine qb ?_;unfold iq;rw[Bool.eq_false_iff.mpr h];rfl
  generalize hL:km (bu ss) fs a=L at q;generalize hR:iq (bu ss) z=R at q;refine uw (decide (r=2)&&(tN (bu ss)[z]? && decide ((bu ss)[z-1]? = some .s))) ?_ ?_
  ·tm_up;rw[d2];refine bp (fun h=>?_) (fun h=>?_)
   ·rw[h];tm_up;refine bp (fun h2=>?_) (fun h2=>?_)
    ·have h2':tN (bu ss)[z]? = true:=by
      have:V2 ((bu ss)[z]?.getD .dot).str "GDR"=true:=h2
      rwa [Mm,G8]at this
     rw[h2'];tm_up;have hlt:z-1<ss.length:=by omega
     refine Kb hS hg (n:=z-1) (by omega) (getElem?_eq_getElem hlt) fun p hp=>?_;tm_up;rw[k_s];refine gB ?_;rw[getElem?_map,getElem?_eq_getElem hlt];simp
    ·have h2':tN (bu ss)[z]? = false:=by
      have:V2 ((bu ss)[z]?.getD .dot).str "GDR"=false:=Bool.eq_false_iff.mpr h2
      rwa [Mm,G8]at this
     rw[h2'];exact gB rfl
   ·exact gB (by rw[Bool.eq_false_iff.mpr h];rfl)
  refine bp (fun h=>?_) (fun h=>?_)
  ·rw[if_pos h]at q;tm_up;refine⟨_,_,_,_,rfl,rfl,hf,sd (j:=z-1) (by omega) (by rw[length_map];omega),?_⟩;rw[oB];exact q
  ·rw[if_neg h]at q;dsimp only at q;have hLp:L=true->1<=a/\a-1<ss.length:=fun e=>by
    have:=Gm (hL.trans e)
    rwa [length_map]at this
   have hRp:R=true->z<ss.length:=fun e=>by
    have:=Bg (hR.trans e)
    rwa [length_map]at this
   generalize hg1:(if(decide (r=1)&&L||decide (r=2)&&(L&&R))=true then fs.set (a-1) 2 else fs)=g1 at q;have g1l:g1.length=ss.length:=by rw[<-hg1];split <;> simp[hl]
   refine abU [some (.ref l),some (.ref f),some (.int (a:Int)),some (.int (z:Int)),some (.int (((z:Int)-(a:Int)) % 3)),some (.str ((bu ss)[z]?.getD .dot).str),some (.str ((bu ss)[z+1]?.getD .dot).str),some (.bl L),some (.bl R)] (upd H f (.lst (g1.map V.int))) ?_ ?_
   ·refine uw (decide (r=1)&&L||decide (r=2)&&(L&&R)) ?_ ?_
    ·refine uw (decide (r=1)&&L) ?_ ?_
     ·tm_up;rw[d1];refine bp (fun h=>?_) (fun h=>?_)
      ·tm_up;exact gB (by rw[h];rfl)
      ·exact gB (by rw[Bool.eq_false_iff.mpr h];rfl)
     ·refine bp (fun h=>gB (by rw[h];rfl)) (fun h=>?_);rw[Bool.eq_false_iff.mpr h,Bool.false_or];refine uw (decide (r=2)&&(L&&R)) ?_ (gB rfl);tm_up;rw[d2];refine bp (fun h=>?_) (fun h=>?_)
      ·tm_up;refine bp (fun h2=>?_) (fun h2=>?_)
       ·tm_up;exact gB (by rw[h,h2];rfl)
       ·exact gB (by rw[h,Bool.eq_false_iff.mpr h2];rfl)
      ·exact gB (by rw[Bool.eq_false_iff.mpr h];rfl)
    ·refine bp (fun h=>?_) (fun h=>?_)
     ·rw[if_pos h]at hg1;have hp:=hLp (by cases L <;> simp_all);tm_up;refine⟨_,_,_,_,rfl,rfl,hf,sd (j:=a-1) (by omega) (by rw[length_map];omega),?_⟩;rw[oB,hg1];exact⟨rfl,rfl⟩
     ·rw[if_neg h]at hg1;subst hg1;rw[DZ hf];exact⟨rfl,rfl⟩
   generalize hg2:(if(decide (r=1)&&(R && !L)||decide (r=2)&&(L&&R))=true then g1.set z 2 else g1)=g2 at q;refine abU [some (.ref l),some (.ref f),some (.int (a:Int)),some (.int (z:Int)),some (.int (((z:Int)-(a:Int)) % 3)),some (.str ((bu ss)[z]?.getD .dot).str),some (.str ((bu ss)[z+1]?.getD .dot).str),some (.bl L),some (.bl R)] (upd H f (.lst (g2.map V.int))) ?_ ?_
   ·refine uw (decide (r=1)&&(R && !L)||decide (r=2)&&(L&&R)) ?_ ?_
    ·refine uw (decide (r=1)&&(R && !L)) ?_ ?_
     ·tm_up;rw[d1];refine bp (fun h=>?_) (fun h=>?_)
      ·tm_up;refine bp (fun h2=>?_) (fun h2=>?_)
       ·tm_up;exact gB (by rw[h,h2];rfl)
       ·exact gB (by rw[h,Bool.eq_false_iff.mpr h2];rfl)
      ·exact gB (by rw[Bool.eq_false_iff.mpr h];rfl)
     ·refine bp (fun h=>gB (by rw[h];rfl)) (fun h=>?_);rw[Bool.eq_false_iff.mpr h,Bool.false_or];refine uw (decide (r=2)&&(L&&R)) ?_ (gB rfl);tm_up;rw[d2];refine bp (fun h=>?_) (fun h=>?_)
      ·tm_up;refine bp (fun h2=>?_) (fun h2=>?_)
       ·tm_up;exact gB (by rw[h,h2];rfl)
       ·exact gB (by rw[h,Bool.eq_false_iff.mpr h2];rfl)
      ·exact gB (by rw[Bool.eq_false_iff.mpr h];rfl)
    ·refine bp (fun h=>?_) (fun h=>?_)
     ·rw[if_pos h]at hg2;have hp:=hRp (by cases R <;> simp_all);tm_up;refine⟨_,_,_,_,rfl,rfl,ae,sd (j:=z) rfl (by rw[length_map];omega),?_⟩;rw[oB,hg2,cI];exact⟨rfl,rfl⟩
     ·rw[if_neg h]at hg2;subst hg2;exact⟨rfl,rfl⟩
   refine DT (.bl (decide (r=0)||(decide (r=1)&&(L||R)||decide (r=2)&&(L&&R)))) ?_ q;tm_up;rw[d0];refine bp (fun h=>qb (by rw[h];rfl)) (fun h=>?_);rw[Bool.eq_false_iff.mpr h,Bool.false_or];refine DT (.bl (decide (r=1)&&(L||R))) ?_ ?_
   ·tm_up;rw[d1];refine bp (fun h=>?_) (fun h=>qb (by rw[Bool.eq_false_iff.mpr h];rfl));refine DT (.bl (L||R)) ?_ (qb (by rw[h];rfl));tm_up;refine bp (fun h=>qb (by rw[h];rfl)) (fun h=>?_);tm_up;exact qb (by rw[Bool.eq_false_iff.mpr h];rfl)
   ·refine⟨_,rfl,?_⟩;refine bp (fun h=>qb (by rw[h];rfl)) (fun h=>?_);rw[Bool.eq_false_iff.mpr h,Bool.false_or];refine DT (.bl (decide (r=2)&&(L&&R))) ?_ (qb rfl);tm_up;rw[d2];refine bp (fun h=>?_) (fun h=>qb (by rw[Bool.eq_false_iff.mpr h];rfl));tm_up;refine bp (fun h2=>?_) (fun h2=>?_)
    ·tm_up;exact qb (by rw[h,h2];rfl)
    ·exact qb (by rw[h,Bool.eq_false_iff.mpr h2];rfl)
inductive Pu (K:Frag)(vs:List V)(H:Hp)(Q:VK)(E:XK):Prop
 |mk (l:Addr) (b:Int) (xs:List V) (ss:List Sg) (gw:vs=[.ref l,.int b]) (gx:Ms b) (iW:H l=some (.lst xs)) (m7:h9 H xs ss) (tJ:ss.length<=400) (Tx:∀(p f lo:Addr)(ys:List V)(H':Hp),ar H H'->H f=none->H lo=none->f≠lo->H' p=some (.tup [.ref f,.ref lo])->H' f=some (.lst ((lq b (bu ss)).1.map V.int))->H' lo=some (.lst ys)->V4 H' ys (lq b (bu ss)).2->Q (.ref p) H'):Pu K vs H Q E
theorem Pw (T:Txt K w mg t):bK P w K mg base oI (0+2) t.qW t.LH ["_law_line","_law_begin"] (Pu K):=by
 have acR:=aag (P:=P) (base:=base) T;have aai:=WT (P:=P) (base:=base) T;have aev:=acQ (P:=P) (base:=base) T;refine T.rf.ok lB (fun vs H Q E h=>?_) (fun cdv A outer s H vs Q E hr h=>?_)
 ·obtain⟨_,_,_,_,rfl,_⟩:=h;rfl
 ·obtain⟨l,b,xs,ss,rfl,hMs,hS,hg,hn,q⟩:=h;refine aS (ah (aH (i:=2) lB.nd rfl (Or.inl rfl) (aB acR (hr.mono (by decide)) rfl T.Z2 T.yv.kp T.LN .nil aL (aa (pv 0) (aa (pv 1) af)))) (ah (aH (i:=3) lB.nd rfl (Or.inl rfl) (aB aai (hr.mono (by decide)) rfl T.Wz T.uT.kp T.GW .nil aL (aa (pv 0) (aa (pv 1) af)))) (ah (aH (i:=4) lB.nd rfl (Or.inl rfl) (bM af)) (ah (aH (i:=5) lB.nd rfl (Or.inl rfl) ai) (ah (Ts PassesOwn.never (au DJ (pv 5) (bc (aN.or aO) rfl T.dt dg (aa (pv 0) af)) (ay _)) (ah (aH (i:=6) lB.nd rfl (Or.inl rfl) (pv 5)) (ah (Ts PassesOwn.never (dh (PW.pt (dX (au DJ (pv 6) (bc (aN.or aO) rfl T.dt dg (aa (pv 0) af)) (ay _)) (dX (au (cV.or cU) (aK aA (aK aA (pv 0) (pv 6) (fun _ _=>rfl)) ai (fun _ _=>rfl)) av rfl) (gM (bZ (aK aA (pv 3) (pv 6) (fun _ _=>rfl)))))))) (ak (aH (i:=6) lB.nd rfl (Or.inl rfl) (aR (bW.or (aJ.or bY)) (pv 6) ai)))) (ah (tL (bf (dh (PW.pt (dX (au Tv (pv 6) (pv 5) (ay _)) (gM (kG (bZ (aB aev (hr.mono (by decide)) rfl T.acA T.Eu.kp T.Qu .nil aL (aa (pv 0) (aa (pv 2) (aa (pv 5) (aa (pv 6) af))))))))))) (ak (bo (m9 plainAttrs_list slot_list_append type_list_append cz (pv 4) (aa (bB (aa (pv 5) (aa (pv 6) af))) af)))) aF)) (ak (aH (i:=5) lB.nd rfl (Or.inl rfl) (bc (Zz rfl) rfl T.agH agi (aa (pv 6) (aa (aR (bW.or (aJ.or bY)) (pv 5) ai) af))))))))) (ak (ax (bB (aa (pv 2) (aa (pv 4) af)))))))))) ?_;tm_up;refine⟨l,b,xs,ss,rfl,hMs,aZ.of hS,hg,hn,fun f H1 s1 n1 h1=>?_⟩;tm_up;refine⟨l,b,xs,ss,rfl,aZ.of (s1 _ _ hS),hg.same s1,hn,fun th H2 s2 n2 h2=>?_⟩;refine⟨big (by show 0<=1000;omega),fun lo hlo=>?_⟩;have s3:=s2.trans (ar.upd (o:=.lst []) hlo);have acN:H lo=none:=s1.free (s2.free hlo);have nfl:f≠lo:=aq (s2 _ _ h1) hlo;have ntl:th≠lo:=aq h2 hlo;have ntf:th≠f:=fun e=>by rw[e,h1]at n2;cases n2
  have nlf:l≠f:=aq hS n1;have bl:(ju b (bu ss)).length=ss.length:=by rw[uA,length_map]
  have cnt:(xq b (bu ss)).length<=401:=by
   have:=oJ (kj b (bu ss)) 0 0;rw[qI,length_map]at this;exact Nat.le_trans this (by omega)
  tm_up;refine⟨fun mm σ H'=>∃(low:Nat)(v:Option V)(c:RdS)(ys:List V),mm=ss.length-low/\low<=ss.length/\σ=[some (.ref l),some (.int b),some (.ref f),some (.ref th),some (.ref lo),some (.int (low:Int)),v]/\ar H H'/\H' f=some (.lst (c.1.map V.int))/\H' lo=some (.lst ys)/\V4 H' ys c.2/\H' th=some (.lst ((kI b (bu ss)).map V.bl))/\c.1.length=ss.length/\c.2.length+(fF low low ((kj b (bu ss)).drop low)).length<=401/\(fF low low ((kj b (bu ss)).drop low)).foldl (tO (bu ss)) c=lq b (bu ss),
   ⟨_,0,none,(ju b (bu ss),[]),[],rfl,Nat.zero_le _,rfl,s1.trans s3,s3 _ _ h1,ae,.nil,by rw[ao ntl];exact h2,bl,by show 0+(xq b (bu ss)).length<=401;omega,rfl⟩,?_⟩
  rintro mm σ H' ⟨low,v,c,ys,rfl,hlow,rfl,s4,hf4,WS,hys,hth,hcl,ai4,sV⟩;have hl4:=s4 _ _ hS;have hg4:=hg.same s4;tm_up;refine .inl ⟨_,_,rfl,.inl (aZ.of hl4),?_⟩;rw[cB hg];tm_up;refine bp (fun h=>?_) (fun h=>?_)
  ·have hlt:low<ss.length:=by have:=of_decide_eq_true h;omega
   refine⟨fun σ' NQ=>∃ m',m'<ss.length-low/\∃(low:Nat)(v:Option V)(c:RdS)(ys:List V),m'=ss.length-low/\low<=ss.length/\σ'=[some (.ref l),some (.int b),some (.ref f),some (.ref th),some (.ref lo),some (.int (low:Int)),v]/\ar H NQ/\NQ f=some (.lst (c.1.map V.int))/\NQ lo=some (.lst ys)/\V4 NQ ys c.2/\NQ th=some (.lst ((kI b (bu ss)).map V.bl))/\c.1.length=ss.length/\c.2.length+(fF low low ((kj b (bu ss)).drop low)).length<=401/\(fF low low ((kj b (bu ss)).drop low)).foldl (tO (bu ss)) c=lq b (bu ss),fun _ _ h=>h,?_⟩;generalize hn':lead ((kj b (bu ss)).drop low)=n;have hnle:n<=ss.length-low:=by
    have:=Y2 ((kj b (bu ss)).drop low);rw[length_drop,qI,length_map,hn']at this;exact this
   tm_up;refine⟨fun mm σ NQ=>∃ j:Nat,mm=n-j/\j<=n/\σ=[some (.ref l),some (.int b),some (.ref f),some (.ref th),some (.ref lo),some (.int (low:Int)),some (.int ((low+j:Nat):Int))]/\NQ=H',⟨n,0,rfl,Nat.zero_le _,rfl,rfl⟩,?_⟩;rintro mm σ NQ ⟨j,rfl,hj,rfl,rfl⟩;have hla:=Y4 ((kj b (bu ss)).drop low) j (by rw[hn'];exact hj);rw[hn',agw]at hla;refine uw (decide (j<n)) ?_ ?_
   ·tm_up;refine .inl ⟨_,_,rfl,.inl (aZ.of hl4),?_⟩;rw[cB hg];tm_up;refine bp (fun h=>?_) (fun h=>?_)
    ·have hjl:low+j<ss.length:=by have:=of_decide_eq_true h;omega
     have hk:(bu ss)[low+j]? = some (ss[low+j]).1:=x3 (getElem?_eq_getElem hjl);obtain⟨tb,ht1,ht2⟩:=Y3 hMs (bu ss) (low+j) _ hk;rw[ht2]at hla;tm_up;refine Kb (aZ.of hl4) hg4 (n:=low+j) rfl (getElem?_eq_getElem hjl) fun p hp=>?_;tm_up;refine bp (fun h=>?_) (fun h=>?_)
     ·have h':(ss[low+j]).1.small=true:=by rw[<-EX];exact h
      rw[h',Bool.true_and]at hla;tm_up;refine ixL (aZ.of hth) (n:=low+j) rfl (x3 ht1) ?_;tm_up;refine gB ?_;cases tb with
      |true=>exact(decide_eq_true (hla.mpr rfl)).symm
      |false=>exact(decide_eq_false (fun z=>by have:=hla.mp z;cases this)).symm
     ·have h':(ss[low+j]).1.small=false:=by rw[<-EX];exact Bool.eq_false_iff.mpr h
      rw[h',Bool.false_and]at hla;exact gB (decide_eq_false (fun z=>by have:=hla.mp z;cases this)).symm
    ·have hjl:¬ low+j<ss.length:=fun z=>h (decide_eq_true (by omega));exact gB (decide_eq_false (by omega)).symm
   refine bp (fun h=>?_) (fun h=>?_)
   ·have hjn:=of_decide_eq_true h;refine⟨fun σ' Hx=>∃ m',m'<n-j/\∃ j:Nat,m'=n-j/\j<=n/\σ'=[some (.ref l),some (.int b),some (.ref f),some (.ref th),some (.ref lo),some (.int (low:Int)),some (.int ((low+j:Nat):Int))]/\Hx=NQ,fun _ _ h=>h,?_⟩;tm_up;exact⟨n-(j+1),by omega,j+1,rfl,by omega,rfl,rfl⟩
   ·have hjn:j=n:=by
     have:¬ j<n:=fun z=>h (decide_eq_true z);omega
    subst hjn;have hrf:=Lk ((kj b (bu ss)).drop low) low low (by rw[hn'];omega) (Nat.le_refl _);rw[hn',List.drop_drop]at hrf;refine⟨fun σ1 H1=>σ1=[some (.ref l),some (.int b),some (.ref f),some (.ref th),some (.ref lo),some (.int (low:Int)),some (.int ((low+j:Nat):Int))]/\∃(c:RdS)(ys:List V),ar H H1/\H1 f=some (.lst (c.1.map V.int))/\H1 lo=some (.lst ys)/\V4 H1 ys c.2/\H1 th=some (.lst ((kI b (bu ss)).map V.bl))/\c.1.length=ss.length/\c.2.length+(fF (low+j) (low+j) ((kj b (bu ss)).drop (low+j))).length<=401/\(fF (low+j) (low+j) ((kj b (bu ss)).drop (low+j))).foldl (tO (bu ss)) c=lq b (bu ss),?_,?_⟩
    ·by_cases hj0:j=0
     ·subst hj0;refine uw false ?_ ?_
      ·tm_up;rw[decide_eq_false (show ¬((low:Int)<((low+0:Nat):Int)) by omega)];exact gB rfl
      ·exact dw ⟨rfl,c,ys,s4,hf4,WS,hys,hth,hcl,ai4,sV⟩
     ·have hlt2:low<low+j:=by omega
      rw[if_pos hlt2,List.singleton_append]at hrf;rw[hrf,List.foldl_cons]at sV;rw[hrf,length_cons]at ai4;have s5:ar H (upd NQ f (.lst ((settle (bu ss) c.1 low (low+j)).2.map V.int))):=jN s4 n1;have UH:upd NQ f (.lst ((settle (bu ss) c.1 low (low+j)).2.map V.int)) lo=some (.lst ys):=by rw[ao nfl.symm];exact WS
      have ai5:upd NQ f (.lst ((settle (bu ss) c.1 low (low+j)).2.map V.int)) th=some (.lst ((kI b (bu ss)).map V.bl)):=by rw[ao ntf];exact hth
      have ai6:(settle (bu ss) c.1 low (low+j)).2.length=ss.length:=by rw[Bf];exact hcl
      refine⟨fun bb H3=>bb = !(settle (bu ss) c.1 low (low+j)).1/\H3=upd NQ f (.lst ((settle (bu ss) c.1 low (low+j)).2.map V.int)),?_,?_⟩
      ·tm_up;rw[decide_eq_true (show((low:Int)<((low+j:Nat):Int)) by omega)];refine jr ?_;tm_up;refine⟨l,f,low,low+j,xs,ss,c.1,rfl,aZ.of hl4,hg4,nlf,hf4,hcl,hlt2,by omega,?_⟩;tm_up;exact⟨rfl,rfl⟩
      ·rintro bb H3 ⟨rfl,rfl⟩;refine bp (fun h=>?_) (fun h=>?_)
       ·have hst:(settle (bu ss) c.1 low (low+j)).1=false:=by
         cases e:(settle (bu ss) c.1 low (low+j)).1
         ·rfl
         ·rw[e]at h;cases h
        tm_up;refine⟨.inl ⟨rfl,_,aZ.of UH⟩,?_⟩;tm_up;refine⟨by show 2<=sizeLine;decide,fun z hz=>?_⟩;have sz:=ar.upd (o:=.tup [.int (low:Int),.int ((low+j:Nat):Int)]) hz;have aaj:=sz _ _ UH;refine⟨_,_,_,rfl,rfl,aaj,by rw[cB hys];exact ba (by omega),?_⟩;refine⟨rfl,((settle (bu ss) c.1 low (low+j)).2,c.2++[(low,low+j)]),_,jN (s5.trans sz) acN,by rw[ao nfl];exact sz _ _ ae,ae,qH (qJ aaj (r9 sz (qJ hf4 hys))) (Ua aaj ⟨z,rfl,ae⟩),
         by rw[ao ntl];exact sz _ _ ai5,ai6,by simp only [length_append,List.length_singleton];omega,?_⟩
        rw[<-sV];unfold tO;rw[hst];rfl
       ·have hst:(settle (bu ss) c.1 low (low+j)).1=true:=by
         cases e:(settle (bu ss) c.1 low (low+j)).1
         ·rw[e]at h;exact absurd rfl h
         ·rfl
        refine⟨rfl,((settle (bu ss) c.1 low (low+j)).2,c.2),ys,s5,ae,UH,qJ hf4 hys,ai5,ai6,by show c.2.length+_<=401;omega,?_⟩;rw[<-sV];unfold tO;rw[hst];rfl
    ·rintro σ1 H1 ⟨rfl,c',ys',s6,hf6,aaj,ai7,ai8,ai9,Zl,QH⟩;tm_up;refine⟨_,_,rfl,?_⟩
     by_cases hj0:j=0
     ·subst hj0;have hbl:(kj b (bu ss))[low]? = some false:=by
       have h1:low<(kj b (bu ss)).length:=by rw[qI,length_map];exact hlt
       have h2:¬(kj b (bu ss))[low+0]? = some true:=fun z=>Nat.lt_irrefl _ (hla.mpr z);rw[Nat.add_zero,getElem?_eq_getElem h1]at h2;rw[getElem?_eq_getElem h1];cases e:(kj b (bu ss))[low]
       ·rfl
       ·rw[e]at h2;exact absurd rfl h2
      rw[Nat.add_zero,qc hbl]at QH Zl;have er:fF low low (false::(kj b (bu ss)).drop (low+1))=fF (low+1) (low+1) ((kj b (bu ss)).drop (low+1)):=by
       show(if low<low then [(low,low)] else [])++fF (low+1) (low+1) ((kj b (bu ss)).drop (low+1))=_;rw[if_neg (Nat.lt_irrefl _),nil_append]
      rw[er]at QH Zl;have em:(if(low:Int)+1 > ((low+0:Nat):Int) then(low:Int)+1 else((low+0:Nat):Int))=((low+1:Nat):Int):=by rw[if_pos (by omega)];rfl
      rw[em];exact⟨ss.length-(low+1),by omega,low+1,_,c',ys',rfl,by omega,rfl,s6,hf6,aaj,ai7,ai8,ai9,Zl,QH⟩
     ·have em:(if(low:Int)+1 > ((low+j:Nat):Int) then(low:Int)+1 else((low+j:Nat):Int))=((low+j:Nat):Int):=by
       split <;> omega
      rw[em];exact⟨ss.length-(low+j),by omega,low+j,_,c',ys',rfl,by omega,rfl,s6,hf6,aaj,ai7,ai8,ai9,Zl,QH⟩
  ·have hlt:low=ss.length:=by
    have:¬ low<ss.length:=fun z=>h (decide_eq_true (by omega));omega
   subst hlt;rw[List.drop_eq_nil_of_le (by rw[qI,length_map];exact Nat.le_refl _)]at sV;have e:c=lq b (bu ss):=by
    have:fF ss.length ss.length []=[]:=by unfold fF;rw[if_neg (Nat.lt_irrefl _)]
    rw[this]at sV;exact sV
   subst e;tm_up;refine⟨by show 2<=sizeLine;decide,fun z hz=>?_⟩;have sz:=ar.upd (o:=.tup [.ref f,.ref lo]) hz;exact q z f lo ys _ (s4.trans sz) n1 acN nfl ae (sz _ _ hf4) (sz _ _ WS) (r9 sz hys)
inductive EY (K:Frag)(vs:List V)(H:Hp)(Q:VK)(E:XK):Prop
 |mk (d:Addr) (vw:Vw) (n:Str) (th:Th) (gw:vs=[.ref d,.str n]) (gx:Uj H d vw) (iW:zT vw) (m7:aM vw n=some th) (tJ:∀(l:Addr)(H':Hp),ar H H'->H' l=some (.lst ((Pa vw n).map V.int))->Q (.ref l) H'):EY K vs H Q E
theorem QI (T:Txt K w mg t):bK P w K mg base oI (0+3) t.jE t.ym ["_law_voices","_law_name"] (EY K):=by
 have yI:=EW (P:=P) (base:=base) T;have EZ:=Pw (P:=P) (base:=base) T;refine T.oS.ok vM (fun vs H Q E h=>?_) (fun cdv A outer s H vs Q E hr h=>?_)
 ·obtain⟨_,_,_,_,rfl,_⟩:=h;rfl
 ·obtain⟨d,vw,n,th,rfl,hd,wv,hf,q⟩:=h;refine aS (ah (aH (i:=2) vM.nd rfl (Or.inr rfl) (DV (Ld hr) (pv 0) (pv 1) (fun _ _=>rfl))) (ah (aH (i:=3) vM.nd rfl (Or.inl rfl) (aB yI (hr.mono (by decide)) rfl T.Et T.lE.kp T.sL .nil aL (aa (pv 0) (aa (pv 1) af)))) (ah (bf (bZ (bc xS rfl T.ku kh (aa (pv 2) (aa (DI (v:=.ty "list") rfl T.Ew DR rfl) af)))) (ak (ax (aK aA (aB EZ (hr.mono (by decide)) rfl T.GX T.rf.kp T.yw .nil aL (aa (pv 3) (aa ai af))) ai (fun _ _=>rfl)))) aF) (ak (ax (oC (cn:=["_law_worth"]) rfl (dQ.of rfl) (fN (aK aA (aB EZ (hr.mono (by decide)) rfl T.GX T.rf.kp T.yw .nil aL (aa (pv 3) (aa (cM (gR (bZ (aK aA (pv 2) ai (fun _ _=>rfl))) ai ai)) af))) ai (fun _ _=>rfl))) (fun _=>(aP (i:=0) Lz rfl (Or.inl rfl))) (fun _=>vv) (fun _=>(aR (vh.or vq) (aK aA (pv 3) ai (fun _ _=>rfl)) (pv 0))))))))) ?_;obtain⟨v,hg,hv⟩:=hd.get hf;refine⟨_,rfl,_,rfl,d,v,rfl,hg,?_⟩;refine⟨_,rfl,_,rfl,d,vw,n,th,rfl,hd,wv,hf,fun l ys H1 s1 h1 g1=>?_⟩;cases th with
  |pl ss =>
   obtain⟨l0,ys0,rfl,h0,_⟩:=hv;have gl:=(wv.gd _ _ (di hf)).1;rw[qK hf]at g1;tm_up;refine⟨_,_,_,_,rfl,ur.lst (s1 _ _ h0),rfl,_,rfl,jr ?_⟩;refine⟨_,rfl,l,3,ys,ss,rfl,.inl rfl,h1,g1,by omega,fun p f lo zs H2 s2 _ _ _ hp hf2 _ _=>ix0 hp ?_⟩;exact q f H2 (s1.trans s2) (by rw[Lq hf];exact hf2)
  |cn ld lt sl tn =>
   obtain⟨p,rfl,hp⟩:=hv;obtain⟨⟨ss,hld⟩,lt0,lt1,sl0,sl1⟩:=wv.ld n ld lt sl tn (di hf);have hfl:=wv.find hld;have gl:=(wv.gd _ _ hld).1;rw[uE hf hfl]at g1;rw[D7 hf hfl]at q;have gl2:(if tn=true then ss.map sf else ss).length<=400:=by
    split
    ·rw[length_map];omega
    ·omega
   tm_up;refine⟨_,_,_,_,rfl,ur.tup (s1 _ _ hp),rfl,_,rfl,dw ?_⟩;refine⟨_,rfl,?_⟩;refine⟨fun v H'=>v=.int (if tn=true then 2 else 3)/\H'=H1,?_,?_⟩
   ·refine⟨_,rfl,Z7 (i:=3) (s1 _ _ hp) rfl ⟨_,rfl,?_⟩⟩;cases tn with
    |true=>exact jr ⟨rfl,rfl⟩
    |false=>exact dw ⟨rfl,rfl⟩
   intro v0 H0 ⟨e1,e2⟩;rw[e1,e2];have hMs:Ms (if tn=true then 2 else 3):=by cases tn;exact .inl rfl;exact .inr rfl
   refine⟨l,_,ys,_,rfl,hMs,h1,g1,gl2,fun p2 f lo zs H2 s2 _ _ _ hp2 hf2 _ _=>ix0 hp2 ?_⟩;generalize hW:(lq (if tn=true then 2 else 3) (bu (if tn=true then ss.map sf else ss))).1=W at q hf2;have hWl:W.length<=400:=by rw[<-hW,zR,length_map];exact gl2
   refine⟨f,rfl,⟨_,aZ.of hf2⟩,fun D' b' hD'=>?_⟩;have hpD:=s2 _ _ (s1 _ _ hp);refine lp (K:=K) (xs:=W.map V.int) (fun i ys' σ H'=>∃ v,σ=[v,some (.ref d),some (.str n),some (.ref p),some (.ref l)]/\H'=upd H2 D' (.lst ys')/\ys'=((W.take i).map fun w=>sl * w).map V.int) ⟨none,rfl,rfl,by simp⟩ ?_ ?_ ?_
   ·rintro i ys σ H' ⟨v,rfl,rfl,_⟩;exact ip (aZ.of hf2) hD'
   ·rintro i ys' y σ H' hy ⟨v,rfl,rfl,rfl⟩ N hN;obtain⟨z,hz,rfl⟩:=Qb hy;have hi:i<W.length:=(List.getElem?_eq_some_iff.mp hz).1;refine jt ?_;refine⟨_,rfl,Z7 (i:=2) (by rw[ao (aq hpD hD')];exact hpD) rfl ?_⟩;refine⟨_,rfl,.inl ⟨_,_,rfl,rfl,.inl ⟨by omega,by omega⟩,ae,?_,?_⟩⟩
    ·rw[length_map,length_map,length_take];exact ba (by omega)
    ·refine hN _ _ _ ⟨_,rfl,cI,?_⟩;rw[take_succ,hz,map_append,map_append];rfl
   ·rintro ys' σ H' ⟨v,rfl,rfl,rfl⟩;rw[length_map,take_length];exact q D' _ ((s1.trans s2).trans (ar.upd hD')) ae
def mix (H0 H H':Hp):Hp:=fun y=>match H y with
 |none=>H' y
 |some (.lst _)=>H0 y
 |some o=>some o
section
variable {H0 H H' NQ:Hp}
theorem sW (s:ar H0 H):ar H0 (mix H0 H H'):=fun y o e=>by
 unfold mix;rw[s _ _ e];cases o with
 |lst xs=>exact e
 |_=>rfl
theorem wd {y:Addr}{o:HO}(n:H y=none)(e:H' y=some o):mix H0 H H' y=some o:=by
 unfold mix;rw[n];exact e
theorem E8 (s:ar H H'){y:Addr}{o:HO}(e:H' y=some o)(k:∀ xs,o≠.lst xs):mix H0 H H' y=some o:=by
 unfold mix;cases h:H y with
 |none=>exact e
 |some u =>
  have:o=u:=Option.some.inj (e.symm.trans (s _ _ h));subst this;cases o with
  |lst xs=>exact absurd rfl (k xs)
  |_=>rfl
theorem aew (s0:ar H0 H)(s:ar H H'):ar (mix H0 H H') H':=fun y o e=>by
 unfold mix at e;cases h:H y with
 |none=>rw[h]at e;exact e
 |some u =>
  rw[h]at e;cases u with
  |lst xs=>exact s _ _ (s0 _ _ e)
  |_=>exact(s _ _ h).trans e
theorem Bw.mix {c:Cs}{x:Addr}{vw:Vw}{ps fs:List Vw}(h:Bw c H0 H x [] vw ps fs)(s:ar H H'):Bw c (Gj.mix H0 H H') H' x [] vw ps fs:=by
 obtain⟨F,b,hF,h0,ho⟩:=h.ex;refine⟨⟨F,b.same s,fun y z=>let ⟨xs,e⟩:=hF y z;⟨xs,s _ _ e⟩,fun y hy=>?_,fun a ha=>nomatch ha⟩,aew h.sm s⟩;obtain⟨xs,e⟩:=hF y hy;unfold Gj.mix;rw[e];exact h0 y hy
theorem h9.mixed (s:ar H H'){xs:List V}{ss:List Sg}(h:h9 H' xs ss):h9 (mix H0 H H') xs ss:=dy (fun _ _ ⟨z,e1,e2⟩=>⟨z,e1,E8 s e2 (fun _ q=>nomatch q)⟩) h
end
inductive yJ (K:Frag)(c:Cs)(vs:List V)(H:Hp)(Q:VK)(E:XK):Prop
 |mk (a x dc:Addr) (ns:List Int) (n:Str) (H0:Hp) (vw:Vw) (ps:List Vw) (kvs:List (Key×V)) (gw:vs=[.ref a,.ref x,.str n,.ref dc]) (gx:aZ K H0 a (ns.map V.int)) (iW:ns.length<=63) (m7:Bw c H0 H x [] vw ps []) (tJ:ps.length=14) (Tx:ps.head? = some []) (h6_:aM vw n=some (.pl [])) (h7_:n.length<=8) (h8_:H0 dc=some (.dK kvs)) (h9_:(∀ m v,nh kvs (Sum.inr m)=some v->∀ th,aM vw m=some th->∃ k:Int,v=.int k/\th=.cn n k 9 true)) (aiH:∀ H',Q (.bl true) H'):yJ K c vs H Q E
theorem acT {vw:Vw}{qs:List Vw}{n:Str}{ss:List Sg}(h:aM vw n=some (.pl ss))(sl:ss.length=200)(at_:Int)(sg:Sn):nq ⟨vw,qs,[]⟩ ⟨.put,n,"",0,sg,0,0,false⟩ at_=if at_<0\/201<=at_ then some .kB else if jg sg=false then some .lM else some .Full:=by
 rw[uV (.inl rfl),qL h,sl];show(if at_<0\/((200:Nat):Int)+(if Wy.put=Wy.put then 1 else 0)<=at_ then some Rf.kB else if Wy.put≠Wy.cut/\jg sg=false then some Rf.lM else if Wy.put=Wy.put/\200<=200 then some Rf.Full else none)=_;rw[if_pos (rfl:Wy.put=Wy.put)]
 by_cases z:at_<0\/201<=at_
 ·rw[if_pos z,if_pos (show at_<0\/((200:Nat):Int)+1<=at_ from z)]
 ·rw[if_neg z,if_neg (show ¬(at_<0\/((200:Nat):Int)+1<=at_) from z)];cases e:jg sg with
  |false=>rw[if_pos ⟨by decide,rfl⟩,if_pos rfl]
  |true=>rw[if_neg (fun z=>by cases z.2),if_pos ⟨rfl,Nat.le_refl _⟩,if_neg (by decide)]
theorem QJ {K:Frag}{H:Hp}{p p2:Addr}{i j:Int}(n:Nat)(h1:H p=some (.tup [.int i,.int j]))(h2:H p2=some (.tup [.int i,.int j])):Deq K H (n+1) (.ref p) (.ref p2):=by
 refine .tup (uo.of h1) (uo.of h2) rfl fun k x y e1 e2=>?_;have e:x=y:=Option.some.inj (e1.symm.trans e2);subst e
 match k,e1 with
 |0,e1=>cases e1;exact .flat rfl
 |1,e1=>cases e1;exact .flat rfl
theorem qz {vw:Vw}{n:Str}{th th':Th}(h:aM vw n=some th):aM (iY vw n th') n=some th':=by
 induction vw with
 |nil=>cases h
 |cons q r ih =>
  unfold aM iY at *;rw[map_cons]
  by_cases z:q.1=n
  ·rw[if_pos z,List.find?_cons_of_pos (by simp)];rfl
  ·rw[if_neg z,List.find?_cons_of_neg (by simp[z])];rw[List.find?_cons_of_neg (by simp[z])]at h;exact ih h
theorem QK {vw:Vw}{n m:Str}{th:Th}(h:m≠n):aM (iY vw n th) m=aM vw m:=by
 induction vw with
 |nil=>rfl
 |cons q r ih =>
  unfold aM iY at *;rw[map_cons]
  by_cases z:q.1=n
  ·rw[if_pos z,List.find?_cons_of_neg (by simp[Ne.symm h]),List.find?_cons_of_neg (by simp[z,Ne.symm h])];exact ih
  ·rw[if_neg z]
   by_cases y:q.1=m
   ·rw[List.find?_cons_of_pos (by simp[y]),List.find?_cons_of_pos (by simp[y])]
   ·rw[List.find?_cons_of_neg (by simp[y]),List.find?_cons_of_neg (by simp[y])];exact ih
theorem G9 (vw:Vw)(n:Str)(a b:Th):iY (iY vw n a) n b=iY vw n b:=by
 unfold iY;rw[List.map_map];refine List.map_congr_left fun q _=>?_;show(if(if q.1=n then(n,a) else q).1=n then(n,b) else(if q.1=n then(n,a) else q))=_
 by_cases z:q.1=n
 ·rw[if_pos z,if_pos rfl,if_pos z]
 ·rw[if_neg z,if_neg z]
theorem aak {vw:Vw}{n:Str}{th:Th}(h:aM vw n=some th)(w:zT vw):iY vw n th=vw:=by
 unfold iY
 conv=>rhs;rw[<-List.map_id vw]
 refine List.map_congr_left fun q hq=>?_
 by_cases z:q.1=n
 ·rw[if_pos z];have:=w.find (n:=q.1) (th:=q.2) hq;rw[z,h]at this;cases this;show(n,q.2)=q;rw[<-z]
 ·rw[if_neg z];rfl
set_option maxHeartbeats 8000000 in
theorem Mn (T:Txt K w mg t):bK P w K mg base oI (0+8) t.gG t.tU ["_law_script","_law_book","_law_name","_law_canons"] (yJ K (cs t)):=by
 have BO:=Uy (P:=P) (base:=base) T;have UK:=QB (P:=P) (base:=base) T;have wa:=JP (P:=P) (base:=base) T;have ig:=v8 (P:=P) (base:=base) T;have QL:=Ob (P:=P) (base:=base) T;have Ha:=Mf (P:=P) (base:=base) T;have hX:=BK (P:=P) (base:=base) T;have WO:=Zg (P:=P) (base:=base) T;have UL:=aac (P:=P) (base:=base) T;have jJ:=ER (P:=P) (base:=base) T;have JV:=QG (P:=P) (base:=base) T;have eI:=kx (P:=P) (base:=base) T;have yI:=EW (P:=P) (base:=base) T;have EZ:=Pw (P:=P) (base:=base) T;have UM:=QI (P:=P) (base:=base) T;refine T.kr.ok bj (fun vs H Q E h=>?_) (fun cdv A outer s H vs Q E hr h=>?_)
 ·obtain⟨_,_,_,_,_,_,_,_,_,rfl,_⟩:=h;rfl
 ·obtain⟨a,x,dc,ns,n,H0,vw,ps,kvs,rfl,hS,hl,B,pl,phd,hf,n8,hdc,hkv,q⟩:=h;have hbody:aw cL=(aw cL).take 7++YY ((aw cL).getD 7 (.Pass ⟨0,0,0,0⟩)) cG::(aw cL).drop 8:=by unfold cG;rfl
  rw[hbody];refine aS (ah (aH (i:=4) bj.nd rfl (Or.inl rfl) (bM af)) (ah (aH (i:=5) bj.nd rfl (Or.inl rfl) (bS (bH.or (bg (az hr))) (aR j6 (aR KU (aB jJ (hr.mono (by decide)) rfl T.jZ T.eM.kp T.ie .nil aL (aa (pv 0) (aa ai af))) ai) ai) ai (ay _))) (ah (ij PassesOwn.never rfl (lj rfl T.jG (aa ai af)) (aP (i:=6) bj.nd rfl (Or.inl rfl)) (ah (aH (i:=7) bj.nd rfl (Or.inl rfl) (aB UK (hr.mono (by decide)) rfl T.Qq T.oQ.kp T.yo .nil aL (aa (aB Ha (hr.mono (by decide)) rfl T.LL T.qy.kp T.Af .nil aL (aa (aB jJ (hr.mono (by decide)) rfl T.jZ T.eM.kp T.ie .nil aL (aa (pv 0) (aa ai af))) (aa (aR j6 (pv 6) ai) af))) af))) (ah (aH (i:=8) bj.nd rfl (Or.inl rfl) (fE (pv 1) T.aE T.yq wa (hr.mono (by decide)) T.q8 .nil rW (aa (pv 2) (aa (aR (vh.or vq) (pv 6) (jM (ng.or gy) rfl T.yz xV (aa (pv 5) af))) (aa (pv 7) af))))) (ah (aH (i:=9) bj.nd rfl (Or.inl rfl) (aB BO (hr.mono (by decide)) rfl T.yn T.kR.kp T.qX .nil aL (aa (pv 4) (aa (bB (aa av (aa (pv 2) (aa av (aa ai (aa (pv 7) af)))))) (aa (aR (vh.or vq) (pv 6) (jM (ng.or gy) rfl T.yz xV (aa (pv 5) af))) af))))) (ah (bf (dh (PW.pt (dX (au (bH.or (bg (az hr))) (aR j6 (pv 6) ai) ai (ay _)) (gM (au (lH.or (ik (az hr))) (pv 8) (pv 9) (ay _)))))) (ak (ax fM)) aF) (ak (aH (i:=4) bj.nd rfl (Or.inl rfl) (cM (gR (bZ (pv 5)) (aR (bW.or (aJ.or bY)) (pv 4) (bM (aa (pv 7) af))) (aR (bW.or (aJ.or bY)) (bM (aa (pv 7) af)) (pv 4))))))))))) (ah (bf (au (lH.or (ik (az hr))) (aK aA (aB hX (hr.mono (by decide)) rfl T.iE T.eP.kp T.gZ .nil aL (aa (pv 1) (aa (bB (aa av (aa (pv 2) (aa av (aa ai (aa (bB (aa av (aa ai af))) af)))))) (aa ai af)))) ai (fun _ _=>rfl)) av (ay _)) (ak (ax fM)) aF) (ah (bf (au (lH.or (ik (az hr))) (fE (pv 1) T.aE T.iD ig (hr.mono (by decide)) T.fV .nil rW (aa (pv 2) af)) (pv 4) (ay _)) (ak (ax fM)) aF) (ah (bf (au (lH.or (ik (az hr))) (aK aA (aB hX (hr.mono (by decide)) rfl T.iE T.eP.kp T.gZ .nil aL (aa (pv 1) (aa (bB (aa av (aa (pv 2) (aa av (aa ai (aa (bB (aa av (aa ai af))) af)))))) (aa ai af)))) ai (fun _ _=>rfl)) av (ay _)) (ak (ax fM)) aF) (ah (ij PassesOwn.never rfl (fN (bM (aa (YG PQ ai) (aa ai (aa (aR af6 ai ai) af))))) (aP (i:=10) bj.nd rfl (Or.inl rfl)) (ak (bf (au (lH.or (ik (az hr))) (aK aA (aB hX (hr.mono (by decide)) rfl T.iE T.eP.kp T.gZ .nil aL (aa (pv 1) (aa (bB (aa av (aa (pv 2) (aa av (aa ai (aa (bB (aa av (aa ai af))) af)))))) (aa (pv 10) af)))) ai (fun _ _=>rfl)) av (ay _)) (ak (ax fM)) aF))) (ah (ij PassesOwn.never rfl (fN GB) (oV rfl (bA (aP (i:=11) bj.nd rfl (Or.inl rfl)) (bA (aP (i:=10) bj.nd rfl (Or.inl rfl)) ky))) (ah (aH (i:=9) bj.nd rfl (Or.inl rfl) (aB BO (hr.mono (by decide)) rfl T.yn T.kR.kp T.qX .nil aL (aa (pv 4) (aa (pv 11) (aa (pv 10) af))))) (ah (aH (i:=4) bj.nd rfl (Or.inl rfl) (aR (bW.or (aJ.or bY)) (aR (bW.or (aJ.or bY)) (lI (qa.or (vm.or vy)) (pv 4) rV (je (pv 10))) (lI (qa.or (vm.or vy)) (bM (aa (aK aA (pv 11) ai (fun _ _=>rfl)) af)) rV (je (jM (ng.or gy) rfl T.yz xV (aa (bS (bH.or (bg (az hr))) (aK aA (pv 11) ai (fun _ _=>rfl)) av (ay _)) af))))) (lI (qa.or (vm.or vy)) (pv 4) (je (aR (bW.or (aJ.or bY)) (pv 10) ai)) rV))) (ak (bf (au (lH.or (ik (az hr))) (aB WO (hr.mono (by decide)) rfl T.Za T.GQ.kp T.Qt .nil rW (aa (pv 1) (aa (bB (aa (aK aA (pv 11) ai (fun _ _=>rfl)) (aa (pv 2) (aa av (aa ai (aa (aK aA (pv 11) ai (fun _ _=>rfl)) af)))))) (aa (pv 10) af)))) (pv 9) (ay _)) (ak (ax fM)) aF)))) (Gz _)) (ah (aH (i:=9) bj.nd rfl (Or.inl rfl) (aB BO (hr.mono (by decide)) rfl T.yn T.kR.kp T.qX .nil aL (aa (pv 4) (aa (bB (aa av (aa av (aa av (aa ai (aa (bB (aa av (aa ai af))) af)))))) (aa ai af))))) (ah (aH (i:=4) bj.nd rfl (Or.inl rfl) (aR (bW.or (aJ.or bY)) (pv 4) (bM (aa (bB (aa av (aa ai af))) af)))) (ah (bf (dh (PW.pt (xK (au (lH.or (ik (az hr))) (fE (pv 1) T.aE T.yq wa (hr.mono (by decide)) T.q8 .nil rW (aa (pv 2) (aa ai (aa (bB (aa av (aa ai af))) af)))) (pv 9) (ay _)) (qA (kG (bZ (aB UL (hr.mono (by decide)) rfl T.Pg T.uQ.kp T.Ep .nil aL (aa (fE (pv 1) T.aE T.Es JV (hr.mono (by decide)) T.sJ .nil rW (aa (pv 2) af)) (aa (aK aA (aB EZ (hr.mono (by decide)) rfl T.GX T.rf.kp T.yw .nil aL (aa (pv 4) (aa ai af))) ai (fun _ _=>rfl)) af))))))))) (ak (ax fM)) aF) (ah (ij PassesOwn.never rfl (fN (lI (qa.or (vm.or vy)) (YX 12 ["_law_script","_law_book","_law_name","_law_canons","_law_line","_law_front","_law_k","_law_sign","_law_told","_law_due","_law_at","_law_deed","","_law_voices"] (oC (cn:=["_law_one"]) rfl (dQ.of rfl) (fN (kg (pv 1) T.aE T.ko eI (hr.mono (by decide)) T.iA .nil aL)) (fun _=>(aP (i:=0) Gx rfl (Or.inl rfl))) (fun _=>(P2 (afV (agt (Ld hr) (pv 0) (pv 4))))) (fun _=>(pv 0)))) rV (je ai))) (aP (i:=12) bj.nd rfl (Or.inl rfl)) (ah (aH (i:=13) bj.nd rfl (Or.inl rfl) (ad3 (TY (pv 2) (pv 4) (TY (pv 12) (bB (aa (pv 2) (aa (DV (Ld hr) (pv 3) (pv 12) (fun _ _=>rfl)) (aa ai (aa fM af))))) ad2)) rfl rfl (List.cons_ne_nil _ _) (by decide))) (ak (bf (dh (PW.pt (xK (au (lH.or (ik (az hr))) (fE (pv 1) T.aE T.iD ig (hr.mono (by decide)) T.fV .nil rW (aa (pv 12) af)) (aB yI (hr.mono (by decide)) rfl T.Et T.lE.kp T.sL .nil aL (aa (pv 13) (aa (pv 12) af))) (ay _)) (qA (kG (bZ (aB UL (hr.mono (by decide)) rfl T.Pg T.uQ.kp T.Ep .nil aL (aa (fE (pv 1) T.aE T.Es JV (hr.mono (by decide)) T.sJ .nil rW (aa (pv 12) af)) (aa (aB UM (hr.mono (by decide)) rfl T.Qv T.oS.kp T.yx .nil aL (aa (pv 13) (aa (pv 12) af))) af))))))))) (ak (ax fM)) aF)))) (ak (ax (cM (kH (bS (bH.or (bg (az hr))) (fE (pv 1) T.aE T.iD ig (hr.mono (by decide)) T.fV .nil rW (aa (pv 2) af)) (pv 4) (ay _)) (j5 (aB QL (hr.mono (by decide)) rfl T.N2 T.l9.kp T.vW .nil aL (aa (pv 1) (aa (pv 2) (aa (pv 4) af))))))))))))))))))))) ?_;refine bL fun N hN=>?_;refine⟨big (by show 0<=1000;omega),fun l0 hl0=>?_⟩;have S1:=ar.upd (o:=.lst []) hl0;have k1:=ae (H:=H) (a:=l0) (o:=.lst []);generalize upd H l0 (.lst [])=H1 at S1 k1;refine hN _ _ ?_;clear hN N;refine bL fun N hN=>?_;have B1:=B.mix S1;tm_up;refine⟨a,ns,3,rfl,B1.sm.seq ((sW B.sm).seq hS),hl,?_⟩;tm_up;have kS:ar H0 (mix H0 H H1):=sW B.sm;have k10:mix H0 H H1 l0=some (.lst []):=wd hl0 k1;have aja:=kS _ _ hdc;have hS1:aZ K (mix H0 H H1) a (ns.map V.int):=kS.seq hS;generalize mix H0 H H1=H2 at B1 k10 aja hS1;generalize hfr:decide (V.int (JS ns 3 / 4 % 2)=V.int 1)=fr;refine hN _ _ ?_;clear hN N B hl0 k1 S1 kS hdc hS;refine bL fun N hN=>?_;refine⟨200,rfl,by decide,by decide,?_⟩;refine qj (n:=200) (fun i σ H'=>∃(u6 u7 u8 u9:Option V)(lk:Addr)(ys:List V)(ss:List Sg)(qs:List Vw)(Hb:Hp),σ=[some (.ref a),some (.ref x),some (.str n),some (.ref dc),some (.ref lk),some (.bl fr),u6,u7,u8,u9,none,none,none,none]/\ar H2 Hb/\Bw (cs t) Hb H' x [] (iY vw n (.pl ss)) qs []/\Hb lk=some (.lst ys)/\h9 Hb ys ss/\ss.length=i/\qs.length=14+i/\qs.head? = some []) ⟨none,none,none,none,l0,[],[],ps,H2,rfl,ar.refl _,by rw[aak hf B1.wv];exact B1,k10,.nil,rfl,pl,phd⟩ ?_ ?_
  ·rintro i σ H' hi ⟨u6,u7,u8,u9,lk,ys,ss,qs,Hb,rfl,Sb,B,hlk,g,sl,ql,qhd⟩;rw[show(0:Int)+(i:Int)=(i:Int) from Int.zero_add _];refine bL fun M hM=>?_;tm_up;refine⟨a,ns,4,rfl,B.sm.seq (Sb.seq hS1),hl,?_⟩;tm_up;refine⟨_,_,rfl,fun r _ _=>?_⟩;refine⟨r,rfl,fun pg sg gsg hpg=>?_⟩;have S3:=ar.upd (o:=.tup [.str sg.1.str,.int sg.2]) hpg;have k3:=ae (H:=H') (a:=pg) (o:=.tup [.str sg.1.str,.int sg.2]);generalize upd H' pg (.tup [.str sg.1.str,.int sg.2])=H3 at S3 k3;have B3:=B.same S3;have gk:=aed gsg;obtain⟨p,hp,hpi,hpt,hpf⟩:∃ p:Nat,((i:Int) * (if fr=true then 1 else 0))=(p:Int)/\p<=i/\(fr=true->p=i)/\(fr=false->p=0):=by
    cases fr with
    |true=>exact⟨i,by show(i:Int) * 1=i;omega,Nat.le_refl _,fun _=>rfl,fun z=>by cases z⟩
    |false=>exact⟨0,by show(i:Int) * 0=0;omega,Nat.zero_le _,fun z=>(by cases z),fun _=>rfl⟩
   have fset:=qz (th':=.pl ss) hf;refine hM _ _ ?_;clear hM M;refine bL fun M hM=>?_;obtain⟨VD,L1,D1,U1,hx1⟩:=B3.hx;obtain⟨F1,b1,f1,z1,o1⟩:=B3.ex;refine⟨_,rfl,x,VD,_,rfl,hx1,Bh _ _ _,_,rfl,_,rfl,_,rfl,.inl (.inr ⟨_,rfl,.inl ⟨_,_,rfl,rfl,.inl ⟨by omega,by omega⟩,?_⟩⟩)⟩;rw[hp];refine⟨_,rfl,x,F1,_,qs,[],n,(p:Int),pg,(sg.1.str,sg.2),rfl,b1,k3,by omega,?_⟩;rw[fset];refine⟨(fun z=>absurd ⟨by omega,by omega⟩ z),(fun _ z=>by rw[gk]at z;cases z),(fun _ _ z=>by omega),fun _ _ _ s9 w9 F4 H4 e1 e2 hw9 gr4 fr4 b4=>?_⟩;have es:s9=sg:=Prod.ext (str_inj.mp e1) e2;subst es;rw[Int.toNat_natCast,G9]at b4;rw[Int.toNat_natCast]at hw9;obtain⟨B4,kk4⟩:=Bw.mk' b4 B3.sm f1 z1 o1 gr4 fr4;have pg4:=kk4 _ _ k3 (.inl fun _ z=>nomatch z);refine hM _ _ ?_;clear hM M b1 f1 z1 o1 gr4 fr4 b4 hx1 kk4 k3;refine bL fun M hM=>?_;tm_up;refine⟨by show 5<=sizeLine;decide,fun pd hpd=>?_⟩;have S5:=ar.upd (o:=.tup [V.str "put",V.str n,V.str "",V.int 0,V.ref pg]) hpd;have k5:=ae (H:=H4) (a:=pd) (o:=.tup [V.str "put",V.str n,V.str "",V.int 0,V.ref pg]);generalize upd H4 pd (.tup [V.str "put",V.str n,V.str "",V.int 0,V.ref pg])=H5 at S5 k5;have B5:=B4.same S5;refine⟨_,rfl,_,rfl,.inl (.inr ⟨_,rfl,.inl ⟨_,_,rfl,rfl,.inl ⟨by omega,by omega⟩,?_⟩⟩)⟩;rw[hp];refine⟨lk,_,ys,ss,⟨.put,n,"",0,(s9.1.str,s9.2),0,0,false⟩,p,rfl,B5.sm _ _ hlk,h9.same B5.sm g,by omega,⟨pd,_,pg,rfl,k5,rfl,rfl,S5 _ _ pg4⟩,.inl rfl,(fun _=>gk),by omega,(fun z=>absurd rfl z),fun pw ch H6 S6 c1 c2 hpw=>?_⟩;have ec:=c1 rfl;rw[si rfl rfl]at ec;have el:bO ss .put (s9.1.str,s9.2) p=ss.take p++[s9]++ss.drop p:=by
    show ss.take p++[gL (s9.1.str,s9.2)]++ss.drop p=_;rw[si rfl rfl]
   rw[ec,if_neg (show ¬(Wy.put=Wy.cut) by decide),el]at hpw;have w6:=S6 _ _ (S5 _ _ hw9);have pg6:=S6 _ _ (S5 _ _ pg4);have B6:=B5.same S6;refine hM _ _ ?_;clear hM M c1 c2 ec S5 S6 k5 B5 hw9 pg4 hpd;refine bL fun M hM=>?_;refine⟨fun b H'=>b=false/\ar H6 H',?_,?_⟩
   ·tm_up;refine bp (fun _=>?_) (fun _=>⟨rfl,ar.refl _⟩);exact⟨_,rfl,_,rfl,.inr ⟨w9,pw,rfl,rfl,QJ 59 w6 hpw,⟨_,rfl,rfl,ar.refl _⟩⟩⟩
   rintro _ H7 ⟨rfl,S7⟩;refine dw ?_;have B7:=B6.same S7;have pg7:=S7 _ _ pg6;refine hM _ _ ?_;clear hM M w6 hpw pg6 S7 B6;have lk7:=B7.sm _ _ hlk;have g7:=h9.same B7.sm g;have yl:=cB g;refine⟨fun v H'=>∃ l2 ys2,v=.ref l2/\H7 l2=none/\ar H7 H'/\H' l2=some (.lst ys2)/\h9 H' ys2 (ss.take p++[s9]++ss.drop p),?_,?_⟩
   ·refine⟨_,rfl,_,rfl,?_⟩;cases fr with
    |true =>
     rw[hpt rfl,<-sl,take_length,List.drop_length,append_nil];refine jr ?_;refine⟨_,rfl,_,rfl,big (by show 1<=1000;omega),fun c1 hc1=>?_⟩;have T1:=ar.upd (o:=.lst [V.ref pg]) hc1;have t1:=ae (H:=H7) (a:=c1) (o:=.lst [V.ref pg]);generalize upd H7 c1 (.lst [V.ref pg])=H8 at T1 t1;refine .inr (.inr ⟨lk,c1,_,_,rfl,rfl,T1 _ _ lk7,t1,big (by show _+1<=1000;omega),fun c2 hc2=>?_⟩);have T2:=T1.trans (ar.upd (o:=.lst (ys++[V.ref pg])) hc2);exact⟨c2,_,rfl,T1.free hc2,T2,ae,xZ (h9.same T2 g7) (.cons ⟨pg,rfl,T2 _ _ pg7⟩ .nil)⟩
    |false =>
     rw[hpf rfl,List.take_zero,List.drop_zero,nil_append];refine dw ?_;refine⟨_,rfl,big (by show 1<=1000;omega),fun c1 hc1=>?_⟩;have T1:=ar.upd (o:=.lst [V.ref pg]) hc1;have t1:=ae (H:=H7) (a:=c1) (o:=.lst [V.ref pg]);generalize upd H7 c1 (.lst [V.ref pg])=H8 at T1 t1;refine⟨_,rfl,.inr (.inr ⟨c1,lk,_,_,rfl,rfl,t1,T1 _ _ lk7,big (by show 1+_<=1000;omega),fun c2 hc2=>?_⟩)⟩;have T2:=T1.trans (ar.upd (o:=.lst ([V.ref pg]++ys)) hc2);exact⟨c2,_,rfl,T1.free hc2,T2,ae,xZ (.cons ⟨pg,rfl,T2 _ _ pg7⟩ .nil) (h9.same T2 g7)⟩
   rintro _ H8 ⟨l2,ys2,rfl,nl2,S8,h8,g8⟩;refine⟨_,_,_,_,l2,ys2,_,_,mix Hb H7 H8,rfl,Sb.trans (sW B7.sm),B7.mix S8,wd nl2 h8,h9.mixed S8 g8,?_,?_,?_⟩
   ·rw[length_append,length_append,length_take,length_drop];show _+1+_=_;omega
   ·rw[length_append];show _+1=_;omega
   ·rw[List.head?_append,qhd];rfl
  ·rintro σ H' ⟨u6,u7,u8,u9,lk,ys,ss,qs,Hb,rfl,Sb,B,hlk,g,sl,ql,qhd⟩;refine hN _ _ ?_;clear hN N;have fset:=qz (th':=.pl ss) hf;have Zm:n.length<=1000:=by omega
   refine bL fun N hN=>?_;tm_up;refine⟨by show 2<=sizeLine;decide,fun p1 hp1=>?_⟩;have T1:=ar.upd (o:=.tup [V.str "s",V.int 1]) hp1;have t1:=ae (H:=H') (a:=p1) (o:=.tup [V.str "s",V.int 1]);generalize upd H' p1 (.tup [V.str "s",V.int 1])=G1 at T1 t1;refine⟨by show 5<=sizeLine;decide,fun q1 hq1=>?_⟩;have R1:=ar.upd (o:=.tup [V.str "put",V.str n,V.str "",V.int 0,V.ref p1]) hq1;have r1:=ae (H:=G1) (a:=q1) (o:=.tup [V.str "put",V.str n,V.str "",V.int 0,V.ref p1]);generalize upd G1 q1 (.tup [V.str "put",V.str n,V.str "",V.int 0,V.ref p1])=K1 at R1 r1;have C1:=(B.same T1).same R1;obtain⟨F1,b1,_⟩:=C1.ex;refine⟨x,_,F1,⟨iY vw n (.pl ss),qs,[]⟩,⟨.put,n,"",0,("s",1),0,0,false⟩,200,rfl,b1,⟨q1,_,rfl,r1,rfl,rfl,(fun _=>⟨p1,rfl,R1 _ _ t1⟩),fun z=>nomatch z⟩,Zm,Oa,by show qs.length+0<=900;omega,?_⟩;rw[acT fset sl,if_neg (by omega),if_neg (by lk)];intro m1 M1 N1 hm1;refine jx (i:=1) hm1 rfl ?_;refine .inl ⟨rfl,_,rfl,?_⟩;rw[show decide (V.str Rf.Full.str=V.str (Str.ofString "Full"))=true from decide_eq_true rfl];refine dw ?_;have E1:=C1.same N1;refine hN _ _ ?_;clear hN N;refine bL fun N hN=>?_;obtain⟨VD,L1,D1,U1,hx1⟩:=E1.hx;obtain⟨F9,b9,_⟩:=E1.ex;refine⟨_,rfl,x,VD,_,rfl,hx1,jv _ _ _,_,rfl,x,F9,_,_,_,n,rfl,b9,?_⟩;rw[fset];intro l1 ys1 H5 nl1 S5 h5 g5;rw[qK fset]at g5;have E2:=E1.same S5;refine⟨_,rfl,.inr ⟨l1,lk,rfl,rfl,K0 (aZ.of h5) (aZ.of (E2.sm _ _ hlk)) g5 (h9.same E2.sm g),⟨_,rfl,dw ?_⟩⟩⟩;refine hN _ _ ?_;clear hN N hx1 b9;refine bL fun N hN=>?_;tm_up;refine⟨by show 2<=sizeLine;decide,fun p3 hp3=>?_⟩;have T3:=ar.upd (o:=.tup [V.str "s",V.int 100]) hp3;have t3:=ae (H:=H5) (a:=p3) (o:=.tup [V.str "s",V.int 100]);generalize upd H5 p3 (.tup [V.str "s",V.int 100])=G3 at T3 t3;refine⟨by show 5<=sizeLine;decide,fun q3 hq3=>?_⟩;have R3:=ar.upd (o:=.tup [V.str "put",V.str n,V.str "",V.int 0,V.ref p3]) hq3;have r3:=ae (H:=G3) (a:=q3) (o:=.tup [V.str "put",V.str n,V.str "",V.int 0,V.ref p3]);generalize upd G3 q3 (.tup [V.str "put",V.str n,V.str "",V.int 0,V.ref p3])=K3 at R3 r3;have C3:=(E2.same T3).same R3;obtain⟨F3,b3,_⟩:=C3.ex;refine⟨x,_,F3,⟨iY vw n (.pl ss),qs,[]⟩,⟨.put,n,"",0,("s",100),0,0,false⟩,0,rfl,b3,⟨q3,_,rfl,r3,rfl,rfl,(fun _=>⟨p3,rfl,R3 _ _ t3⟩),fun z=>nomatch z⟩,Zm,Oa,by show qs.length+0<=900;omega,?_⟩;rw[acT fset sl,if_neg (by omega),if_pos (by lk)];intro m3 M3 N3 hm3;refine jx (i:=1) hm3 rfl ?_;refine .inl ⟨rfl,_,rfl,?_⟩;rw[show decide (V.str Rf.lM.str=V.str (Str.ofString "BadSign"))=true from decide_eq_true rfl];refine dw ?_;have E3:=C3.same N3;refine hN _ _ ?_;clear hN N;refine bL fun N hN=>?_;tm_up;refine⟨by show 3<=sizeLine;decide,fun l4 hl4=>?_⟩;rw[show [(fun i=>V.int (-i)) (1:Int),V.int 201,V.int (10 ^ Int.toNat 9)]=[V.int (-1),V.int 201,V.int (10 ^ 9)] from rfl];have T4:=ar.upd (o:=.lst [V.int (-1),V.int 201,V.int (10 ^ 9)]) hl4;have h4:=ae (H:=M3) (a:=l4) (o:=.lst [V.int (-1),V.int 201,V.int (10 ^ 9)]);generalize upd M3 l4 (.lst [V.int (-1),V.int 201,V.int (10 ^ 9)])=H6 at T4 h4;have E4:=E3.same T4;refine⟨l4,rfl,⟨_,aZ.of h4⟩,lG (K:=K) (xs:=[V.int (-1),V.int 201,V.int (10 ^ 9)]) (fun i σ H'=>∃(v10:Option V),σ=[some (.ref a),some (.ref x),some (.str n),some (.ref dc),some (.ref lk),some (.bl fr),u6,u7,u8,u9,v10,none,none,none]/\ar H6 H') ⟨_,rfl,ar.refl _⟩ ?_ ?_ ?_⟩
   ·rintro i σ H1 _ ⟨v10,rfl,S⟩;exact aZ.of (S _ _ h4)
   ·rintro i y σ H7 hy ⟨v10,rfl,S⟩;obtain⟨z0,rfl,hz⟩:∃ z0:Int,y=.int z0/\(z0<0\/201<=z0):=by
     match i,hy with
     |0,e=>cases e;exact⟨_,rfl,.inl (by decide)⟩
     |1,e=>cases e;exact⟨_,rfl,.inr (by decide)⟩
     |2,e=>cases e;exact⟨_,rfl,.inr (by decide)⟩
     |n+3,e=>simp at e
    have E5:=E4.same S;tm_up;refine⟨by show 2<=sizeLine;decide,fun p6 hp6=>?_⟩;have T6:=ar.upd (o:=.tup [V.str "s",V.int 1]) hp6;have t6:=ae (H:=H7) (a:=p6) (o:=.tup [V.str "s",V.int 1]);generalize upd H7 p6 (.tup [V.str "s",V.int 1])=G6 at T6 t6;refine⟨by show 5<=sizeLine;decide,fun q6 hq6=>?_⟩;have R6:=ar.upd (o:=.tup [V.str "put",V.str n,V.str "",V.int 0,V.ref p6]) hq6;have r6:=ae (H:=G6) (a:=q6) (o:=.tup [V.str "put",V.str n,V.str "",V.int 0,V.ref p6]);generalize upd G6 q6 (.tup [V.str "put",V.str n,V.str "",V.int 0,V.ref p6])=K6 at R6 r6;have C6:=(E5.same T6).same R6;obtain⟨F6,b6,_⟩:=C6.ex;refine⟨_,rfl,⟨x,_,F6,⟨iY vw n (.pl ss),qs,[]⟩,⟨.put,n,"",0,("s",1),0,0,false⟩,z0,rfl,b6,⟨q6,_,rfl,r6,rfl,rfl,(fun _=>⟨p6,rfl,R6 _ _ t6⟩),fun z=>nomatch z⟩,Zm,Oa,by show qs.length+0<=900;omega,?_⟩⟩;rw[acT fset sl,if_pos hz];intro m6 M6 N6 hm6;refine jx (i:=1) hm6 rfl ?_;refine .inl ⟨rfl,_,rfl,?_⟩;rw[show decide (V.str Rf.kB.str=V.str (Str.ofString "NoPlace"))=true from decide_eq_true rfl];refine dw ?_;have E6:=C6.same N6;exact⟨_,rfl,((S.trans T6).trans R6).trans N6⟩
   rintro σ H7 ⟨v10,rfl,S7⟩;refine hN _ _ ?_;clear hN N;have E5:=E4.same S7;refine bL fun N hN=>?_;rw[pZ];refine⟨by show 2<=sizeLine;decide,fun p1 hp1=>?_⟩;have Ap1:=ar.upd (o:=.tup [V.str "r",V.int 0]) hp1;have ap1:=ae (H:=H7) (a:=p1) (o:=.tup [V.str "r",V.int 0]);generalize upd H7 p1 (.tup [V.str "r",V.int 0])=J1 at Ap1 ap1;refine⟨by show 5<=sizeLine;decide,fun p2 hp2=>?_⟩;have Ap2:=ar.upd (o:=.tup [V.str "swap",V.str "",V.str "",V.int 0,V.ref p1]) hp2;have ap2:=ae (H:=J1) (a:=p2) (o:=.tup [V.str "swap",V.str "",V.str "",V.int 0,V.ref p1]);generalize upd J1 p2 (.tup [V.str "swap",V.str "",V.str "",V.int 0,V.ref p1])=J2 at Ap2 ap2;refine⟨by show 2<=sizeLine;decide,fun p3 hp3=>?_⟩;have Ap3:=ar.upd (o:=.tup [V.ref p2,V.int 199]) hp3;have ap3:=ae (H:=J2) (a:=p3) (o:=.tup [V.ref p2,V.int 199]);generalize upd J2 p3 (.tup [V.ref p2,V.int 199])=J3 at Ap3 ap3;refine⟨by show 2<=sizeLine;decide,fun p4 hp4=>?_⟩;have Ap4:=ar.upd (o:=.tup [V.str "r",V.int 0]) hp4;have ap4:=ae (H:=J3) (a:=p4) (o:=.tup [V.str "r",V.int 0]);generalize upd J3 p4 (.tup [V.str "r",V.int 0])=J4 at Ap4 ap4;refine⟨by show 5<=sizeLine;decide,fun p5 hp5=>?_⟩;have Ap5:=ar.upd (o:=.tup [V.str "cut",V.str "",V.str "",V.int 0,V.ref p4]) hp5;have ap5:=ae (H:=J4) (a:=p5) (o:=.tup [V.str "cut",V.str "",V.str "",V.int 0,V.ref p4]);generalize upd J4 p5 (.tup [V.str "cut",V.str "",V.str "",V.int 0,V.ref p4])=J5 at Ap5 ap5;refine⟨by show 2<=sizeLine;decide,fun p6 hp6=>?_⟩;have Ap6:=ar.upd (o:=.tup [V.ref p5,V.int 0]) hp6;have ap6:=ae (H:=J5) (a:=p6) (o:=.tup [V.ref p5,V.int 0]);generalize upd J5 p6 (.tup [V.ref p5,V.int 0])=J6 at Ap6 ap6;refine⟨by show 2<=sizeLine;decide,fun l7 hl7=>?_⟩;have Al7:=ar.upd (o:=.lst [V.ref p3,V.ref p6]) hl7;have al7:=ae (H:=J6) (a:=l7) (o:=.lst [V.ref p3,V.ref p6]);generalize upd J6 l7 (.lst [V.ref p3,V.ref p6])=J7 at Al7 al7;have J67:=((((Ap1.trans Ap2).trans Ap3).trans Ap4).trans Ap5).trans Ap6;have J07:=J67.trans Al7;have E7:=E5.mix J07;have mo:=sW (H':=J7) E5.sm;have mn:∀{q:Addr} {zs:List V},J7 q=some (.tup zs)->mix Hb H7 J7 q=some (.tup zs):=fun h=>E8 J07 h (fun _ z=>nomatch z);have a1:=mn (Al7 _ _ (Ap6 _ _ (Ap5 _ _ (Ap4 _ _ (Ap3 _ _ (Ap2 _ _ ap1))))));have a2:=mn (Al7 _ _ (Ap6 _ _ (Ap5 _ _ (Ap4 _ _ (Ap3 _ _ ap2)))));have a3:=mn (Al7 _ _ (Ap6 _ _ (Ap5 _ _ (Ap4 _ _ ap3))));have a4:=mn (Al7 _ _ (Ap6 _ _ (Ap5 _ _ ap4)));have a5:=mn (Al7 _ _ (Ap6 _ _ ap5));have a6:=mn (Al7 _ _ ap6);have a7:mix Hb H7 J7 l7=some (.lst [V.ref p3,V.ref p6]):=wd (J67.free hl7) al7;have ajd:=mo _ _ hlk;have g7:=h9.same mo g;have Sb7:=Sb.trans mo;generalize mix Hb H7 J7=Hd at E7 a1 a2 a3 a4 a5 a6 a7 ajd g7 Sb7;have each:∀(i:Nat)(y:V),[V.ref p3,V.ref p6][i]? = some y->∃(pp pd pg:Addr)(wy:Wy)(p:Nat),y=.ref pp/\Hd pp=some (.tup [.ref pd,.int (p:Int)])/\Hd pd=some (.tup [.str wy.str,V.str "",V.str "",V.int 0,.ref pg])/\Hd pg=some (.tup [V.str "r",V.int 0])/\((i=0/\wy=.swap)\/(i=1/\wy=.cut))/\p<200:=fun i y e=>by
    match i,e with
    |0,e=>cases e;exact⟨p3,p2,p1,.swap,199,rfl,a3,a2,a1,.inl ⟨rfl,rfl⟩,by decide⟩
    |1,e=>cases e;exact⟨p6,p5,p4,.cut,0,rfl,a6,a5,a4,.inr ⟨rfl,rfl⟩,by decide⟩
    |n+2,e=>simp at e
   clear Ap1 Ap2 Ap3 Ap4 Ap5 Ap6 ap1 ap2 ap3 ap4 ap5 ap6 hp1 hp2 hp3 hp4 hp5 hp6 Al7 al7 hl7 J67 J07 mo mn a1 a2 a3 a4 a5 a6;refine⟨l7,rfl,⟨_,aZ.of (E7.sm _ _ a7)⟩,lG (K:=K) (xs:=[V.ref p3,V.ref p6]) (fun i σ H'=>∃(u9 v10 v11:Option V)(lk:Addr)(ys:List V)(ss:List Sg)(qs:List Vw)(Hc:Hp),σ=[some (.ref a),some (.ref x),some (.str n),some (.ref dc),some (.ref lk),some (.bl fr),u6,u7,u8,u9,v10,v11,none,none]/\ar Hd Hc/\Bw (cs t) Hc H' x [] (iY vw n (.pl ss)) qs []/\Hc lk=some (.lst ys)/\h9 Hc ys ss/\ss.length=(if i<2 then 200 else 199)/\qs.length=214+i/\qs.head? = some []) ⟨_,_,_,lk,ys,ss,qs,Hd,rfl,ar.refl _,E7,ajd,g7,sl,ql,qhd⟩ ?_ ?_ ?_⟩
   ·rintro i σ H1 _ ⟨_,_,_,lk,ys,ss,qs,Hc,rfl,Sc,E,_⟩;exact aZ.of (E.sm _ _ (Sc _ _ a7))
   ·rintro i y σ H1 hy ⟨u9,v10,v11,lk,ys,ss,qs,Hc,rfl,Sc,E,hlk,g,sl,ql,qhd⟩;obtain⟨pp,pd,pg,wy,p,rfl,hpp,hpd,hpg,hwy,hp⟩:=each i y hy;have i2:i<2:=by rcases hwy with z|z <;> omega
    rw[if_pos i2]at sl;have aez:wy=.put\/wy=.cut\/wy=.swap:=by rcases hwy with z|z;exact .inr (.inr z.2);exact .inr (.inl z.2)
    have hwn:wy≠.put:=by rcases hwy with z|z <;> rw[z.2] <;> decide
    refine⟨pp,_,rfl,uo.of (E.sm _ _ (Sc _ _ hpp)),rfl,_,_,rfl,_,_,rfl,rfl,?_⟩;refine bL fun M hM=>?_;refine⟨_,rfl,_,rfl,_,rfl,lk,_,ys,ss,⟨wy,n,"",0,("r",0),0,0,false⟩,p,rfl,E.sm _ _ hlk,h9.same E.sm g,by omega,⟨pd,_,pg,rfl,E.sm _ _ (Sc _ _ hpd),rfl,rfl,E.sm _ _ (Sc _ _ hpg)⟩,aez,(fun _=>show jg (("r":Str),(0:Int))=true by lk),by omega,(fun _=>by omega),fun pw ch H2 S2 c1 c2 hpw=>?_⟩;have X2:=E.same S2;refine hM _ _ ?_;clear hM M;refine bL fun M hM=>?_;have yl:=cB g;refine⟨_,rfl,_,rfl,p,rfl,.inl ⟨lk,ys,rfl,aZ.of (X2.sm _ _ hlk),fun d1 hd1=>?_⟩⟩;rw[Ub];have D1:=ar.upd (o:=.lst (ys.take p)) hd1;have e1:=ae (H:=H2) (a:=d1) (o:=.lst (ys.take p));generalize upd H2 d1 (.lst (ys.take p))=H3 at D1 e1;have X3:=X2.same D1;refine⟨_,rfl,jx (i:=4) (X3.sm _ _ (Sc _ _ hpd)) rfl ?_⟩;refine⟨big (by show 1<=1000;omega),fun d2 hd2=>?_⟩;have D2:=ar.upd (o:=.lst [V.ref pg]) hd2;have e2:=ae (H:=H3) (a:=d2) (o:=.lst [V.ref pg]);generalize upd H3 d2 (.lst [V.ref pg])=H4 at D2 e2;have X4:=X3.same D2;refine⟨_,rfl,jx (i:=0) (X4.sm _ _ (Sc _ _ hpd)) rfl ?_⟩;tm_up;refine .inl (.inr ⟨_,rfl,?_⟩);rw[show decide (V.str wy.str=V.str (Str.ofString "swap"))=decide (wy=.swap) from x6 wy .swap];obtain⟨k,hk,hkb⟩:∃ k:Nat,(if decide (wy=.swap)=true then(1:Int) else 0)=(k:Int)/\bO ss wy ("r",0) p=ss.take p++[gL ("r",0)].take k++ss.drop (p+1):=by
     rcases hwy with ⟨_,z⟩|⟨_,z⟩ <;> subst z
     ·exact⟨1,rfl,rfl⟩
     ·exact⟨0,rfl,rfl⟩
    rw[hk];refine⟨_,rfl,.inl ⟨d2,_,rfl,aZ.of e2,fun d3 NP=>?_⟩⟩;rw[Ub];have D3:=ar.upd (o:=.lst ([V.ref pg].take k)) NP;have e3:=ae (H:=H4) (a:=d3) (o:=.lst ([V.ref pg].take k));generalize upd H4 d3 (.lst ([V.ref pg].take k))=H5 at D3 e3;have kl:([V.ref pg].take k).length<=1:=by rw[length_take];show min k 1<=1;omega
    refine .inr (.inr ⟨d1,d3,_,_,rfl,rfl,D3 _ _ (D2 _ _ e1),e3,big (by rw[length_take];omega),fun d4 hd4=>?_⟩);have D4:=ar.upd (o:=.lst (ys.take p++[V.ref pg].take k)) hd4;have e4:=ae (H:=H5) (a:=d4) (o:=.lst (ys.take p++[V.ref pg].take k));generalize upd H5 d4 (.lst (ys.take p++[V.ref pg].take k))=H6 at D4 e4;have X6:=(X4.same D3).same D4;refine⟨_,rfl,_,rfl,.inl ⟨_,_,rfl,rfl,_,rfl,.inl ⟨lk,ys,rfl,aZ.of (X6.sm _ _ hlk),fun d5 hd5=>?_⟩⟩⟩;rw[show Ak ys (some ((p:Int)+1)) none=ys.drop (p+1) from L8 ys (p+1)];have D5:=ar.upd (o:=.lst (ys.drop (p+1))) hd5;have e5:=ae (H:=H6) (a:=d5) (o:=.lst (ys.drop (p+1)));generalize upd H6 d5 (.lst (ys.drop (p+1)))=H8 at D5 e5;refine .inr (.inr ⟨d4,d5,_,_,rfl,rfl,D5 _ _ e4,e5,big (by rw[length_append,length_take,length_drop];omega),fun d6 hd6=>?_⟩);have D6:=ar.upd (o:=.lst (ys.take p++[V.ref pg].take k++ys.drop (p+1))) hd6;have e6:=ae (H:=H8) (a:=d6) (o:=.lst (ys.take p++[V.ref pg].take k++ys.drop (p+1)));generalize upd H8 d6 (.lst (ys.take p++[V.ref pg].take k++ys.drop (p+1)))=H9 at D6 e6;have D16:=(((D1.trans D2).trans D3).trans D4).trans D5;have D26:=D16.trans D6;have X9:=X2.mix D26;have mo:=sW (H':=H9) X2.sm;have n6:mix Hc H2 H9 d6=some (.lst (ys.take p++[V.ref pg].take k++ys.drop (p+1))):=wd (D16.free hd6) e6;have sgr:NW (mix Hc H2 H9) (.ref pg) (gL ("r",0)):=by
     obtain⟨q1,q2,_⟩:=Lu (n:=("r",0)) (by lk);exact⟨pg,rfl,by rw[q1,q2];exact mo _ _ (Sc _ _ hpg)⟩
    have g9:h9 (mix Hc H2 H9) (ys.take p++[V.ref pg].take k++ys.drop (p+1)) (bO ss wy ("r",0) p):=by
     rw[hkb];exact xZ (xZ (AR p (h9.same mo g)) (AR k (.cons sgr .nil))) (DW (p+1) (h9.same mo g))
    have Sc9:=Sc.trans mo;have als:H9 pw=_:=D26 _ _ hpw;generalize mix Hc H2 H9=Hf at X9 n6 g9 Sc9;refine hM _ _ ?_;clear hM M D1 D2 D3 D4 D5 D6 e1 e2 e3 e4 e5 e6 D16 D26 mo sgr hd1 hd2 NP hd4 hd5 hd6 X2 X3 X4 X6;tm_up;refine jx (i:=0) (X9.sm _ _ (Sc9 _ _ hpd)) rfl ?_;tm_up;refine jx (i:=4) (X9.sm _ _ (Sc9 _ _ hpd)) rfl ?_;refine⟨by show 5<=sizeLine;decide,fun q5 hq5=>?_⟩;have R5:=ar.upd (o:=.tup [V.str wy.str,V.str n,V.str "",V.int 0,V.ref pg]) hq5;have r5:=ae (H:=H9) (a:=q5) (o:=.tup [V.str wy.str,V.str n,V.str "",V.int 0,V.ref pg]);generalize upd H9 q5 (.tup [V.str wy.str,V.str n,V.str "",V.int 0,V.ref pg])=H10 at R5 r5;have WU:=X9.same R5;obtain⟨F1,b1,f1,z1,o1⟩:=WU.ex;have fs2:=qz (th':=.pl ss) hf;refine⟨_,rfl,x,_,F1,⟨iY vw n (.pl ss),qs,[]⟩,⟨wy,n,"",0,("r",0),0,0,false⟩,(p:Int),rfl,b1,⟨q5,_,rfl,r5,rfl,rfl,(fun _=>⟨pg,rfl,WU.sm _ _ (Sc9 _ _ hpg)⟩),(fun z=>by rcases aez with y|y|y <;> exact absurd (y.symm.trans z) (by decide))⟩,Zm,Oa,by show qs.length+0<=900;omega,?_⟩;rw[show nq ⟨iY vw n (.pl ss),qs,[]⟩ ⟨wy,n,"",0,("r",0),0,0,false⟩ (p:Int)=none by
     rw[uV aez,qL fs2,if_neg (by rw[show(⟨wy,n,"",0,("r",0),0,0,false⟩:De).wy=wy from rfl,if_neg hwn];omega),if_neg (fun z=>absurd z.2 (show ¬(jg (("r":Str),(0:Int))=false) by lk)),if_neg (fun z=>hwn z.1)]]
    intro v F2 H11 gr2 fr2 b2 an;rw[Ag aez fs2]at b2;obtain⟨X11,kk⟩:=Bw.mk' b2 WU.sm f1 z1 o1 gr2 fr2;have Zn:H11 pw=_:=kk _ _ (R5 _ _ als) (.inl fun _ z=>nomatch z)
    replace X11:Bw (cs t) Hf H11 x [] (iY (iY vw n (.pl ss)) n (.pl (bO ss wy ("r",0) (p:Int).toNat))) (qs++[iY vw n (.pl ss)]) []:=X11
    rw[Int.toNat_natCast,G9]at X11;have hh:∃ w0 x1 x2,v=.ref w0/\H11 w0=some (.tup [.int x1,.int x2])/\H11 pw=some (.tup [.int x1,.int x2]):=by
     obtain⟨s,hs⟩:∃ s,ss[p]? = some s:=⟨_,getElem?_eq_getElem (by omega)⟩;unfold pX at an;rw[show vG (iY vw n (.pl ss)) n=ss from uW fs2,Int.toNat_natCast]at an;rcases hwy with ⟨_,z⟩|⟨_,z⟩ <;> subst z
     ·obtain⟨w0,e0,s0,k00,k0⟩:=an;rw[(c2 _ k00).2 rfl]at Zn;exact⟨w0,_,_,e0,k0,Zn⟩
     ·obtain⟨w0,e0,s0,k00,k0⟩:=an;rw[(c2 _ k00).1 rfl]at Zn;exact⟨w0,_,_,e0,k0,Zn⟩
    obtain⟨w0,x1,x2,rfl,k0,k1⟩:=hh;refine⟨_,rfl,.inr ⟨w0,pw,rfl,rfl,QJ 59 k0 k1,⟨_,rfl,dw ?_⟩⟩⟩;refine⟨_,_,_,d6,_,_,_,Hf,rfl,Sc9,X11,n6,g9,?_,?_,?_⟩
    ·rcases hwy with ⟨z0,z⟩|⟨z0,z⟩ <;> subst z0 z
     ·show(ss.take p++[gL ("r",0)]++ss.drop (p+1)).length=200;simp;omega
     ·show(ss.take p++[]++ss.drop (p+1)).length=199;simp;omega
    ·rw[length_append];show _+1=_;omega
    ·rw[List.head?_append,qhd];rfl
   rintro σ H1 ⟨u9,v10,v11,lk,ys,ss,qs,Hc,rfl,Sc,E,hlk,g,sl,ql,qhd⟩;refine hN _ _ ?_;clear hN N each
   replace sl:ss.length=199:=sl
   replace ql:qs.length=216:=ql
   have fs3:=qz (th':=.pl ss) hf;have yl:=cB g;have ag5:jg (("d":Str),(99:Int))=true:=by lk
   refine bL fun N hN=>?_;tm_up;refine⟨by show 2<=sizeLine;decide,fun r1 hr1=>?_⟩;have Q1:=ar.upd (o:=.tup [V.str "d",V.int 99]) hr1;have q1:=ae (H:=H1) (a:=r1) (o:=.tup [V.str "d",V.int 99]);generalize upd H1 r1 (.tup [V.str "d",V.int 99])=H2 at Q1 q1;refine⟨by show 5<=sizeLine;decide,fun r2 hr2=>?_⟩;have Q2:=ar.upd (o:=.tup [V.str "put",V.str "",V.str "",V.int 0,V.ref r1]) hr2;have q2:=ae (H:=H2) (a:=r2) (o:=.tup [V.str "put",V.str "",V.str "",V.int 0,V.ref r1]);generalize upd H2 r2 (.tup [V.str "put",V.str "",V.str "",V.int 0,V.ref r1])=H3 at Q2 q2;have X3:=(E.same Q1).same Q2;refine⟨lk,_,ys,ss,⟨.put,"","",0,("d",99),0,0,false⟩,199,rfl,X3.sm _ _ hlk,h9.same X3.sm g,by omega,⟨r2,_,r1,rfl,q2,rfl,rfl,Q2 _ _ q1⟩,.inl rfl,(fun _=>ag5),by omega,(fun z=>absurd rfl z),fun pw ch H4 S4 c1 c2 hpw=>?_⟩;rw[c1 rfl,if_neg (show ¬(Wy.put=Wy.cut) by decide)]at hpw;have X4:=X3.same S4;refine hN _ _ ?_;clear hN N c1 c2 Q1 Q2 q1 q2 hr1 hr2 X3;refine bL fun N hN=>?_;tm_up;refine⟨by show 2<=sizeLine;decide,fun r3 hr3=>?_⟩;have Q3:=ar.upd (o:=.tup [V.str "d",V.int 99]) hr3;have q3:=ae (H:=H4) (a:=r3) (o:=.tup [V.str "d",V.int 99]);generalize upd H4 r3 (.tup [V.str "d",V.int 99])=H5 at Q3 q3;refine⟨big (by show 1<=1000;omega),fun r4 hr4=>?_⟩;have Q4:=ar.upd (o:=.lst [V.ref r3]) hr4;have q4:=ae (H:=H5) (a:=r4) (o:=.lst [V.ref r3]);generalize upd H5 r4 (.lst [V.ref r3])=H6 at Q4 q4;refine .inr (.inr ⟨lk,r4,_,_,rfl,rfl,Q4 _ _ (Q3 _ _ (X4.sm _ _ hlk)),q4,big (by show _+1<=1000;omega),fun l2 hl2=>?_⟩);have Q5:=ar.upd (o:=.lst (ys++[V.ref r3])) hl2;have q5:=ae (H:=H6) (a:=l2) (o:=.lst (ys++[V.ref r3]));generalize upd H6 l2 (.lst (ys++[V.ref r3]))=H8 at Q5 q5;have Q34:=Q3.trans Q4;have Q45:=Q34.trans Q5;have X8:=X4.mix Q45;have mo:=sW (H':=H8) X4.sm;have n8':mix Hc H4 H8 l2=some (.lst (ys++[V.ref r3])):=wd (Q34.free hl2) q5;have pw8:mix Hc H4 H8 pw=_:=E8 Q45 (Q45 _ _ hpw) (fun _ z=>nomatch z);have sgd:NW (mix Hc H4 H8) (.ref r3) (gL ("d",99)):=by
    obtain⟨z1,z2,_⟩:=Lu (n:=("d",99)) ag5;exact⟨r3,rfl,by rw[z1,z2];exact E8 Q45 (Q5 _ _ (Q4 _ _ q3)) (fun _ z=>nomatch z)⟩
   have g8:h9 (mix Hc H4 H8) (ys++[V.ref r3]) (ss++[gL ("d",99)]):=xZ (h9.same mo g) (.cons sgd .nil);have Sc8:=Sc.trans mo;generalize mix Hc H4 H8=Hg at X8 n8' pw8 g8 Sc8;generalize ys++[V.ref r3]=ys2 at n8' g8;refine hN _ _ ?_;clear hN N Q3 Q4 Q5 Q34 Q45 q3 q4 q5 hr3 hr4 hl2 mo sgd X4 hpw S4;have tk:ss.take 199++[gL ("d",99)]++ss.drop 199=ss++[gL ("d",99)]:=by
    rw[<-sl,take_length,List.drop_length,append_nil]
   have pw9:Hg pw=some (.tup (NY (ss++[gL ("d",99)]) 199 200 [gL ("d",99)])):=by rw[<-tk];exact pw8
   refine bL fun N hN=>?_;refine⟨fun b H'=>b=false/\Bw (cs t) Hg H' x [] (iY vw n (.pl (ss++[gL ("d",99)]))) (qs++[iY vw n (.pl ss)]) [],?_,?_⟩
   ·obtain⟨VD,L1,D1,U1,hx1⟩:=X8.hx;obtain⟨F1,b1,f1,z1,o1⟩:=X8.ex;refine⟨_,rfl,x,VD,_,rfl,hx1,Bh _ _ _,_,rfl,?_⟩;tm_up;refine⟨by show 2<=sizeLine;decide,fun r5 hr5=>?_⟩;have Q5:=ar.upd (o:=.tup [V.str "d",V.int 99]) hr5;have q5:=ae (H:=H8) (a:=r5) (o:=.tup [V.str "d",V.int 99]);generalize upd H8 r5 (.tup [V.str "d",V.int 99])=H9 at Q5 q5;have X9:=X8.same Q5;obtain⟨F2,b2,f2,z2,o2⟩:=X9.ex;refine⟨x,F2,_,qs,[],n,199,r5,("d",99),rfl,b2,q5,by omega,?_⟩;rw[fs3];refine⟨(fun z=>absurd ⟨by omega,by omega⟩ z),(fun _ z=>by rw[ag5]at z;cases z),(fun _ _ z=>by omega),fun _ _ _ s9 w9 F3 H10 e1 e2 hw9 gr3 fr3 b3=>?_⟩;have es:=si (n:=("d",99)) e1 e2;subst es;rw[show(199:Int).toNat=199 from rfl,tk]at b3 hw9;rw[G9]at b3;obtain⟨WU,kk⟩:=Bw.mk' b3 X9.sm f2 z2 o2 gr3 fr3;refine⟨_,rfl,.inr ⟨w9,pw,rfl,rfl,QJ 59 hw9 (WU.sm _ _ pw9),⟨_,rfl,dw ?_⟩⟩⟩;obtain⟨dx3,L3,D3,U3,hx3⟩:=WU.hx;obtain⟨F4,b4,_⟩:=WU.ex;have fs4:=qz (th':=.pl (ss++[gL ("d",99)])) hf;refine⟨_,rfl,x,dx3,_,rfl,hx3,JB _ _ _,_,rfl,x,F4,_,_,_,n,rfl,b4,?_⟩;rw[fs4];intro k1 H11 nk1 S11 hk1;rw[Lq fs4]at hk1;have X11:=WU.same S11;have alA:(ss++[gL ("d",99)]).length<=400:=by rw[length_append];show _+1<=400;omega
    refine⟨_,rfl,l2,3,ys2,_,rfl,.inl rfl,X11.sm _ _ n8',h9.same X11.sm g8,alA,fun pr f lo yy H12 S12 nf nlo _ hpr hf2 hlo _=>?_⟩;refine jx (i:=0) hpr rfl ?_;refine⟨k1,f,_,_,rfl,S12 _ _ hk1,aZ.of hf2,by rw[zR,length_map];omega,?_⟩;rw[decide_eq_true rfl];exact⟨_,rfl,rfl,X11.same S12⟩
   rintro _ H9 ⟨rfl,X9⟩;refine dw ?_;refine hN _ _ ?_;clear hN N;have fs4:=qz (th':=.pl (ss++[gL ("d",99)])) hf;refine bL fun N hN=>?_
   suffices hN':∀(v12 v13:Option V)(H':Hp),ar H9 H'->N [some (.ref a),some (.ref x),some (.str n),some (.ref dc),some (.ref l2),some (.bl fr),u6,u7,u8,some (.ref pw),v10,v11,v12,v13] H' by
    obtain⟨VD,L1,D1,U1,hx1⟩:=X9.hx;obtain⟨F1,b1,_⟩:=X9.ex;have wv:=X9.wv;have dcg:Hg dc=some (.dK kvs):=Sc8 _ _ (Sb7 _ _ aja);refine⟨rfl,_,rfl,x,VD,_,rfl,hx1,lL _ _ _,x,F1,_,_,_,rfl,b1,fun l3 H10 nl3 s3 h3=>?_⟩;have WU:=X9.same s3;have vl:=wv.len;refine⟨l3,rfl,⟨_,aZ.of h3⟩,fun D2 b2 hD2=>?_⟩;generalize alC:iY vw n (.pl (ss++[gL ("d",99)]))=vw2 at *;refine lp (K:=K) (xs:=vw2.map fun q=>V.str q.1) (fun i zs σ H'=>∃(v:Option V)(ms:List Str),σ=[v,some (.ref a),some (.ref x),some (.str n),some (.ref dc),some (.ref l2),some (.bl fr),u6,u7,u8,some (.ref pw),v10,v11,none,none]/\H'=upd H10 D2 (.lst zs)/\zs=ms.map V.str/\ms.length<=i/\∀ m∈ms,(∃ th,aM vw2 m=some th)/\(nh kvs (Sum.inr m)).isSome=true) ⟨none,[],rfl,rfl,rfl,Nat.le_refl _,fun _ z=>nomatch z⟩ ?_ ?_ ?_
    ·rintro i zs σ H' ⟨v,ms,rfl,rfl,_⟩;exact ip (aZ.of h3) hD2
    ·rintro i zs y σ H' hy ⟨v,ms,rfl,rfl,rfl,ml,mk⟩ N' hN';obtain⟨qn,hq,rfl⟩:∃ qn,vw2[i]? = some qn/\y=.str qn.1:=by
      rw[getElem?_map]at hy;cases e:vw2[i]? with
      |none=>rw[e]at hy;cases hy
      |some z=>rw[e]at hy;exact⟨z,rfl,(Option.some.inj hy).symm⟩
     have i12:i<12:=by have:=(List.getElem?_eq_some_iff.mp hq).1;omega
     unfold DS;refine⟨_,rfl,_,rfl,dc,_,rfl,Al.k (k:=Sum.inr qn.1) (by rw[ao (aq (WU.sm _ _ dcg) hD2)];exact WU.sm _ _ dcg),_,rfl,?_⟩;cases hv:nh kvs (Sum.inr qn.1) with
     |none=>exact dw (hN' _ _ _ ⟨_,ms,rfl,rfl,rfl,by omega,mk⟩)
     |some v0 =>
      refine jr ⟨_,rfl,ae,ba (by rw[length_map];omega),hN' _ _ _ ⟨_,ms++[qn.1],rfl,cI,by rw[map_append];rfl,by rw[length_append];show _+1<=_;omega,fun m hm=>?_⟩⟩;rcases mem_append.mp hm with z|z
      ·exact mk m z
      ·rw[mem_singleton.mp z];exact⟨⟨qn.2,wv.find (mem_of_getElem? hq)⟩,by rw[hv];rfl⟩
    rintro zs σ H' ⟨v,ms,rfl,rfl,rfl,ml,mk⟩;have T1:=s3.trans (ar.upd (o:=.lst (ms.map V.str)) hD2);have h1:=ae (H:=H10) (a:=D2) (o:=.lst (ms.map V.str));generalize upd H10 D2 (.lst (ms.map V.str))=H11 at T1 h1;refine⟨1,rfl,.inl ⟨D2,_,rfl,aZ.of h1,fun l4 hl4=>?_⟩⟩;rw[show Ak (ms.map V.str) none (some 1)=(ms.map V.str).take 1 from Ub _ 1,<-List.map_take];have T2:=T1.trans (ar.upd (o:=.lst ((ms.take 1).map V.str)) hl4);have h2:=ae (H:=H11) (a:=l4) (o:=.lst ((ms.take 1).map V.str));generalize upd H11 l4 (.lst ((ms.take 1).map V.str))=H12 at T2 h2;refine⟨l4,rfl,⟨_,aZ.of h2⟩,lG (K:=K) (xs:=(ms.take 1).map V.str) (fun i σ H'=>∃(v12 v13:Option V),σ=[some (.ref a),some (.ref x),some (.str n),some (.ref dc),some (.ref l2),some (.bl fr),u6,u7,u8,some (.ref pw),v10,v11,v12,v13]/\ar H12 H') ⟨_,_,rfl,ar.refl _⟩ ?_ ?_ ?_⟩
    ·rintro i σ H' _ ⟨v12,v13,rfl,S⟩;exact aZ.of (S _ _ h2)
    ·rintro i y σ H13 hy ⟨v12,v13,rfl,S⟩;obtain⟨m,hm,rfl⟩:∃ m,m∈ms/\y=.str m:=by
      rw[getElem?_map]at hy;cases e:(ms.take 1)[i]? with
      |none=>rw[e]at hy;cases hy
      |some z=>rw[e]at hy;exact⟨z,List.mem_of_mem_take (mem_of_getElem? e),(Option.some.inj hy).symm⟩
     obtain⟨⟨th,hth⟩,hsome⟩:=mk m hm;obtain⟨v0,hv0⟩:=Option.isSome_iff_exists.mp hsome;have hmn:m≠n:=fun z=>by
      subst z;obtain⟨k,_,e⟩:=hkv _ _ hv0 _ hf;cases e
     have hfm:aM vw m=some th:=by rw[<-QK (th:=.pl (ss++[gL ("d",99)])) hmn,alC];exact hth
     obtain⟨k,rfl,rfl⟩:=hkv _ _ hv0 _ hfm;have S13:=T2.trans S;have X13:=X9.same S13;refine bL fun M hM=>?_;intro dd hdd;have T3:=ar.upd (o:=.dK []) hdd;have h3':=ae (H:=H13) (a:=dd) (o:=.dK []);generalize upd H13 dd (.dK [])=H14 at T3 h3';have X14:=X13.same T3;have d14:H14 dc=some (.dK kvs):=X14.sm _ _ dcg;have g14:Al H14 dc (.str m) (some (.int k)):=by
      have z:=Al.k (k:=Sum.inr m) d14;rw[hv0]at z;exact z
     refine⟨_,rfl,_,rfl,_,rfl,_,rfl,_,rfl,_,rfl,dc,_,rfl,g14,?_⟩;tm_up;refine⟨by show 4<=sizeLine;decide,fun tp htp=>?_⟩;have T4:=ar.upd (o:=.tup [V.str n,V.int k,V.int 9,V.bl true]) htp;have h4':=ae (H:=H14) (a:=tp) (o:=.tup [V.str n,V.int k,V.int 9,V.bl true]);generalize upd H14 tp (.tup [V.str n,V.int k,V.int 9,V.bl true])=H15 at T4 h4';refine⟨T4 _ _ h3',[((Sum.inr n:Key),V.ref l2),((Sum.inr m:Key),V.ref tp)],rfl,by show 2<=15;decide,?_⟩;rw[agE (fun z=>hmn z.symm)];have T5:=jN (o:=.dK [((Sum.inr n:Key),V.ref l2),((Sum.inr m:Key),V.ref tp)]) (T3.trans T4) hdd;have h5':=ae (H:=H15) (a:=dd) (o:=.dK [((Sum.inr n:Key),V.ref l2),((Sum.inr m:Key),V.ref tp)]);have t5':upd H15 dd (.dK [((Sum.inr n:Key),V.ref l2),((Sum.inr m:Key),V.ref tp)]) tp=some (.tup [V.str n,V.int k,V.int 9,V.bl true]):=by
      rw[ao (aq h3' htp).symm];exact h4'
     generalize upd H15 dd (.dK [((Sum.inr n:Key),V.ref l2),((Sum.inr m:Key),V.ref tp)])=H16 at T5 h5' t5';have X16:=X13.same T5;have S16:=S.trans T5;have dv:Uj H16 dd [(n,.pl (ss++[gL ("d",99)])),(m,.cn n k 9 true)]:=⟨_,h5',.cons ⟨rfl,l2,ys2,rfl,X16.sm _ _ n8',h9.same X16.sm g8⟩ (.cons ⟨rfl,tp,rfl,t5'⟩ .nil)⟩;have wld:=wv.ld _ _ _ _ _ (di hth);have wgd:=wv.gd _ _ (di fs4);have wv2:zT [(n,Th.pl (ss++[gL ("d",99)])),(m,Th.cn n k 9 true)]:={
      nd:=by simpa using fun z=>hmn z.symm
      ld:=by
       intro n' ld' lt' sl' tn' z;simp only [List.mem_cons,List.not_mem_nil,Prod.mk.injEq,or_false,reduceCtorEq,and_false,false_or,Th.cn.injEq]at z;obtain⟨rfl,rfl,rfl,rfl,rfl⟩:=z;exact⟨⟨_,mem_cons_self ..⟩,wld.2⟩
      gd:=by
       intro n' ss' z;simp only [List.mem_cons,List.not_mem_nil,Prod.mk.injEq,or_false,reduceCtorEq,and_false,Th.pl.injEq]at z;obtain⟨rfl,rfl⟩:=z;exact wgd
      len:=by show 2<=12;decide }
     have fn:aM [(n,Th.pl (ss++[gL ("d",99)])),(m,Th.cn n k 9 true)] n=some (.pl (ss++[gL ("d",99)])):=wv2.find (mem_cons_self ..);have fm:aM [(n,Th.pl (ss++[gL ("d",99)])),(m,Th.cn n k 9 true)] m=some (.cn n k 9 true):=wv2.find (mem_cons_of_mem _ (mem_cons_self ..));refine hM _ _ ?_;clear hM M;refine⟨fun b H'=>b=false/\ar H16 H',?_,?_⟩
     ·obtain⟨dx2,L2,D3,U2,hx2⟩:=X16.hx;obtain⟨F2,b2,_⟩:=X16.ex;refine⟨_,rfl,x,dx2,_,rfl,hx2,jv _ _ _,_,rfl,x,F2,_,_,_,m,rfl,b2,?_⟩;rw[hth];intro la ya H17 nla Uz h17 g17;rw[uE hth fs4]at g17;have X17:=X16.same Uz;refine⟨_,rfl,_,rfl,dd,_,m,_,rfl,dv.same Uz,wv2,fm,fun lb yb H18 S18 h18 g18=>?_⟩;rw[uE fm fn]at g18;refine .inr ⟨la,lb,rfl,rfl,K0 (aZ.of (S18 _ _ h17)) (aZ.of h18) (h9.same S18 g17) g18,⟨_,rfl,dw ?_⟩⟩;have X18:=X17.same S18;obtain⟨dx3,L3,D4,U3,hx3⟩:=X18.hx;obtain⟨F3,b3,_⟩:=X18.ex;refine⟨_,rfl,x,dx3,_,rfl,hx3,JB _ _ _,_,rfl,x,F3,_,_,_,m,rfl,b3,?_⟩;rw[hth];intro ka H19 nka S19 h19;rw[D7 hth fs4]at h19;refine⟨_,rfl,_,rfl,dd,_,m,_,rfl,((dv.same Uz).same S18).same S19,wv2,fm,fun kb H20 S20 h20=>?_⟩;rw[D7 fm fn]at h20;refine⟨ka,kb,_,_,rfl,S20 _ _ h19,aZ.of h20,?_,?_⟩
      ·rw[length_map,zR,length_map,if_pos rfl,length_map];have:=wgd.1;omega
      rw[decide_eq_true rfl];exact⟨_,rfl,rfl,((Uz.trans S18).trans S19).trans S20⟩
     rintro _ H17 ⟨rfl,Uz⟩;refine dw ?_;exact⟨_,_,rfl,S16.trans Uz⟩
    ·rintro σ H13 ⟨v12,v13,rfl,S⟩;exact hN' _ _ _ (T2.trans S)
   intro v12 v13 H10 S10;have WU:=X9.same S10;refine hN _ _ ?_;clear hN N X9;refine⟨fun v H'=>v=.bl true,?_,?_⟩
   ·obtain⟨VD,L1,D1,U1,hx1⟩:=WU.hx;obtain⟨F1,b1,_⟩:=WU.ex;refine⟨_,rfl,x,VD,_,rfl,hx1,jv _ _ _,_,rfl,x,F1,_,_,_,n,rfl,b1,?_⟩;rw[fs4];intro l1 ys1 H11 nl1 S11 h11 g11;rw[qK fs4]at g11;have X11:=WU.same S11;refine⟨_,rfl,.inr ⟨l1,l2,rfl,rfl,K0 (aZ.of h11) (aZ.of (X11.sm _ _ n8')) g11 (h9.same X11.sm g8),⟨_,rfl,jr ?_⟩⟩⟩;exact⟨_,rfl,_,rfl,_,rfl,x,l2,n,Hg,_,_,ys2,_,rfl,X11,by rw[length_append,ql];rfl,by rw[List.head?_append,qhd];rfl,fs4,n8',g8,fun H'=>rfl⟩
   ·rintro _ H11 rfl;exact q _
def rp (F:Addr->Prop)(H H':Hp):Prop:=∀ y o,H y=some o->(F y\/∀ xs,o≠.lst xs)->(∀ kvs,o≠.dK kvs)->H' y=some o
section
variable {CB CV CD:Addr} {H H':Hp} {x L D U:Addr} {all:List Vx} {M S:MM} {Ps Fs:List MM} {es us:List Dd} {F:Addr->Prop} {vw:Vw} {ps fs:List Vw}
theorem rp.tup (k:rp F H H'){p:Addr}{xs:List V}(h:H p=some (.tup xs)):H' p=some (.tup xs):=k _ _ h (.inr fun _ z=>nomatch z) fun _ z=>nomatch z
theorem rp.sgs (k:rp F H H'){xs:List V}{ss:List Sg}(h:h9 H xs ss):h9 H' xs ss:=dy (fun _ _ ⟨p,e1,e2⟩=>⟨p,e1,k.tup e2⟩) h
theorem rp.gv (k:rp F H H'){v:V}(h:GV H v):GV H' v:=by
 obtain⟨s,⟨p,e1,e2⟩,g⟩:=h;exact⟨s,⟨p,e1,k.tup e2⟩,g⟩
theorem rp.wf (k:rp F H H')(h:WF H L all S):WF H' L all S:=⟨h.vs,fun a ha=>⟨(h.ln a ha).1,fun v hv=>k.gv ((h.ln a ha).2 v hv)⟩,h.len,h.out⟩
theorem rp.is (k:rp F H H')(h:Is H L all S vw):Is H' L all S vw:=dy (fun _ q ⟨a,ha,e1,e2,t⟩=>by
 refine⟨a,ha,e1,e2,?_⟩;cases hq:q.2 with
 |pl ss=>rw[hq]at t;exact⟨t.1,k.sgs t.2⟩
 |cn ld lt sl tn =>
  rw[hq]at t;obtain⟨p,e3,e4⟩:=t;exact⟨p,e3,k.tup e4⟩) h
theorem rp.dd (k:rp F H H'){v:V}{e:Dd}(f:F e.B/\F e.A)(h:mY CD H v e):mY CD H' v e:=⟨h.1,k _ _ h.2.1 (.inr fun _ z=>nomatch z) (fun _ z=>nomatch z),k _ _ h.2.2.1 (.inl f.1) (fun _ z=>nomatch z),k _ _ h.2.2.2 (.inl f.2) (fun _ z=>nomatch z)⟩
theorem rp.bk (k:rp F H H')(h:Bk CB CV CD H x F vw ps fs):Bk CB CV CD H' x F vw ps fs:=by
 obtain⟨L,D,U,all,M,Ps,Fs,es,us,b,i,pp,pf,f⟩:=h.ex;refine⟨⟨L,D,U,all,M,Ps,Fs,es,us,?_,k.is i,dy (fun _ _ q=>k.is q) pp,dy (fun _ _ q=>k.is q) pf,f⟩,h.wv⟩;exact { b with
  hx:=let ⟨dx,e⟩:=b.hx;⟨dx,k _ _ e (.inr fun _ z=>nomatch z) fun _ z=>nomatch z⟩
  hL:=k _ _ b.hL (.inl f.L) fun _ z=>nomatch z
  hD:=let ⟨xs,e,p⟩:=b.hD;⟨xs,k _ _ e (.inl f.D) (fun _ z=>nomatch z),oW (fun _ e he q=>k.dd (f.d e (.inl he)) q) p⟩
  hU:=let ⟨xs,e,p⟩:=b.hU;⟨xs,k _ _ e (.inl f.U) (fun _ z=>nomatch z),oW (fun _ e he q=>k.dd (f.d e (.inr he)) q) p⟩
  ha:=fun a m=>⟨k _ _ (b.ha a m).1 (.inr fun _ z=>nomatch z) (fun _ z=>nomatch z),k _ _ (b.ha a m).2 (.inl (f.l a m)) (fun _ z=>nomatch z)⟩
  wf:=fun S hS=>k.wf (b.wf S hS) }
end
theorem Bw.ag8 {c:Cs}{H0 H:Hp}{x d:Addr}{own:List Addr}{vw:Vw}{ps fs:List Vw}{kvs kvs':List (Key×V)}(h:Bw c H0 H x own vw ps fs)(e:H d=some (.dK kvs))(n:H0 d=none):Bw c H0 (upd H d (.dK kvs')) x own vw ps fs:=by
 obtain⟨F,b,hF,h0,ho⟩:=h.ex;have nd:∀ y,F y->y≠d:=fun y z w=>by obtain⟨xs,q⟩:=hF y z;rw[w,e]at q;cases q
 refine⟨⟨F,rp.bk (F:=F) (fun y o hy _ k=>?_) b,fun y z=>?_,h0,fun a ha=>⟨(ho a ha).1,?_⟩⟩,jN h.sm n⟩
 ·rw[ao (fun w=>by rw[w,e]at hy;cases hy;exact k _ rfl)];exact hy
 ·obtain⟨xs,q⟩:=hF y z;exact⟨xs,by rw[ao (nd y z)];exact q⟩
 ·by_cases w:a=d
  ·rw[w];exact⟨_,ae⟩
  ·obtain⟨o',q⟩:=(ho a ha).2;exact⟨o',by rw[ao w];exact q⟩
def nmA (k m:Nat):Str:=Txt.slice "abcdefgh" (some (k:Int)) (some ((k+1+m:Nat):Int))
def WV:List Str:=["z","zz","zzz","zzzz"]
theorem ajj {k:Nat}(h:k<4):WV[k]? = some (ab2 "z" ((k:Int)+1))/\(ab2 "z" ((k:Int)+1)).length<=1000:=by
 match k,h with
 |0,_=>exact⟨by lk,by lk⟩
 |1,_=>exact⟨by lk,by lk⟩
 |2,_=>exact⟨by lk,by lk⟩
 |3,_=>exact⟨by lk,by lk⟩
 |n+4,z=>exact absurd z (by omega)
def okA (k:Nat)(n:Str):Bool:=nameB n&&decide (n.length<=8)&&decide (n.cps[0]? = ("abcdefgh":Str).cps[k]?)
theorem ag9 {k m:Nat}(hk:k<8)(hm:m<8-k):okA k (nmA k m)=true:=by
 have:((List.range 8).all fun k=>(List.range (8-k)).all fun m=>okA k (nmA k m))=true:=by lk
 have:=all_eq_true.mp this k (mem_range.mpr hk);exact all_eq_true.mp this m (mem_range.mpr hm)
structure Nms (ns:List Str):Prop where
 len:ns.length=12
 nd:ns.Nodup
 ok:∀ n∈ns,nameB n=true/\n.length<=8
 yy:∀ n∈ns,n ≠ "yy"
 zz:ns[9]? = some ("zz":Str)
theorem ahb {as:List Str}(hl:as.length=8)(h:∀ i n,as[i]? = some n->okA i n=true):Nms (as++WV):=by
 have hz:∀ n∈WV,nameB n=true/\n.length<=8/\n ≠ "yy":=by
  have:WV.all (fun n=>nameB n&&decide (n.length<=8) && !decide (n = "yy"))=true:=by lk
  intro n hn;have:=all_eq_true.mp this n hn;simp only [Bool.and_eq_true,decide_eq_true_eq,Bool.not_eq_true',decide_eq_false_iff_not]at this;exact⟨this.1.1,this.1.2,this.2⟩
 have ha:∀ i n,as[i]? = some n->nameB n=true/\n.length<=8/\n.cps[0]? = ("abcdefgh":Str).cps[i]?:=fun i n e=>by
  have:=h i n e;unfold okA at this;simp only [Bool.and_eq_true,decide_eq_true_eq]at this;exact⟨this.1.1,this.1.2,this.2⟩
 have ne8:∀(i:Nat)(n:Str),i<8->n.cps[0]? = ("abcdefgh":Str).cps[i]?->n ≠ "yy"/\n ∉ WV:=fun i n hi e=>by
  have f:((List.range 8).all fun i=>(["yy","z","zz","zzz","zzzz"]:List Str).all fun n=>!decide (n.cps[0]? = ("abcdefgh":Str).cps[i]?))=true:=by lk
  have f:=all_eq_true.mp f i (mem_range.mpr hi);have g:∀ m∈(["yy","z","zz","zzz","zzzz"]:List Str),n≠m:=fun m hm z=>by
   have:=all_eq_true.mp f m hm;rw[<-z,e]at this;simp at this
  exact⟨g _ (mem_cons_self ..),fun z=>g n (mem_cons_of_mem _ (show n∈("z":Str)::["zz","zzz","zzzz"] from z)) rfl⟩
 have alG:∀ i j:Nat,i<8->j<8->("abcdefgh":Str).cps[i]? = ("abcdefgh":Str).cps[j]?->i=j:=by
  have f:((List.range 8).all fun i=>(List.range 8).all fun j=>!decide (("abcdefgh":Str).cps[i]? = ("abcdefgh":Str).cps[j]?)||decide (i=j))=true:=by lk
  intro i j hi hj e;have:=all_eq_true.mp (all_eq_true.mp f i (mem_range.mpr hi)) j (mem_range.mpr hj);rw[decide_eq_true e]at this
  simpa using this
 have la:∀{i:Nat} {n:Str},as[i]? = some n->i<8:=fun {i n} e=>by have:=(List.getElem?_eq_some_iff.mp e).1;omega
 refine⟨by rw[length_append,hl];rfl,?_,?_,?_,?_⟩
 ·rw[List.nodup_append];refine⟨?_,by lk,?_⟩
  ·rw[List.nodup_iff_pairwise_ne,List.pairwise_iff_getElem];intro i j hi hj hij e;have e1:as[i]? = some as[i]:=getElem?_eq_getElem hi;have e2:as[j]? = some as[j]:=getElem?_eq_getElem hj;have:=alG i j (la e1) (la e2) ((ha _ _ e1).2.2.symm.trans (by rw[e];exact(ha _ _ e2).2.2));omega
  ·rintro n hn m hm rfl;obtain⟨i,hi⟩:=getElem?_of_mem hn;exact(ne8 i n (la hi) (ha i n hi).2.2).2 hm
 ·intro n hn;rcases mem_append.mp hn with hn|hn
  ·obtain⟨i,hi⟩:=getElem?_of_mem hn;exact⟨(ha i n hi).1,(ha i n hi).2.1⟩
  ·exact⟨(hz n hn).1,(hz n hn).2.1⟩
 ·intro n hn;rcases mem_append.mp hn with hn|hn
  ·obtain⟨i,hi⟩:=getElem?_of_mem hn;exact(ne8 i n (la hi) (ha i n hi).2.2).1
  ·exact(hz n hn).2.2
 ·rw[getElem?_append_right (by omega),hl];rfl
structure Vk (nm:List Str)(n0:Str)(vw:Vw)(kvs:List (Key×V))(i:Nat):Prop where
 names:vw.map (·.1)=nm.take i
 kind:∀ q∈vw,q.2=.pl []\/∃ k:Int,q.2=.cn n0 k 9 true
 first:0<i->∃ r,vw=(n0,.pl [])::r
 can:∀ m v,nh kvs (Sum.inr m)=some v->∃ k:Int,v=.int k/\(m,Th.cn n0 k 9 true)∈vw
 few:kvs.length<=i
theorem Vk.nil {nm:List Str}{n0:Str}:Vk nm n0 [] [] 0:=⟨rfl,(fun _ z=>nomatch z),(fun z=>absurd z (by decide)),(fun _ _ z=>nomatch z),Nat.le_refl _⟩
theorem Vk.len {nm:List Str}{n0:Str}{vw:Vw}{kvs:List (Key×V)}{i:Nat}(h:Vk nm n0 vw kvs i)(hi:i<=nm.length):vw.length=i:=by
 have:=congrArg List.length h.names;rw[length_map,length_take]at this;omega
theorem Vk.none {nm:List Str}{n0:Str}{vw:Vw}{kvs:List (Key×V)}{i:Nat}(h:Vk nm n0 vw kvs i)(ok:Nms nm){n:Str}(hn:nm[i]? = some n):aM vw n=Option.none:=by
 cases e:aM vw n with
 |none=>rfl
 |some th =>
  have m:n∈nm.take i:=by rw[<-h.names];exact mem_map.mpr ⟨_,di e,rfl⟩
  obtain⟨j,hj⟩:=getElem?_of_mem m;have hji:j<i:=by
   have:=(List.getElem?_eq_some_iff.mp hj).1;rw[length_take]at this;omega
  rw[List.getElem?_take_of_lt hji]at hj;have:=uD ok.nd hj hn;omega
theorem Vk.new {nm:List Str}{n0:Str}{vw:Vw}{kvs:List (Key×V)}{i:Nat}(h:Vk nm n0 vw kvs i)(ok:Nms nm){n:Str}(hn:nm[i]? = some n):cZ vw n=Option.none:=by
 have i12:i<12:=by have:=(List.getElem?_eq_some_iff.mp hn).1;rw[ok.len]at this;exact this
 have l:=h.len (by rw[ok.len];omega);unfold cZ;rw[(ok.ok n (mem_of_getElem? hn)).1,h.none ok hn,if_neg (by decide),if_neg (by decide),if_neg (by omega)]
theorem Vk.pl {nm:List Str}{n0:Str}{vw:Vw}{kvs:List (Key×V)}{i:Nat}(h:Vk nm n0 vw kvs i){n:Str}(hn:nm[i]? = some n)(h0:nm[0]? = some n0):Vk nm n0 (vw++[(n,.pl [])]) kvs (i+1):=by
 refine⟨by rw[map_append,h.names,take_succ,hn];rfl,fun q hq=>?_,fun _=>?_,fun m v e=>?_,Nat.le_succ_of_le h.few⟩
 ·rcases mem_append.mp hq with z|z
  ·exact h.kind q z
  ·rw[mem_singleton.mp z];exact .inl rfl
 ·cases i with
  |zero =>
   rw[hn]at h0;cases h0;have:vw=[]:=by
    have:=h.names;rw[List.take_zero]at this;exact List.map_eq_nil_iff.mp this
   rw[this];exact⟨[],rfl⟩
  |succ j =>
   obtain⟨r,e⟩:=h.first (Nat.succ_pos _);exact⟨r++[(n,.pl [])],by rw[e];rfl⟩
 ·obtain⟨k,e1,e2⟩:=h.can m v e;exact⟨k,e1,mem_append_left _ e2⟩
theorem Vk.ahc {nm:List Str}{n0:Str}{vw:Vw}{kvs:List (Key×V)}{i:Nat}(h:Vk nm n0 vw kvs i)(hi:0<i):aM vw n0=some (.pl []):=by
 obtain⟨r,e⟩:=h.first hi;rw[e];unfold aM;rw[List.find?_cons_of_pos (p:=fun q:Str×Th=>decide (q.1=n0)) (decide_eq_true rfl)];rfl
theorem Vk.cn {nm:List Str}{n0:Str}{vw:Vw}{kvs:List (Key×V)}{i:Nat}(h:Vk nm n0 vw kvs i)(ok:Nms nm){n:Str}(hn:nm[i]? = some n)(hi:0<i):Vk nm n0 (vw++[(n,.cn n0 (i:Int) 9 true)]) (putK kvs (Sum.inr n) (.int (i:Int))) (i+1):=by
 have hv:nh kvs (Sum.inr n)=Option.none:=by
  cases e:nh kvs (Sum.inr n) with
  |none=>rfl
  |some v =>
   obtain⟨k,_,m⟩:=h.can n v e;exact absurd rfl (kK (h.none ok hn) _ m)
 rw[Lh _ hv];refine⟨by rw[map_append,h.names,take_succ,hn];rfl,fun q hq=>?_,fun _=>?_,fun m v e=>?_,by rw[length_append];have:=h.few;show _+1<=_;omega⟩
 ·rcases mem_append.mp hq with z|z
  ·exact h.kind q z
  ·rw[mem_singleton.mp z];exact .inr ⟨_,rfl⟩
 ·obtain⟨r,e⟩:=h.first hi;exact⟨r++[(n,.cn n0 (i:Int) 9 true)],by rw[e];rfl⟩
 ·rw[O4 _ _ _ _ hv]at e
  by_cases z:(Sum.inr m:Key)=Sum.inr n
  ·rw[if_pos z]at e;cases e;rw[Sum.inr.inj z];exact⟨_,rfl,mem_append_right _ (mem_singleton.mpr rfl)⟩
  ·rw[if_neg z]at e;obtain⟨k,e1,e2⟩:=h.can m v e;exact⟨k,e1,mem_append_left _ e2⟩
theorem Vk.yy {nm:List Str}{n0:Str}{vw:Vw}{kvs:List (Key×V)}(h:Vk nm n0 vw kvs 12)(ok:Nms nm):cZ vw "yy"=some .Full:=by
 have l:=h.len (by rw[ok.len];exact Nat.le_refl _);have f:aM vw "yy"=Option.none:=by
  cases e:aM vw "yy" with
  |none=>rfl
  |some th =>
   have m:("yy":Str)∈nm.take 12:=by rw[<-h.names];exact mem_map.mpr ⟨_,di e,rfl⟩
   exact absurd rfl (ok.yy _ (List.mem_of_mem_take m))
 unfold cZ;rw[f,if_neg (by lk),if_neg (by decide),if_pos (by omega)]
theorem Vk.zz {nm:List Str}{n0:Str}{vw:Vw}{kvs:List (Key×V)}(h:Vk nm n0 vw kvs 12)(ok:Nms nm):cZ vw "zz"=some .qk:=by
 have f:(aM vw "zz").isSome=true:=by
  cases e:aM vw "zz" with
  |some th=>rfl
  |none =>
   have m:("zz":Str)∈vw.map (·.1):=by
    rw[h.names,List.take_of_length_le (by rw[ok.len];exact Nat.le_refl _)];exact mem_of_getElem? ok.zz
   obtain⟨q,hq,e2⟩:=mem_map.mp m;exact absurd e2 (kK e q hq)
 unfold cZ;rw[if_neg (by lk),if_pos f]
theorem yyB (vw:Vw):cZ vw "YY"=some .zU:=by
 unfold cZ;rw[if_pos (by lk)]
structure Vd (nm:List Str)(n0 ls:Str)(vw:Vw):Prop where
 out:aM vw ls≠Option.none
 lean:leans vw ls=false
 names:(gK vw ls++[(("yy":Str),Th.pl [])]).map (·.1)=nm.filter (fun n=>!decide (n=ls))++[("yy":Str)]
 new:cZ (gK vw ls) "yy"=Option.none
 head:(nm.filter (fun n=>!decide (n=ls))++[("yy":Str)])[0]? = some n0
theorem Vk.drop {nm:List Str}{n0:Str}{vw:Vw}{kvs:List (Key×V)}(h:Vk nm n0 vw kvs 12)(ok:Nms nm)(e0:nm[0]? = some n0){j:Nat}{ls:Str}(hj:nm[j+1]? = some ls):Vd nm n0 ls vw/\ls≠n0:=by
 have ne:ls≠n0:=fun z=>by
  subst z;have:=uD ok.nd e0 hj;omega
 have nmE:vw.map (·.1)=nm:=by rw[h.names,List.take_of_length_le (by rw[ok.len];exact Nat.le_refl _)]
 have hm:ls∈vw.map (·.1):=by rw[nmE];exact mem_of_getElem? hj
 have dn:(gK vw ls).map (·.1)=nm.filter (fun n=>!decide (n=ls)):=by
  rw[<-nmE,List.filter_map];rfl
 have l:=h.len (by rw[ok.len];exact Nat.le_refl _);refine⟨⟨fun z=>?_,?_,by rw[map_append,dn];rfl,?_,?_⟩,ne⟩
 ·obtain⟨q,hq,e⟩:=mem_map.mp hm;exact kK z q hq e
 ·unfold leans;rw[List.any_eq_false];intro q hq z;unfold JE at z;rcases h.kind q hq with e|⟨k,e⟩
  ·rw[e]at z;cases z
  ·rw[e]at z;exact ne (of_decide_eq_true z).symm
 ·have f:aM (gK vw ls) "yy"=Option.none:=by
   cases e:aM (gK vw ls) "yy" with
   |none=>rfl
   |some th =>
    have m:("yy":Str)∈vw.map (·.1):=mem_map.mpr ⟨_,(qm.mp (di e)).1,rfl⟩;rw[nmE]at m;exact absurd rfl (ok.yy _ m)
  have ld:(gK vw ls).length<12:=by
   have:(gK vw ls).length<vw.length:=by
    unfold gK;obtain⟨q,hq,e⟩:=mem_map.mp hm;exact List.length_filter_lt_length_iff_exists.mpr ⟨q,hq,by simp[e]⟩
   omega
  unfold cZ;rw[f,if_neg (by lk),if_neg (by decide),if_neg (by omega)]
 ·cases nm with
  |nil=>cases e0
  |cons a r =>
   rw[List.getElem?_cons_zero]at e0;cases e0;rw[List.filter_cons_of_pos (by simp[Ne.symm ne])];rfl
theorem acU {K:Frag}{H:Hp}{a b:Addr}{zs:List Str}(ha:aZ K H a (zs.map V.str))(hb:aZ K H b (zs.map V.str)):Deq K H 60 (.ref a) (.ref b):=by
 refine .lst ha hb rfl fun i x y e1 e2=>?_;have e:x=y:=Option.some.inj (e1.symm.trans e2);subst e;obtain⟨z,_,rfl⟩:=mem_map.mp (mem_of_getElem? e1);exact .flat rfl
theorem afK {s:Str}(h:s.length<=8):s.length<=1000:=by omega
set_option maxHeartbeats 8000000 in
theorem ahe (T:Txt K w mg t):bK P w K mg base oI (0+9) t.LI t.acz ["_law_script"] (Ll K):=by
 have Kl:=G4 (P:=P) (base:=base) T;have yE:=ED (P:=P) (base:=base) T;have Oe:=Mn (P:=P) (base:=base) T;have j1:=sP (P:=P) (base:=base) T;have nR:=sR (P:=P) (base:=base) T;have hX:=BK (P:=P) (base:=base) T;have eI:=kx (P:=P) (base:=base) T;have jJ:=ER (P:=P) (base:=base) T;have Ha:=Mf (P:=P) (base:=base) T;refine T.Zc.ok tR (fun vs H Q E h=>?_) (fun cdv A outer s H vs Q E hr h=>?_)
 ·obtain⟨a,ns,rfl,_⟩:=h;rfl
 ·obtain⟨a,ns,rfl,hS,hl,q⟩:=h;have hbody:aw AV=(aw AV).take 6++YY ((aw AV).getD 6 (.Pass ⟨0,0,0,0⟩)) oP::(aw AV).drop 7:=by unfold oP;rfl
  rw[hbody];refine aS (ah (aH (i:=1) tR.nd rfl (Or.inl rfl) (abu T.aej Kl (hr.mono (by decide)) rfl T.aei T.o5 .nil aL)) (ah (adW 4 ["_law_script","_law_book","_law_names","_law_canons","","_law_name","_law_why","_law_last"] (Bb (i:=2) Z0 rfl rfl (cn:=["_law_k"]) rfl (dQ.of rfl) (lj rfl T.jG (aa ai af)) (fun _=>(aP (i:=0) Pe rfl (Or.inl rfl))) (fun _=>vv) (fun _=>(lI (qa.or (vm.or vy)) av (je (pv 0)) (je (aR (bW.or (aJ.or bY)) (aR (bW.or (aJ.or bY)) (pv 0) ai) (aR j6 (aB jJ (hr.mono (by decide)) rfl T.jZ T.eM.kp T.ie .nil aL (aa (pv 1) (aa ai af))) (aR js ai (pv 0))))))))) (ah (aH (i:=2) tR.nd rfl (Or.inl rfl) (aR (bW.or (aJ.or bY)) (pv 2) (YX 4 ["_law_script","_law_book","_law_names","_law_canons","","_law_name","_law_why","_law_last"] (oC (cn:=["_law_k"]) rfl (dQ.of rfl) (lj rfl T.jG (aa ai af)) (fun _=>(aP (i:=0) Pe rfl (Or.inl rfl))) (fun _=>vv) (fun _=>(aR adX av (aR (bW.or (aJ.or bY)) (pv 0) ai))))))) (ah (aH (i:=3) tR.nd rfl (Or.inl rfl) ab9) (ah (ij PassesOwn.never rfl (YW rfl T.v7 (pv 2)) (oV rfl (bA (aP (i:=4) tR.nd rfl (Or.inl rfl)) (bA (aP (i:=5) tR.nd rfl (Or.inl rfl)) ky))) (ak (bf (dh (PW.pt (dX (au Tv (pv 4) ai (ay _)) (gM (au (bH.or (bg (az hr))) (aR j6 (aB Ha (hr.mono (by decide)) rfl T.LL T.qy.kp T.Af .nil aL (aa (aB jJ (hr.mono (by decide)) rfl T.jZ T.eM.kp T.ie .nil aL (aa (pv 0) (aa ai af))) (aa (pv 4) af))) ai) ai (ay _)))))) (ah (bo (fE (pv 1) T.aE T.l8 j1 (hr.mono (by decide)) T.jW .nil rW (aa (pv 5) (aa (aK aA (pv 2) ai (fun _ _=>rfl)) (aa (pv 4) (aa ai (aa fM af))))))) (ak (ad1 (Ld hr) (pv 3) (pv 5) (pv 4) rfl))) (ak (bo (fE (pv 1) T.aE T.sG nR (hr.mono (by decide)) T.jY .nil rW (aa (pv 5) af))))))) (ah (bf (au (lH.or (ik (az hr))) (aK aA (aB hX (hr.mono (by decide)) rfl T.iE T.eP.kp T.gZ .nil aL (aa (pv 1) (aa (bB (aa av (aa av (aa (aK aA (pv 2) ai (fun _ _=>rfl)) (aa ai (aa ai (aa ai (aa ai (aa fM af))))))))) (aa ai af)))) ai (fun _ _=>rfl)) av (ay _)) (ak (ax fM)) aF) (ah (ij PassesOwn.never rfl (fN acy) (oV rfl (bA (aP (i:=5) tR.nd rfl (Or.inl rfl)) (bA (aP (i:=6) tR.nd rfl (Or.inl rfl)) ky))) (ak (bf (au (lH.or (ik (az hr))) (aK aA (aB hX (hr.mono (by decide)) rfl T.iE T.eP.kp T.gZ .nil aL (aa (pv 1) (aa (bB (aa av (aa (pv 5) af))) (aa ai af)))) ai (fun _ _=>rfl)) (pv 6) (ay _)) (ak (ax fM)) aF)) (acw _)) (ah (bf (au (lH.or (ik (az hr))) (aK aA (aB hX (hr.mono (by decide)) rfl T.iE T.eP.kp T.gZ .nil aL (aa (pv 1) (aa (bB (aa av (aa av (aa av (aa ai (aa ai (aa ai (aa ai (aa fM af))))))))) (aa ai af)))) ai (fun _ _=>rfl)) av (ay _)) (ak (ax fM)) aF) (ah (aH (i:=7) tR.nd rfl (Or.inr rfl) (aK aA (pv 2) (aR (bW.or (aJ.or bY)) ai (aR j6 (aB jJ (hr.mono (by decide)) rfl T.jZ T.eM.kp T.ie .nil aL (aa (pv 0) (aa ai af))) ai)) (fun _ _=>rfl))) (ah (bo (fE (pv 1) T.aE T.El yE (hr.mono (by decide)) T.sv .nil rW (aa (pv 7) af))) (ah (aH (i:=2) tR.nd rfl (Or.inl rfl) (aR (bW.or (aJ.or bY)) (oC (cn:=["_law_one"]) rfl (dQ.of rfl) (fN (pv 2)) (fun _=>(aP (i:=0) Z1 rfl (Or.inl rfl))) (fun _=>(P2 (au (lH.or (ik (az hr))) (pv 0) (pv 8) (ay _)))) (fun _=>(pv 0))) (bM (aa av af)))) (ah (bf (dh (PW.pt (xK (au (lH.or (ik (az hr))) (aK aA (aB hX (hr.mono (by decide)) rfl T.iE T.eP.kp T.gZ .nil aL (aa (pv 1) (aa (bB (aa av (aa av af))) (aa ai af)))) ai (fun _ _=>rfl)) av (ay _)) (qA (au (lH.or (ik (az hr))) (kg (pv 1) T.aE T.ko eI (hr.mono (by decide)) T.iA .nil aL) (pv 2) (ay _)))))) (ak (ax fM)) aF) (ah (bf (au Tv (aR j6 (aB jJ (hr.mono (by decide)) rfl T.jZ T.eM.kp T.ie .nil aL (aa (pv 0) (aa ai af))) ai) ai (ay _)) (ak (ax fM)) aF) (ak (ax (aB Oe (hr.mono (by decide)) rfl T.LO T.kr.kp T.tX .nil aL (aa (pv 0) (aa (pv 1) (aa (aK aA (pv 2) ai (fun _ _=>rfl)) (aa (pv 3) af)))))))))))))))))))) ?_;refine bL fun N hN=>?_;intro x dx nx ndx _;refine⟨x,dx,rfl,ae,fun L D U H4 kp4 nL nD nU LD LU DU hx4 hL4 hD4 hU4=>⟨rfl,?_⟩⟩;have s4:=agB nx ndx kp4;have B4:Bw (cs t) H H4 x [] [] [] []:=Bw.new hx4 hL4 hD4 hU4 LD LU DU s4 (Lr nL) (Lr nD) (Lr nU);clear kp4 nL nD nU LD LU DU hL4 hD4 hU4 s4 nx ndx hx4;refine hN _ _ ?_;clear hN N;refine bL fun N hN=>?_;refine⟨rfl,8,rfl,by decide,by decide,fun D b0 hD=>?_⟩;refine vz (lo:=0) (n:=Int.toNat 8) (fun i ys σ H'=>∃(v:Option V)(as:List Str),σ=[v,some (.ref a),some (.ref x),none,none,none,none,none,none]/\H'=upd H4 D (.lst ys)/\ys=as.map V.str/\as.length=i/\∀ j n,as[j]? = some n->okA j n=true) ⟨none,[],rfl,rfl,rfl,rfl,fun j n e=>by simp at e⟩ ?_ ?_
  ·rintro i ys σ H' hi ⟨v,as,rfl,rfl,rfl,la,oka⟩ N' hN';have hi8:i<8:=hi;refine jt ?_;obtain⟨m,hm,hm8⟩:=aiE (JS ns 0) (k:=(8-(i:Int))) (by omega);refine⟨_,rfl,_,rfl,?_⟩;tm_up;refine⟨a,ns,0,rfl,(ar.upd hD).seq (B4.sm.seq hS),hl,?_⟩;tm_up;refine⟨by omega,.inl ⟨_,_,rfl,rfl,_,rfl,.inr (.inr ⟨_,rfl,by lk,?_⟩)⟩⟩;rw[show(0:Int)+(i:Int)=(i:Int) from Int.zero_add _,hm,show((i:Int)+1+(m:Int))=((i+1+m:Nat):Int) by omega];refine⟨ae,ba (by rw[length_map];omega),hN' _ _ _ ⟨_,as++[nmA i m],rfl,cI,by rw[map_append];rfl,by rw[length_append,la];rfl,fun j n e=>?_⟩⟩;rcases Nat.lt_or_ge j as.length with z|z
   ·rw[List.getElem?_append_left z]at e;exact oka j n e
   ·rw[getElem?_append_right z]at e;have:j=as.length:=by
     rcases Nat.lt_or_ge as.length j with y|y
     ·rw[List.getElem?_eq_none (by show 1<=_;omega)]at e;cases e
     ·omega
    subst this;rw[Nat.sub_self]at e;cases e;rw[la];exact ag9 hi8 (by omega)
  ·rintro ys σ H' ⟨v,as,rfl,rfl,rfl,la,oka⟩;have S1:=ar.upd (o:=.lst (as.map V.str)) hD;have k1:=ae (H:=H4) (a:=D) (o:=.lst (as.map V.str));generalize upd H4 D (.lst (as.map V.str))=H5 at S1 k1;refine⟨rfl,?_⟩;refine hN _ _ ?_;clear hN N;refine bL fun N hN=>?_;have hl8:as.length=8:=la;refine⟨_,rfl,rfl,4,rfl,by decide,by decide,fun D2 b2 hD2=>?_⟩;refine vz (lo:=0) (n:=Int.toNat 4) (fun i ys σ H'=>∃(v:Option V),σ=[v,some (.ref a),some (.ref x),some (.ref D),none,none,none,none,none]/\H'=upd H5 D2 (.lst ys)/\i<=4/\ys=(WV.take i).map V.str) ⟨none,rfl,rfl,Nat.zero_le _,rfl⟩ ?_ ?_
   ·rintro i ys σ H' hi ⟨v,rfl,rfl,i4,rfl⟩ N' hN';have hi4:i<4:=hi;obtain⟨z1,z2⟩:=ajj hi4;refine jt ?_;refine⟨_,rfl,.inl ⟨_,_,rfl,rfl,?_⟩⟩;rw[show(0:Int)+(i:Int)=(i:Int) from Int.zero_add _];refine⟨_,_,rfl,rfl,by omega,by omega,by lk,big z2,ae,ba (by rw[length_map,length_take];omega),hN' _ _ _ ⟨_,rfl,cI,hi4,?_⟩⟩;rw[take_succ,z1,map_append];rfl
   ·rintro ys σ H' ⟨v,rfl,rfl,_,rfl⟩;have e4:WV.take (Int.toNat 4)=WV:=rfl;rw[e4];have S2:=ar.upd (o:=.lst (WV.map V.str)) hD2;have k2:=ae (H:=H5) (a:=D2) (o:=.lst (WV.map V.str));generalize upd H5 D2 (.lst (WV.map V.str))=H6 at S2 k2;refine .inr (.inr ⟨D,D2,_,_,rfl,rfl,S2 _ _ k1,k2,big (by rw[length_map,length_map,hl8];show 12<=1000;omega),fun l hl3=>?_⟩);rw[<-map_append];have nms:=ahb hl8 oka;have S3:=ar.upd (o:=.lst ((as++WV).map V.str)) hl3;have k3:=ae (H:=H6) (a:=l) (o:=.lst ((as++WV).map V.str));generalize upd H6 l (.lst ((as++WV).map V.str))=H7 at S3 k3;generalize as++WV=nm at nms k3;have S47:=(S1.trans S2).trans S3;have B7:=B4.mix S47;have k7:mix H H4 H7 l=some (.lst (nm.map V.str)):=wd ((S1.trans S2).free hl3) k3;have hS7:aZ K (mix H H4 H7) a (ns.map V.int):=(sW B4.sm).seq hS;generalize mix H H4 H7=H0 at B7 k7 hS7;refine hN _ _ ?_;clear hN N S1 S2 S3 S47 k1 k2 k3 hl3 hD2 hD B4 la hl8 oka;refine bL fun N hN=>?_;intro dc hdc;have S8:=ar.upd (o:=.dK []) hdc;have k8:=ae (H:=H7) (a:=dc) (o:=.dK []);have ndc:=B7.sm.free hdc;generalize upd H7 dc (.dK [])=H8 at S8 k8;have B8:=B7.same S8;refine hN _ _ ?_;clear hN N hdc S8 B7;obtain⟨n0,en0⟩:∃ n0,nm[0]? = some n0:=⟨_,getElem?_eq_getElem (by rw[nms.len];decide)⟩;refine bL fun N hN=>?_;have ajm:(nm.map V.str).length=12:=by rw[length_map];exact nms.len
    refine⟨_,rfl,l,rfl,⟨_,aZ.of (B8.sm _ _ k7)⟩,TM (K:=K) (xs:=nm.map V.str) (fun i σ H'=>∃(v4 v5:Option V)(vw:Vw)(ps:List Vw)(kvs:List (Key×V)),σ=[some (.ref a),some (.ref x),some (.ref l),some (.ref dc),v4,v5,none,none]/\Bw (cs t) H0 H' x [] vw ps []/\H' dc=some (.dK kvs)/\Vk nm n0 vw kvs i/\ps.length=i/\(ps++[vw]).head? = some []) ⟨none,none,[],[],[],rfl,B8,k8,Vk.nil,rfl,rfl⟩ ?_ ?_ ?_⟩
    ·rintro i σ H' ⟨v4,v5,vw,ps,kvs,rfl,B,_⟩;exact aZ.of (B.sm _ _ k7)
    ·rintro i y τ σ H' hy ⟨v4,v5,vw,ps,kvs,rfl,B,hdc,vk,pl,phd⟩ hτ;obtain⟨n,hn,rfl⟩:∃ n,nm[i]? = some n/\y=.str n:=by
      rw[getElem?_map]at hy;cases e:nm[i]? with
      |none=>rw[e]at hy;cases hy
      |some z=>rw[e]at hy;exact⟨z,rfl,(Option.some.inj hy).symm⟩
     have i12:i<12:=by have:=(List.getElem?_eq_some_iff.mp hn).1;rw[nms.len]at this;exact this
     have nok:=nms.ok n (mem_of_getElem? hn);have s4:=ar.upd (o:=.tup [.int (i:Int),.str n]) hτ;have amW:=ae (H:=H') (a:=τ) (o:=.tup [.int (i:Int),.str n]);generalize upd H' τ (.tup [.int (i:Int),.str n])=H9 at s4 amW;have B9:=B.same s4;have d9:=s4 _ _ hdc;have new:=vk.new nms hn;refine⟨τ,_,rfl,uo.of amW,rfl,_,_,rfl,_,_,rfl,rfl,?_⟩;refine⟨fun b NQ=>(b=true->0<i)/\ar H9 NQ,?_,?_⟩
     ·tm_up;refine bp (fun hc=>?_) (fun _=>⟨fun z=>(by cases z),ar.refl _⟩);have hc':0<i:=by have:=of_decide_eq_true hc;omega
      tm_up;refine⟨a,ns,1,rfl,B9.sm.seq hS7,hl,?_⟩;refine⟨_,rfl,_,_,rfl,fun r _ _=>?_⟩;tm_up;exact⟨fun _=>hc',ar.refl _⟩
     rintro b H10 ⟨hb,S10⟩;have B10:=B9.same S10;have d10:=S10 _ _ d9;obtain⟨VD,L1,D1,U1,hx1⟩:=B10.hx;obtain⟨F1,b1,f1,z1,o1⟩:=B10.ex;cases b with
     |true =>
      refine jr ?_;have hi0:=hb rfl;refine⟨_,rfl,x,VD,_,rfl,hx1,nj _ _ _,_,rfl,_,rfl,ixL (aZ.of (B10.sm _ _ k7)) (n:=0) rfl (by rw[getElem?_map,en0];rfl) ?_⟩;refine⟨_,rfl,x,F1,_,ps,[],n,n0,(i:Int),9,true,rfl,b1,by omega,by omega,?_⟩;rw[new,vk.ahc hi0];refine⟨fun z=>absurd ⟨by omega,by omega,by decide,by decide⟩ z,fun _ F2 H2 gr2 fr2 b2=>?_⟩;obtain⟨B2,kk2⟩:=Bw.mk' b2 B10.sm f1 z1 o1 gr2 fr2;have d2:=kk2 _ _ d10 (.inl fun _ z=>nomatch z);refine⟨_,rfl,_,rfl,_,rfl,dc,_,rfl,ab6.k (k:=Sum.inr n) d2 (ba (by have:=vk.few;omega)),?_⟩;refine⟨_,_,_,_,_,rfl,B2.ag8 d2 ndc,ae,vk.cn nms hn hi0,by rw[length_append,pl];rfl,?_⟩;rw[List.head?_append,phd];rfl
     |false =>
      refine dw ?_;refine⟨_,rfl,x,VD,_,rfl,hx1,uC _ _ _,_,rfl,?_⟩;refine⟨x,F1,_,ps,[],n,rfl,b1,by omega,by omega,?_⟩;rw[new];intro F2 H2 gr2 fr2 b2;obtain⟨B2,kk2⟩:=Bw.mk' b2 B10.sm f1 z1 o1 gr2 fr2;refine⟨_,_,_,_,kvs,rfl,B2,kk2 _ _ d10 (.inl fun _ z=>nomatch z),vk.pl hn en0 ,by rw[length_append,pl];rfl,?_⟩;rw[List.head?_append,phd];rfl
    ·rintro σ H' ⟨v4,v5,vw,ps,kvs,rfl,B,hdc,vk,pl,phd⟩;rw[ajm]at vk pl;refine hN _ _ ?_;clear hN N;have yy:=vk.yy nms;have n08:=(nms.ok n0 (mem_of_getElem? en0)).2;refine bL fun N hN=>?_;tm_up;refine ixL (aZ.of (B.sm _ _ k7)) (n:=0) rfl (by rw[getElem?_map,en0];rfl) ?_;tm_up;refine⟨by show 8<=sizeLine;decide,fun p hp=>?_⟩;have S9:=ar.upd (o:=.tup [V.str "canon",V.str "yy",V.str n0,V.int 0,V.int 0,V.int 1000,V.int 0,V.bl true]) hp;have k9:=ae (H:=H') (a:=p) (o:=.tup [V.str "canon",V.str "yy",V.str n0,V.int 0,V.int 0,V.int 1000,V.int 0,V.bl true]);generalize upd H' p (.tup [V.str "canon",V.str "yy",V.str n0,V.int 0,V.int 0,V.int 1000,V.int 0,V.bl true])=H9 at S9 k9;have B9:=B.same S9;obtain⟨F9,b9,f9,z9,o9⟩:=B9.ex;refine⟨x,_,F9,⟨vw,ps,[]⟩,⟨.canon,"yy",n0,0,("",0),1000,0,true⟩,0,rfl,b9,⟨p,_,rfl,k9,rfl,rfl,(fun z=>by rcases z with z|z <;> cases z),fun _=>⟨rfl,rfl,rfl,rfl⟩⟩,(show("yy":Str).length<=1000 by lk),afK n08,by show ps.length+0<=900;omega,?_⟩;rw[show nq ⟨vw,ps,[]⟩ ⟨.canon,"yy",n0,0,("",0),1000,0,true⟩ 0=some .Full by unfold nq;show(match cZ vw "yy" with|some r=>some r|none=>_)=_;rw[yy]];intro t0 H10 S10 ht0;refine jx (i:=1) ht0 rfl ?_;refine .inl ⟨rfl,_,rfl,?_⟩;rw[show decide (V.str Rf.Full.str=V.str (Str.ofString "Full"))=true from decide_eq_true rfl];refine dw ?_;have B10:=B9.same S10;have d10:=S10 _ _ (S9 _ _ hdc);refine hN _ _ ?_;clear hN N B9 b9 f9 z9 o9 k9 S9 S10 ht0 B hdc;refine bL fun N hN=>?_;rw[JI];refine⟨by show 2<=sizeLine;decide,fun p1 hp1=>?_⟩;have T1:=ar.upd (o:=.tup [V.str "yy",V.str "Full"]) hp1;have h1:=ae (H:=H10) (a:=p1) (o:=.tup [V.str "yy",V.str "Full"]);generalize upd H10 p1 (.tup [V.str "yy",V.str "Full"])=H11 at T1 h1;refine⟨by show 2<=sizeLine;decide,fun p2 hp2=>?_⟩;have T2:=ar.upd (o:=.tup [V.str "zz",V.str "NameTaken"]) hp2;have h2:=ae (H:=H11) (a:=p2) (o:=.tup [V.str "zz",V.str "NameTaken"]);generalize upd H11 p2 (.tup [V.str "zz",V.str "NameTaken"])=H12 at T2 h2;refine⟨by show 2<=sizeLine;decide,fun p3 hp3=>?_⟩;have T3:=ar.upd (o:=.tup [V.str "YY",V.str "BadName"]) hp3;have h3:=ae (H:=H12) (a:=p3) (o:=.tup [V.str "YY",V.str "BadName"]);generalize upd H12 p3 (.tup [V.str "YY",V.str "BadName"])=H13 at T3 h3;refine⟨by show 3<=sizeLine;decide,fun l4 hl4=>?_⟩;have T4:=ar.upd (o:=.lst [V.ref p1,V.ref p2,V.ref p3]) hl4;have h4:=ae (H:=H13) (a:=l4) (o:=.lst [V.ref p1,V.ref p2,V.ref p3]);generalize upd H13 l4 (.lst [V.ref p1,V.ref p2,V.ref p3])=H14 at T4 h4;have B14:=(((B10.same T1).same T2).same T3).same T4;have d14:=T4 _ _ (T3 _ _ (T2 _ _ (T1 _ _ d10)))
     replace h1:=T4 _ _ (T3 _ _ (T2 _ _ h1))
     replace h2:=T4 _ _ (T3 _ _ h2)
     replace h3:=T4 _ _ h3
     have each:∀(i:Nat)(y:V),[V.ref p1,V.ref p2,V.ref p3][i]? = some y->∃(p:Addr)(n:Str)(r:Rf),y=.ref p/\H14 p=some (.tup [.str n,.str r.str])/\cZ vw n=some r/\n.length<=8:=fun i y e=>by
      match i,e with
      |0,e=>cases e;exact⟨p1,"yy",.Full,rfl,h1,yy,by lk⟩
      |1,e=>cases e;exact⟨p2,"zz",.qk,rfl,h2,vk.zz nms,by lk⟩
      |2,e=>cases e;exact⟨p3,"YY",.zU,rfl,h3,yyB vw,by lk⟩
      |n+3,e=>simp at e
     clear T1 T2 T3 T4 h1 h2 h3 hp1 hp2 hp3 hl4 B10 d10;refine⟨l4,rfl,⟨_,aZ.of h4⟩,lG (K:=K) (xs:=[V.ref p1,V.ref p2,V.ref p3]) (fun i σ H'=>∃(v5 v6:Option V),σ=[some (.ref a),some (.ref x),some (.ref l),some (.ref dc),v4,v5,v6,none]/\ar H14 H') ⟨_,_,rfl,ar.refl _⟩ ?_ ?_ ?_⟩
     ·rintro i σ H1 _ ⟨v5,v6,rfl,S⟩;exact aZ.of (S _ _ h4)
     ·rintro i y σ H1 hy ⟨v5,v6,rfl,S⟩;obtain⟨p,n,r,rfl,hp,no,n8⟩:=each i y hy;have B15:=B14.same S;refine⟨p,_,rfl,uo.of (S _ _ hp),rfl,_,_,rfl,_,_,rfl,rfl,?_⟩;tm_up;refine⟨by show 2<=sizeLine;decide,fun p5 hp5=>?_⟩;have T5:=ar.upd (o:=.tup [V.str "add",V.str n]) hp5;have h5:=ae (H:=H1) (a:=p5) (o:=.tup [V.str "add",V.str n]);generalize upd H1 p5 (.tup [V.str "add",V.str n])=H15 at T5 h5;have B16:=B15.same T5;obtain⟨F9,b9,f9,z9,o9⟩:=B16.ex;refine⟨x,_,F9,⟨vw,ps,[]⟩,⟨.add,n,"",0,("",0),0,0,false⟩,0,rfl,b9,⟨p5,_,rfl,h5,rfl,rfl,(fun z=>by rcases z with z|z <;> cases z),fun z=>nomatch z⟩,afK n8,Oa,by show ps.length+0<=900;omega,?_⟩;rw[show nq ⟨vw,ps,[]⟩ ⟨.add,n,"",0,("",0),0,0,false⟩ 0=some r from no];intro t0 H17 Uz ht0;refine jx (i:=1) ht0 rfl ?_;refine⟨_,rfl,.inl ⟨rfl,_,rfl,?_⟩⟩;rw[show decide (V.str r.str=V.str r.str)=true from decide_eq_true rfl];exact dw ⟨_,_,rfl,(S.trans T5).trans Uz⟩
     rintro σ H15 ⟨v5',v6,rfl,S15⟩;refine hN _ _ ?_;clear hN N each;have B15:=B14.same S15;have d15:=S15 _ _ d14;refine bL fun N hN=>?_;refine⟨_,rfl,by show 8<=sizeLine;decide,fun p6 hp6=>?_⟩;have T6:=ar.upd (o:=.tup [V.str "canon",V.str "yy",V.str "none",V.int 0,V.int 0,V.int 0,V.int 1,V.bl false]) hp6;have h6:=ae (H:=H15) (a:=p6) (o:=.tup [V.str "canon",V.str "yy",V.str "none",V.int 0,V.int 0,V.int 0,V.int 1,V.bl false]);generalize upd H15 p6 (.tup [V.str "canon",V.str "yy",V.str "none",V.int 0,V.int 0,V.int 0,V.int 1,V.bl false])=H16 at T6 h6;have B16:=B15.same T6;obtain⟨F9,b9,f9,z9,o9⟩:=B16.ex;refine⟨x,_,F9,⟨vw,ps,[]⟩,⟨.canon,"yy","none",0,("",0),0,1,false⟩,0,rfl,b9,⟨p6,_,rfl,h6,rfl,rfl,(fun z=>by rcases z with z|z <;> cases z),fun _=>⟨rfl,rfl,rfl,rfl⟩⟩,(show("yy":Str).length<=1000 by lk),(show("none":Str).length<=1000 by lk),by show ps.length+0<=900;omega,?_⟩;rw[show nq ⟨vw,ps,[]⟩ ⟨.canon,"yy","none",0,("",0),0,1,false⟩ 0=some .Full by unfold nq;show(match cZ vw "yy" with|some r=>some r|none=>_)=_;rw[yy]];intro t1 H17 Uz ht1;refine jx (i:=1) ht1 rfl ?_;refine .inl ⟨rfl,_,rfl,?_⟩;rw[show decide (V.str Rf.Full.str=V.str (Str.ofString "Full"))=true from decide_eq_true rfl];refine dw ?_;have B17:=B16.same Uz;have d17:=Uz _ _ (T6 _ _ d15);refine hN _ _ ?_;clear hN N B16 b9 f9 z9 o9 h6 T6 Uz ht1 hp6 B15 d15 B14 d14 h4;refine bL fun N hN=>?_;tm_up;refine⟨a,ns,2,rfl,B17.sm.seq hS7,hl,?_⟩;tm_up;obtain⟨m,hm,aoT⟩:=aiE (JS ns 2) (k:=11) (by decide);obtain⟨ls,els⟩:∃ ls,nm[m+1]? = some ls:=⟨_,getElem?_eq_getElem (by rw[nms.len];omega)⟩;refine ixL (aZ.of (B17.sm _ _ k7)) (n:=m+1) (by rw[hm];omega) (by rw[getElem?_map,els];rfl) ?_;obtain⟨vd,lne⟩:=vk.drop nms en0 els;refine hN _ _ ?_;clear hN N;refine bL fun N hN=>?_;obtain⟨VD,L1,D1,U1,hx1⟩:=B17.hx;obtain⟨F1,b1,f1,z1,o1⟩:=B17.ex;refine⟨_,rfl,x,VD,_,rfl,hx1,Jy _ _ _,_,rfl,x,F1,vw,ps,[],ls,rfl,b1,by omega,?_⟩;cases hfl:aM vw ls with
     |none=>exact absurd hfl vd.out
     |some th =>
     refine⟨(fun z=>by rw[vd.lean]at z;cases z),fun _ F2 H18 gr2 fr2 b2=>?_⟩;obtain⟨B18,ajo⟩:=Bw.mk' b2 B17.sm f1 z1 o1 gr2 fr2;have d18:=ajo _ _ d17 (.inl fun _ z=>nomatch z);refine hN _ _ ?_;clear hN N b1 f1 z1 o1 gr2 fr2 b2 hx1 B17 d17 ajo;refine bL fun N hN=>?_;refine⟨_,rfl,l,rfl,⟨_,aZ.of (B18.sm _ _ k7)⟩,fun D3 b3 hD3=>?_⟩;refine lp (K:=K) (xs:=nm.map V.str) (fun i ys σ H'=>∃ v,σ=[v,some (.ref a),some (.ref x),some (.ref l),some (.ref dc),v4,v5',v6,some (.str ls)]/\H'=upd H18 D3 (.lst ys)/\ys=((nm.take i).filter fun n=>!decide (n=ls)).map V.str) ⟨none,rfl,rfl,rfl⟩ ?_ ?_ ?_
     ·rintro i ys σ H' ⟨v,rfl,rfl,_⟩;exact ip (aZ.of (B18.sm _ _ k7)) hD3
     ·rintro i ys y σ H' hy ⟨v,rfl,rfl,rfl⟩ N' hN';obtain⟨n,hn,rfl⟩:∃ n,nm[i]? = some n/\y=.str n:=by
       rw[getElem?_map]at hy;cases e:nm[i]? with
       |none=>rw[e]at hy;cases hy
       |some z=>rw[e]at hy;exact⟨z,rfl,(Option.some.inj hy).symm⟩
      have i12:i<12:=by have:=(List.getElem?_eq_some_iff.mp hn).1;rw[nms.len]at this;exact this
      unfold DS;have ef:(nm.take (i+1)).filter (fun n=>!decide (n=ls))=(nm.take i).filter (fun n=>!decide (n=ls))++[n].filter (fun n=>!decide (n=ls)):=by
       rw[take_succ,hn,List.filter_append];rfl
      have fl:((nm.take i).filter fun n=>!decide (n=ls)).length<=12:=Nat.le_trans (List.length_filter_le _ _) (by rw[length_take];omega);refine⟨_,rfl,_,rfl,.inl ⟨rfl,_,rfl,?_⟩⟩
      by_cases z:n=ls
      ·rw[show decide (V.str n=V.str ls)=true from decide_eq_true (by rw[z])];refine dw (hN' _ _ _ ⟨_,rfl,rfl,?_⟩);rw[ef,List.filter_cons_of_neg (by simp[z])];simp
      ·rw[show decide (V.str n=V.str ls)=false from decide_eq_false fun y=>z (V.str.inj y)];refine jr ⟨_,rfl,ae,ba (by rw[length_map];omega),hN' _ _ _ ⟨_,rfl,cI,?_⟩⟩;rw[ef,List.filter_cons_of_pos (by simp[z]),map_append];rfl
     rintro ys σ H' ⟨v,rfl,rfl,rfl⟩;rw[ajm,List.take_of_length_le (by rw[nms.len];exact Nat.le_refl _)];have fl:(nm.filter fun n=>!decide (n=ls)).length<=12:=Nat.le_trans (List.length_filter_le _ _) (by rw[nms.len];exact Nat.le_refl _);have T1:=ar.upd (o:=.lst ((nm.filter fun n=>!decide (n=ls)).map V.str)) hD3;have h1:=ae (H:=H18) (a:=D3) (o:=.lst ((nm.filter fun n=>!decide (n=ls)).map V.str));generalize upd H18 D3 (.lst ((nm.filter fun n=>!decide (n=ls)).map V.str))=H19 at T1 h1;refine⟨big (by show 1<=1000;omega),fun l5 hl5=>?_⟩;have T2:=ar.upd (o:=.lst [V.str "yy"]) hl5;have h2:=ae (H:=H19) (a:=l5) (o:=.lst [V.str "yy"]);generalize upd H19 l5 (.lst [V.str "yy"])=H20 at T2 h2;refine .inr (.inr ⟨D3,l5,_,_,rfl,rfl,T2 _ _ h1,h2,big (by rw[length_map];show _+1<=1000;omega),fun l6 hl6=>?_⟩);rw[show(nm.filter fun n=>!decide (n=ls)).map V.str++[V.str "yy"]=(nm.filter (fun n=>!decide (n=ls))++[("yy":Str)]).map V.str by rw[map_append];rfl];have T3:=ar.upd (o:=.lst ((nm.filter (fun n=>!decide (n=ls))++[("yy":Str)]).map V.str)) hl6;have h3:=ae (H:=H20) (a:=l6) (o:=.lst ((nm.filter (fun n=>!decide (n=ls))++[("yy":Str)]).map V.str));generalize upd H20 l6 (.lst ((nm.filter (fun n=>!decide (n=ls))++[("yy":Str)]).map V.str))=H21 at T3 h3;have S21:=(T1.trans T2).trans T3;have B21:=B18.mix S21;have h0:mix H0 H18 H21 l6=some (.lst ((nm.filter (fun n=>!decide (n=ls))++[("yy":Str)]).map V.str)):=wd ((T1.trans T2).free hl6) h3;have d0:mix H0 H18 H21 dc=some (.dK kvs):=E8 S21 (S21 _ _ d18) (fun _ z=>nomatch z);have hS0:aZ K (mix H0 H18 H21) a (ns.map V.int):=(sW B18.sm).seq hS7;generalize mix H0 H18 H21=G0 at B21 h0 d0 hS0;refine hN _ _ ?_;clear hN N T1 T2 T3 h1 h2 h3 hl5 hl6 hD3 S21 B18 d18;refine bL fun N hN=>?_;refine⟨fun bb H'=>bb=false/\Bw (cs t) G0 H' x [] (gK vw ls++[(("yy":Str),Th.pl [])]) (ps++[vw]++[gK vw ls]) [],?_,?_⟩
     ·tm_up;refine⟨by show 2<=sizeLine;decide,fun p7 hp7=>?_⟩;have T7:=ar.upd (o:=.tup [V.str "add",V.str "yy"]) hp7;have h7:=ae (H:=H21) (a:=p7) (o:=.tup [V.str "add",V.str "yy"]);generalize upd H21 p7 (.tup [V.str "add",V.str "yy"])=H23 at T7 h7;have B23:=B21.same T7;obtain⟨F7,b7,f7,z7,o7⟩:=B23.ex;refine⟨x,_,F7,⟨gK vw ls,ps++[vw],[]⟩,⟨.add,"yy","",0,("",0),0,0,false⟩,0,rfl,b7,⟨p7,_,rfl,h7,rfl,rfl,(fun z=>by rcases z with z|z <;> cases z),fun z=>nomatch z⟩,(show("yy":Str).length<=1000 by lk),Oa,by show(ps++[vw]).length+0<=900;rw[length_append];show ps.length+1+0<=900;omega,?_⟩;rw[show nq ⟨gK vw ls,ps++[vw],[]⟩ ⟨.add,"yy","",0,("",0),0,0,false⟩ 0=none from vd.new];intro t2 v2 F8 H24 gr8 fr8 b8 an8 ht2;obtain⟨B24,kk8⟩:=Bw.mk' b8 B23.sm f7 z7 o7 gr8 fr8
      replace B24:Bw (cs t) G0 H24 x [] (gK vw ls++[(("yy":Str),Th.pl [])]) (ps++[vw]++[gK vw ls]) []:=B24
      refine jx (i:=1) ht2 rfl ?_;refine .inl ⟨rfl,_,rfl,?_⟩;rw[show decide (V.str ""=V.str (Str.ofString ""))=true from decide_eq_true rfl];refine dw ?_;obtain⟨VD,L1,D1,U1,hx1⟩:=B24.hx;obtain⟨F9,b9,_⟩:=B24.ex;refine⟨_,rfl,x,VD,_,rfl,hx1,lL _ _ _,x,F9,_,_,_,rfl,b9,fun l1 H25 nl1 s1 h1=>?_⟩;rw[show(gK vw ls++[(("yy":Str),Th.pl [])]).map (fun q=>V.str q.1)=((gK vw ls++[(("yy":Str),Th.pl [])]).map (·.1)).map V.str by rw[List.map_map];rfl,vd.names]at h1;have B25:=B24.same s1;refine⟨_,rfl,.inr ⟨l1,l6,rfl,rfl,acU (aZ.of h1) (aZ.of (B25.sm _ _ h0)),?_⟩⟩;exact⟨_,rfl,rfl,B25⟩
     rintro _ H22 ⟨rfl,B22⟩;refine dw ?_;refine hN _ _ ?_;clear hN N;refine bL fun N hN=>?_;tm_up;refine⟨a,ns,3,rfl,B22.sm.seq hS0,hl,?_⟩;tm_up;refine bp (fun _=>q _) (fun _=>?_);refine hN _ _ ?_;clear hN N;refine⟨_,rfl,_,rfl,_,rfl,ixL (aZ.of (B22.sm _ _ h0)) (n:=0) rfl (by rw[getElem?_map,vd.head];rfl) ?_⟩;have mem:∀{m:Str} {th:Th},(m,th)∈vw->m≠ls->aM (gK vw ls++[(("yy":Str),Th.pl [])]) m=some th:=fun h z=>B22.wv.find (mem_append_left _ (qm.mpr ⟨h,z⟩));obtain⟨r0,er0⟩:=vk.first (by decide);refine⟨_,rfl,a,x,dc,ns,n0,G0,_,_,kvs,rfl,hS0,hl,B22,by rw[length_append,length_append,pl];rfl,by rw[List.head?_append,phd];rfl,mem (by rw[er0];exact mem_cons_self ..) lne.symm,n08,d0,fun m v e th hth=>?_,fun H'=>q _⟩;obtain⟨k,e1,e2⟩:=vk.can m v e
     by_cases z:m=ls
     ·exfalso
      subst z;rcases mem_append.mp (di hth) with y|y
      ·exact(qm.mp y).2 rfl
      ·have:=congrArg Prod.fst (mem_singleton.mp y);exact nms.yy _ (mem_of_getElem? els) this
     ·rw[mem e2 z]at hth;cases hth;exact⟨k,e1,rfl⟩
theorem Zo {us:List Value}(h:us.length=1):∃ a0,us=[a0]:=match us,h with|[a0],_=>⟨a0,rfl⟩
theorem rq {p:List Value->Prop}(h:∀ a0,p [a0])(us:List Value)(e:us.length=1):p us:=by obtain⟨_,rfl⟩:=Zo e;exact h _
theorem afL {us:List Value}(h:us.length=2):∃ a0 a1,us=[a0,a1]:=match us,h with|[a0,a1],_=>⟨a0,a1,rfl⟩
theorem iS {p:List Value->Prop}(h:∀ a0 a1,p [a0,a1])(us:List Value)(e:us.length=2):p us:=by obtain⟨_,_,rfl⟩:=afL e;exact h _ _
theorem acV {us:List Value}(h:(us++[]).length=2):∃ a0 a1,us=[a0,a1]:=afL (by rw[append_nil]at h;exact h)
theorem afM {us:List Value}(h:us.length=3):∃ a0 a1 a2,us=[a0,a1,a2]:=match us,h with|[a0,a1,a2],_=>⟨a0,a1,a2,rfl⟩
theorem JW {p:List Value->Prop}(h:∀ a0 a1 a2,p [a0,a1,a2])(us:List Value)(e:us.length=3):p us:=by obtain⟨_,_,_,rfl⟩:=afM e;exact h _ _ _
theorem ajp {us:List Value}(h:us.length=4):∃ a0 a1 a2 a3,us=[a0,a1,a2,a3]:=match us,h with|[a0,a1,a2,a3],_=>⟨a0,a1,a2,a3,rfl⟩
theorem JX {p:List Value->Prop}(h:∀ a0 a1 a2 a3,p [a0,a1,a2,a3])(us:List Value)(e:us.length=4):p us:=by obtain⟨_,_,_,_,rfl⟩:=ajp e;exact h _ _ _ _
theorem ajq {us:List Value}(h:us.length=5):∃ a0 a1 a2 a3 a4,us=[a0,a1,a2,a3,a4]:=match us,h with|[a0,a1,a2,a3,a4],_=>⟨a0,a1,a2,a3,a4,rfl⟩
theorem ajr {p:List Value->Prop}(h:∀ a0 a1 a2 a3 a4,p [a0,a1,a2,a3,a4])(us:List Value)(e:us.length=5):p us:=by obtain⟨_,_,_,_,_,rfl⟩:=ajq e;exact h _ _ _ _ _
theorem ajs {us:List Value}(h:us.length=6):∃ a0 a1 a2 a3 a4 a5,us=[a0,a1,a2,a3,a4,a5]:=match us,h with|[a0,a1,a2,a3,a4,a5],_=>⟨a0,a1,a2,a3,a4,a5,rfl⟩
theorem ajt {us:List Value}(h:(us++[]).length=6):∃ a0 a1 a2 a3 a4 a5,us=[a0,a1,a2,a3,a4,a5]:=ajs (by rw[append_nil]at h;exact h)
set_option maxHeartbeats 0 in
theorem all_mk {l:OpenLaw}{w:World}{K:Frag}{h:Heap}{mg:Str->Option Value}{fa du bx a9 cW bF lC dA cX fR eJ kM jB bE BB cw vO nE kO eR qQ bD dY eF qR cy ic fS fU nF bC eK cH bI jh gE dB cf j9 lD ix nI nJ qS jC kQ sr nK gF bQ BF K4 dZ dm cO cP iy nN qT zZ dC jD qV nP vT qW jE gG LI eL gH d7 cY dq eV dD dE cg aU bq aV aW aQ cm br aX aI aY:Addr}(X:K.In h)(G:h.Ns mainGlobals mg)(hfa:mg "law"=some (.ref fa)){He Hh yK yL WW WY Km Kn Hi Hj Of Og QM QN UN UO QO QP we wj aeB aeC BP BQ acW acX WZ W0 UP UQ Ko Kp aam aan AG AH UR US Oh Oi aao aap QR QS QT QU QV QW QX QY W2 W3 BR BS Mo Mp E9 Fb Fc Fd BU UT UU QZ Q0 Fe Ff aeD aeE W4 W5 Oj Ol W6 W7 W8 W9 aaq aar Q6 Q7 UW UX Q8 Xa Xb Mq Mr wk wm aeF aeG acY Hk Hl Fg Fh BV BW BX BY Om Oo Xc Xd aas aat Xe Q9 Ra Rb Rc aau aav Xf Xg acZ ac0 aaw aax Rg Rh Mt Mu ahf ahg Mv Mw Hm Hn Fi Kq:Option Addr}{Ho yM Xh Kr Hq Oq Ri UY Rj wo aeH BZ ac1 Xi UZ Ks aay AI U0 Ot aaz Rk Rl Rm Rn Xj Ca Mx Fj Fl Cb U4 Ro Fm aeI Xk Ou Xl Xm aaA Rp U7 Rq Xn My wq aeJ ac2 Hr Fn Cc Cd Ov Xo aaB Xp Rr Rt aaC Xq ac3 aaD Ru Mz ahh MA MB Hs Ht Fo Kt:Array (Option Value)}{Hu Hv Hw Hy uZ Hz yN yO yP yQ oU yR Xr Xs Xt Xu MC Xv Ku Kv Kw Kx xB Ky HA HB HC HD va HE Ow Ox Oy Oz A5 OA Rv Rw Rx Ry Fp Rz U8 U9 Va Vb JY Vc RA RB RC RD Fq RE wt wu wx wz mv wA aeK aeL aeM aeN Zp aeO Ce Cf Cg Ci rA Cj ac4 ac5 ac6 ac7 Ve ac8 Xw Xx Xy Xz MD XA Vf Vg Vh Vi JZ Vj Kz KA KC KG xC KH aaE aaF aaG aaH Px aaI AJ AK AL AM p9 AN Vl Vm Vn Vo J0 Vp OB OC OD OE A6 OF aaJ aaK aaL aaM Py aaN RF RG RH RI Ft RJ RK RL RM RN Fu RO RP RQ RS RT Fv RU RV RW RY RZ Fw R0 XB XC XD XE ME XF Ck Cm Cn Co rB Cp MF MG MH MI yS MJ Fx Fy Fz FA sX FC FD FE FF FG sY FH Cq Vq Vr Vs Vt J8 Vu R4 R7 R8 R9 FI Sa FJ FK FL FN sZ FO aeP aeQ aeR aeS Zq aeT XG XH XI XJ MK XM OG OH OI OJ A7 OK XN XO XQ XR ML XT XU XW XX XY MN XZ aaO aaP aaQ aaR Pz aaS Sd Se Sf Sh FP Si Vv Vy Vz VA J9 VB Sj X0 X1 X5 X7 MO Ya MP MQ MR MS yT MT wB wC wD wF mw wG aeU aeV aeW aeX Zr aeY ac9 HF HG HH HI vb HJ FQ FR FT FU tf FV Cr Ct Cu Cv rC Cw Cy Cz CA CC rD CF OL OM ON OO A8 OP Yb Yc Yd Ye MU Yf aaT aaU aaV aaW PB aaX Yg Sk Sl Sm So FW Sq Sr Ss Su Sv FX Sw aaY aaZ aa0 aa1 PD aa2 Yh Yi Yj Yk MV Yl ada adb ade adf VC adg aa3 aa4 aa5 aa6 PJ aa7 Sx Sy Sz SA FY SD MW MX MY MZ yU M0 ahi ahj ahk ahl adh ahm:Value}{eS eU lQ yi qU M4 M5 M7 M8 M9 Na HK HL HM HN HP FZ F5 Ga Gb KJ KL KN KO KP lT HQ HR HS HU HV HW HX HY HZ Ia Ib Ic Ie Ig Ih Ii Ij Ik Il Im Io Ip CG CH CI CJ qd ji kC lU Aa lV oE qe Ek Ab:Tok}{CK SE adi Ym OQ OR KQ KR Iq Nb Nc Nd Ir:Nat}(Nf:nsIn K mainGlobals "Voice"=some (some (.ref du)))(SF:nsIn K mainGlobals "Deed"=some (some (.ref bx)))(SG:nsIn K mainGlobals "Book"=some (some (.ref a9)))(pb:findIn K (.ref a9) "__init__"=some (some (.ref cW)))(ph:K.lookup cW=some ⟨Hu,He,.func (fnOf "__init__" "Book.__init__" (aD fG) (aw fG) (ag fG) .none Hv Hw Hy Hh uZ Hz),Ho⟩)(pj:codeIn K uZ "Book.__init__" = true)(pk:keepIn K (.ref cW)=true)(nV:isFn K (.ref cW)=true)(kc:findIn K (.ref a9) "voice_called"=some (some (.ref bF)))(kd:K.lookup bF=some ⟨yN,yK,.func (fnOf "voice_called" "Book.voice_called" (aD ck) (aw ck) (ag ck) .none yO yP yQ yL oU yR),yM⟩)(ke:codeIn K oU "Book.voice_called" = true)(gQ:keepIn K (.ref bF)=true)(jK:isFn K (.ref bF)=true)(Iu:findIn K (.ref bx) "do"=some (some (.ref lC)))(Iv:K.lookup lC=some ⟨Xr,WW,.func (fnOf "do" "Deed.do" (aD qo) (aw qo) (ag qo) .none Xs Xt Xu WY MC Xv),Xh⟩)(Iw:codeIn K MC "Deed.do" = true)(Ah:keepIn K (.ref lC)=true)(CL:isFn K (.ref lC)=true)(rE:findIn K (.ref a9) "perform"=some (some (.ref dA)))(rF:K.lookup dA=some ⟨Ku,Km,.func (fnOf "perform" "Book.perform" (aD gU) (aw gU) (ag gU) .none Kv Kw Kx Kn xB Ky),Kr⟩)(rG:codeIn K xB "Book.perform" = true)(mx:keepIn K (.ref dA)=true)(pq:isFn K (.ref dA)=true)(pA:findIn K (.ref bx) "__init__"=some (some (.ref cX)))(pB:K.lookup cX=some ⟨HA,Hi,.func (fnOf "__init__" "Deed.__init__" (aD fH) (aw fH) (ag fH) .none HB HC HD Hj va HE),Hq⟩)(pC:codeIn K va "Deed.__init__" = true)(pE:keepIn K (.ref cX)=true)(nW:isFn K (.ref cX)=true)(wH:findIn K (.ref a9) "names"=some (some (.ref fR)))(wI:K.lookup fR=some ⟨Ow,Of,.func (fnOf "names" "Book.names" (aD jP) (aw jP) (ag jP) .none Ox Oy Oz Og A5 OA),Oq⟩)(wJ:codeIn K A5 "Book.names" = true)(qh:keepIn K (.ref fR)=true)(t4:isFn K (.ref fR)=true)(yV:findIn K (.ref a9) "drop"=some (some (.ref eJ)))(yW:K.lookup eJ=some ⟨Rv,QM,.func (fnOf "drop" "Book.drop" (aD ib) (aw ib) (ag ib) .none Rw Rx Ry QN Fp Rz),Ri⟩)(yX:codeIn K Fp "Book.drop" = true)(tq:keepIn K (.ref eJ)=true)(wK:isFn K (.ref eJ)=true)(CM:nsIn K mainGlobals "_law_window"=some (some (.ref kM)))(CN:K.lookup kM=some ⟨U8,UN,.func (fnOf "_law_window" "_law_window" (aD nr) (aw nr) (ag nr) .none U9 Va Vb UO JY Vc),UY⟩)(CO:codeIn K JY "_law_window"=true)(CP:keepIn K (.ref kM)=true)(yY:nsIn K mainGlobals "_law_sign_by"=some (some (.ref jB)))(yZ:K.lookup jB=some ⟨RA,QO,.func (fnOf "_law_sign_by" "_law_sign_by" (aD lr) (aw lr) (ag lr) .none RB RC RD QP Fq RE),Rj⟩)(y8:codeIn K Fq "_law_sign_by"=true)(y9:keepIn K (.ref jB)=true)(i6:nsIn K mainGlobals "refuse_other_places"=some (some (.ref bE)))(i7:K.lookup bE=some ⟨wt,we,.func (fnOf "refuse_other_places" "refuse_other_places" (aD bP) (aw bP) (ag bP) .none wu wx wz wj mv wA),wo⟩)(i8:codeIn K mv "refuse_other_places"=true)(i9:keepIn K (.ref bE)=true)(Yn:nsIn K mainGlobals "good"=some (some (.ref BB)))(Yo:K.lookup BB=some ⟨aeK,aeB,.func (fnOf "good" "good" (aD Gq) (aw Gq) (ag Gq) .none aeL aeM aeN aeC Zp aeO),aeH⟩)(Yp:codeIn K Zp "good"=true)(Yq:keepIn K (.ref BB)=true)(my:nsIn K mainGlobals "refuse_bad_sign"=some (some (.ref cw)))(mz:K.lookup cw=some ⟨Ce,BP,.func (fnOf "refuse_bad_sign" "refuse_bad_sign" (aD cN) (aw cN) (ag cN) .none Cf Cg Ci BQ rA Cj),BZ⟩)(mB:codeIn K rA "refuse_bad_sign"=true)(mC:keepIn K (.ref cw)=true)(SH:nsIn K mainGlobals "small"=some (some (.ref vO)))(SI:K.lookup vO=some ⟨ac4,acW,.func (fnOf "small" "small" (aD zX) (aw zX) (ag zX) .none ac5 ac6 ac7 acX Ve ac8),ac1⟩)(SJ:codeIn K Ve "small"=true)(EG:keepIn K (.ref vO)=true)(Iy:nsIn K mainGlobals "low_end"=some (some (.ref nE)))(Iz:K.lookup nE=some ⟨Xw,WZ,.func (fnOf "low_end" "low_end" (aD qp) (aw qp) (ag qp) .none Xx Xy Xz W0 MD XA),Xi⟩)(IA:codeIn K MD "low_end"=true)(IB:keepIn K (.ref nE)=true)(CQ:nsIn K mainGlobals "high_end"=some (some (.ref kO)))(CS:K.lookup kO=some ⟨Vf,UP,.func (fnOf "high_end" "high_end" (aD nt) (aw nt) (ag nt) .none Vg Vh Vi UQ JZ Vj),UZ⟩)(CU:codeIn K JZ "high_end"=true)(CW:keepIn K (.ref kO)=true)(rH:nsIn K mainGlobals "sets_measure"=some (some (.ref eR)))(rJ:K.lookup eR=some ⟨Kz,Ko,.func (fnOf "sets_measure" "sets_measure" (aD gW) (aw gW) (ag gW) .none KA KC KG Kp xC KH),Ks⟩)(rK:codeIn K xC "sets_measure"=true)(rL:keepIn K (.ref eR)=true)(Ng:nsIn K mainGlobals "window"=some (some (.ref qQ)))(Nh:K.lookup qQ=some ⟨aaE,aam,.func (fnOf "window" "window" (aD uF) (aw uF) (ag uF) .none aaF aaG aaH aan Px aaI),aay⟩)(Ni:codeIn K Px "window"=true)(Nj:keepIn K (.ref qQ)=true)(kW:findIn K (.ref a9) "plain_voice"=some (some (.ref bD)))(kX:K.lookup bD=some ⟨AJ,AG,.func (fnOf "plain_voice" "Book.plain_voice" (aD b5) (aw b5) (ag b5) .none AK AL AM AH p9 AN),AI⟩)(kY:codeIn K p9 "Book.plain_voice" = true)(iH:keepIn K (.ref bD)=true)(kf:isFn K (.ref bD)=true)(CY:findIn K (.ref a9) "put"=some (some (.ref dY)))(CZ:K.lookup dY=some ⟨Vl,UR,.func (fnOf "put" "Book.put" (aD gD) (aw gD) (ag gD) .none Vm Vn Vo US J0 Vp),U0⟩)(C0:codeIn K J0 "Book.put" = true)(wL:keepIn K (.ref dY)=true)(za:isFn K (.ref dY)=true)(wN:findIn K (.ref a9) "canon"=some (some (.ref eF)))(wO:K.lookup eF=some ⟨OB,Oh,.func (fnOf "canon" "Book.canon" (aD iu) (aw iu) (ag iu) .none OC OD OE Oi A6 OF),Ot⟩)(wQ:codeIn K A6 "Book.canon" = true)(qi:keepIn K (.ref eF)=true)(t5:isFn K (.ref eF)=true)(Nk:nsIn K mainGlobals "turned"=some (some (.ref qR)))(Nl:K.lookup qR=some ⟨aaJ,aao,.func (fnOf "turned" "turned" (aD uG) (aw uG) (ag uG) .none aaK aaL aaM aap Py aaN),aaz⟩)(Nm:codeIn K Py "turned"=true)(Nn:keepIn K (.ref qR)=true)(zb:findIn K (.ref a9) "line"=some (some (.ref cy)))(zc:K.lookup cy=some ⟨RF,QR,.func (fnOf "line" "Book.line" (aD dz) (aw dz) (ag dz) .none RG RH RI QS Ft RJ),Rk⟩)(zd:codeIn K Ft "Book.line" = true)(tw:keepIn K (.ref cy)=true)(wR:isFn K (.ref cy)=true)(ze:findIn K (.ref bx) "undo"=some (some (.ref ic)))(zf:K.lookup ic=some ⟨RK,QT,.func (fnOf "undo" "Deed.undo" (aD lu) (aw lu) (ag lu) .none RL RM RN QU Fu RO),Rl⟩)(zg:codeIn K Fu "Deed.undo" = true)(tD:keepIn K (.ref ic)=true)(wU:isFn K (.ref ic)=true)(zh:findIn K (.ref a9) "undo"=some (some (.ref fS)))(zi:K.lookup fS=some ⟨RP,QV,.func (fnOf "undo" "Book.undo" (aD jy) (aw jy) (ag jy) .none RQ RS RT QW Fv RU),Rm⟩)(zj:codeIn K Fv "Book.undo" = true)(tE:keepIn K (.ref fS)=true)(wV:isFn K (.ref fS)=true)(zk:findIn K (.ref a9) "redo"=some (some (.ref fU)))(zm:K.lookup fU=some ⟨RV,QX,.func (fnOf "redo" "Book.redo" (aD jz) (aw jz) (ag jz) .none RW RY RZ QY Fw R0),Rn⟩)(zo:codeIn K Fw "Book.redo" = true)(tF:keepIn K (.ref fU)=true)(wW:isFn K (.ref fU)=true)(IC:nsIn K mainGlobals "is_name"=some (some (.ref nF)))(ID:K.lookup nF=some ⟨XB,W2,.func (fnOf "is_name" "is_name" (aD qq) (aw qq) (ag qq) .none XC XD XE W3 ME XF),Xj⟩)(IE:codeIn K ME "is_name"=true)(IF:keepIn K (.ref nF)=true)(mD:findIn K (.ref a9) "refuse_new"=some (some (.ref bC)))(mE:K.lookup bC=some ⟨Ck,BR,.func (fnOf "refuse_new" "Book.refuse_new" (aD bU) (aw bU) (ag bU) .none Cm Cn Co BS rB Cp),Ca⟩)(mF:codeIn K rB "Book.refuse_new" = true)(jo:keepIn K (.ref bC)=true)(kZ:isFn K (.ref bC)=true)(t7:findIn K (.ref a9) "put_in"=some (some (.ref eK)))(ua:K.lookup eK=some ⟨MF,Mo,.func (fnOf "put_in" "Book.put_in" (aD iT) (aw iT) (ag iT) .none MG MH MI Mp yS MJ),Mx⟩)(ub:codeIn K yS "Book.put_in" = true)(oH:keepIn K (.ref eK)=true)(rM:isFn K (.ref eK)=true)(nX:findIn K (.ref du) "__init__"=some (some (.ref cH)))(nY:K.lookup cH=some ⟨Fx,E9,.func (fnOf "__init__" "Voice.__init__" (aD eN) (aw eN) (ag eN) .none Fy Fz FA Fb sX FC),Fj⟩)(nZ:codeIn K sX "Voice.__init__" = true)(n5:keepIn K (.ref cH)=true)(mG:isFn K (.ref cH)=true)(n9:findIn K (.ref a9) "add_canon"=some (some (.ref bI)))(oa:K.lookup bI=some ⟨FD,Fc,.func (fnOf "add_canon" "Book.add_canon" (aD cb) (aw cb) (ag cb) (.ref jh) FE FF FG Fd sY FH),Fl⟩)(og:codeIn K sY "Book.add_canon" = true)(j2:keepIn K (.ref bI)=true)(mH:isFn K (.ref bI)=true)(jq:K.lookup jh=some ⟨Cq,BU,.seq #[.int 0 eS,.int 1 eU,.bool false] CK,Cb⟩)(C2:findIn K (.ref a9) "cut"=some (some (.ref gE)))(C4:K.lookup gE=some ⟨Vq,UT,.func (fnOf "cut" "Book.cut" (aD jA) (aw jA) (ag jA) .none Vr Vs Vt UU J8 Vu),U4⟩)(C5:codeIn K J8 "Book.cut" = true)(wX:keepIn K (.ref gE)=true)(zp:isFn K (.ref gE)=true)(zq:findIn K (.ref a9) "swap"=some (some (.ref dB)))(zr:K.lookup dB=some ⟨R4,QZ,.func (fnOf "swap" "Book.swap" (aD fO) (aw fO) (ag fO) .none R7 R8 R9 Q0 FI Sa),Ro⟩)(zt:codeIn K FI "Book.swap" = true)(tG:keepIn K (.ref dB)=true)(wY:isFn K (.ref dB)=true)(oh:findIn K (.ref a9) "add_voice"=some (some (.ref cf)))(oi:K.lookup cf=some ⟨FJ,Fe,.func (fnOf "add_voice" "Book.add_voice" (aD dj) (aw dj) (ag dj) .none FK FL FN Ff sZ FO),Fm⟩)(oj:codeIn K sZ "Book.add_voice" = true)(j3:keepIn K (.ref cf)=true)(mI:isFn K (.ref cf)=true)(Yr:nsIn K mainGlobals "_law_do"=some (some (.ref j9)))(Ys:K.lookup j9=some ⟨aeP,aeD,.func (fnOf "_law_do" "_law_do" (aD kL) (aw kL) (ag kL) .none aeQ aeR aeS aeE Zq aeT),aeI⟩)(Yt:codeIn K Zq "_law_do"=true)(Yu:keepIn K (.ref j9)=true)(IG:nsIn K mainGlobals "_law_tried"=some (some (.ref lD)))(IH:K.lookup lD=some ⟨XG,W4,.func (fnOf "_law_tried" "_law_tried" (aD nu) (aw nu) (ag nu) .none XH XI XJ W5 MK XM),Xk⟩)(II:codeIn K MK "_law_tried"=true)(IJ:keepIn K (.ref lD)=true)(wZ:nsIn K mainGlobals "_law_all_back"=some (some (.ref ix)))(w4:K.lookup ix=some ⟨OG,Oj,.func (fnOf "_law_all_back" "_law_all_back" (aD jQ) (aw jQ) (ag jQ) .none OH OI OJ Ol A7 OK),Ou⟩)(w5:codeIn K A7 "_law_all_back"=true)(xa:keepIn K (.ref ix)=true)(IK:nsIn K mainGlobals "_law_mixed"=some (some (.ref nI)))(IL:K.lookup nI=some ⟨XN,W6,.func (fnOf "_law_mixed" "_law_mixed" (aD qr) (aw qr) (ag qr) .none XO XQ XR W7 ML XT),Xl⟩)(IM:codeIn K ML "_law_mixed"=true)(IP:keepIn K (.ref nI)=true)(IQ:nsIn K mainGlobals "_law_whole"=some (some (.ref nJ)))(IS:K.lookup nJ=some ⟨XU,W8,.func (fnOf "_law_whole" "_law_whole" (aD qt) (aw qt) (ag qt) .none XW XX XY W9 MN XZ),Xm⟩)(IT:codeIn K MN "_law_whole"=true)(IU:keepIn K (.ref nJ)=true)(Np:nsIn K mainGlobals "_law_nums"=some (some (.ref qS)))(Nq:K.lookup qS=some ⟨aaO,aaq,.func (fnOf "_law_nums" "_law_nums" (aD uH) (aw uH) (ag uH) .none aaP aaQ aaR aar Pz aaS),aaA⟩)(Nr:codeIn K Pz "_law_nums"=true)(Nt:keepIn K (.ref qS)=true)(zu:nsIn K mainGlobals "_law_cell_at"=some (some (.ref jC)))(zw:K.lookup jC=some ⟨Sd,Q6,.func (fnOf "_law_cell_at" "_law_cell_at" (aD lx) (aw lx) (ag lx) .none Se Sf Sh Q7 FP Si),Rp⟩)(zx:codeIn K FP "_law_cell_at"=true)(zy:keepIn K (.ref jC)=true)(C7:nsIn K mainGlobals "measures"=some (some (.ref kQ)))(C8:K.lookup kQ=some ⟨Vv,UW,.func (fnOf "measures" "measures" (aD nC) (aw nC) (ag nC) (.ref sr) Vy Vz VA UX J9 VB),U7⟩)(C9:codeIn K J9 "measures"=true)(Dc:keepIn K (.ref kQ)=true)(tH:K.lookup sr=some ⟨Sj,Q8,.seq #[.int 3 lQ] SE,Rq⟩)(IV:nsIn K mainGlobals "kind_at"=some (some (.ref nK)))(IW:K.lookup nK=some ⟨X0,Xa,.func (fnOf "kind_at" "kind_at" (aD qu) (aw qu) (ag qu) .none X1 X5 X7 Xb MO Ya),Xn⟩)(IX:codeIn K MO "kind_at"=true)(IY:keepIn K (.ref nK)=true)(uc:nsIn K mainGlobals "plain_worth"=some (some (.ref gF)))(ud:K.lookup gF=some ⟨MP,Mq,.func (fnOf "plain_worth" "plain_worth" (aD iU) (aw iU) (ag iU) .none MQ MR MS Mr yT MT),My⟩)(ue:codeIn K yT "plain_worth"=true)(uf:keepIn K (.ref gF)=true)(ja:nsIn K mainGlobals "worths_without_runs"=some (some (.ref bQ)))(jb:K.lookup bQ=some ⟨wB,wk,.func (fnOf "worths_without_runs" "worths_without_runs" (aD cA) (aw cA) (ag cA) .none wC wD wF wm mw wG),wq⟩)(jc:codeIn K mw "worths_without_runs"=true)(jd:keepIn K (.ref bQ)=true)(Yv:nsIn K mainGlobals "runs"=some (some (.ref BF)))(Yw:K.lookup BF=some ⟨aeU,aeF,.func (fnOf "runs" "runs" (aD Gs) (aw Gs) (ag Gs) (.ref K4) aeV aeW aeX aeG Zr aeY),aeJ⟩)(Yx:codeIn K Zr "runs"=true)(Yy:keepIn K (.ref BF)=true)(K7:K.lookup K4=some ⟨ac9,acY,.seq #[.int 3 yi] adi,ac2⟩)(pF:nsIn K mainGlobals "has_left_note"=some (some (.ref dZ)))(pG:K.lookup dZ=some ⟨HF,Hk,.func (fnOf "has_left_note" "has_left_note" (aD fI) (aw fI) (ag fI) .none HG HH HI Hl vb HJ),Hr⟩)(pH:codeIn K vb "has_left_note"=true)(pI:keepIn K (.ref dZ)=true)(om:nsIn K mainGlobals "has_right_note"=some (some (.ref dm)))(oo:K.lookup dm=some ⟨FQ,Fg,.func (fnOf "has_right_note" "has_right_note" (aD eO) (aw eO) (ag eO) .none FR FT FU Fh tf FV),Fn⟩)(oq:codeIn K tf "has_right_note"=true)(ot:keepIn K (.ref dm)=true)(mJ:nsIn K mainGlobals "settle_one_over"=some (some (.ref cO)))(mK:K.lookup cO=some ⟨Cr,BV,.func (fnOf "settle_one_over" "settle_one_over" (aD dS) (aw dS) (ag dS) .none Ct Cu Cv BW rC Cw),Cc⟩)(mL:codeIn K rC "settle_one_over"=true)(mM:keepIn K (.ref cO)=true)(mO:nsIn K mainGlobals "settle_two_over"=some (some (.ref cP)))(mP:K.lookup cP=some ⟨Cy,BX,.func (fnOf "settle_two_over" "settle_two_over" (aD dU) (aw dU) (ag dU) .none Cz CA CC BY rD CF),Cd⟩)(mQ:codeIn K rD "settle_two_over"=true)(mR:keepIn K (.ref cP)=true)(xc:nsIn K mainGlobals "settle_run"=some (some (.ref iy)))(xf:K.lookup iy=some ⟨OL,Om,.func (fnOf "settle_run" "settle_run" (aD jR) (aw jR) (ag jR) .none OM ON OO Oo A8 OP),Ov⟩)(xg:codeIn K A8 "settle_run"=true)(xh:keepIn K (.ref iy)=true)(IZ:nsIn K mainGlobals "reading"=some (some (.ref nN)))(Ja:K.lookup nN=some ⟨Yb,Xc,.func (fnOf "reading" "reading" (aD qv) (aw qv) (ag qv) .none Yc Yd Ye Xd MU Yf),Xo⟩)(Jb:codeIn K MU "reading"=true)(Jc:keepIn K (.ref nN)=true)(Nu:nsIn K mainGlobals "worths"=some (some (.ref qT)))(Nv:K.lookup qT=some ⟨aaT,aas,.func (fnOf "worths" "worths" (aD uI) (aw uI) (ag uI) (.ref zZ) aaU aaV aaW aat PB aaX),aaB⟩)(Nw:codeIn K PB "worths"=true)(Nx:keepIn K (.ref qT)=true)(Ai:K.lookup zZ=some ⟨Yg,Xe,.seq #[.int 3 qU] Ym,Xp⟩)(zA:findIn K (.ref a9) "kept"=some (some (.ref dC)))(zB:K.lookup dC=some ⟨Sk,Q9,.func (fnOf "kept" "Book.kept" (aD fP) (aw fP) (ag fP) .none Sl Sm So Ra FW Sq),Rr⟩)(zC:codeIn K FW "Book.kept" = true)(tI:keepIn K (.ref dC)=true)(xi:isFn K (.ref dC)=true)(zD:nsIn K mainGlobals "_law_line_of"=some (some (.ref jD)))(zE:K.lookup jD=some ⟨Sr,Rb,.func (fnOf "_law_line_of" "_law_line_of" (aD ly) (aw ly) (ag ly) .none Ss Su Sv Rc FX Sw),Rt⟩)(zF:codeIn K FX "_law_line_of"=true)(zG:keepIn K (.ref jD)=true)(Ny:nsIn K mainGlobals "_law_base"=some (some (.ref qV)))(Nz:K.lookup qV=some ⟨aaY,aau,.func (fnOf "_law_base" "_law_base" (aD uJ) (aw uJ) (ag uJ) .none aaZ aa0 aa1 aav PD aa2),aaC⟩)(NA:codeIn K PD "_law_base"=true)(NB:keepIn K (.ref qV)=true)(Jd:nsIn K mainGlobals "_law_three"=some (some (.ref nP)))(Je:K.lookup nP=some ⟨Yh,Xf,.func (fnOf "_law_three" "_law_three" (aD qw) (aw qw) (ag qw) .none Yi Yj Yk Xg MV Yl),Xq⟩)(Jf:codeIn K MV "_law_three"=true)(Jg:keepIn K (.ref nP)=true)(SK:nsIn K mainGlobals "_law_run"=some (some (.ref vT)))(SM:K.lookup vT=some ⟨ada,acZ,.func (fnOf "_law_run" "_law_run" (aD zY) (aw zY) (ag zY) .none adb ade adf ac0 VC adg),ac3⟩)(SN:codeIn K VC "_law_run"=true)(SO:keepIn K (.ref vT)=true)(NC:nsIn K mainGlobals "_law_read"=some (some (.ref qW)))(ND:K.lookup qW=some ⟨aa3,aaw,.func (fnOf "_law_read" "_law_read" (aD uK) (aw uK) (ag uK) .none aa4 aa5 aa6 aax PJ aa7),aaD⟩)(NF:codeIn K PJ "_law_read"=true)(NG:keepIn K (.ref qW)=true)(zH:nsIn K mainGlobals "_law_kept_of"=some (some (.ref jE)))(zI:K.lookup jE=some ⟨Sx,Rg,.func (fnOf "_law_kept_of" "_law_kept_of" (aD lz) (aw lz) (ag lz) .none Sy Sz SA Rh FY SD),Ru⟩)(zJ:codeIn K FY "_law_kept_of"=true)(zK:keepIn K (.ref jE)=true)(ug:nsIn K mainGlobals "_law_line_full"=some (some (.ref gG)))(uh:K.lookup gG=some ⟨MW,Mt,.func (fnOf "_law_line_full" "_law_line_full" (aD cL) (aw cL) (ag cL) .none MX MY MZ Mu yU M0),Mz⟩)(ui:codeIn K yU "_law_line_full"=true)(uj:keepIn K (.ref gG)=true)(Zs:nsIn K mainGlobals "law"=some (some (.ref LI)))(adj:K.lookup LI=some ⟨ahi,ahf,.func (fnOf "law" "law" (aD AV) (aw AV) (ag AV) .none ahj ahk ahl ahg adh ahm),ahh⟩)(adk:codeIn K adh "law"=true)(adl:keepIn K (.ref LI)=true)(adm:nsIn K mainGlobals "all"=some none)(adn:nsIn K mainGlobals "any"=some none)(Yz:nsIn K mainGlobals "bool"=some none)(zL:nsIn K mainGlobals "enumerate"=some none)(ado:nsIn K mainGlobals "int"=some none)(xj:nsIn K mainGlobals "isinstance"=some none)(adp:nsIn K mainGlobals "len"=some none)(YA:nsIn K mainGlobals "list"=some none)(adq:nsIn K mainGlobals "max"=some none)(ads:nsIn K mainGlobals "min"=some none)(SQ:nsIn K mainGlobals "range"=some none)(adt:nsIn K mainGlobals "zip"=some none)(rN:nsIn K mainGlobals "GREAT_KINDS"=some (some (.ref eL)))(rO:K.lookup eL=some ⟨.type "tuple",Mv,.seq #[.str (Str.ofString "G") M4,.str (Str.ofString "D") M5,.str (Str.ofString "R") M7] OQ,MA⟩)(rP:nsIn K mainGlobals "SMALL_KINDS"=some (some (.ref gH)))(rQ:K.lookup gH=some ⟨.type "tuple",Mw,.seq #[.str (Str.ofString "s") M8,.str (Str.ofString "d") M9,.str (Str.ofString "r") Na] OR,MB⟩)(ou:nsIn K mainGlobals "PARTING_KINDS"=some (some (.ref d7)))(ow:K.lookup d7=some ⟨.type "tuple",Hm,.seq #[.str (Str.ofString ".") HK,.str (Str.ofString "3") HL,.str (Str.ofString "2") HM] KQ,Hs⟩)(ox:nsIn K mainGlobals "MEASURE_KINDS"=some (some (.ref cY)))(oy:K.lookup cY=some ⟨.type "tuple",Hn,.seq #[.str (Str.ofString "3") HN,.str (Str.ofString "2") HP] KR,Ht⟩)(mS:nsIn K mainGlobals "SOUNDING_KINDS"=some (some (.ref dq)))(mT:K.lookup dq=some ⟨.type "tuple",Fi,.seq #[.str (Str.ofString "G") FZ,.str (Str.ofString "D") F5,.str (Str.ofString "s") Ga,.str (Str.ofString "d") Gb] Iq,Fo⟩)(pJ:nsIn K mainGlobals "SILENT_KINDS"=some (some (.ref eV)))(pK:K.lookup eV=some ⟨.type "tuple",Kq,.seq #[.str (Str.ofString "R") KJ,.str (Str.ofString "r") KL,.str (Str.ofString ".") KN,.str (Str.ofString "3") KO,.str (Str.ofString "2") KP] Nb,Kt⟩)(pL:nsIn K mainGlobals "HIGHEST_TONE"=some (some (.int 99 lT)))(pM:nsIn K mainGlobals "TURNED_KINDS"=some (some (.ref dD)))(pN:K.lookup dD=some ⟨.type "dict",none,.dict #[⟨PyData.keyHash w.params (Str.ofString "3"),.str (Str.ofString "3") HS,.str (Str.ofString "2") HQ⟩,⟨PyData.keyHash w.params (Str.ofString "2"),.str (Str.ofString "2") HU,.str (Str.ofString "3") HR⟩] Nc,#[]⟩)(pO:(dD==sysModules)=false)(pP:nsIn K mainGlobals "PLAIN_WORTHS"=some (some (.ref dE)))(pQ:K.lookup dE=some ⟨.type "dict",none,.dict #[⟨PyData.keyHash w.params (Str.ofString "G"),.str (Str.ofString "G") Ig,.int 3 HV⟩,⟨PyData.keyHash w.params (Str.ofString "D"),.str (Str.ofString "D") Ih,.int 2 HW⟩,⟨PyData.keyHash w.params (Str.ofString "R"),.str (Str.ofString "R") Ii,.int 3 HX⟩,⟨PyData.keyHash w.params (Str.ofString "s"),.str (Str.ofString "s") Ij,.int 1 HY⟩,⟨PyData.keyHash w.params (Str.ofString "d"),.str (Str.ofString "d") Ik,.int 1 HZ⟩,⟨PyData.keyHash w.params (Str.ofString "r"),.str (Str.ofString "r") Il,.int 1 Ia⟩,⟨PyData.keyHash w.params (Str.ofString "."),.str (Str.ofString ".") Im,.int 0 Ib⟩,⟨PyData.keyHash w.params (Str.ofString "3"),.str (Str.ofString "3") Io,.int 0 Ic⟩,⟨PyData.keyHash w.params (Str.ofString "2"),.str (Str.ofString "2") Ip,.int 0 Ie⟩] Nd,#[]⟩)(pR:(dE==sysModules)=false)(mU:nsIn K mainGlobals "TWOFOLD_WORTHS"=some (some (.ref cg)))(mV:K.lookup cg=some ⟨.type "dict",none,.dict #[⟨PyData.keyHash w.params (Str.ofString "G"),.str (Str.ofString "G") CI,.int 2 CG⟩,⟨PyData.keyHash w.params (Str.ofString "R"),.str (Str.ofString "R") CJ,.int 2 CH⟩] Ir,#[]⟩)(mW:(cg==sysModules)=false)(uk:nsIn K mainGlobals "FULL_WORTH"=some (some (.int 3 qd)))(lg:nsIn K mainGlobals "SHORTENED_WORTH"=some (some (.int 2 ji)))(oz:nsIn K mainGlobals "DOUBLED_WORTH"=some (some (.int 2 kC)))(pS:nsIn K mainGlobals "DOTTED_WORTH"=some (some (.int 3 lU)))(Df:nsIn K mainGlobals "LETTERS"=some (some (.str (Str.ofString "abcdefghijklmnopqrstuvwxyz") Aa)))(pT:nsIn K mainGlobals "LONGEST_NAME"=some (some (.int 8 lV)))(rR:nsIn K mainGlobals "MOST_VOICES"=some (some (.int 12 oE)))(um:nsIn K mainGlobals "MOST_SIGNS"=some (some (.int 200 qe)))(Jh:nsIn K mainGlobals "LATEST"=some (some (.int 999 Ek)))(Dg:nsIn K mainGlobals "SLOWEST"=some (some (.int 9 Ab)))(Ji:makesIn K du=true)(Jj:keepIn K (.ref du)=true)(NH:plainGet K du Str.empty=true)(NI:hasDictIn K du=true)(NJ:plainOver K du=true)(NK:findIn K (.ref du) "__setattr__"=some (some (.builtin "object.__setattr__")))(gI:findIn K (.ref du) "name"=some none)(cQ:findIn K (.ref du) "terms"=some none)(cC:findIn K (.ref du) "signs"=some none)(NL:makesIn K bx=true)(NM:keepIn K (.ref bx)=true)(SR:plainGet K bx Str.empty=true)(SU:hasDictIn K bx=true)(SV:plainOver K bx=true)(SW:findIn K (.ref bx) "__setattr__"=some (some (.builtin "object.__setattr__")))(eX:findIn K (.ref bx) "things"=some none)(iF:findIn K (.ref bx) "at"=some none)(eY:findIn K (.ref bx) "before"=some none)(gJ:findIn K (.ref bx) "after"=some none)(NN:makesIn K a9=true)(NO:keepIn K (.ref a9)=true)(SX:plainGet K a9 Str.empty=true)(SY:hasDictIn K a9=true)(S0:plainOver K a9=true)(Ta:findIn K (.ref a9) "__setattr__"=some (some (.builtin "object.__setattr__")))(bN:findIn K (.ref a9) "voices"=some none)(eG:findIn K (.ref a9) "done"=some none)(cR:findIn K (.ref a9) "undone"=some none)(Dh:nsIn K mainGlobals "NoVoice"=some (some (.ref aU)))(Jk:nsIn K mainGlobals "Leaned"=some (some (.ref bq)))(Di:nsIn K mainGlobals "NoPlace"=some (some (.ref aV)))(Dj:nsIn K mainGlobals "BadSign"=some (some (.ref aW)))(zM:nsIn K mainGlobals "NotPlain"=some (some (.ref aQ)))(Tb:nsIn K mainGlobals "Full"=some (some (.ref cm)))(Jl:nsIn K mainGlobals "NoMore"=some (some (.ref br)))(Dk:nsIn K mainGlobals "BadName"=some (some (.ref aX)))(xk:nsIn K mainGlobals "NameTaken"=some (some (.ref aI)))(Dl:nsIn K mainGlobals "BadTerm"=some (some (.ref aY)))(Dm:excIn K aU uz "ValueError.__new__" = true)(Dn:findIn K (.ref aU) "__getattribute__"=some (some (.builtin "BaseException.__getattribute__")))(Dp:findIn K (.ref aU) "__getattr__"=some none)(Dq:findIn K (.ref aU) "__class__"=some (some (.builtin "object.__class__")))(Jm:excIn K bq uz "ValueError.__new__" = true)(Jn:findIn K (.ref bq) "__getattribute__"=some (some (.builtin "BaseException.__getattribute__")))(Jo:findIn K (.ref bq) "__getattr__"=some none)(Jp:findIn K (.ref bq) "__class__"=some (some (.builtin "object.__class__")))(Dr:excIn K aV uz "ValueError.__new__" = true)(Ds:findIn K (.ref aV) "__getattribute__"=some (some (.builtin "BaseException.__getattribute__")))(Dt:findIn K (.ref aV) "__getattr__"=some none)(Du:findIn K (.ref aV) "__class__"=some (some (.builtin "object.__class__")))(Dv:excIn K aW uz "ValueError.__new__" = true)(Dw:findIn K (.ref aW) "__getattribute__"=some (some (.builtin "BaseException.__getattribute__")))(Dx:findIn K (.ref aW) "__getattr__"=some none)(Dy:findIn K (.ref aW) "__class__"=some (some (.builtin "object.__class__")))(zN:excIn K aQ uz "ValueError.__new__" = true)(zO:findIn K (.ref aQ) "__getattribute__"=some (some (.builtin "BaseException.__getattribute__")))(zP:findIn K (.ref aQ) "__getattr__"=some none)(zQ:findIn K (.ref aQ) "__class__"=some (some (.builtin "object.__class__")))(Tc:excIn K cm uz "ValueError.__new__" = true)(Td:findIn K (.ref cm) "__getattribute__"=some (some (.builtin "BaseException.__getattribute__")))(Te:findIn K (.ref cm) "__getattr__"=some none)(Tf:findIn K (.ref cm) "__class__"=some (some (.builtin "object.__class__")))(Jq:excIn K br uz "ValueError.__new__" = true)(Jr:findIn K (.ref br) "__getattribute__"=some (some (.builtin "BaseException.__getattribute__")))(Js:findIn K (.ref br) "__getattr__"=some none)(Jt:findIn K (.ref br) "__class__"=some (some (.builtin "object.__class__")))(Dz:excIn K aX uz "ValueError.__new__" = true)(DA:findIn K (.ref aX) "__getattribute__"=some (some (.builtin "BaseException.__getattribute__")))(DB:findIn K (.ref aX) "__getattr__"=some none)(DC:findIn K (.ref aX) "__class__"=some (some (.builtin "object.__class__")))(xm:excIn K aI uz "ValueError.__new__" = true)(xn:findIn K (.ref aI) "__getattribute__"=some (some (.builtin "BaseException.__getattribute__")))(xo:findIn K (.ref aI) "__getattr__"=some none)(xp:findIn K (.ref aI) "__class__"=some (some (.builtin "object.__class__")))(DD:excIn K aY uz "ValueError.__new__" = true)(DE:findIn K (.ref aY) "__getattribute__"=some (some (.builtin "BaseException.__getattribute__")))(DF:findIn K (.ref aY) "__getattr__"=some none)(DG:findIn K (.ref aY) "__class__"=some (some (.builtin "object.__class__")))(eZ:exmOne K (.ref aU) (.ref aX)=some false)(dG:exmOne K (.ref aU) (.ref aI)=some false)(iL:exmOne K (.ref aU) (.ref cm)=some false)(e7:exmOne K (.ref aU) (.ref aU)=some true)(gb:exmOne K (.ref bq) (.ref aX)=some false)(eh:exmOne K (.ref bq) (.ref aI)=some false)(jH:exmOne K (.ref bq) (.ref cm)=some false)(gf:exmOne K (.ref bq) (.ref aU)=some false)(e8:exmOne K (.ref bq) (.ref aQ)=some false)(gh:exmOne K (.ref bq) (.ref aV)=some false)(gi:exmOne K (.ref bq) (.ref aW)=some false)(gj:exmOne K (.ref bq) (.ref aY)=some false)(g4:exmOne K (.ref bq) (.ref bq)=some true)(e9:exmOne K (.ref aV) (.ref aX)=some false)(dH:exmOne K (.ref aV) (.ref aI)=some false)(iN:exmOne K (.ref aV) (.ref cm)=some false)(fb:exmOne K (.ref aV) (.ref aU)=some false)(en:exmOne K (.ref aV) (.ref aQ)=some false)(fc:exmOne K (.ref aV) (.ref aV)=some true)(ff:exmOne K (.ref aW) (.ref aX)=some false)(dJ:exmOne K (.ref aW) (.ref aI)=some false)(iO:exmOne K (.ref aW) (.ref cm)=some false)(fg:exmOne K (.ref aW) (.ref aU)=some false)(eo:exmOne K (.ref aW) (.ref aQ)=some false)(fh:exmOne K (.ref aW) (.ref aV)=some false)(fi:exmOne K (.ref aW) (.ref aW)=some true)(eA:exmOne K (.ref aQ) (.ref aX)=some false)(c9:exmOne K (.ref aQ) (.ref aI)=some false)(g6:exmOne K (.ref aQ) (.ref cm)=some false)(eB:exmOne K (.ref aQ) (.ref aU)=some false)(dM:exmOne K (.ref aQ) (.ref aQ)=some true)(iP:exmOne K (.ref cm) (.ref aX)=some false)(gm:exmOne K (.ref cm) (.ref aI)=some false)(mf:exmOne K (.ref cm) (.ref cm)=some true)(gn:exmOne K (.ref br) (.ref aX)=some false)(eC:exmOne K (.ref br) (.ref aI)=some false)(jI:exmOne K (.ref br) (.ref cm)=some false)(gp:exmOne K (.ref br) (.ref aU)=some false)(fk:exmOne K (.ref br) (.ref aQ)=some false)(gq:exmOne K (.ref br) (.ref aV)=some false)(gs:exmOne K (.ref br) (.ref aW)=some false)(gu:exmOne K (.ref br) (.ref aY)=some false)(hG:exmOne K (.ref br) (.ref bq)=some false)(hI:exmOne K (.ref br) (.ref br)=some true)(fq:exmOne K (.ref aX) (.ref aX)=some true)(dN:exmOne K (.ref aI) (.ref aX)=some false)(cS:exmOne K (.ref aI) (.ref aI)=some true)(fu:exmOne K (.ref aY) (.ref aX)=some false)(dO:exmOne K (.ref aY) (.ref aI)=some false)(iQ:exmOne K (.ref aY) (.ref cm)=some false)(fz:exmOne K (.ref aY) (.ref aU)=some false)(eD:exmOne K (.ref aY) (.ref aQ)=some false)(fA:exmOne K (.ref aY) (.ref aV)=some false)(fB:exmOne K (.ref aY) (.ref aW)=some false)(fD:exmOne K (.ref aY) (.ref aY)=some true) :
  ∃ fd:FuncData,(∀(s:Shared)(v:Value),BindsTo s fd ⟨[v],[]⟩ [("_law_script",v)])/\∀ base:Heap,K.In base->base.Ns mainGlobals mg->bK l.prog w K mg base oI 9 fa fd ["_law_script"] (Ll K):=by
 have e:=hfa.symm.trans (mg_of X G Zs);cases e;have kD:=a8 (st:=fG) ph pj pk;have o5:=kD.binds (ps:=["self"]) fun _ _ _ _ _ _=>rq fun _=>rfl;have gN:=a8 (st:=ck) kd ke gQ;have cq:=gN.binds (ps:=["self","name"]) fun _ _ _ _ _ _=>iS fun _ _=>rfl;have Ac:=a8 (st:=qo) Iv Iw Ah;have Ad:=Ac.binds (ps:=["self"]) fun _ _ _ _ _ _=>rq fun _=>rfl;have lW:=a8 (st:=gU) rF rG mx;have eW:=lW.binds (ps:=["self","deed"]) fun _ _ _ _ _ _=>iS fun _ _=>rfl;have kE:=a8 (st:=fH) pB pC pE;have d8:=kE.binds (ps:=["self","things","at","before","after"]) fun _ _ _ _ _ _=>ajr fun _ _ _ _ _=>rfl;have qf:=a8 (st:=jP) wI wJ qh;have iA:=qf.binds (ps:=["self"]) fun _ _ _ _ _ _=>rq fun _=>rfl;have su:=a8 (st:=ib) yW yX tq;have sv:=su.binds (ps:=["self","name"]) fun _ _ _ _ _ _=>iS fun _ _=>rfl;have kR:=a8 (st:=nr) CN CO CP;have qX:=kR.binds (ps:=["_law_line","_law_deed","_law_at"]) fun _ _ _ _ _ _=>JW fun _ _ _=>rfl;have oQ:=a8 (st:=lr) yZ y8 y9;have yo:=oQ.binds (ps:=["_law_number"]) fun _ _ _ _ _ _=>rq fun _=>rfl;have bR:=a8 (st:=bP) i7 i8 i9;have c7:=bR.binds (ps:=["at","last"]) fun _ _ _ _ _ _=>iS fun _ _=>rfl;have LK:=a8 (st:=Gq) Yo Yp Yq;have Ws:=LK.binds (ps:=["sign"]) fun _ _ _ _ _ _=>rq fun _=>rfl;have dW:=a8 (st:=cN) mz mB mC;have jj:=dW.binds (ps:=["sign"]) fun _ _ _ _ _ _=>rq fun _=>rfl;have Ae:=a8 (st:=zX) SI SJ EG;have K5:=Ae.binds (ps:=["sign"]) fun _ _ _ _ _ _=>rq fun _=>rfl;have uM:=a8 (st:=qp) Iz IA IB;have GN:=uM.binds (ps:=["line","at"]) fun _ _ _ _ _ _=>iS fun _ _=>rfl;have qZ:=a8 (st:=nt) CS CU CW;have BG:=qZ.binds (ps:=["line","first","kinds"]) fun _ _ _ _ _ _=>JW fun _ _ _=>rfl;have gX:=a8 (st:=gW) rJ rK rL;have lX:=gX.binds (ps:=["sign"]) fun _ _ _ _ _ _=>rq fun _=>rfl;have q0:=a8 (st:=uF) Nh Ni Nj;have yp:=q0.binds (ps:=["line","at","behind","changed"]) fun _ _ _ _ _ _=>JX fun _ _ _ _=>rfl;have iC:=a8 (st:=b5) kX kY iH;have dr:=iC.binds (ps:=["self","name"]) fun _ _ _ _ _ _=>iS fun _ _=>rfl;have vU:=a8 (st:=gD) CZ C0 wL;have q8:=vU.binds (ps:=["self","name","at","sign"]) fun _ _ _ _ _ _=>JX fun _ _ _ _=>rfl;have qg:=a8 (st:=iu) wO wQ qi;have lY:=qg.binds (ps:=["self","name"]) fun _ _ _ _ _ _=>iS fun _ _=>rfl;have uN:=a8 (st:=uG) Nl Nm Nn;have Em:=uN.binds (ps:=["line"]) fun _ _ _ _ _ _=>rq fun _=>rfl;have oR:=a8 (st:=dz) zc zd tw;have fV:=oR.binds (ps:=["self","name"]) fun _ _ _ _ _ _=>iS fun _ _=>rfl;have sx:=a8 (st:=lu) zf zg tD;have yr:=sx.binds (ps:=["self"]) fun _ _ _ _ _ _=>rq fun _=>rfl;have sy:=a8 (st:=jy) zi zj tE;have sA:=sy.binds (ps:=["self"]) fun _ _ _ _ _ _=>rq fun _=>rfl;have sC:=a8 (st:=jz) zm zo tF;have sE:=sC.binds (ps:=["self"]) fun _ _ _ _ _ _=>rq fun _=>rfl;have uO:=a8 (st:=qq) ID IE IF;have GP:=uO.binds (ps:=["name"]) fun _ _ _ _ _ _=>rq fun _=>rfl;have jk:=a8 (st:=bU) mE mF jo;have jm:=jk.binds (ps:=["self","name"]) fun _ _ _ _ _ _=>iS fun _ _=>rfl;have oF:=a8 (st:=iT) ua ub oH;have oG:=oF.binds (ps:=["self","voice"]) fun _ _ _ _ _ _=>iS fun _ _=>rfl;have jU:=a8 (st:=eN) nY nZ n5;have jV:=jU.binds (ps:=["self","name","terms"]) fun _ _ _ _ _ _=>JW fun _ _ _=>rfl;have gY:=KY (st:=cb) oa og j2;have jW:Binds K _ ["self","name","leader","later","slow","is_turned"] []:=gY.binds (ds:=[]) jq rfl fun _ _ _ _ _ _ us hl=>by obtain⟨_,_,_,_,_,_,rfl⟩:=ajt hl;exact⟨_,rfl,rfl⟩
 have lZ:Binds K _ ["self","name","leader","later","slow","is_turned"] [.int 0 eS,.int 1 eU,.bool false]:=gY.binds jq rfl fun _ _ _ _ _ _ us hl=>by have hl:us.length=3:=(by simpa using hl);obtain⟨_,_,_,rfl⟩:=afM hl;exact⟨_,rfl,rfl⟩
 have vV:=a8 (st:=jA) C4 C5 wX;have BH:=vV.binds (ps:=["self","name","at"]) fun _ _ _ _ _ _=>JW fun _ _ _=>rfl;have sF:=a8 (st:=fO) zr zt tG;have yu:=sF.binds (ps:=["self","name","at","sign"]) fun _ _ _ _ _ _=>JX fun _ _ _ _=>rfl;have jX:=a8 (st:=dj) oi oj j3;have jY:=jX.binds (ps:=["self","name"]) fun _ _ _ _ _ _=>iS fun _ _=>rfl;have GQ:=a8 (st:=kL) Ys Yt Yu;have Qt:=GQ.binds (ps:=["_law_book","_law_deed","_law_at"]) fun _ _ _ _ _ _=>JW fun _ _ _=>rfl;have eP:=a8 (st:=nu) IH II IJ;have gZ:=eP.binds (ps:=["_law_book","_law_deed","_law_at"]) fun _ _ _ _ _ _=>JW fun _ _ _=>rfl;have l9:=a8 (st:=jQ) w4 w5 xa;have vW:=l9.binds (ps:=["_law_book","_law_name","_law_line"]) fun _ _ _ _ _ _=>JW fun _ _ _=>rfl;have qy:=a8 (st:=qr) IL IM IP;have Af:=qy.binds (ps:=["_law_seed","_law_k"]) fun _ _ _ _ _ _=>iS fun _ _=>rfl;have uP:=a8 (st:=qt) IS IT IU;have GR:=uP.binds (ps:=["_law_found"]) fun _ _ _ _ _ _=>rq fun _=>rfl;have uQ:=a8 (st:=uH) Nq Nr Nt;have Ep:=uQ.binds (ps:=["_law_found","_law_due"]) fun _ _ _ _ _ _=>iS fun _ _=>rfl;have eM:=a8 (st:=lx) zw zx zy;have ie:=eM.binds (ps:=["_law_script","_law_k"]) fun _ _ _ _ _ _=>iS fun _ _=>rfl;have kU:=KY (st:=nC) C8 C9 Dc;have vX:Binds K _ ["line","begin"] []:=kU.binds (ds:=[]) tH rfl fun _ _ _ _ _ _ us hl=>by obtain⟨_,_,rfl⟩:=acV hl;exact⟨_,rfl,rfl⟩
 have JJ:Binds K _ ["line","begin"] [.int 3 lQ]:=kU.binds tH rfl fun _ _ _ _ _ _ us hl=>by have hl:us.length=1:=(by simpa using hl);obtain⟨_,rfl⟩:=Zo hl;exact⟨_,rfl,rfl⟩
 have fJ:=a8 (st:=qu) IW IX IY;have iV:=fJ.binds (ps:=["line","at"]) fun _ _ _ _ _ _=>iS fun _ _=>rfl;have kq:=a8 (st:=iU) ud ue uf;have tW:=kq.binds (ps:=["kind","measure"]) fun _ _ _ _ _ _=>iS fun _ _=>rfl;have c8:=a8 (st:=cA) jb jc jd;have i5:=c8.binds (ps:=["line","begin"]) fun _ _ _ _ _ _=>iS fun _ _=>rfl;have GS:=KY (st:=Gs) Yw Yx Yy;have Ww:Binds K _ ["line","begin"] []:=GS.binds (ds:=[]) K7 rfl fun _ _ _ _ _ _ us hl=>by obtain⟨_,_,rfl⟩:=acV hl;exact⟨_,rfl,rfl⟩
 have Zb:Binds K _ ["line","begin"] [.int 3 yi]:=GS.binds K7 rfl fun _ _ _ _ _ _ us hl=>by have hl:us.length=1:=(by simpa using hl);obtain⟨_,rfl⟩:=Zo hl;exact⟨_,rfl,rfl⟩
 have fK:=a8 (st:=fI) pG pH pI;have kF:=fK.binds (ps:=["line","found","first"]) fun _ _ _ _ _ _=>JW fun _ _ _=>rfl;have eQ:=a8 (st:=eO) oo oq ot;have j0:=eQ.binds (ps:=["line","behind"]) fun _ _ _ _ _ _=>iS fun _ _=>rfl;have fW:=a8 (st:=dS) mK mL mM;have ma:=fW.binds (ps:=["line","found","first","behind"]) fun _ _ _ _ _ _=>JX fun _ _ _ _=>rfl;have fX:=a8 (st:=dU) mP mQ mR;have md:=fX.binds (ps:=["line","found","first","behind"]) fun _ _ _ _ _ _=>JX fun _ _ _ _=>rfl;have me:=a8 (st:=jR) xf xg xh;have vZ:=me.binds (ps:=["line","found","first","behind"]) fun _ _ _ _ _ _=>JX fun _ _ _ _=>rfl;have uS:=a8 (st:=qv) Ja Jb Jc;have GU:=uS.binds (ps:=["line","begin"]) fun _ _ _ _ _ _=>iS fun _ _=>rfl;have rb:=KY (st:=uI) Nv Nw Nx;have Er:Binds K _ ["line","begin"] []:=rb.binds (ds:=[]) Ai rfl fun _ _ _ _ _ _ us hl=>by obtain⟨_,_,rfl⟩:=acV hl;exact⟨_,rfl,rfl⟩
 have Ph:Binds K _ ["line","begin"] [.int 3 qU]:=rb.binds Ai rfl fun _ _ _ _ _ _ us hl=>by have hl:us.length=1:=(by simpa using hl);obtain⟨_,rfl⟩:=Zo hl;exact⟨_,rfl,rfl⟩
 have sI:=a8 (st:=fP) zB zC tI;have sJ:=sI.binds (ps:=["self","name"]) fun _ _ _ _ _ _=>iS fun _ _=>rfl;have lE:=a8 (st:=ly) zE zF zG;have sL:=lE.binds (ps:=["_law_voices","_law_name"]) fun _ _ _ _ _ _=>iS fun _ _=>rfl;have yv:=a8 (st:=uJ) Nz NA NB;have LN:=yv.binds (ps:=["_law_line","_law_begin"]) fun _ _ _ _ _ _=>iS fun _ _=>rfl;have uT:=a8 (st:=qw) Je Jf Jg;have GW:=uT.binds (ps:=["_law_line","_law_begin"]) fun _ _ _ _ _ _=>iS fun _ _=>rfl;have Eu:=a8 (st:=zY) SM SN SO;have Qu:=Eu.binds (ps:=["_law_line","_law_told","_law_low","_law_high"]) fun _ _ _ _ _ _=>JX fun _ _ _ _=>rfl;have rf:=a8 (st:=uK) ND NF NG;have yw:=rf.binds (ps:=["_law_line","_law_begin"]) fun _ _ _ _ _ _=>iS fun _ _=>rfl;have oS:=a8 (st:=lz) zI zJ zK;have yx:=oS.binds (ps:=["_law_voices","_law_name"]) fun _ _ _ _ _ _=>iS fun _ _=>rfl;have kr:=a8 (st:=cL) uh ui uj;have tX:=kr.binds (ps:=["_law_script","_law_book","_law_name","_law_canons"]) fun _ _ _ _ _ _=>JX fun _ _ _ _=>rfl;have Zc:=a8 (st:=AV) adj adk adl;have afB:=Zc.binds (ps:=["_law_script"]) fun _ _ _ _ _ _=>rq fun _=>rfl;have T:Txt K w mg ⟨_,_,_,_,_,_,_,_,_,_,_,_,_,_,_,_,_,_,_,_,_,_,_,_,_,_,_,_,_,_,_,_,_,_,_,_,_,_,_,_,_,_,_,_,_,_,_,_,_,_,_,_,_,_,_,_,_,_,_,_,_,eS,eU,_,_,_,_,_,_,_,_,_,_,_,_,_,_,_,_,_,_,_,_,_,_,_,lQ,_,_,_,_,_,_,_,_,_,yi,_,_,_,_,_,_,_,_,_,_,_,_,_,_,_,qU,_,_,_,_,_,_,_,_,_,_,_,_,_,_,_,_,_,_,eL,gH,d7,cY,dq,eV,lT,dD,dE,cg,qd,ji,kC,lU,Aa,lV,oE,qe,Ek,Ab,du,bx,a9,aU,bq,aV,aW,aQ,cm,br,aX,aI,aY⟩:=⟨kD,o5,gN,cq,⟨kc,jK,gQ⟩,Ac,Ad,⟨Iu,CL,Ah⟩,lW,eW,⟨rE,pq,mx⟩,kE,d8,qf,iA,⟨wH,t4,qh⟩,su,sv,⟨yV,wK,tq⟩,kR,qX,mg_of X G CM,oQ,yo,mg_of X G yY,bR,c7,mg_of X G i6,LK,Ws,mg_of X G Yn,dW,jj,mg_of X G my,Ae,K5,mg_of X G SH,uM,GN,mg_of X G Iy,qZ,BG,mg_of X G CQ,gX,lX,mg_of X G rH,q0,yp,mg_of X G Ng,iC,dr,⟨kW,kf,iH⟩,vU,q8,⟨CY,za,wL⟩,qg,lY,⟨wN,t5,qi⟩,uN,Em,mg_of X G Nk,oR,fV,⟨zb,wR,tw⟩,sx,yr,⟨ze,wU,tD⟩,sy,sA,⟨zh,wV,tE⟩,sC,sE,⟨zk,wW,tF⟩,uO,GP,mg_of X G IC,jk,jm,⟨mD,kZ,jo⟩,oF,oG,⟨t7,rM,oH⟩,jU,jV,gY,lZ,jW,⟨n9,mH,j2⟩,vV,BH,⟨C2,zp,wX⟩,sF,yu,⟨zq,wY,tG⟩,jX,jY,⟨oh,mI,j3⟩,GQ,Qt,mg_of X G Yr,eP,gZ,mg_of X G IG,l9,vW,mg_of X G wZ,qy,Af,mg_of X G IK,uP,GR,mg_of X G IQ,uQ,Ep,mg_of X G Np,eM,ie,mg_of X G zu,kU,JJ,vX,mg_of X G C7,fJ,iV,mg_of X G IV,kq,tW,mg_of X G uc,c8,i5,mg_of X G ja,GS,Zb,Ww,mg_of X G Yv,fK,kF,mg_of X G pF,eQ,j0,mg_of X G om,fW,ma,mg_of X G mJ,fX,md,mg_of X G mO,me,vZ,mg_of X G xc,uS,GU,mg_of X G IZ,rb,Ph,Er,mg_of X G Nu,sI,sJ,⟨zA,xi,tI⟩,lE,sL,mg_of X G zD,yv,LN,mg_of X G Ny,uT,GW,mg_of X G Jd,Eu,Qu,mg_of X G SK,rf,yw,mg_of X G NC,oS,yx,mg_of X G zH,kr,tX,mg_of X G ug,Zc,afB,mg_of X G Zs,mg_none_of X G adm,mg_none_of X G adn,mg_none_of X G Yz,mg_none_of X G zL,mg_none_of X G ado,mg_none_of X G xj,mg_none_of X G adp,mg_none_of X G YA,mg_none_of X G adq,mg_none_of X G ads,mg_none_of X G SQ,mg_none_of X G adt,mg_of X G rN,(fun H=>.inr ⟨_,_,_,rO,rfl,rfl,(by show 3<=sizeLine;decide),(.cons ⟨_,rfl⟩ (.cons ⟨_,rfl⟩ (.cons ⟨_,rfl⟩ .nil)))⟩),mg_of X G rP,(fun H=>.inr ⟨_,_,_,rQ,rfl,rfl,(by show 3<=sizeLine;decide),(.cons ⟨_,rfl⟩ (.cons ⟨_,rfl⟩ (.cons ⟨_,rfl⟩ .nil)))⟩),mg_of X G ou,(fun H=>.inr ⟨_,_,_,ow,rfl,rfl,(by show 3<=sizeLine;decide),(.cons ⟨_,rfl⟩ (.cons ⟨_,rfl⟩ (.cons ⟨_,rfl⟩ .nil)))⟩),mg_of X G ox,(fun H=>.inr ⟨_,_,_,oy,rfl,rfl,(by show 2<=sizeLine;decide),(.cons ⟨_,rfl⟩ (.cons ⟨_,rfl⟩ .nil))⟩),mg_of X G mS,(fun H=>.inr ⟨_,_,_,mT,rfl,rfl,(by show 4<=sizeLine;decide),(.cons ⟨_,rfl⟩ (.cons ⟨_,rfl⟩ (.cons ⟨_,rfl⟩ (.cons ⟨_,rfl⟩ .nil))))⟩),mg_of X G pJ,(fun H=>.inr ⟨_,_,_,pK,rfl,rfl,(by show 5<=sizeLine;decide),(.cons ⟨_,rfl⟩ (.cons ⟨_,rfl⟩ (.cons ⟨_,rfl⟩ (.cons ⟨_,rfl⟩ (.cons ⟨_,rfl⟩ .nil)))))⟩),mg_of X G pL,mg_of X G pM,⟨pO,_,_,pN,(.cons ⟨_,rfl⟩ (.cons ⟨_,rfl⟩ .nil)),by lk⟩,mg_of X G pP,⟨pR,_,_,pQ,(.cons ⟨_,rfl⟩ (.cons ⟨_,rfl⟩ (.cons ⟨_,rfl⟩ (.cons ⟨_,rfl⟩ (.cons ⟨_,rfl⟩ (.cons ⟨_,rfl⟩ (.cons ⟨_,rfl⟩ (.cons ⟨_,rfl⟩ (.cons ⟨_,rfl⟩ .nil))))))))),by lk⟩,mg_of X G mU,⟨mW,_,_,mV,(.cons ⟨_,rfl⟩ (.cons ⟨_,rfl⟩ .nil)),by lk⟩,mg_of X G uk,mg_of X G lg,mg_of X G oz,mg_of X G pS,mg_of X G Df,mg_of X G pT,mg_of X G rR,mg_of X G um,mg_of X G Jh,mg_of X G Dg,mg_of X G Nf,⟨Ji,nX,mG,Jj⟩,⟨NH,NI,NJ,NK⟩,gI,cQ,cC,mg_of X G SF,⟨NL,pA,nW,NM⟩,⟨SR,SU,SV,SW⟩,eX,iF,eY,gJ,mg_of X G SG,⟨NN,pb,nV,NO⟩,⟨SX,SY,S0,Ta⟩,bN,eG,cR,mg_of X G Dh,mg_of X G Jk,mg_of X G Di,mg_of X G Dj,mg_of X G zM,mg_of X G Tb,mg_of X G Jl,mg_of X G Dk,mg_of X G xk,mg_of X G Dl,⟨Dm,Dn,Dp,Dq⟩,⟨Jm,Jn,Jo,Jp⟩,⟨Dr,Ds,Dt,Du⟩,⟨Dv,Dw,Dx,Dy⟩,⟨zN,zO,zP,zQ⟩,⟨Tc,Td,Te,Tf⟩,⟨Jq,Jr,Js,Jt⟩,⟨Dz,DA,DB,DC⟩,⟨xm,xn,xo,xp⟩,⟨DD,DE,DF,DG⟩,eZ,dG,iL,e7,gb,eh,jH,gf,e8,gh,gi,gj,g4,e9,dH,iN,fb,en,fc,ff,dJ,iO,fg,eo,fh,fi,eA,c9,g6,eB,dM,iP,gm,mf,gn,eC,jI,gp,fk,gq,gs,gu,hG,hI,fq,dN,cS,fu,dO,iQ,fz,eD,fA,fB,fD⟩;exact⟨_,fun s v=>.of_eq rfl,fun base _ _=>ahe T⟩
theorem walk {l:OpenLaw}{q:Program}{loose:List Str}{XP:(Str->Option Value)->Heap->Prop}{YP:World->Heap->Prop}{d:DefRec}{K:Params->Frag}(hn:l.most=some 63)(hdf:d.params.defaults=[])
  (hY:∀(w:World)(h:Heap),YP w h->(K w.params).In h)
  (F:∀(w:World)(mg:Str->Option Value)(fa:Addr)(h:Heap),(K w.params).In h->h.Ns mainGlobals mg->mg d.name=some (.ref fa) ->
   ∃ fd:FuncData,(∀(s:Shared)(u:Value),BindsTo s fd ⟨[u],[]⟩ [("_law_script",u)])/\∀ base:Heap,(K w.params).In base->base.Ns mainGlobals mg->bK l.prog w (K w.params) mg base oI 9 fa fd ["_law_script"] (Ll (K w.params))) :
  WalkO q loose XP YP l.row.toRowW d [] (fun f vs=>PySem.call f vs) :=
 L2.adO (n:=63) (k:=9) (x:="_law_script") (CX:=fun _=>oI) (sp:=fun w=>Ll (K w.params)) hn (by decide) hdf ⟨rfl,by decide,by decide⟩ hY F (fun _ H a ns hl hO hS=>ZW hl hO hS) fun _ _ _ _ _ z=>z
end Gj
namespace PySem.W.Fast
def tw13583251001311347089:=()
def tw1303374202685858327:=()
def tw3437271346107335023:=()
def tw9697431943197033288:=()
def tw2436694332441585971:=()
def tw1274635478724011691:=()
def tw5541974874791124008:=()
def tw17939041152493380079:=()
def tw6011783189565140518:=()
def tw1715039158852465478:=()
def tw15184982563271006335:=()
def tw9690050747757487555:=()
def tw8404916953011491357:=()
def tw16524156436800604214:=()
def tw13545143617993360648:=()
def tw18235378122052234966:=()
def tw16307341762394253664:=()
def tw17108367618524558587:=()
def tw9771565082843882889:=()
def tw17386561749552931051:=()
def tw9910774608177908169:=()
def tw5862376156407810011:=()
def tw7253868279778534245:=()
def tw17411407169940809734:=()
def tw12709824207027788574:=()
def tw17582441537353979089:=()
def tw1049051422786605180:=()
def tw8060975073925590152:=()
def tw9937664944336315040:=()
def tw8982635452951656683:=()
def tw5476382489890998079:=()
def tw12656504200024214669:=()
def tw8027015102683101148:=()
def tw10330186102470049527:=()
def tw18357265413669514743:=()
def tw1883580823599160476:=()
def tw9189365304500743621:=()
def tw17536943624663176297:=()
def tw2664513219534805098:=()
def tw1721209349322978777:=()
def tw2384317574068973241:=()
def tw5029280608987101563:=()
def tw4874765934401520171:=()
def tw12555925423596169017:=()
def tw4712465281527882319:=()
def tw18231807434447640428:=()
def tw7602108995973273546:=()
def tw5167559759488885085:=()
def tw5595588942405702969:=()
def tw16625114257600212590:=()
def tw12684669799779030430:=()
def tw7163795138382086146:=()
def tw12453834168028665939:=()
def tw12302493864913898849:=()
def tw17496380090929298756:=()
def tw11147194488871776776:=()
def tw9251504682579314135:=()
def tw16291986762349564801:=()
def tw8901977587138315533:=()
def tw12747778932912481659:=()
def tw16845826414077096459:=()
def tw5498460021512665521:=()
def tw11098967038783645107:=()
def tw16096733485221140976:=()
def tw3433405290827052587:=()
def tw2848181850243308814:=()
def tw12234217436544586729:=()
def tw1723147205530483451:=()
def tw2897498956660262057:=()
def tw14906243516373316946:=()
def tw12571753279831079030:=()
def tw7738561960818142655:=()
def tw5688209980688004703:=()
def tw6686545106335963337:=()
def tw10063733659253639687:=()
def tw8686987738422398078:=()
def tw17093103496443307684:=()
def tw17662646795664717596:=()
def tw3799957966832334587:=()
def tw1809216579887025746:=()
def tw6365572811466994290:=()
def tw13622866868844763061:=()
def tw11698127459935350308:=()
def tw12265220367626069772:=()
def tw6610568172452066119:=()
def tw16169262790930420768:=()
def tw6633542046640275712:=()
def tw16691366143326229611:=()
def tw17127003178591294571:=()
def tw3842492739220395743:=()
def tw15259307879229945867:=()
def tw15070998070201193592:=()
def tw6838566888607571873:=()
def tw5139253882041191808:=()
def tw14176091408840345539:=()
def tw11126424594746809571:=()
def tw12113496368292411963:=()
def tw1913316484648872813:=()
def tw6153029688824062114:=()
def tw9931947845608655481:=()
def tw5560616823181300943:=()
def tw304972985140265938:=()
def tw6237136741900802379:=()
def tw16045179632779438806:=()
def tw9402606349194139105:=()
def tw11888150495820246623:=()
def tw5810156370344183876:=()
def tw17618210338294404022:=()
def tw12151275073896875053:=()
def tw5652028005802923580:=()
def tw13524913032272319909:=()
def tw3740655285993813025:=()
def tw3925486448445335280:=()
def tw17982315948510216496:=()
def tw455922747093379732:=()
def tw370983397869029859:=()
def tw15211975442171629632:=()
def tw13075784007547856348:=()
def tw6553795836430429462:=()
def tw3530589693965789650:=()
def tw4964946286363977097:=()
def tw9174643716008189693:=()
def tw12810784813696169634:=()
def tw8678361386669744145:=()
def tw15834775214937374988:=()
def tw913079316388870714:=()
def tw9638863204936775255:=()
def tw1116236959198530826:=()
def tw3287453316002183931:=()
def tw3985692483992576560:=()
def tw13762488847562121262:=()
def tw1780493002871027042:=()
def tw10865750481394444373:=()
def tw10144908399778311022:=()
def tw6930483716031685110:=()
def tw2862810039369529456:=()
def tw7594350112791962427:=()
def tw16240116565275937762:=()
def tw7933172385260476568:=()
def tw7173059131566934494:=()
def tw2970435469525981178:=()
def tw16530403605751862612:=()
def tw9701888993915287827:=()
def tw5406500803739378282:=()
def tw13259693890658821332:=()
def tw5576729452960550094:=()
def tw3502384299662538504:=()
def tw12329342120233427051:=()
def tw14576295508307350583:=()
def tw2380378824698573582:=()
def tw8929028669740810804:=()
def tw16108451452516956976:=()
def tw2914617683527573665:=()
def tw10708307057351810842:=()
def tw14129513527951338755:=()
def tw2543912575752603674:=()
def tw17170015406261934877:=()
def tw17556731076075786290:=()
def tw10975587796749588036:=()
def tw16845911326604407438:=()
def tw13552983852733909312:=()
def tw3408184575054198401:=()
def tw10503598277783784904:=()
def tw2467438939560846677:=()
def tw2463975978256795042:=()
def tw14654582103275929068:=()
def tw7951010629367787217:=()
def tw17765606511257546152:=()
def tw1410474451487841436:=()
def tw15878486091039844189:=()
def tw12652419941055133194:=()
def tw2172620998189616936:=()
def tw14054181913277149266:=()
def tw13181906311945293655:=()
def tw10617490695752947248:=()
def tw15958096873318549446:=()
def tw2531762558051724774:=()
def tw17596761533125337457:=()
def tw3564360781753881079:=()
def tw11552777219579202794:=()
def tw4348943568329405237:=()
def tw13227880268761509456:=()
def tw111809086965786074:=()
def tw9865803336075841670:=()
def tw1745593759938219507:=()
def tw10196832821443766601:=()
def tw14928765789147702037:=()
def tw3764991712229439574:=()
def tw17405682622128577653:=()
def tw17819043481015854628:=()
def tw14732645153909010292:=()
def tw9120614768803123441:=()
def tw2037819388851481635:=()
def tw12809335877042119626:=()
def tw13629606706661532776:=()
def tw17975387106490802231:=()
def tw2570890900426125323:=()
def tw1109957335228227144:=()
def tw14048200844786335517:=()
def tw5528620702334490362:=()
def tw1062679176398420331:=()
def tw8810132899120224561:=()
def tw18302405171858471827:=()
def tw8687546164194813558:=()
def tw15332279397614435293:=()
def tw15099158846360065053:=()
def tw17757060289731046077:=()
def tw14912036186171621798:=()
def tw797972474519144022:=()
def tw5083032961392991528:=()
def tw3580808767955474876:=()
def tw12297514086454544194:=()
def tw2799286068789355634:=()
def tw11351848921114176712:=()
def tw10865870033855279580:=()
def tw395631157660075062:=()
def tw6963323327524110510:=()
def tw2096527750219912510:=()
def tw7162761027118853281:=()
def tw3735009000278772462:=()
def tw2663684583041127039:=()
def tw4627108418684302942:=()
def tw1482674243736718481:=()
def tw17130004487299593165:=()
def tw3151472817375464297:=()
def tw16545911371645902982:=()
def tw8076960321037916635:=()
def tw17148297405437052193:=()
def tw14938601808844435768:=()
def tw15963884472077669646:=()
def tw8098234495972835234:=()
def tw10621269089811748420:=()
def tw12731998318177386082:=()
def tw12314905621519829429:=()
def tw13754679770072949670:=()
def tw10963702475661920818:=()
def tw38197310874784697:=()
def tw15579228255346970147:=()
def tw8948794059693833358:=()
def tw18285754686428774639:=()
def tw1008049908847046832:=()
def tw10559229439151576676:=()
def tw2690948014178107414:=()
def tw16914045597103830837:=()
def tw5358979167602562424:=()
def tw7781159203871814136:=()
def tw9515234007820349476:=()
def tw1675509331121390623:=()
def tw5301099652988339443:=()
def tw17557017719220984829:=()
def tw10449375793194212966:=()
def tw4256889825611899066:=()
def tw11302457174866789685:=()
def tw12954453280262222442:=()
def tw5587854435824803186:=()
def tw15961927946430619479:=()
def tw3055032976137030952:=()
def tw3974300594858763452:=()
def tw17563895766962446774:=()
def tw2485599842221229793:=()
def tw1459357438520289261:=()
def tw1492510698939635784:=()
def tw2788800866296281498:=()
def tw17178044884118161618:=()
def tw1975709695023105556:=()
def tw8576546530236169157:=()
def tw8842756422202887429:=()
def tw16602441166340565358:=()
def tw12959153865146061548:=()
def tw174719176257405035:=()
def tw4786373605993854016:=()
def tw17384938426452673698:=()
def tw1797465331998211525:=()
def tw17855142376822899821:=()
def tw1088662053217188251:=()
def tw3530190690646725483:=()
def tw15457983883020063083:=()
def tw4305256381755051136:=()
def tw2904220465776420275:=()
def tw16606261847602968467:=()
def tw3040294130755288675:=()
def tw541751641296881700:=()
def tw5986694387601533454:=()
def tw3693889137229104262:=()
def tw1615953393306093241:=()
def tw1762596807087805106:=()
def tw18374022064359583650:=()
def tw7065937224008294078:=()
def tw10272591612196364350:=()
def tw10219565752023661012:=()
def tw7788201988777546379:=()
def tw6542591513367856782:=()
def tw11287023571597644189:=()
def tw3212318009076142800:=()
def tw4695292147043042046:=()
def tw3268693705537942229:=()
def tw6298603841632479118:=()
def tw3755705389383691974:=()
def tw1454538532923436989:=()
def tw5067702069603077803:=()
def tw4936629710896637513:=()
def tw8725866406275362054:=()
def tw998637113560351147:=()
def tw3168960337134754542:=()
def tw6764018185039221755:=()
def tw1948297768173935884:=()
def tw7806649144834669015:=()
def tw479986807668167149:=()
def tw1559296966323072344:=()
def tw17526082185133635607:=()
def tw13219937751460070511:=()
def tw13063599894648997493:=()
def tw12515803009970434203:=()
def tw7304902407434712996:=()
def tw18370577832476006886:=()
def tw2605354383507022944:=()
def tw18429549490930663161:=()
def tw17869774041816032193:=()
def tw12890272759276163324:=()
def tw15819272761340553766:=()
def tw11765867458318075147:=()
def tw12786188117191857555:=()
def tw16371816352113895644:=()
def tw11378223965644235677:=()
def tw3559491297837999083:=()
def tw11661770780937680365:=()
def tw16595404994973125015:=()
def tw1569405918088174998:=()
def tw11222761313906490442:=()
def tw12701837539843935935:=()
def tw898730807922589594:=()
def tw8904942305078954537:=()
def tw18176767021767164604:=()
def tw15980258531012662687:=()
def tw503694817666934838:=()
def tw12938533465260743316:=()
def tw10891486285266543938:=()
def tw12348509862907853215:=()
def tw4860755122907604918:=()
def tw384834242629218535:=()
def tw11114091779703823448:=()
def tw14115694095653091186:=()
def tw17248505815180061850:=()
def tw10972643325421288114:=()
def tw10201245333447415437:=()
def tw11427265439510383606:=()
def tw14299039538560299812:=()
def tw2145312239784014816:=()
def tw8760789301260545574:=()
def tw3206165373622267408:=()
def tw13550086058256695607:=()
def tw47278457833102997:=()
def tw13281601727495980100:=()
def tw12994475289792075196:=()
def tw15848063415040251103:=()
def tw2643381055623146629:=()
def tw9180681542249037716:=()
def tw369419539222102750:=()
def tw4094978913641292999:=()
def tw15645606989422475419:=()
def tw728280526818932680:=()
def tw12114756734446688541:=()
def tw10779889438994345963:=()
def tw608429252994251684:=()
def tw9453389900352498466:=()
def tw13279256259760088590:=()
def tw956959677290448878:=()
def tw4119833587784489834:=()
def tw376727814789711185:=()
def tw4032339546508867563:=()
def tw4487343321704056956:=()
def tw6218678128734879983:=()
def tw12005742412199720723:=()
def tw13713816993915224197:=()
def tw12518216680926138068:=()
def tw517458442893722157:=()
def tw5419258181714395305:=()
def tw3080631838106227085:=()
def tw14840839630801775954:=()
def tw6246834183375767900:=()
def tw924290777011719085:=()
def tw17987334133330321925:=()
def tw6494470145827096160:=()
def tw9713016874172227318:=()
def tw6936079701317112788:=()
def tw15926829147270687383:=()
def tw1001893505096881961:=()
def tw7919173448186553497:=()
def tw5246105414490547272:=()
def tw5307001922681936455:=()
def tw3505028809668337591:=()
def tw6865799363987250207:=()
def tw11349432622071003712:=()
def tw14038971594739861802:=()
def tw6546490331981982612:=()
def tw12585327673383916522:=()
def tw6148430952525919848:=()
def tw2211439593413738886:=()
def tw6376125403473409053:=()
def tw734420511559288089:=()
def tw8377555290440833463:=()
def tw14546585818400819031:=()
def tw10491792511473129075:=()
def tw7642815586545545067:=()
def tw6155994870435710049:=()
def tw14331547143850423988:=()
def tw15795835200849127537:=()
def tw1558490941343244843:=()
def tw16689241934172138969:=()
def tw9873370893933973330:=()
def tw13889717095055477248:=()
def tw7078980178240401254:=()
def tw4335436540836441053:=()
def tw4715238125620547568:=()
def tw4893084741304668404:=()
def tw11201324339668547176:=()
def tw8690917616223468300:=()
def tw4913582645218420491:=()
def tw10466375203960032394:=()
def tw8533610198113578755:=()
def tw4700160303710087602:=()
def tw67995984162558924:=()
def tw3634672776351469747:=()
def tw8810568393758955014:=()
def tw15504451257435332942:=()
def tw1027950834466283031:=()
def tw17148483722944073946:=()
def tw4233514726289453773:=()
def tw1636112081365041316:=()
def tw13295740285046961901:=()
def tw11654384293227901437:=()
def tw12038918073738987651:=()
def tw16790333628182906492:=()
def tw15943950467543679208:=()
def tw11528430011397637344:=()
def tw10218878633388718212:=()
def tw2442172182259745623:=()
def tw12931239769985814211:=()
def tw14097009492988202501:=()
def tw3815839283186578071:=()
def tw15642993678903428594:=()
def tw17638030322793038137:=()
def tw11169801092267802608:=()
end PySem.W.Fast
open PySem PySem.W PyProof.Rows
set_option maxRecDepth 100000 in
set_option maxHeartbeats 0 in
theorem PySem.Challenge.cw_noteworth_k36_bounds_of_a_book_holds : PySem.Challenge.rw_noteworth_k36_bounds_of_a_book.Holds := by
 w_on;o_law;k_head;(case hw=>w_witness2)
 k_fill
 refine Gj.walk (l:=PySem.Challenge.rw_noteworth_k36_bounds_of_a_book) rfl rfl (fun w h Y=>PySem.W.kIn_of Y) ?F
 case F =>
  intro w mg fa h KX G hmg
  refine' Gj.all_mk KX G hmg ?Nf ?SF ?SG ?pb ?ph ?pj ?pk ?nV ?kc ?kd ?ke ?gQ ?jK ?Iu ?Iv ?Iw ?Ah ?CL ?rE ?rF ?rG ?mx ?pq ?pA ?pB ?pC ?pE ?nW ?wH ?wI ?wJ ?qh ?t4 ?yV ?yW ?yX ?tq ?wK ?CM ?CN ?CO ?CP ?yY ?yZ ?y8 ?y9 ?i6 ?i7 ?i8 ?i9 ?Yn ?Yo ?Yp ?Yq ?my ?mz ?mB ?mC ?SH ?SI ?SJ ?EG ?Iy ?Iz ?IA ?IB ?CQ ?CS ?CU ?CW ?rH ?rJ ?rK ?rL ?Ng ?Nh ?Ni ?Nj ?kW ?kX ?kY ?iH ?kf ?CY ?CZ ?C0 ?wL ?za ?wN ?wO ?wQ ?qi ?t5 ?Nk ?Nl ?Nm ?Nn ?zb ?zc ?zd ?tw ?wR ?ze ?zf ?zg ?tD ?wU ?zh ?zi ?zj ?tE ?wV ?zk ?zm ?zo ?tF ?wW ?IC ?ID ?IE ?IF ?mD ?mE ?mF ?jo ?kZ ?t7 ?ua ?ub ?oH ?rM ?nX ?nY ?nZ ?n5 ?mG ?n9 ?oa ?og ?j2 ?mH ?jq ?C2 ?C4 ?C5 ?wX ?zp ?zq ?zr ?zt ?tG ?wY ?oh ?oi ?oj ?j3 ?mI ?Yr ?Ys ?Yt ?Yu ?IG ?IH ?II ?IJ ?wZ ?w4 ?w5 ?xa ?IK ?IL ?IM ?IP ?IQ ?IS ?IT ?IU ?Np ?Nq ?Nr ?Nt ?zu ?zw ?zx ?zy ?C7 ?C8 ?C9 ?Dc ?tH ?IV ?IW ?IX ?IY ?uc ?ud ?ue ?uf ?ja ?jb ?jc ?jd ?Yv ?Yw ?Yx ?Yy ?K7 ?pF ?pG ?pH ?pI ?om ?oo ?oq ?ot ?mJ ?mK ?mL ?mM ?mO ?mP ?mQ ?mR ?xc ?xf ?xg ?xh ?IZ ?Ja ?Jb ?Jc ?Nu ?Nv ?Nw ?Nx ?Ai ?zA ?zB ?zC ?tI ?xi ?zD ?zE ?zF ?zG ?Ny ?Nz ?NA ?NB ?Jd ?Je ?Jf ?Jg ?SK ?SM ?SN ?SO ?NC ?ND ?NF ?NG ?zH ?zI ?zJ ?zK ?ug ?uh ?ui ?uj ?Zs ?adj ?adk ?adl ?adm ?adn ?Yz ?zL ?ado ?xj ?adp ?YA ?adq ?ads ?SQ ?adt ?rN ?rO ?rP ?rQ ?ou ?ow ?ox ?oy ?mS ?mT ?pJ ?pK ?pL ?pM ?pN ?pO ?pP ?pQ ?pR ?mU ?mV ?mW ?uk ?lg ?oz ?pS ?Df ?pT ?rR ?um ?Jh ?Dg ?Ji ?Jj ?NH ?NI ?NJ ?NK ?gI ?cQ ?cC ?NL ?NM ?SR ?SU ?SV ?SW ?eX ?iF ?eY ?gJ ?NN ?NO ?SX ?SY ?S0 ?Ta ?bN ?eG ?cR ?Dh ?Jk ?Di ?Dj ?zM ?Tb ?Jl ?Dk ?xk ?Dl ?Dm ?Dn ?Dp ?Dq ?Jm ?Jn ?Jo ?Jp ?Dr ?Ds ?Dt ?Du ?Dv ?Dw ?Dx ?Dy ?zN ?zO ?zP ?zQ ?Tc ?Td ?Te ?Tf ?Jq ?Jr ?Js ?Jt ?Dz ?DA ?DB ?DC ?xm ?xn ?xo ?xp ?DD ?DE ?DF ?DG ?eZ ?dG ?iL ?e7 ?gb ?eh ?jH ?gf ?e8 ?gh ?gi ?gj ?g4 ?e9 ?dH ?iN ?fb ?en ?fc ?ff ?dJ ?iO ?fg ?eo ?fh ?fi ?eA ?c9 ?g6 ?eB ?dM ?iP ?gm ?mf ?gn ?eC ?jI ?gp ?fk ?gq ?gs ?gu ?hG ?hI ?fq ?dN ?cS ?fu ?dO ?iQ ?fz ?eD ?fA ?fB ?fD
  (case Nf|SF|SG|pb|ph|pj|pk|nV|kc|kd|ke|gQ|jK|Iu|Iv|Iw|Ah|CL|rE|rF|rG|mx|pq|pA|pB|pC|pE|nW|wH|wI|wJ|qh|t4|yV|yW|yX|tq|wK|CM|CN|CO|CP|yY|yZ|y8|y9|i6|i7|i8|i9|Yn|Yo|Yp|Yq|my|mz|mB|mC|SH|SI|SJ|EG|Iy|Iz|IA|IB|CQ|CS|CU|CW|rH|rJ|rK|rL|Ng|Nh|Ni|Nj|kW|kX|kY|iH|kf|CY|CZ|C0|wL|za|wN|wO|wQ|qi|t5|Nk|Nl|Nm|Nn|zb|zc|zd|tw|wR|ze|zf|zg|tD|wU|zh|zi|zj|tE|wV|zk|zm|zo|tF|wW|IC|ID|IE|IF|mD|mE|mF|jo|kZ|t7|ua|ub|oH|rM|nX|nY|nZ|n5|mG|n9|oa|og|j2|mH|jq|C2|C4|C5|wX|zp|zq|zr|zt|tG|wY|oh|oi|oj|j3|mI|Yr|Ys|Yt|Yu|IG|IH|II|IJ|wZ|w4|w5|xa|IK|IL|IM|IP|IQ|IS|IT|IU|Np|Nq|Nr|Nt|zu|zw|zx|zy|C7|C8|C9|Dc|tH|IV|IW|IX|IY|uc|ud|ue|uf|ja|jb|jc|jd|Yv|Yw|Yx|Yy|K7|pF|pG|pH|pI|om|oo|oq|ot|mJ|mK|mL|mM|mO|mP|mQ|mR|xc|xf|xg|xh|IZ|Ja|Jb|Jc|Nu|Nv|Nw|Nx|Ai|zA|zB|zC|tI|xi|zD|zE|zF|zG|Ny|Nz|NA|NB|Jd|Je|Jf|Jg|SK|SM|SN|SO|NC|ND|NF|NG|zH|zI|zJ|zK|ug|uh|ui|uj|Zs|adj|adk|adl|adm|adn|Yz|zL|ado|xj|adp|YA|adq|ads|SQ|adt|rN|rO|rP|rQ|ou|ow|ox|oy|mS|mT|pJ|pK|pL|pM|pN=>k_is)
  (case pO=>rfl)
  (case pP|pQ=>k_is)
  (case pR=>rfl)
  (case mU|mV=>k_is)
  (case mW=>rfl)
  (case uk|lg|oz|pS|Df|pT|rR|um|Jh|Dg|Ji|Jj|NH|NI|NJ|NK|gI|cQ|cC|NL|NM|SR|SU|SV|SW|eX|iF|eY|gJ|NN|NO|SX|SY|S0|Ta|bN|eG|cR|Dh|Jk|Di|Dj|zM|Tb|Jl|Dk|xk|Dl=>k_is)
  (case Dm=>k_exc)
  (case Dn|Dp|Dq=>k_is)
  (case Jm=>k_exc)
  (case Jn|Jo|Jp=>k_is)
  (case Dr=>k_exc)
  (case Ds|Dt|Du=>k_is)
  (case Dv=>k_exc)
  (case Dw|Dx|Dy=>k_is)
  (case zN=>k_exc)
  (case zO|zP|zQ=>k_is)
  (case Tc=>k_exc)
  (case Td|Te|Tf=>k_is)
  (case Jq=>k_exc)
  (case Jr|Js|Jt=>k_is)
  (case Dz=>k_exc)
  (case DA|DB|DC=>k_is)
  (case xm=>k_exc)
  (case xn|xo|xp=>k_is)
  (case DD=>k_exc)
  (case DE|DF|DG=>k_is)
  (case eZ|dG|iL|e7|gb|eh|jH|gf|e8|gh|gi|gj|g4|e9|dH|iN|fb|en|fc|ff|dJ|iO|fg|eo|fh|fi|eA|c9|g6|eB|dM|iP|gm|mf|gn|eC|jI|gp|fk|gq|gs|gu|hG|hI|fq|dN|cS|fu|dO|iQ|fz|eD|fA|fB|fD=>kts_exm)
