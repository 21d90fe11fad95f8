import PyProof.Rows.All
import Wide.All
import OpenK.AllK
import Wide.FinOn
import Lean
import PyProof.EqAt
import PyProof.EqKinds
import PyProof.TupleCall
import PySem.Challenge.RW_noteworth_k25_what_is_written
set_option Elab.async false
set_option linter.all false
set_option maxRecDepth 100000
open PySem.W (CodeHd Frag OpenLaw WalkO codeIn excIn findIn fnOf instObj isFn keepIn kia_one kitOne kitx_dict kitx_list kitx_tuple kla_fn kla_obj lookIn methodObj mg_none_of mg_of mroIn nsIn plainGet specialIn tabObj)
open List (length_map length_append length_take length_drop mem_append mem_singleton mem_cons_self mem_cons_of_mem mem_append_left mem_append_right mem_of_getElem? size_toArray take_length getElem?_map map_append map_cons length_cons take_succ getElem?_eq_getElem getElem?_append_right mem_map all_eq_true mem_range append_nil nil_append)
open PySem.F (plainAttrs_list slot_dict_get)
local macro_rules | `(tactic| lk) => `(tactic| decide +kernel)
local macro_rules | `(tactic| z_go) => `(tactic| first | (exact fun _ _ _ _ _ _ us hl => match us, hl with | [_], _ => rfl) | (exact fun _ _ _ _ _ _ us hl => match us, hl with | [_, _], _ => rfl) | (exact fun _ _ _ _ _ _ us hl => match us, hl with | [_, _, _], _ => rfl) | (exact fun _ _ _ _ _ _ us hl => match us, hl with | [_, _, _, _], _ => rfl) | (exact fun _ _ _ _ _ _ us hl => match us, hl with | [_, _, _, _, _], _ => rfl) | (exact fun _ _ _ _ _ _ us hl => match us, hl with | [_, _, _, _, _, _], _ => rfl))
namespace L2
open PySem PySem.Spec PyProof.Rows
abbrev Key:=Sum Int Str
def BG:Key->Value->Bool
 |.inl k,v=>Value.isInt k v
 |.inr x,v=>Value.isStrOf x v
def acG (w:World):Key->Int
 |.inl k=>hashInt k
 |.inr x=>hashStr w x
theorem cD:∀{k:Key} {v:Value},BG k v=true->(∃ i t,k=Sum.inl i/\v=Value.int i t)\/(∃ x t,k=Sum.inr x/\v=Value.str x t)
 |.inl i,v,h=>by
  obtain⟨t,e⟩:=Value.isInt_shape (k:=i) (v:=v) h;exact .inl ⟨i,t,rfl,e⟩
 |.inr x,v,h=>by
  obtain⟨t,e⟩:=Value.isStrOf_shape (x:=x) (v:=v) h;exact .inr ⟨x,t,rfl,e⟩
theorem Qk (i:Int)(t:Tok):BG (.inl i) (.int i t)=true:=by simp[BG,Value.isInt]
theorem Ql (x:Str)(t:Tok):BG (.inr x) (.str x t)=true:=by simp[BG,Value.isStrOf]
theorem Yb (a b:Int):decide ((Sum.inl a:Key)=Sum.inl b)=(a==b):=by
 by_cases e:a=b
 ·subst e;simp
 ·have h:¬(Sum.inl a:Key)=Sum.inl b:=fun q=>e (Sum.inl.inj q);rw[decide_eq_false h];exact(beq_eq_false_iff_ne.mpr e).symm
theorem Yc (a b:Str):decide ((Sum.inr a:Key)=Sum.inr b)=decide (a=b):=by
 by_cases e:a=b
 ·subst e;simp
 ·have h:¬(Sum.inr a:Key)=Sum.inr b:=fun q=>e (Sum.inr.inj q);rw[decide_eq_false h,decide_eq_false e]
theorem Yd (a:Int)(b:Str):decide ((Sum.inl a:Key)=Sum.inr b)=false:=decide_eq_false (fun q=>nomatch q)
theorem Ye (a:Str)(b:Int):decide ((Sum.inr a:Key)=Sum.inl b)=false:=decide_eq_false (fun q=>nomatch q)
def aZ (prog:Program)(w:World):PySem.KeyKind prog w Key where
 is:=BG
 hash:=acG w
 inj:=fun v a b ha hb=>by
  rcases cD ha with ⟨i,t,rfl,rfl⟩|⟨x,t,rfl,rfl⟩
  ·rcases cD hb with ⟨j,u,rfl,e⟩|⟨y,u,rfl,e⟩
   ·injection e with e1 _;rw[e1]
   ·exact nomatch e
  ·rcases cD hb with ⟨j,u,rfl,e⟩|⟨y,u,rfl,e⟩
   ·exact nomatch e
   ·injection e with e1 _;rw[e1]
 byValue:=fun k v h=>by
  rcases cD h with ⟨i,t,rfl,rfl⟩|⟨x,t,rfl,rfl⟩ <;> rfl
 pyHash:=fun hv h=>by
  rcases cD hv with ⟨i,t,rfl,rfl⟩|⟨x,t,rfl,rfl⟩
  ·exact wpAny_pyHash_int h
  ·exact wpAny_pyHash_str h
 eqBool:=fun hu hv h=>by
  rcases cD hu with ⟨i,t,rfl,rfl⟩|⟨x,t,rfl,rfl⟩
  ·rcases cD hv with ⟨j,u,rfl,rfl⟩|⟨y,u,rfl,rfl⟩
   ·rw[Yb]at h;exact wpAny_eqBool_int h
   ·rw[Yd]at h;exact SeqAt.EqAt.int_str i t y u _ _ _ _ h
  ·rcases cD hv with ⟨j,u,rfl,rfl⟩|⟨y,u,rfl,rfl⟩
   ·rw[Ye]at h;exact SeqAt.EqAt.str_int x t j u _ _ _ _ h
   ·rw[Yc]at h;exact wpAny_eqBool_str h
 «strs»:=fun k x t v h=>by
  rcases cD h with ⟨i,u,rfl,e⟩|⟨y,u,rfl,e⟩
  ·exact nomatch e
  ·injection e with e1 _
   subst e1;cases v <;> rfl
theorem yr (prog:Program)(w:World)(i:Int)(t:Tok):(aZ prog w).is (.inl i) (.int i t)=true:=Qk i t
theorem i5 (prog:Program)(w:World)(x:Str)(t:Tok):(aZ prog w).is (.inr x) (.str x t)=true:=Ql x t
end L2
namespace L2
open PySem PySem.Spec PyProof.Rows
inductive V where
 |non|bl (b:Bool)|int (i:Int)|str (x:Str)|Sj (b:Array UInt8)|flt (b:UInt64)|ref (a:Addr)|ty (n:String)
 deriving DecidableEq
def RelV:V->Value->Prop
 |.non,u=>u=Value.none
 |.bl b,u=>u=Value.bool b
 |.int i,u=>∃ t,u=Value.int i t
 |.str x,u=>∃ t,u=Value.str x t
 |.Sj b,u=>∃ t,u=Value.bytes b t
 |.flt b,u=>∃ t,u=Value.float b t
 |.ref a,u=>u=Value.ref a
 |.ty n,u=>u=Value.type n
abbrev Vals:List V->List Value->Prop:=Paired RelV
theorem Vals.length {xs:List V}{us:List Value}(r:Vals xs us):xs.length=us.length:=Paired.length r
theorem Vals.get:∀{xs:List V} {us:List Value} {i:Nat} {x:V},Vals xs us->xs[i]? = some x->∃ u,us[i]? = some u/\RelV x u
 |_,_,_,_,.nil,e=>by simp at e
 |_,_,0,_,.cons r _,e=>by simp at e;subst e;exact⟨_,rfl,r⟩
 |_,_,i+1,x,.cons _ t,e=>by
  obtain⟨u,h1,h2⟩:=Vals.get (i:=i) (x:=x) t (by simpa using e);exact⟨u,by simpa using h1,h2⟩
theorem Vals.set {x:V}{u:Value}(r:RelV x u):∀{xs:List V} {us:List Value} (i:Nat),Vals xs us->Vals (xs.set i x) (us.set i u)
 |_,_,_,.nil=>.nil
 |_,_,0,.cons _ t=>.cons r t
 |_,_,i+1,.cons q t=>.cons q (Vals.set r i t)
theorem Vals.append:∀{xs ys:List V} {us ws:List Value},Vals xs us->Vals ys ws->Vals (xs++ys) (us++ws)
 |_,_,_,_,.nil,s=>s
 |_,_,_,_,.cons r t,s=>.cons r (Vals.append t s)
theorem Vals.take:∀{xs:List V} {us:List Value} (n:Nat),Vals xs us->Vals (xs.take n) (us.take n)
 |_,_,0,_=>.nil
 |_,_,_+1,.nil=>.nil
 |_,_,n+1,.cons r t=>.cons r (Vals.take n t)
theorem Vals.drop:∀{xs:List V} {us:List Value} (n:Nat),Vals xs us->Vals (xs.drop n) (us.drop n)
 |_,_,0,r=>r
 |_,_,_+1,.nil=>.nil
 |_,_,n+1,.cons _ t=>Vals.drop n t
def oa:Option V->Option Value->Prop
 |some v,some u=>RelV v u
 |none,none=>True
 |_,_=>False
def KV {κ:Type}:List (κ×V)->List (κ×Value)->Prop:=Paired fun(p:κ×V)(q:κ×Value)=>p.1=q.1/\RelV p.2 q.2
def kV:Key->V
 |.inl i=>.int i
 |.inr x=>.str x
inductive HO where
 /-- a list -/
 |lst (xs:List V)
 /-- a tuple (never changes) -/
 |tup (xs:List V)
 /-- a dict whose keys are ints and texts;one whose keys are tuples of ints and texts (the empty one is both) -/
 |dK (kvs:List (Key×V))|dT (kvs:List (List Key×V))
 /-- a set of ints: its members,its size -/
 |set (S:Int->Bool) (n:Nat)
 /-- an instance of the class at C,its dict at dx,its attributes -/
 |ins (C dx:Addr) (fs:List (Str×V))
 /-- the dict of the instance at x -/
 |own (x:Addr)
 /-- the dict of an exception -/
 |xd (fs:List (Str×V))
 /-- a bound method,f of x -/
 |met (f x:Addr)
 /-- a range object lo,lo+1,.. below hi -/
 |rng (lo hi:Int)
 /-- a thing that is known to the object (the script;a dict while a loop walks it): read,never written while it is so -/
 |jC (o:Obj) (u:HO)
 /-- a code object's table -/
 |AK (ps:Array Value)
 /-- any other thing,by what is true of its one object (a def of one's own: afT a S n:=HO.ext fun h=>..) -/
 |ext (φ:Heap->Prop)
abbrev Hp:=Addr->Option HO
def upd (H:Hp)(a:Addr)(o:HO):Hp:=fun b=>if b=a then some o else H b
theorem aj {H:Hp}{a:Addr}{o:HO}:upd H a o a=some o:=by unfold upd;rw[if_pos rfl]
theorem au {H:Hp}{a b:Addr}{o:HO}(h:b≠a):upd H a o b=H b:=by unfold upd;rw[if_neg h]
theorem qa {H:Hp}{a:Addr}{o u:HO}:upd (upd H a o) a u=upd H a u:=by
 funext b;unfold upd;split <;> rfl
theorem Pb {H:Hp}{a b:Addr}{o u:HO}(h:H a=some o)(h':H b=some u)(d:o≠u):a≠b:=by
 intro e;subst e;rw[h]at h';exact d (Option.some.inj h')
theorem aQ {H:Hp}{a b:Addr}{o:HO}(h:H a=some o)(h':H b=none):a≠b:=by
 intro e;subst e;rw[h]at h';cases h'
section
variable (P:Program) (w:World)
def cB (H:Hp)(h:Heap)(a:Addr):HO->Prop
 |.lst xs=>xs.length<=sizeLine/\∃(its:List Value)(n:Nat),Vals xs its/\h.get? a=some { cls:=.type "list",data:=.seq its.toArray n }
 |.tup xs=>xs.length<=sizeLine/\∃ its:List Value,Vals xs its/\IsTup h a its.toArray
 |.dK kvs=>kvs.length<=sizeLine/\(a==sysModules)=false/\∃ vs,KV kvs vs/\h.DictOf (aZ P w) a vs
 |.dT kvs=>kvs.length<=sizeLine/\(a==sysModules)=false/\∃ xs:List (List Key×Addr×Value),
   Paired (fun(p:List Key×V)(q:List Key×Addr×Value)=>p.1=q.1/\H q.2.1=some (.tup (p.1.map kV))/\RelV p.2 q.2.2) kvs xs /\
   ∃ o es ep,h.get? a=some o/\o.ExactDict/\o.data=.dict es ep/\es.toList=xs.map (entryOfKey (tupleKind (aZ P w)))/\(xs.map (·.1)).Nodup
 |.set S n=>h.SetOf (intKind P w) a S n
 |.ins C dx fs=>H dx=some (.own a)/\fs.length<=1000/\dx≠a/\h.get? a=some (instObj C dx) /\
   ∃ mA,h.Ns1 dx mA/\(∀ f,oa (fs.lookup f) (mA f))/\PySem.Within mA (fs.map (·.1))
 |.own _=>∃ o,h.get? a=some o
 |.xd fs=>∃ mA,h.Ns1 a mA/\∀ f,oa (fs.lookup f) (mA f)
 |.rng lo hi=>∃ t u v,h.get? a=some { cls:=.type "range",data:=.fields #[.int lo t,.int hi u,.int 1 v] }
 |.jC o u=>h.get? a=some o/\cB H h a u
 |.AK ps=>h.get? a=some { cls:=.none,data:=.fields ps }
 |.met f x=>h.get? a=some (methodObj (.ref f) (.ref x))
 |.ext φ=>φ h/\(∃ o,h.get? a=some o)/\∀ h1 h2:Heap,φ h1->(∀ o,h1.get? a=some o->h2.get? a=some o)->φ h2
def qv (H:Hp)(h:Heap):Prop:=∀ a o,H a=some o->cB P w H h a o
end
section
variable {P:Program} {w:World} {H H':Hp} {h h':Heap} {a:Addr} {o:HO}
theorem cB.lt (x:cB P w H h a o):a<h.objs.size:=by
 cases o with
 |lst xs=>obtain⟨_,_,_,_,e⟩:=x;exact Heap.lt_size e
 |tup xs=>obtain⟨_,_,_,p⟩:=x;exact p.lt
 |dK kvs=>obtain⟨_,_,_,_,o,_,_,e,_⟩:=x;exact Heap.lt_size e
 |dT kvs=>obtain⟨_,_,_,_,o,_,_,e,_⟩:=x;exact Heap.lt_size e
 |set S n=>obtain⟨o,_,_,_,e,_⟩:=x;exact Heap.lt_size e
 |ins C dx fs=>obtain⟨_,_,_,e,_⟩:=x;exact Heap.lt_size e
 |own y=>obtain⟨_,e⟩:=x;exact Heap.lt_size e
 |xd fs=>obtain⟨_,⟨_,_,_,e,_⟩,_⟩:=x;exact Heap.lt_size e
 |rng lo hi=>obtain⟨_,_,_,e⟩:=x;exact Heap.lt_size e
 |jC ob u=>obtain⟨e,_⟩:=x;exact Heap.lt_size e
 |AK ps=>exact Heap.lt_size (show h.get? a=some _ from x)
 |met f y=>exact Heap.lt_size (show h.get? a=some _ from x)
 |ext φ=>obtain⟨_,⟨_,e⟩,_⟩:=x;exact Heap.lt_size e
theorem Paired.Yg {α β:Type}{F G:α->β->Prop}:∀{l₁:List α} {l₂:List β},Paired F l₁ l₂->(∀ a b,F a b->G a b)->Paired G l₁ l₂
 |_,_,.nil,_=>.nil
 |_,_,.cons r t,f=>.cons (f _ _ r) (Paired.Yg t f)
theorem cB.stay (x:cB P w H h a o)(k:∀ b u,(b=a\/H b=some (.own a))->h.get? b=some u->h'.get? b=some u)
  (ho:∀ b,H b=some (.own a)->H' b=some (.own a)) (ht:∀ b xs,H b=some (.tup xs)->H' b=some (.tup xs)):cB P w H' h' a o:=by
 induction o with
 |lst xs=>obtain⟨z,its,n,r,e⟩:=x;exact⟨z,its,n,r,k _ _ (.inl rfl) e⟩
 |tup xs=>obtain⟨z,its,r,ob,e,c⟩:=x;exact⟨z,its,r,ob,k _ _ (.inl rfl) e,c⟩
 |dK kvs=>obtain⟨z,y,vs,r,ob,es,ep,e,c⟩:=x;exact⟨z,y,vs,r,ob,es,ep,k _ _ (.inl rfl) e,c⟩
 |dT kvs =>
  obtain⟨z,y,xs,r,ob,es,ep,e,c⟩:=x;exact⟨z,y,xs,Paired.Yg r fun p q z=>⟨z.1,ht _ _ z.2.1,z.2.2⟩,ob,es,ep,k _ _ (.inl rfl) e,c⟩
 |set S n=>obtain⟨ob,es,ep,t,e,c⟩:=x;exact⟨ob,es,ep,t,k _ _ (.inl rfl) e,c⟩
 |ins C dx fs =>
  obtain⟨d,z,ne,e,mA,⟨od,es,ep,e2,c⟩,r⟩:=x;exact⟨ho _ d,z,ne,k _ _ (.inl rfl) e,mA,⟨od,es,ep,k _ _ (.inr d) e2,c⟩,r⟩
 |own y=>obtain⟨ob,e⟩:=x;exact⟨ob,k _ _ (.inl rfl) e⟩
 |xd fs=>obtain⟨mA,⟨od,es,ep,e,c⟩,r⟩:=x;exact⟨mA,⟨od,es,ep,k _ _ (.inl rfl) e,c⟩,r⟩
 |rng lo hi=>obtain⟨t,u,v,e⟩:=x;exact⟨t,u,v,k _ _ (.inl rfl) e⟩
 |jC ob u ih=>obtain⟨e,q⟩:=x;exact⟨k _ _ (.inl rfl) e,ih q⟩
 |AK ps =>
  have e:h.get? a=some { cls:=.none,data:=.fields ps }:=x;show h'.get? a=some { cls:=.none,data:=.fields ps };exact k a _ (.inl rfl) e
 |met f y =>
  have e:h.get? a=some (methodObj (.ref f) (.ref y)):=x;show h'.get? a=some (methodObj (.ref f) (.ref y));exact k a _ (.inl rfl) e
 |ext φ=>obtain⟨p,⟨o,e⟩,st⟩:=x;exact⟨st _ _ p fun o q=>k _ _ (.inl rfl) q,⟨o,k _ _ (.inl rfl) e⟩,st⟩
theorem qv.lt (x:qv P w H h)(e:H a=some o):a<h.objs.size:=(x a o e).lt
theorem qv.fresh (x:qv P w H h)(e:h.objs.size<=a):H a=none:=by
 cases q:H a with
 |none=>rfl
 |some u=>exact absurd (Nat.lt_of_lt_of_le (x.lt q) e) (Nat.lt_irrefl _)
theorem qv.kept (x:qv P w H h)(k:∀ b u,h.get? b=some u->h'.get? b=some u):qv P w H h':=fun a o e =>
 (x a o e).stay (fun b u _ q=>k b u q) (fun _ q=>q) fun _ _ q=>q
theorem qv.laid (x:qv P w H h)(k:∀ b u,h.get? b=some u->h'.get? b=some u)(hp:h.objs.size<=a)(new:cB P w (upd H a o) h' a o):qv P w (upd H a o) h':=fun b u e=>by
 have hn:=x.fresh hp
 by_cases hb:b=a
 ·subst hb;rw[aj]at e;cases e;exact new
 ·rw[au hb]at e;exact(x b u e).stay (fun c v _ q=>k c v q) (fun c q=>by rw[au (aQ q hn)];exact q) fun c xs q=>by rw[au (aQ q hn)];exact q
end
def Rd (H:Hp)(a:Addr)(u:HO):Prop:=H a=some u\/∃ o,H a=some (.jC o u)
theorem Rd.ok {P:Program}{w:World}{H:Hp}{h:Heap}{a:Addr}{u:HO}(r:Rd H a u)(x:qv P w H h):cB P w H h a u:=by
 rcases r with r|⟨o,r⟩
 ·exact x a u r
 ·obtain⟨_,q⟩:=x a _ r;exact q
def ZO:Option HO->Prop
 |some (.lst _)=>True
 |some (.dK _)=>True
 |some (.dT _)=>True
 |some (.set _ _)=>True
 |some (.ins _ _ _)=>True
 |some (.ext _)=>True
 |_=>False
section
variable {P:Program} {w:World} {H:Hp} {h h':Heap} {x e:Addr} {o':HO}
theorem qv.write (ok:qv P w H h)(mu:ZO (H x))(he:e=x\/H e=some (.own x))(k:∀ b u,b≠e->h.get? b=some u->h'.get? b=some u)(heo:∃ u,h'.get? e=some u)
  (new:cB P w (upd H x o') h' x o'):qv P w (upd H x o') h':=fun b u q=>by
 have ZP:∀ c y,H c=some (.own y)->c≠x:=fun c y r z=>by subst z;rw[r]at mu;exact mu
 have acI:∀ c xs,H c=some (.tup xs)->c≠x:=fun c xs r z=>by subst z;rw[r]at mu;exact mu
 by_cases hb:b=x
 ·subst hb;rw[aj]at q;cases q;exact new
 ·rw[au hb]at q
  by_cases hbe:b=e
  ·have q':H b=some (.own x):=by
    rcases he with z|z
    ·exact absurd (hbe.trans z) hb
    ·rw[hbe];exact z
   rw[q]at q';cases q';obtain⟨v,hv⟩:=heo;exact⟨v,by rw[hbe];exact hv⟩
  ·refine(ok b u q).stay (fun c v hc r=>k c v ?_ r) (fun c r=>by rw[au (ZP c b r)];exact r) fun c xs r=>by rw[au (acI c xs r)];exact r
   rcases hc with rfl|hc
   ·exact hbe
   ·rintro rfl;rcases he with z|z
    ·exact ZP c b hc z
    ·rw[hc]at z;cases z;exact hb rfl
end
structure Un (fs ex:List Addr)(H H':Hp)(h h':Heap):Prop where
 keep:∀ b o,h.get? b=some o->H b=none->b ∉ fs->b ∉ ex->h'.get? b=some o
 slot:∀ b o,h.get? b=some o->H b=none->b∈fs->b ∉ ex->∃ sl,h'.get? b=some { o with slots:=sl }
 free:∀ b o,h.get? b=some o->H b=none->b ∉ ex->H' b=none
 there:∀ b o,h.get? b=some o->b ∉ ex->∃ o',h'.get? b=some o'
 tups:∀ b xs,H b=some (.tup xs)->H' b=some (.tup xs)
 yB:∀ b o u,H b=some (.jC o u)->H' b=some (.jC o u)
 BH:∀ b ps,H b=some (.AK ps)->∃ more,H' b=some (.AK (ps++more))
section
variable {fs fs' ex ex':List Addr} {H H1 H2:Hp} {h h1 h2 h':Heap} {a x e:Addr} {o:HO}
theorem Un.any (u:Un fs ex H H1 h h1){b:Addr}{ob:Obj}(q:h.get? b=some ob)(n:H b=none)(hx:b ∉ ex):∃ sl,h1.get? b=some { ob with slots:=sl }:=by
 by_cases hb:b∈fs
 ·exact u.slot b ob q n hb hx
 ·exact⟨ob.slots,u.keep b ob q n hb hx⟩
theorem Un.kept (k:∀ b u,h.get? b=some u->h'.get? b=some u):Un fs ex H H h h' :=
 ⟨fun b ob q _ _ _=>k b ob q,fun b ob q _ _ _=>⟨ob.slots,k b ob q⟩,fun _ _ _ n _=>n,fun b ob q _=>⟨ob,k b ob q⟩,fun _ _ q=>q,fun _ _ _ q=>q,fun _ ps q=>⟨#[],by rw[q];simp⟩⟩
theorem Un.refl:Un fs ex H H h h:=Un.kept fun _ _ q=>q
theorem Un.laid (k:∀ b u,h.get? b=some u->h'.get? b=some u)(hp:h.objs.size<=a)(hn:H a=none):Un fs ex H (upd H a o) h h' where
 keep:=fun b u q _ _ _=>k b u q
 slot:=fun b u q _ _ _=>⟨u.slots,k b u q⟩
 free:=fun b u q n _=>by rw[au (Nat.ne_of_lt (Nat.lt_of_lt_of_le (Heap.lt_size q) hp))];exact n
 there:=fun b u q _=>⟨u,k b u q⟩
 tups:=fun b xs q=>by rw[au (aQ q hn)];exact q
 yB:=fun b u xs q=>by rw[au (aQ q hn)];exact q
 BH:=fun b ps q=>⟨#[],by rw[au (aQ q hn),q];simp⟩
theorem Un.write (mu:ZO (H x))(he:e=x\/H e=some (.own x))(k:∀ b u,b≠e->h.get? b=some u->h'.get? b=some u)(heo:∃ u,h'.get? e=some u):Un fs ex H (upd H x o) h h':=by
 have hx:∀ b,H b=none->b≠x:=fun b n z=>by subst z;rw[n]at mu;exact mu
 have hb:∀ b,H b=none->b≠e:=fun b n z=>by
  subst z;rcases he with r|r
  ·exact hx b n r
  ·rw[n]at r;cases r
 have hm:∀ b u,H b=some u->¬ ZO (some u)->b≠x:=fun b u q nm z=>by subst z;rw[q]at mu;exact nm mu
 refine⟨fun b u q n _ _=>k b u (hb b n) q,fun b u q n _ _=>⟨u.slots,k b u (hb b n) q⟩,fun b u q n _=>by rw[au (hx b n)];exact n,fun b u q _=>?_,
  fun b xs q=>by rw[au (hm b _ q fun z=>z)];exact q,fun b u xs q=>by rw[au (hm b _ q fun z=>z)];exact q,fun b ps q=>⟨#[],by rw[au (hm b _ q fun z=>z),q];simp⟩⟩
 by_cases hbe:b=e
 ·subst hbe;exact heo
 ·exact⟨u,k b u hbe q⟩
end
def Vl (h:Heap)(H:Hp):List Addr:=(List.range h.objs.size).filter fun a=>(H a).isSome
def Hn (h:Heap)(H:Hp):Heap:=PySem.W.hideAll h (Vl h H)
theorem Qm (h:Heap)(H:Hp):(Hn h H).objs.size=h.objs.size:=PySem.W.hideAll_size _ _
theorem Sk {h:Heap}{H:Hp}{b:Addr}{o:Obj}(e:h.get? b=some o)(n:H b=none):(Hn h H).get? b=some o :=
 PySem.W.hideAll_get _ e fun hm=>by
  have q:(H b).isSome=true:=(List.mem_filter.mp hm).2;rw[n]at q;simp at q
theorem Vm {h:Heap}{H:Hp}{b:Addr}{o:Obj}(e:(Hn h H).get? b=some o):h.get? b=some o/\H b=none:=by
 have e':h.get? b=some o:=PySem.W.of_hideAll (Vl h H) e;refine⟨e',?_⟩;cases q:H b with
 |none=>rfl
 |some x =>
  have hm:b∈Vl h H:=List.mem_filter.mpr ⟨mem_range.mpr (Heap.lt_size e'),by simp[q]⟩;have z:(Hn h H).get? b=none:=PySem.W.hideAll_none (Vl h H) hm;rw[z]at e;cases e
def Vn (g h:Heap)(L:Addr):List (Addr×Obj):=(List.range h.objs.size).filterMap fun a=>if a=L\/(g.get? a).isSome=true then none else(h.get? a).map fun o=>(a,o)
def rest (g h:Heap)(L d:Addr):List (Addr×Obj):=(Vn g h L).filter fun p=>decide (p.1≠d)
end L2
namespace L2
open PySem PySem.Spec PyProof.Rows
structure Mod (K:Frag)(mg:Str->Option Value)(base:Heap):Prop where
 kin:K.In base
 glob:base.Ns mainGlobals mg
 blt:∃ mb,base.Ns builtinsNs mb/\∀ x:Str,x ≠ "__name__"->mb x=bootBuiltins x
 nolimit:base.NoLimit
structure Cx where
 prog:Program
 w:World
 K:Frag
 mg:Str->Option Value
 base:Heap
 A:Around
 N:List Str
 s₀:Shared
 H₀:Hp
 env:Env
 outer:List Env
 stack:List Env
 ex:List Addr
 fn:Str->Bool
 calm:Bool
 pn:List (Addr×Obj)
 xe:Value->Shared->Prop
def frs (l:List Env):List Addr:=l.filterMap (·.frame)
abbrev Cx.fs (X:Cx):List Addr:=frs X.outer
def Vis (sc:Scope)(x:Str):Prop:=sc.names.lookup x=some .local\/sc.names.lookup x=some .cell\/sc.names.lookup x=some .free
def Loc (sc:Scope)(x:Str):Prop:=sc.names.lookup x=some .local\/sc.names.lookup x=some .cell
def Look (env:Env)(h:Heap)(m:Str->Option Value)(x:Str)(u:Value):Prop :=
 (env.kindOf x=some .local/\m x=some u)\/((env.kindOf x=some .cell\/env.kindOf x=some .free)/\∃ c,env.cells.lookup x=some c/\h.IsCell c (some u))
structure Cx.Ok (X:Cx):Prop where
 mod:Mod X.K X.mg X.base
 kind:X.env.scope.kind=.function
 glob:X.env.globals=mainGlobals
 blt:X.env.builtins=builtinsNs
 above:X.s₀.heap.objs.size<=X.env.locals
 inj:∀ x y c,X.env.cells.lookup x=some c->X.env.cells.lookup y=some c->x=y
 has:∀ x,(X.env.kindOf x=some .cell\/X.env.kindOf x=some .free)->∃ c,X.env.cells.lookup x=some c
 cab:∀ x c,X.fn x=true->X.env.cells.lookup x=some c->X.s₀.heap.objs.size<=c
 hd:X.calm=true->X.A.handled=none
 frames:X.A.frames=some X.stack
 stk:X.stack=X.outer\/(X.stack=X.env::X.outer/\X.env.frame=some X.env.locals)
 exf:∀ b∈X.ex,b≠X.env.locals/\∀ x c,X.env.cells.lookup x=some c->c≠b
 bs:∀ b o,X.base.get? b=some o->X.s₀.heap.get? b=some o/\X.H₀ b=none
 Vc:X.base.objs.size<=X.s₀.heap.objs.size
 Sl:∀ b o,X.base.get? b=some o->b ∉ X.ex
 Sm:∀ b∈X.ex,b ∉ X.fs
 BI:X.s₀.heap.FunFrames X.base X.outer
 ZF:∀ b∈X.fs,X.H₀ b=none
structure Inv (X:Cx)(pins:List (Addr×Obj))(σ:List (Option V))(H:Hp)(s:Shared):Prop where
 ok:X.Ok
 os:s.os=X.s₀.os
 bare:AllBare s.gens
 base:Un X.fs X.ex X.H₀ H X.s₀.heap s.heap
 loc:∃ m,s.heap.Ns X.env.locals m/\∀(i:Nat)(x:Str)(v:V),X.N[i]? = some x->σ[i]? = some (some v)->Vis X.env.scope x->∃ u,RelV v u/\Look X.env s.heap m x u
 cell:∀ x c,X.env.cells.lookup x=some c->∃ v,s.heap.IsCell c v
 free:H X.env.locals=none
 oy:∀ x c,X.env.cells.lookup x=some c->H c=none
 pin:∀ p∈X.pn++pins,s.heap.get? p.1=some p.2/\H p.1=none/\p.1≠X.env.locals/\p.1 ∉ X.fs/\∀ v,p.2.data≠.cell v
 hok:qv X.prog X.w H s.heap
 len:σ.length=X.N.length
section
variable {X:Cx} {pins:List (Addr×Obj)} {σ:List (Option V)} {H H':Hp} {s:Shared} {h':Heap}
theorem Cx.Ok.acJ (ok:X.Ok){b:Addr}{o:Obj}(e:X.base.get? b=some o):b ∉ X.fs:=fun hb=>by
 have:=(ok.BI.mem hb).1;rw[e]at this;cases this
theorem Inv.bs (I:Inv X pins σ H s):∀ b o,X.base.get? b=some o->s.heap.get? b=some o/\H b=none:=fun b o e =>
 ⟨I.base.keep b o (I.ok.bs b o e).1 (I.ok.bs b o e).2 (I.ok.acJ e) (I.ok.Sl b o e),I.base.free b o (I.ok.bs b o e).1 (I.ok.bs b o e).2 (I.ok.Sl b o e)⟩
theorem Inv.bk (I:Inv X pins σ H s):∀ b o,X.base.get? b=some o->s.heap.get? b=some o:=fun b o e=>(I.bs b o e).1
theorem Inv.mod (I:Inv X pins σ H s):Mod X.K X.mg X.base:=I.ok.mod
theorem Inv.EZ (I:Inv X pins σ H s):X.K.In s.heap:=I.ok.mod.kin.keeps I.bk
theorem Inv.lt (I:Inv X pins σ H s):X.env.locals<s.heap.objs.size:=let ⟨_,hn,_⟩:=I.loc;hn.lt
theorem Inv.sz (I:Inv X pins σ H s):X.s₀.heap.objs.size<=s.heap.objs.size:=Nat.le_trans I.ok.above (Nat.le_of_lt I.lt)
theorem Inv.acK (I:Inv X pins σ H s){a:Addr}(h:s.heap.objs.size<=a):a ∉ X.fs:=fun hb=>by
 obtain⟨_,o,ho,_⟩:=I.ok.BI.mem hb;exact absurd (Nat.lt_of_lt_of_le (Heap.lt_size ho) (Nat.le_trans I.sz h)) (Nat.lt_irrefl _)
theorem Inv.Yh (I:Inv X pins σ H s):∀ x c,X.env.cells.lookup x=some c->c≠X.env.locals:=fun x c e z=>by
 obtain⟨v,o,ho,hd⟩:=I.cell x c e;obtain⟨m,⟨o',es,ep,ho',hd',_⟩,_⟩:=I.loc;rw[z,ho']at ho;cases ho;rw[hd']at hd;cases hd
theorem Inv.BI (I:Inv X pins σ H s):s.heap.FunFrames X.base X.outer:=by
 have all:∀(l:List Env),(∀ b∈frs l,b∈X.fs)->X.s₀.heap.FunFrames X.base l->s.heap.FunFrames X.base l:=by
  intro l
  induction l with
  |nil=>intro _ _;trivial
  |cons env r ih =>
   intro hs hl;obtain⟨hk,⟨L,o,hf,hn,ho,hd⟩,hr⟩:=hl;have hL:L∈X.fs:=hs L (by unfold frs;rw[List.filterMap_cons,hf];exact mem_cons_self);obtain⟨sl,e⟩:=I.base.slot L o ho (I.ok.ZF L hL) hL fun z=>I.ok.Sm L z hL;exact⟨hk,⟨L,_,hf,hn,e,hd⟩,ih (fun b hb=>hs b (by unfold frs;rw[List.filterMap_cons,hf];exact mem_cons_of_mem _ hb)) hr⟩
 exact all X.outer (fun _ hb=>hb) I.ok.BI
theorem Inv.stack (I:Inv X pins σ H s):s.heap.FunFrames X.base X.stack:=by
 rcases I.ok.stk with e|⟨e,hf⟩
 ·rw[e];exact I.BI
 ·rw[e];obtain⟨m,hn,_⟩:=I.loc;refine .cons (by rw[I.ok.kind];decide) hf hn ?_ I.BI;exact Heap.get?_none_of_le (Nat.le_trans I.ok.Vc I.ok.above)
theorem Inv.MK (I:Inv X pins σ H s):∀ b∈frs X.stack,b∈X.env.locals::X.fs:=fun b hb=>by
 rcases I.ok.stk with e|⟨e,hf⟩
 ·rw[e]at hb;exact mem_cons_of_mem _ hb
 ·rw[e]at hb;unfold frs at hb;rw[List.filterMap_cons,hf]at hb;exact hb
theorem Inv.Pc (I:Inv X pins σ H s):∀ b∈frs X.stack,H b=none:=fun b hb=>by
 rcases List.mem_cons.mp (I.MK b hb) with e|hb
 ·rw[e];exact I.free
 ·obtain⟨_,o,ho,_⟩:=I.ok.BI.mem hb;exact I.base.free b o ho (I.ok.ZF b hb) fun z=>I.ok.Sm b z hb
theorem Inv.step {g':Array GenState}{t':Nat}{d':Drawn}{ch:List Addr}(I:Inv X pins σ H s)
  (hch:∀ b∈ch,(b∈X.ex\/X.s₀.heap.objs.size<=b)/\b≠X.env.locals/\(∀ x c,X.env.cells.lookup x=some c->c≠b)/\∀ p∈X.pn++pins,p.1≠b)
  (keep:∀ b o,b≠X.env.locals->b ∉ X.fs->b ∉ ch->s.heap.get? b=some o->H b=none->h'.get? b=some o)
  (slot:∀ b o,b≠X.env.locals->b∈X.fs->b ∉ ch->s.heap.get? b=some o->H b=none->∃ sl,h'.get? b=some { o with slots:=sl }) (free:∀ b o,b ∉ ch->s.heap.get? b=some o->H b=none->H' b=none)
  (there:∀ b o,b ∉ ch->s.heap.get? b=some o->∃ o',h'.get? b=some o')
  (tups:∀ b xs,H b=some (.tup xs)->H' b=some (.tup xs)) (yB:∀ b o u,H b=some (.jC o u)->H' b=some (.jC o u)) (BH:∀ b ps,H b=some (.AK ps)->∃ more,H' b=some (.AK (ps++more)))
  (ns:∀ m,s.heap.Ns X.env.locals m->h'.Ns X.env.locals m) (hok:qv X.prog X.w H' h') (hg:AllBare g') :
  Inv X pins σ H' { s with heap:=h',gens:=g',drawn:=d',toks:=t' }:=by
 have neL:∀ b o,X.s₀.heap.get? b=some o->b≠X.env.locals:=fun b o e=>Nat.ne_of_lt (Nat.lt_of_lt_of_le (Heap.lt_size e) I.ok.above);have W8:∀ b o,X.s₀.heap.get? b=some o->b ∉ X.ex->b ∉ ch:=fun b o e hx hb=>by
  rcases (hch b hb).1 with z|z
  ·exact hx z
  ·exact absurd (Nat.lt_of_lt_of_le (Heap.lt_size e) z) (Nat.lt_irrefl _)
 have cellK:∀ x c,X.env.cells.lookup x=some c->∀ v,s.heap.IsCell c v->h'.IsCell c v:=fun x c e v ⟨o,ho,hd⟩=>by
  have ZQ:c ∉ ch:=fun z=>(hch c z).2.2.1 x c e rfl
  by_cases hc:c∈X.fs
  ·obtain⟨sl,q⟩:=slot c o (I.Yh x c e) hc ZQ ho (I.oy x c e);exact⟨_,q,hd⟩
  ·exact⟨o,keep c o (I.Yh x c e) hc ZQ ho (I.oy x c e),hd⟩
 refine⟨I.ok,I.os,hg,⟨fun b o e n hb hx=>?_,fun b o e n hb hx=>?_,fun b o e n hx=>?_,fun b o e hx=>?_,fun b xs e=>tups b xs (I.base.tups b xs e),fun b o xs e=>yB b o xs (I.base.yB b o xs e),fun b ps e=>?_⟩,?_,fun x c e=>?_,?_,fun x c e=>?_,fun p hp=>?_,hok,I.len⟩
 ·exact keep b o (neL b o e) hb (W8 b o e hx) (I.base.keep b o e n hb hx) (I.base.free b o e n hx)
 ·obtain⟨sl,e1⟩:=I.base.slot b o e n hb hx;obtain⟨sl',e2⟩:=slot b _ (neL b o e) hb (W8 b o e hx) e1 (I.base.free b o e n hx);exact⟨sl',e2⟩
 ·obtain⟨o',e1⟩:=I.base.there b o e hx;exact free b o' (W8 b o e hx) e1 (I.base.free b o e n hx)
 ·obtain⟨o',e1⟩:=I.base.there b o e hx;exact there b o' (W8 b o e hx) e1
 ·obtain⟨m1,e1⟩:=I.base.BH b ps e;obtain⟨m2,e2⟩:=BH b _ e1;exact⟨m1++m2,by rw[e2,Array.append_assoc]⟩
 ·obtain⟨m,hn,hl⟩:=I.loc;refine⟨m,ns m hn,fun i x v e1 e2 e3=>?_⟩;obtain⟨u,r,l⟩:=hl i x v e1 e2 e3;refine⟨u,r,?_⟩;rcases l with l|⟨k,c,e,z⟩
  ·exact .inl l
  ·exact .inr ⟨k,c,e,cellK x c e _ z⟩
 ·obtain⟨v,z⟩:=I.cell x c e;exact⟨v,cellK x c e v z⟩
 ·obtain⟨m,⟨o,_,_,ho,_⟩,_⟩:=I.loc;exact free _ o (fun z=>(hch _ z).2.1 rfl) ho I.free
 ·obtain⟨v,o,ho,hd⟩:=I.cell x c e;exact free c o (fun z=>(hch c z).2.2.1 x c e rfl) ho (I.oy x c e)
 ·obtain⟨e,n,ne,nf,d⟩:=I.pin p hp;have ZQ:p.1 ∉ ch:=fun z=>(hch p.1 z).2.2.2 p hp rfl;exact⟨keep p.1 p.2 ne nf ZQ e n,free p.1 p.2 ZQ e n,ne,nf,d⟩
theorem Inv.un {t':Nat}(I:Inv X pins σ H s)(u:Un X.fs [] H H' s.heap h')(hok:qv X.prog X.w H' h'):Inv X pins σ H' { s with heap:=h',toks:=t' }:=by
 obtain⟨m,⟨o,es,ep,ho,r⟩,_⟩:=id I.loc;obtain⟨sl,hL⟩:=u.any ho I.free (by simp);exact I.step (g':=s.gens) (d':=s.drawn) (ch:=[]) (fun _ z=>nomatch z) (fun b o _ hb _ e n=>u.keep b o e n hb (by simp)) (fun b o _ hb _ e n=>u.slot b o e n hb (by simp)) (fun b o _ e n=>u.free b o e n (by simp)) (fun b o _ e=>u.there b o e (by simp)) u.tups u.yB u.BH (fun m' hm=>by
  obtain⟨o',es',ep',ho',r'⟩:=hm;rw[ho]at ho';cases ho';exact⟨_,es',ep',hL,r'⟩) hok I.bare
theorem Inv.call {g':Array GenState}{t':Nat}{d':Drawn}{ch:List Addr}(I:Inv X pins σ H s)(u:Un (frs X.stack) ch H H' s.heap h')(hok:qv X.prog X.w H' h')(hg:AllBare g')
  (hch:∀ b∈ch,(b∈X.ex\/X.s₀.heap.objs.size<=b)/\b≠X.env.locals/\(∀ x c,X.env.cells.lookup x=some c->c≠b)/\∀ p∈X.pn++pins,p.1≠b) :
  Inv X pins σ H' { s with heap:=h',gens:=g',drawn:=d',toks:=t' }:=by
 obtain⟨m,⟨o,es,ep,ho,r⟩,_⟩:=id I.loc;obtain⟨sl,hL⟩:=u.any ho I.free fun z=>(hch _ z).2.1 rfl;exact I.step (ch:=ch) hch (fun b o hL hb hc e n=>u.keep b o e n (fun z=>(List.mem_cons.mp (I.MK b z)).elim hL hb) hc) (fun b o _ _ hc e n=>u.any e n hc) (fun b o hc e n=>u.free b o e n hc) (fun b o hc e=>u.there b o e hc) u.tups u.yB u.BH (fun m' hm=>by
  obtain⟨o',es',ep',ho',r'⟩:=hm;rw[ho]at ho';cases ho';exact⟨_,es',ep',hL,r'⟩) hok hg
theorem Inv.turned {t':Nat}{it:Addr}(I:Inv X pins σ H s)(k:∀ b o,b≠it->s.heap.get? b=some o->h'.get? b=some o)(hn:H it=none)(hL:it≠X.env.locals)
  (h1:it∈X.ex\/X.s₀.heap.objs.size<=it) (h2:∀ x c,X.env.cells.lookup x=some c->c≠it) (h3:∀ p∈X.pn++pins,p.1≠it):Inv X pins σ H { s with heap:=h',toks:=t' }:=by
 have nit:∀ b u,H b=some u->b≠it:=fun b u e z=>by rw[z,hn]at e;cases e
 refine I.step (g':=s.gens) (d':=s.drawn) (ch:=[it]) (fun b hb=>?_) (fun b o _ _ hc e _=>k b o (fun z=>hc (by simp[z])) e) (fun b o _ _ hc e _=>⟨o.slots,k b o (fun z=>hc (by simp[z])) e⟩) (fun _ _ _ _ n=>n)
  (fun b o hc e=>⟨o,k b o (fun z=>hc (by simp[z])) e⟩) (fun _ _ e=>e) (fun _ _ _ e=>e) (fun b ps e=>⟨#[],by rw[e];simp⟩) (fun m hm=>?_) (fun b u e=>?_) I.bare
 ·have e:b=it:=by simpa using hb
  subst e;exact⟨h1,hL,h2,h3⟩
 ·obtain⟨o,es,ep,ho,r⟩:=hm;exact⟨o,es,ep,k _ o (Ne.symm hL) ho,r⟩
 ·refine(I.hok b u e).stay (fun c v hc q=>k c v ?_ q) (fun _ q=>q) fun _ _ q=>q;rcases hc with z|z
  ·rw[z];exact nit b u e
  ·exact nit c _ z
theorem Inv.tok (I:Inv X pins σ H s)(t:Nat):Inv X pins σ H { s with toks:=t }:=I.un (h':=s.heap) (t':=t) Un.refl I.hok
theorem Inv.kept {t':Nat}(I:Inv X pins σ H s)(k:∀ b u,s.heap.get? b=some u->h'.get? b=some u):Inv X pins σ H { s with heap:=h',toks:=t' }:=I.un (Un.kept k) (I.hok.kept k)
theorem Inv.laid {a:Addr}{o:HO}{t':Nat}(I:Inv X pins σ H s)(k:∀ b u,s.heap.get? b=some u->h'.get? b=some u)(hp:s.heap.objs.size<=a)(new:cB X.prog X.w (upd H a o) h' a o) :
  Inv X pins σ (upd H a o) { s with heap:=h',toks:=t' }:=I.un (Un.laid k hp (I.hok.fresh hp)) (I.hok.laid k hp new)
theorem Inv.write {x e:Addr}{o:HO}{t':Nat}(I:Inv X pins σ H s)(mu:ZO (H x))(he:e=x\/H e=some (.own x))(k:∀ b u,b≠e->s.heap.get? b=some u->h'.get? b=some u)(heo:∃ u,h'.get? e=some u)
  (new:cB X.prog X.w (upd H x o) h' x o):Inv X pins σ (upd H x o) { s with heap:=h',toks:=t' }:=I.un (Un.write mu he k heo) (I.hok.write mu he k heo new)
theorem Inv.Pd {Sn:List (Addr×Obj)}(I:Inv X pins σ H s)(h:∀ p∈Sn,s.heap.get? p.1=some p.2/\H p.1=none/\p.1≠X.env.locals/\p.1 ∉ X.fs/\∀ v,p.2.data≠.cell v):Inv X Sn σ H s :=
 ⟨I.ok,I.os,I.bare,I.base,I.loc,I.cell,I.free,I.oy,fun p hp=>(mem_append.mp hp).elim (fun z=>I.pin p (mem_append_left _ z)) (h p),I.hok,I.len⟩
theorem Lb {N:List Str}(hN:N.Nodup){i j:Nat}{x:Str}(a:N[i]? = some x)(b:N[j]? = some x):i=j:=by
 obtain⟨h1,e1⟩:=List.getElem?_eq_some_iff.mp a;obtain⟨h2,e2⟩:=List.getElem?_eq_some_iff.mp b;exact(List.getElem_inj hN).mp (e1.trans e2.symm)
theorem Gu {M:Model}{A:Around}{E:Value->Shared->Prop}{i:Nat}{x:Str}{v:V}{u:Value}{Q:Unit->Shared->Prop}(I:Inv X pins σ H s)(hN:X.N.Nodup)(hi:X.N[i]? = some x)(hx:Loc X.env.scope x)(r:RelV v u)
  (h:∀ s',Inv X pins (σ.set i (some v)) H s'->(∃ a,Heap.SameBut a s.heap s'.heap/\(a=X.env.locals\/X.env.cells.lookup x=some a))->Q () s') (hf:X.fn x=true\/X.env.scope.names.lookup x=some .local:=by first|exact .inl rfl|exact .inr rfl|assumption):wpAny M A (storeName X.env x u) Q E s:=by
 obtain⟨m,hn,hl⟩:=id I.loc;have hcls:(X.env.scope.kind == .class||(X.env.scope.kind == .module&&X.env.locals != X.env.globals))=false:=by rw[I.ok.kind];rfl
 have aeY:i<σ.length:=by rw[I.len];exact(List.getElem?_eq_some_iff.mp hi).1
 have Yh:=I.Yh;have tracked:∀{a:Addr} {h':Heap},(∃ o,s.heap.get? a=some o/\H a=none)->Heap.SameBut a s.heap h'->qv X.prog X.w H h':=fun {a h'} ha hs b ob e=>by
  obtain⟨_,_,hfree⟩:=ha;refine(I.hok b ob e).stay (fun c w' hc q=>(hs.2 c ?_).trans q) (fun _ q=>q) fun _ _ q=>q;rintro rfl;rcases hc with rfl|hc
  ·rw[hfree]at e;cases e
  ·rw[hfree]at hc;cases hc
 rcases hx with hk|hk
 ·refine wpAny_storeName_local hk hn (fun h' hn' hs=>?_) hcls;obtain⟨oL,_,_,hoL,_⟩:=id hn;refine h _ ⟨I.ok,I.os,I.bare,⟨fun b o e n hb hx=>?_,fun b o e n hb hx=>?_,I.base.free,fun b o e hx=>?_,I.base.tups,I.base.yB,I.base.BH⟩,⟨_,hn',fun j y v' e1 e2 e3=>?_⟩,fun y c e=>?_,I.free,I.oy,fun p hp=>?_,tracked ⟨oL,hoL,I.free⟩ hs,by simpa using I.len⟩ ⟨_,hs,.inl rfl⟩
  ·exact(hs.2 b (Nat.ne_of_lt (Nat.lt_of_lt_of_le (Heap.lt_size e) I.ok.above))).trans (I.base.keep b o e n hb hx)
  ·obtain⟨sl,e1⟩:=I.base.slot b o e n hb hx;exact⟨sl,(hs.2 b (Nat.ne_of_lt (Nat.lt_of_lt_of_le (Heap.lt_size e) I.ok.above))).trans e1⟩
  ·obtain⟨o',e1⟩:=I.base.there b o e hx;exact⟨o',(hs.2 b (Nat.ne_of_lt (Nat.lt_of_lt_of_le (Heap.lt_size e) I.ok.above))).trans e1⟩
  ·by_cases hj:j=i
   ·subst hj;rw[hi]at e1;cases e1;rw[List.getElem?_set_self aeY]at e2;cases e2;exact⟨u,r,.inl ⟨hk,by simp⟩⟩
   ·rw[List.getElem?_set_ne (Ne.symm hj)]at e2;obtain⟨u',r',q⟩:=hl j y v' e1 e2 e3;refine⟨u',r',?_⟩;rcases q with ⟨k,e⟩|⟨k,c,e,z⟩
    ·refine .inl ⟨k,?_⟩;have:y≠x:=fun e=>hj (Lb hN e1 (e ▸ hi));simp[this,e]
    ·exact .inr ⟨k,c,e,z.sameBut hs (Yh y c e)⟩
  ·obtain⟨w',z⟩:=I.cell y c e;exact⟨w',z.sameBut hs (Yh y c e)⟩
  ·obtain⟨e,n,ne,nf,d⟩:=I.pin p hp;exact⟨(hs.2 p.1 ne).trans e,n,ne,nf,d⟩
 ·have hfn:X.fn x=true:=by
   rcases hf with z|z
   ·exact z
   ·rw[z]at hk;cases hk
  obtain⟨c,hc⟩:=I.ok.has x (.inl hk);obtain⟨w',z⟩:=I.cell x c hc;refine wpAny_storeName_cell I.ok.kind hk hc z (fun h' hc' hs=>?_);obtain⟨oc,hoc,acL⟩:=id z;refine h { s with heap:=h' } ⟨I.ok,I.os,I.bare,⟨fun b o e n hb hx=>?_,fun b o e n hb hx=>?_,I.base.free,fun b o e hx=>?_,I.base.tups,I.base.yB,I.base.BH⟩,⟨m,hn.sameBut hs (Ne.symm (Yh x c hc)),fun j y v' e1 e2 e3=>?_⟩,fun y c' e=>?_,I.free,I.oy,fun p hp=>?_,tracked ⟨oc,hoc,I.oy x c hc⟩ hs,by simpa using I.len⟩ ⟨c,hs,.inr hc⟩
  ·exact(hs.2 b (Nat.ne_of_lt (Nat.lt_of_lt_of_le (Heap.lt_size e) (I.ok.cab x c hfn hc)))).trans (I.base.keep b o e n hb hx)
  ·obtain⟨sl,e1⟩:=I.base.slot b o e n hb hx;exact⟨sl,(hs.2 b (Nat.ne_of_lt (Nat.lt_of_lt_of_le (Heap.lt_size e) (I.ok.cab x c hfn hc)))).trans e1⟩
  ·obtain⟨o',e1⟩:=I.base.there b o e hx;exact⟨o',(hs.2 b (Nat.ne_of_lt (Nat.lt_of_lt_of_le (Heap.lt_size e) (I.ok.cab x c hfn hc)))).trans e1⟩
  ·by_cases hj:j=i
   ·subst hj;rw[hi]at e1;cases e1;rw[List.getElem?_set_self aeY]at e2;cases e2;exact⟨u,r,.inr ⟨.inl hk,c,hc,hc'⟩⟩
   ·rw[List.getElem?_set_ne (Ne.symm hj)]at e2;obtain⟨u',r',q⟩:=hl j y v' e1 e2 e3;refine⟨u',r',?_⟩;rcases q with q|⟨k,c',e,z'⟩
    ·exact .inl q
    ·refine .inr ⟨k,c',e,z'.sameBut hs ?_⟩;rintro rfl;exact hj (Lb hN e1 (I.ok.inj _ _ _ e hc ▸ hi))
  ·by_cases hcc:c'=c
   ·subst hcc;exact⟨_,hc'⟩
   ·obtain⟨w2,z2⟩:=I.cell y c' e;exact⟨w2,z2.sameBut hs hcc⟩
  ·obtain⟨e,n,ne,nf,d⟩:=I.pin p hp;refine⟨(hs.2 p.1 ?_).trans e,n,ne,nf,d⟩;intro q;rw[q,hoc]at e;have q':oc=p.2:=Option.some.inj e;exact d w' (by rw[<-q'];exact acL)
theorem sQ {M:Model}{A:Around}{E:Value->Shared->Prop}{i:Nat}{x:Str}{v:V}{u:Value}{Q:Unit->Shared->Prop}(I:Inv X pins σ H s)(hN:X.N.Nodup)(hi:X.N[i]? = some x)(hx:Loc X.env.scope x)(r:RelV v u)
  (h:∀ s',Inv X pins (σ.set i (some v)) H s'->Q () s') (hf:X.fn x=true\/X.env.scope.names.lookup x=some .local:=by first|exact .inl rfl|exact .inr rfl|assumption):wpAny M A (storeName X.env x u) Q E s :=
 Gu I hN hi hx r (fun s' I' _=>h s' I') hf
theorem Inv.call' {s':Shared}{ch:List Addr}(I:Inv X pins σ H s)(ho:s'.os=s.os)(u:Un (frs X.stack) ch H H' s.heap s'.heap)(hok:qv X.prog X.w H' s'.heap)(hg:AllBare s'.gens)
  (hch:∀ b∈ch,(b∈X.ex\/X.s₀.heap.objs.size<=b)/\b≠X.env.locals/\(∀ x c,X.env.cells.lookup x=some c->c≠b)/\∀ p∈X.pn++pins,p.1≠b):Inv X pins σ H' s':=by
 obtain⟨h',g',d',t',o'⟩:=s';have e:o'=s.os:=ho;subst e;exact I.call (g':=g') (t':=t') (d':=d') u hok hg hch
end
abbrev XK:=Value->Option Addr->Hp->Prop
abbrev St:=List (Option V)
abbrev VK:=V->Hp->Prop
abbrev TE:=St->Hp->VK->Prop
abbrev TT:=St->Hp->(Bool->Hp->Prop)->Prop
abbrev TA:=St->Hp->(List V->Hp->Prop)->Prop
structure Ends where
 nx:St->Hp->Prop
 rt:VK
 bk:St->Hp->Prop:=fun _ _=>False
 ct:St->Hp->Prop:=fun _ _=>False
abbrev TS:=Ends->St->Hp->Prop
def EP (X:Cx)(pins:List (Addr×Obj))(σ:St)(Q:VK)(u:Value)(s':Shared):Prop:=∃ v H',Inv X pins σ H' s'/\RelV v u/\Q v H'
def TP (X:Cx)(pins:List (Addr×Obj))(σ:St)(Q:Bool->Hp->Prop)(b:Bool)(s':Shared):Prop:=∃ H',Inv X pins σ H' s'/\Q b H'
def AP (X:Cx)(pins:List (Addr×Obj))(σ:St)(Q:List V->Hp->Prop)(us:List Value)(s':Shared):Prop:=∃ vs H',Inv X pins σ H' s'/\Vals vs us/\Q vs H'
def SP (X:Cx)(pins:List (Addr×Obj))(D:Ends)(f:Flow)(s':Shared):Prop :=
 match f with
 |.next=>∃ σ' H',Inv X pins σ' H' s'/\D.nx σ' H'
 |.brk=>∃ σ' H',Inv X pins σ' H' s'/\D.bk σ' H'
 |.cont=>∃ σ' H',Inv X pins σ' H' s'/\D.ct σ' H'
 |.ret u=>∃ v σ' H',Inv X pins σ' H' s'/\RelV v u/\D.rt v H'
def PE (X:Cx)(e:Expr)(t:TE):Prop :=
 ∀(pins:List (Addr×Obj)) (s:Shared) (σ:St) (H:Hp) (Q:VK),Inv X pins σ H s->t σ H Q->wpAny (model X.prog X.w) X.A (eval e X.env) (EP X pins σ Q) X.xe s
def PT (X:Cx)(e:Expr)(t:TT):Prop :=
 ∀(pins:List (Addr×Obj)) (s:Shared) (σ:St) (H:Hp) (Q:Bool->Hp->Prop),Inv X pins σ H s->t σ H Q->wpAny (model X.prog X.w) X.A (isTrue e X.env (eval e X.env)) (TP X pins σ Q) X.xe s
def PW (X:Cx)(e:Expr)(t:TT):Prop :=
 ∀(whole:Sem Value)(pins:List (Addr×Obj)) (s:Shared) (σ:St) (H:Hp) (Q:Bool->Hp->Prop),Inv X pins σ H s->t σ H Q->wpAny (model X.prog X.w) X.A (isTrue e X.env whole) (TP X pins σ Q) X.xe s
theorem PW.pt {X:Cx}{e:Expr}{t:TT}(h:PW X e t):PT X e t:=h _
def PA (X:Cx)(es:List Expr)(t:TA):Prop :=
 ∀(pos:Pos)(pins:List (Addr×Obj)) (s:Shared) (σ:St) (H:Hp) (Q:List V->Hp->Prop),Inv X pins σ H s->t σ H Q->wpAny (model X.prog X.w) X.A (spliced (backTo pos (starEach es X.env))) (AP X pins σ Q) X.xe s
def PS (X:Cx)(st:Stmt)(t:TS):Prop :=
 ∀(pins:List (Addr×Obj)) (s:Shared) (σ:St) (H:Hp) (D:Ends),Inv X pins σ H s->t D σ H->wpAny (model X.prog X.w) X.A (exec st X.env) (SP X pins D) X.xe s
def Lc (X:Cx)(st:List Stmt)(t:TS):Prop :=
 ∀(pins:List (Addr×Obj)) (s:Shared) (σ:St) (H:Hp) (D:Ends),Inv X pins σ H s->t D σ H->wpAny (model X.prog X.w) X.A (execs st X.env) (SP X pins D) X.xe s
theorem cI {α:Type}{t:Sem α}{Q Q':α->Shared->Prop}{M:Model}{A:Around}{E:Value->Shared->Prop}{s:Shared}(h:wpAny M A t Q E s)(hQ:∀ a s,Q a s->Q' a s):wpAny M A t Q' E s:=wpAny_mono h hQ fun _ _ x=>x
end L2
namespace L2
open PySem PySem.Spec PyProof.Rows
section
variable {X:Cx}
inductive W9 (i:Nat)(σ:St)(H:Hp)(Q:VK):Prop
 |mk (v:_) (qw:σ[i]? = some (some v)) (qx:Q v H):W9 i σ H Q
def Yi (i:Nat):TE:=fun σ H Q=>W9 i σ H Q
def tC (v:V):TE:=fun _ H Q=>Q v H
theorem Yj {i:Nat}{x:Str}{pos:Pos}(hN:X.N[i]? = some x)(hv:Vis X.env.scope x)(hd:(x==("__debug__":Str))=false:=by decide)(hcd:(x==("__classdict__":Str))=false:=by decide):PE X (.Name x pos) (Yi i):=by
 intro pins s σ H Q I h;obtain⟨v,e,h⟩:=h;obtain⟨m,hn,hl⟩:=I.loc;obtain⟨u,r,l⟩:=hl i x v hN e hv;have fin:EP X pins σ Q u s:=⟨v,H,I,r,h⟩;rcases l with ⟨hk,hm⟩|⟨hk,c,hc,hcell⟩
 ·exact wpAny_Name (wpAny_loadName_local I.ok.kind hk hn hm fin) hd
 ·rcases hk with hk|hk
  ·exact wpAny_Name (wpAny_loadName_cell I.ok.kind hk hc hcell fin) hd
  ·exact wpAny_Name (wpAny_loadName_free I.ok.kind hk hc hcell fin hcd) hd
theorem ah {i j pos}:PE X (.Constant (.int i) j pos) (tC (.int i)):=fun _ _ _ H _ I h=>wpAny_Constant_int ⟨.int i,H,I.tok _,⟨_,rfl⟩,h⟩
theorem qy {b j pos}:PE X (.Constant (.bool b) j pos) (tC (.bl b)):=fun _ _ _ H _ I h=>Constant_bool ⟨.bl b,H,I,rfl,h⟩
theorem eV {j pos}:PE X (.Constant .none j pos) (tC .non):=fun _ _ _ H _ I h=>Constant_none ⟨.non,H,I,rfl,h⟩
theorem aJ {x j pos}:PE X (.Constant (.str x) j pos) (tC (.str x)):=fun _ _ _ H _ I h=>Calls.Constant_str ⟨.str x,H,I.tok _,⟨_,rfl⟩,h⟩
def Gl (X:Cx)(x:Str):Prop:=X.env.kindOf x=some .globalImplicit
theorem Pe {E:Value->Shared->Prop}{pins:List (Addr×Obj)}{s:Shared}{σ:St}{H:Hp}{x:Str}{u:Value}{pos:Pos}{Q:Value->Shared->Prop}(I:Inv X pins σ H s)(hg:Gl X x)(hm:X.mg x=some u)(h:Q u s)
  (hd:(x==("__debug__":Str))=false:=by decide):wpAny (model X.prog X.w) X.A (eval (.Name x pos) X.env) Q E s :=
 Calls.Name_function_global I.ok.kind hg (Calls.loadGlobal_global (by rw[I.ok.glob];exact I.mod.glob.keeps I.bk) hm h) hd
theorem vB {E:Value->Shared->Prop}{pins:List (Addr×Obj)}{s:Shared}{σ:St}{H:Hp}{x:Str}{u:Value}{pos:Pos}{Q:Value->Shared->Prop}(I:Inv X pins σ H s)(hg:Gl X x)(hm:X.mg x=none)(hv:bootBuiltins x=some u)(h:Q u s)
  (hn:x ≠ "__name__":=by decide) (hd:(x==("__debug__":Str))=false:=by decide):wpAny (model X.prog X.w) X.A (eval (.Name x pos) X.env) Q E s:=by
 obtain⟨mb,h1,h2⟩:=I.mod.blt;exact Calls.Name_function_global I.ok.kind hg (Calls.loadGlobal_builtin (by rw[I.ok.glob];exact I.mod.glob.keeps I.bk) hm (by rw[I.ok.blt];exact h1.keeps I.bk) ((h2 x hn).trans hv) h) hd
theorem cb {x:Str}{v:V}{u:Value}{pos:Pos}(hg:Gl X x)(hm:X.mg x=some u)(r:RelV v u)(hd:(x==("__debug__":Str))=false:=by decide):PE X (.Name x pos) (tC v) :=
 fun _ _ _ H _ I h=>Pe I hg hm ⟨v,H,I,r,h⟩ hd
theorem qb {x:Str}{v:V}{u:Value}{pos:Pos}(hg:Gl X x)(hm:X.mg x=none)(hv:bootBuiltins x=some u)(r:RelV v u)(hn:x ≠ "__name__":=by decide)(hd:(x==("__debug__":Str))=false:=by decide):PE X (.Name x pos) (tC v) :=
 fun _ _ _ H _ I h=>vB I hg hm hv ⟨v,H,I,r,h⟩ hn hd
variable {a b:Expr} {ta tb:TE} {pos:Pos}
def PC (X:Cx)(op:CmpOp)(a b:Expr)(t:TE):Prop :=
 ∀(pins:List (Addr×Obj)) (s:Shared) (σ:St) (H:Hp) (Q:VK),Inv X pins σ H s->t σ H Q ->
  wpAny (model X.prog X.w) X.A (eval a X.env) (fun v s₁=>wpAny (model X.prog X.w) X.A (eval b X.env) (fun u s₂=>wpAny (model X.prog X.w) X.A (compareOp op v u) (EP X pins σ Q) X.xe s₂) X.xe s₁) X.xe s
def tB (t:TE):TT:=fun σ H Q=>t σ H fun x H1=>∃ c,x=.bl c/\Q c H1
theorem Yk {op:CmpOp}{t:TE}(h:PC X op a b t)(h1:behindInMarks op b=false:=by first|exact ZR _ (by decide) (by decide)|rfl):PT X (.Compare a [op] [b] pos) (tB t):=by
 intro pins s σ H Q I hw;refine wpAny_isTrue_Compare1 (cI (h pins s σ H _ I hw) fun v s1 h1=>cI h1 fun u s2 h2=>cI h2 fun c s3 ⟨x,H1,I1,r1,q1⟩=>?_) h1;obtain⟨d,rfl,q⟩:=q1;cases r1;exact wpAny_truthy_bool ⟨H1,I1,q⟩
theorem cJ {e:Expr}{t:TE}(h:PE X e t)(he:∀ whole,isTrue e X.env whole=(do let v <-whole;standAt e.pos;holding [v] (truthy v)):=by intro _;rfl):PT X e (tB t):=by
 intro pins s σ H Q I hw;refine isTrue_plain (cI (h pins s σ H _ I hw) fun v s1 ⟨x,H1,I1,r1,q1⟩=>?_) (he _);obtain⟨d,rfl,q⟩:=q1;cases r1;exact wpAny_truthy_bool ⟨H1,I1,q⟩
variable {tA tB':TT} {rest:List Expr}
def acM (t u:TT):TT:=fun σ H Q=>t σ H fun c H1=>if c=true then u σ H1 Q else Q false H1
def tOr (t u:TT):TT:=fun σ H Q=>t σ H fun c H1=>if c=true then Q true H1 else u σ H1 Q
def acN (t:TT):TT:=fun σ H Q=>t σ H fun c H1=>Q (!c) H1
theorem df (ha:PT X a tA):PW X (.BoolOp .And [a] pos) tA:=by
 intro wh pins s σ H Q I h;refine isTrue_and (cI (ha pins s σ H Q I h) fun c s1 e=>?_);cases c with
 |true=>exact isTrue_and_nil e
 |false=>exact e
theorem ir (ha:PT X a tA):PW X (.BoolOp .Or [a] pos) tA:=by
 intro wh pins s σ H Q I h;refine isTrue_or (cI (ha pins s σ H Q I h) fun c s1 e=>?_);cases c with
 |false=>exact isTrue_or_nil e
 |true=>exact e
theorem cq (ha:PT X a tA)(hb:PW X (.BoolOp .And (b::rest) pos) tB'):PW X (.BoolOp .And (a::b::rest) pos) (acM tA tB'):=by
 intro wh pins s σ H Q I h;refine isTrue_and (cI (ha pins s σ H _ I h) fun c s1 ⟨H1,I1,q1⟩=>?_);cases c with
 |true=>exact hb wh pins s1 σ H1 Q I1 q1
 |false=>exact⟨H1,I1,q1⟩
theorem jQ (ha:PT X a tA)(hb:PW X (.BoolOp .Or (b::rest) pos) tB'):PW X (.BoolOp .Or (a::b::rest) pos) (tOr tA tB'):=by
 intro wh pins s σ H Q I h;refine isTrue_or (cI (ha pins s σ H _ I h) fun c s1 ⟨H1,I1,q1⟩=>?_);cases c with
 |true=>exact⟨H1,I1,q1⟩
 |false=>exact hb wh pins s1 σ H1 Q I1 q1
theorem jR (ha:PT X a tA):PT X (.UnaryOp .Not a pos) (acN tA):=by
 intro pins s σ H Q I h;exact isTrue_not (ha pins s σ H (fun c H1=>Q (!c) H1) I h)
def ZS (ta tb:TE):TE:=fun σ H Q=>ta σ H fun x H1=>∃ c,x=.bl c/\if c=true then tb σ H1 Q else Q (.bl false) H1
def acO (ta tb:TE):TE:=fun σ H Q=>ta σ H fun x H1=>∃ c,x=.bl c/\if c=true then Q (.bl true) H1 else tb σ H1 Q
def ZT (ta:TE):TE:=fun σ H Q=>ta σ H fun x H1=>∃ c,x=.bl c/\Q (.bl (!c)) H1
theorem oz {op}{t:TE}(h:PE X a t):PE X (.BoolOp op [a] pos) t:=fun pins s σ H Q I hw=>BoolOp_one (h pins s σ H Q I hw)
theorem oA (ha:PE X a ta)(hb:PE X (.BoolOp .And (b::rest) pos) tb):PE X (.BoolOp .And (a::b::rest) pos) (ZS ta tb):=by
 intro pins s σ H Q I h;refine BoolOp_and (cI (ha pins s σ H _ I h) fun v s1 ⟨x,H1,I1,r1,q1⟩=>?_);obtain⟨c,rfl,q1⟩:=q1;cases r1;refine wpAny_truthy_bool ?_;cases c with
 |true=>exact hb pins s1 σ H1 Q I1 q1
 |false=>exact⟨.bl false,H1,I1,rfl,q1⟩
theorem So (ha:PE X a ta)(hb:PE X (.BoolOp .Or (b::rest) pos) tb):PE X (.BoolOp .Or (a::b::rest) pos) (acO ta tb):=by
 intro pins s σ H Q I h;refine BoolOp_or (cI (ha pins s σ H _ I h) fun v s1 ⟨x,H1,I1,r1,q1⟩=>?_);obtain⟨c,rfl,q1⟩:=q1;cases r1;refine wpAny_truthy_bool ?_;cases c with
 |false=>exact hb pins s1 σ H1 Q I1 q1
 |true=>exact⟨.bl true,H1,I1,rfl,q1⟩
theorem Yl (ha:PE X a ta):PE X (.UnaryOp .Not a pos) (ZT ta):=by
 intro pins s σ H Q I h;refine UnaryOp_ (cI (ha pins s σ H _ I h) fun v s1 ⟨x,H1,I1,r1,q1⟩=>?_);obtain⟨c,rfl,q1⟩:=q1;cases r1;exact not_of (wpAny_truthy_bool ⟨.bl (!c),H1,I1,rfl,q1⟩)
def tIf (t:TT)(ta tb:TE):TE:=fun σ H Q=>t σ H fun c H1=>if c=true then ta σ H1 Q else tb σ H1 Q
theorem lL {c:Expr}(hc:PT X c tA)(ha:PE X a ta)(hb:PE X b tb):PE X (.IfExp c a b pos) (tIf tA ta tb):=by
 intro pins s σ H Q I h;refine wpAny_IfExp (cI (hc pins s σ H _ I h) fun d s1 ⟨H1,I1,q1⟩=>?_);cases d with
 |true=>exact ha pins s1 σ H1 Q I1 q1
 |false=>exact hb pins s1 σ H1 Q I1 q1
end
end L2
namespace L2
open PySem PySem.Spec PyProof.Rows
def a6 (K:Frag)(H:Hp)(a:Addr)(xs:List V):Prop :=
 Rd H a (.lst xs) \/
  ∃(o:Obj)(its:Array Value)(n:Nat),K.lookup a=some o/\o.cls=.type "list"/\o.dict=none/\o.data=.seq its n/\its.size<=sizeLine/\Vals xs its.toList
def dc (K:Frag)(H:Hp)(a:Addr)(xs:List V):Prop :=
 Rd H a (.tup xs) \/
  ∃(o:Obj)(its:Array Value)(n:Nat),K.lookup a=some o/\o.cls=.type "tuple"/\o.data=.seq its n/\its.size<=sizeLine/\Vals xs its.toList
def acP:Value->Option V
 |.none=>some .non
 |.bool b=>some (.bl b)
 |.int i _=>some (.int i)
 |.str x _=>some (.str x)
 |.bytes b _=>some (.Sj b)
 |.float b _=>some (.flt b)
 |.ref a=>some (.ref a)
 |.type n=>some (.ty n)
 |_=>none
theorem RelV.abs {x:V}{u:Value}(r:RelV x u):acP u=some x:=by
 cases x with
 |non=>cases r;rfl
 |bl _=>cases r;rfl
 |int _=>obtain⟨t,rfl⟩:=r;rfl
 |str _=>obtain⟨t,rfl⟩:=r;rfl
 |Sj _=>obtain⟨t,rfl⟩:=r;rfl
 |flt _=>obtain⟨t,rfl⟩:=r;rfl
 |ref _=>cases r;rfl
 |ty _=>cases r;rfl
theorem RelV.inj {x y:V}{u:Value}(r:RelV x u)(q:RelV y u):x=y:=Option.some.inj (r.abs.symm.trans q.abs)
theorem Vals.inj:∀{xs ys:List V} {us:List Value},Vals xs us->Vals ys us->xs=ys
 |_,_,_,.nil,.nil=>rfl
 |_,_,_,.cons r t,.cons r' t'=>by rw[r.inj r',Vals.inj t t']
section
variable {X:Cx} {pins:List (Addr×Obj)} {σ:St} {H:Hp} {s:Shared} {a:Addr} {xs ys:List V}
theorem a6.of {K:Frag}(h:H a=some (.lst xs)):a6 K H a xs:=.inl (.inl h)
theorem dc.of {K:Frag}(h:H a=some (.tup xs)):dc K H a xs:=.inl (.inl h)
theorem Inv.list (I:Inv X pins σ H s)(h:a6 X.K H a xs):∃ its:List Value,Vals xs its/\PlainL s.heap a its.toArray/\xs.length<=sizeLine:=by
 rcases h with h|⟨o,its,n,hk,hc,hd,hs,hz,r⟩
 ·obtain⟨z,its,n,r,e⟩:=h.ok I.hok;exact⟨its,r,⟨_,n,e,rfl,rfl,rfl⟩,z⟩
 ·refine⟨its.toList,r,⟨o,n,I.EZ a o hk,hc,hd,by simpa using hs⟩,?_⟩;have e:=r.length;simp only [Array.length_toList]at e;omega
theorem Inv.tuple (I:Inv X pins σ H s)(h:dc X.K H a xs):∃ its:List Value,Vals xs its/\IsTup s.heap a its.toArray/\xs.length<=sizeLine:=by
 rcases h with h|⟨o,its,n,hk,hc,hs,hz,r⟩
 ·obtain⟨z,its,r,p⟩:=h.ok I.hok;exact⟨its,r,p,z⟩
 ·refine⟨its.toList,r,⟨o,I.EZ a o hk,hc,n,by simpa using hs⟩,?_⟩;have e:=r.length;simp only [Array.length_toList]at e;omega
theorem Inv.Ld (I:Inv X pins σ H s)(h:a6 X.K H a xs)(h':a6 X.K H a ys):xs=ys:=by
 obtain⟨its,r,⟨o,n,e,_,_,d⟩,_⟩:=I.list h;obtain⟨its',r',⟨o',n',e',_,_,d'⟩,_⟩:=I.list h';rw[e]at e';cases e';rw[d]at d'
 injection d' with d1 _
 have:its=its':=by simpa using congrArg Array.toList d1
 subst this;exact r.inj r'
theorem Inv.Qo (I:Inv X pins σ H s)(h:dc X.K H a xs)(h':dc X.K H a ys):xs=ys:=by
 obtain⟨its,r,⟨o,e,_,n,d⟩,_⟩:=I.tuple h;obtain⟨its',r',⟨o',e',_,n',d'⟩,_⟩:=I.tuple h';rw[e]at e';cases e';rw[d]at d'
 injection d' with d1 _
 have:its=its':=by simpa using congrArg Array.toList d1
 subst this;exact r.inj r'
end
abbrev Cx.wish (X:Cx)(E:Value->Shared->Prop):Cx:={ X with xe:=E }
abbrev Cx.Xa (X:Cx):Cx:=X.wish fun _ _=>False
theorem Cx.Ok.wish {X:Cx}(ok:X.Ok)(E:Value->Shared->Prop):(X.wish E).Ok :=
 ⟨ok.mod,ok.kind,ok.glob,ok.blt,ok.above,ok.inj,ok.has,ok.cab,ok.hd,ok.frames,ok.stk,ok.exf,ok.bs,ok.Vc,ok.Sl,ok.Sm,ok.BI,ok.ZF⟩
theorem Cx.Ok.oB {X:Cx}{E:Value->Shared->Prop}(ok:(X.wish E).Ok):X.Ok :=
 ⟨ok.mod,ok.kind,ok.glob,ok.blt,ok.above,ok.inj,ok.has,ok.cab,ok.hd,ok.frames,ok.stk,ok.exf,ok.bs,ok.Vc,ok.Sl,ok.Sm,ok.BI,ok.ZF⟩
section
variable {X:Cx} {pins:List (Addr×Obj)} {σ:St} {H:Hp} {s:Shared} {E:Value->Shared->Prop}
theorem Inv.wish (I:Inv X pins σ H s)(E:Value->Shared->Prop):Inv (X.wish E) pins σ H s:=⟨I.ok.wish E,I.os,I.bare,I.base,I.loc,I.cell,I.free,I.oy,I.pin,I.hok,I.len⟩
theorem Inv.oB (I:Inv (X.wish E) pins σ H s):Inv X pins σ H s:=⟨I.ok.oB,I.os,I.bare,I.base,I.loc,I.cell,I.free,I.oy,I.pin,I.hok,I.len⟩
theorem SP.oB {D:Ends}{f:Flow}{s':Shared}(h:SP (X.wish E) pins D f s'):SP X pins D f s':=by
 cases f with
 |next=>obtain⟨σ',H',I,q⟩:=h;exact⟨σ',H',I.oB,q⟩
 |brk=>obtain⟨σ',H',I,q⟩:=h;exact⟨σ',H',I.oB,q⟩
 |cont=>obtain⟨σ',H',I,q⟩:=h;exact⟨σ',H',I.oB,q⟩
 |ret u=>obtain⟨v,σ',H',I,r,q⟩:=h;exact⟨v,σ',H',I.oB,r,q⟩
theorem Lc.Xa {st:List Stmt}{t:TS}(h:Lc X.Xa st t):Lc X st t:=fun pins s σ H D I hw =>
 wpAny_mono (h pins s σ H D (I.wish _) hw) (fun _ _ q=>q.oB) fun _ _ z=>False.elim z
end
section
variable {X:Cx} {st:Stmt} {rest:List Stmt} {t u:TS} {e:Expr} {te:TE} {pos:Pos}
def ZU:TS:=fun D σ H=>D.nx σ H
def Vo (t u:TS):TS:=fun D σ H=>t { D with nx:=u D } σ H
theorem aC:Lc X [] ZU:=fun _ _ σ H _ I h=>wpAny_execs_nil ⟨σ,H,I,h⟩
theorem ag (h1:PS X st t)(h2:Lc X rest u):Lc X (st::rest) (Vo t u):=by
 intro pins s σ H D I h;refine wpAny_execs_cons (cI (h1 pins s σ H { D with nx:=u D } I h) fun f s1 q=>?_);cases f with
 |next =>
  obtain⟨σ',H',I',q⟩:=q;exact h2 pins s1 σ' H' D I' q
 |ret v=>exact q
 |brk=>exact q
 |cont=>exact q
theorem aq (h1:PS X st t):Lc X [st] t:=by
 intro pins s σ H D I h;refine wpAny_execs_cons (cI (h1 pins s σ H D I h) fun f s1 q=>?_);cases f with
 |next=>exact wpAny_execs_nil q
 |ret v=>exact q
 |brk=>exact q
 |cont=>exact q
theorem Inv.quiet {pins:List (Addr×Obj)}{σ:St}{H:Hp}{s:Shared}(I:Inv X pins σ H s):interactive X.env=false:=by simp[interactive,I.ok.kind]
def ZV (te:TE):TS:=fun D σ H=>te σ H fun _ H1=>D.nx σ H1
theorem dg (he:PE X e te)(hs:swapsWith e none pos.line X.env=pure false:=by rfl):PS X (.Expr e pos) (ZV te):=by
 intro pins s σ H D I h;exact wpAny_Expr_any (cI (he pins s σ H _ I h) fun v s1 ⟨x,H1,I1,r1,q1⟩=>⟨σ,H1,I1,q1⟩) I.quiet hs
def acQ (te:TE):TS:=fun D σ H=>te σ H D.rt
theorem aw (he:PE X e te):PS X (.Return (some e) pos) (acQ te):=by
 intro pins s σ H D I h;exact wpAny_Return_some (cI (he pins s σ H _ I h) fun v s1 ⟨x,H1,I1,r1,q1⟩=>⟨x,σ,H1,I1,r1,q1⟩)
def acR (c:TT)(t u:TS):TS:=fun D σ H=>c σ H fun b H1=>if b=true then t D σ H1 else u D σ H1
theorem aW {c:Expr}{a b:List Stmt}{tc:TT}(hc:PT X c tc)(ha:Lc X a t)(hb:Lc X b u):PS X (.If c a b pos) (acR tc t u):=by
 intro pins s σ H D I h;refine wpAny_If (cI (hc pins s σ H _ I h) fun d s1 ⟨H1,I1,q1⟩=>?_);cases d with
 |true=>exact ha pins s1 σ H1 D I1 q1
 |false=>exact hb pins s1 σ H1 D I1 q1
end
abbrev TG:=V->St->Hp->(St->Hp->Prop)->Prop
abbrev Vp:=List V->St->Hp->(St->Hp->Prop)->Prop
def PG (X:Cx)(target:Expr)(t:TG):Prop :=
 ∀(pins:List (Addr×Obj)) (s:Shared) (σ:St) (H:Hp) (v:V) (u:Value) (Q:St->Hp->Prop),Inv X pins σ H s->RelV v u->t v σ H Q ->
  wpAny (model X.prog X.w) X.A (assign target X.env u) (fun _ s'=>∃ σ' H',Inv X pins σ' H' s'/\Q σ' H') X.xe s
def PGs (X:Cx)(ts:List Expr)(t:Vp):Prop :=
 ∀(pins:List (Addr×Obj)) (s:Shared) (σ:St) (H:Hp) (vs:List V) (us:List Value) (Q:St->Hp->Prop),Inv X pins σ H s->Vals vs us->t vs σ H Q ->
  wpAny (model X.prog X.w) X.A (assignInOrder ((assignEach ts X.env).map (·.2)) us) (fun _ s'=>∃ σ' H',Inv X pins σ' H' s'/\Q σ' H') X.xe s
abbrev Ym:=V->V->V->Hp->(Hp->Prop)->Prop
def ZW (X:Cx)(t:Ym):Prop :=
 ∀(pins:List (Addr×Obj)) (s:Shared) (σ:St) (H:Hp) (o i v:V) (ov iv u:Value) (Q:Hp->Prop),Inv X pins σ H s->RelV o ov->RelV i iv->RelV v u->t o i v H Q ->
  wpAny (model X.prog X.w) X.A (setItem ov iv u) (fun _ s'=>∃ H',Inv X pins σ H' s'/\Q H') X.xe s
section
variable {X:Cx} {pos:Pos}
def Le (i:Nat):TG:=fun v σ H Q=>Q (σ.set i (some v)) H
theorem aK {i:Nat}{x:Str}(hN:X.N.Nodup)(hi:X.N[i]? = some x)(hx:Loc X.env.scope x)(hf:X.fn x=true\/X.env.scope.names.lookup x=some .local:=by first|exact .inl rfl|exact .inr rfl|assumption):PG X (.Name x pos) (Le i):=by
 intro pins s σ H v u Q I r h;exact wpAny_assign_Name (sQ I hN hi hx r (fun s' I'=>⟨_,H,I',h⟩) hf)
def acS:Vp:=fun vs σ H Q=>vs=[]/\Q σ H
inductive Sq (t:TG)(u:Vp)(vs:List V)(σ:St)(H:Hp)(Q:(St->Hp->Prop)):Prop
 |mk (v:_) (r:_) (qw:vs=v::r) (qx:t v σ H fun σ' H'=>u r σ' H' Q):Sq t u vs σ H Q
def ZX (t:TG)(u:Vp):Vp:=fun vs σ H Q=>Sq t u vs σ H Q
theorem fE:PGs X [] acS:=by
 intro pins s σ H vs us Q I r h;obtain⟨e,h⟩:=h;subst e;cases r;exact assignInOrder_nil ⟨σ,H,I,h⟩
theorem aR {e:Expr}{es:List Expr}{t:TG}{u:Vp}(h1:PG X e t)(h2:PGs X es u)
  (hs:(assignEach (e::es) X.env).map (·.2)=assign e X.env::(assignEach es X.env).map (·.2):=by rfl):PGs X (e::es) (ZX t u):=by
 intro pins s σ H vs us Q I r h;obtain⟨v,vr,e1,h⟩:=h;subst e1;cases r with
 |cons r rr =>
  rw[hs];refine assignInOrder_cons (cI (h1 pins s σ H _ _ _ I r h) fun _ s1 ⟨σ1,H1,I1,q1⟩=>?_);exact h2 pins s1 σ1 H1 _ _ Q I1 rr q1
inductive Xb (K:Frag)(n:Nat)(t:Vp)(v:V)(σ:St)(H:Hp)(Q:(St->Hp->Prop)):Prop
 |mk (a:_) (xs:_) (qw:v=.ref a) (qx:dc K H a xs) (AL:xs.length=n) (MI:t xs σ H Q):Xb K n t v σ H Q
def acT (K:Frag)(n:Nat)(t:Vp):TG:=fun v σ H Q=>Xb K n t v σ H Q
theorem iu {es:List Expr}{k:Nat}{t:Vp}{n:Nat}(hc:X.calm=true)(h:PGs X es t)
  (hn:(assignEach es X.env).length=n:=by rfl) (hst:(assignEach es X.env).findIdx? (·.1)=none:=by rfl):PG X (.Tuple es k pos) (acT X.K n t):=by
 intro pins s σ H v u Q I r hw;obtain⟨a,xs,e1,hq,hl,hw⟩:=hw;subst e1;cases r;obtain⟨its,rv,ht,hz⟩:=I.tuple hq;refine assign_Tuple_tuple (I.ok.hd hc) ht (by simp[hn,<-hl,rv.length]) hst fun h' hx=>?_;have I1:Inv X pins σ H { s with heap:=h' }:=I.kept (t':=s.toks) fun b o e=>hx b o (Nat.ne_of_lt (Heap.lt_size e)) e;exact h pins _ σ H xs _ Q I1 (by simpa using rv) hw
def acU (to ti:TE)(t:Ym):TG:=fun v σ H Q=>to σ H fun o H1=>ti σ H1 fun i H2=>t o i v H2 fun H3=>Q σ H3
theorem ML {o i:Expr}{to ti:TE}{t:Ym}(ho:PE X o to)(hi:PE X i ti)(hs:ZW X t)
  (ha:∀ v,assign (.Subscript o i pos) X.env v=(do
   let ov <-holding [v] (eval o X.env)
   let iv <-holding [v,ov] (eval i X.env)
   standAt pos
   holding [v,ov,iv] (setItem ov iv v)
   release [v,ov,iv] []):=by intro _;rfl):PG X (.Subscript o i pos) (acU to ti t):=by
 intro pins s σ H v u Q I r h;rw[ha];refine wpAny_bind (wpAny_holding (cI (ho pins s σ H _ I h) fun ov s1 ⟨x,H1,I1,r1,q1⟩=>?_));refine wpAny_bind (wpAny_holding (cI (hi pins s1 σ H1 _ I1 q1) fun iv s2 ⟨y,H2,I2,r2,q2⟩=>?_));refine wpAny_bind (wpAny_standAt (wpAny_bind (wpAny_holding (cI (hs pins s2 σ H2 x y v ov iv u _ I2 r1 r2 r q2) fun _ s3 ⟨H3,I3,q3⟩=>?_))));exact wpAny_release ⟨σ,H3,I3,q3⟩
def Yn (te:TE)(g:TG):TS:=fun D σ H=>te σ H fun x H1=>g x σ H1 D.nx
theorem oC {tg e:Expr}{te:TE}{g:TG}(he:PE X e te)(hg:PG X tg g)(hs:swapsWithSole [tg] e pos.line X.env=pure false:=by rfl)(hw:swappedStores [tg] e X.env=pure none:=by rfl)
  (h1:(assignEach [tg] X.env).map (·.2)=[assign tg X.env]:=by rfl):PS X (.Assign [tg] e pos) (Yn te g):=by
 intro pins s σ H D I h;refine wpAny_Assign_stores (cI (he pins s σ H _ I h) fun v s1 ⟨x,H1,I1,r1,q1⟩=>?_) hs hw;rw[h1];exact cI (hg pins s1 σ H1 x v _ I1 r1 q1) fun _ s2 q=>q
theorem aD {i:Nat}{x:Str}{e:Expr}{te:TE}{pos':Pos}(hN:X.N.Nodup)(hi:X.N[i]? = some x)(hx:Loc X.env.scope x)(he:PE X e te)(hs:swapsWith e (some (.Name x pos')) pos.line X.env=pure false:=by rfl)(hf:X.fn x=true\/X.env.scope.names.lookup x=some .local:=by first|exact .inl rfl|exact .inr rfl|assumption) :
  PS X (.Assign [.Name x pos'] e pos) (Yn te (Le i)):=by
 intro pins s σ H D I h;refine wpAny_Assign_Name (cI (he pins s σ H _ I h) fun v s1 ⟨y,H1,I1,r1,q1⟩=>?_) hs;exact sQ I1 hN hi hx r1 (fun s2 I2=>⟨_,H1,I2,q1⟩) hf
def acV (i j:Nat)(ta:TA):TS:=fun D σ H=>ta σ H fun vs H1=>∃ v w,vs=[v,w]/\D.nx ((σ.set i (some v)).set j (some w)) H1
theorem Yo {i j:Nat}{x y:Str}{a b:Expr}{ta:TA}{px py pt:Pos}{kt k2 pt2}(hc:X.calm=true)(hN:X.N.Nodup)(hi:X.N[i]? = some x)(hj:X.N[j]? = some y)(hij:i≠j)
  (hx:X.env.scope.names.lookup x=some .local) (hy:X.env.scope.names.lookup y=some .local) (ha:PA X [a,b] ta)
  (hw:swappedStores [.Tuple [.Name x px,.Name y py] kt pt] (.Tuple [a,b] k2 pt2) X.env=pure (some [x,y]))
  (hs:swapsWithSole [.Tuple [.Name x px,.Name y py] kt pt] (.Tuple [a,b] k2 pt2) pos.line X.env=pure false:=by rfl) :
  PS X (.Assign [.Tuple [.Name x px,.Name y py] kt pt] (.Tuple [a,b] k2 pt2) pos) (acV i j ta):=by
 intro pins s σ H D I h;rw[exec_Assign_arm];refine wpAny_bind (wpAny_standAt ?_);rw[hs];refine wpAny_bind (wpAny_pure ?_);rw[if_neg (by decide)];refine wpAny_bind (Tuple_ (cI (ha _ pins s σ H _ I h) fun us s1 ⟨vs,H1,I1,r1,q1⟩=>?_));obtain⟨v,w,e1,q1⟩:=q1;subst e1;obtain⟨u1,u2,rfl,rv,Sr⟩:∃ u1 u2,us=[u1,u2]/\RelV v u1/\RelV w u2:=by
  cases r1 with
  |cons p q =>
   cases q with
   |cons p' q' =>
    cases q';exact⟨_,_,rfl,p,p'⟩
 refine wpAny_newObj_type ?_ (by show 2<=sizeLine;decide);have I2:Inv X pins σ H1 { s1 with heap:=s1.heap.push { cls:=.type "tuple",data:=.seq [u1,u2].toArray } }:=I1.kept (t':=s1.toks) fun b o e=>Heap.get?_push_of_some _ e;rw[hw];refine wpAny_bind (wpAny_pure ?_);show wpAny (model X.prog X.w) X.A (do rule "assign.swapped-stores";let items <-unpackItems (.ref s1.heap.objs.size) 2 none;assignInOrder [fun v=>bindName X.env y v,fun v=>bindName X.env x v] items.reverse;pure Flow.next) _ _ _;refine wpAny_bind (wpAny_rule (wpAny_bind (unpackItems_tuple (items:=#[u1,u2]) (I.ok.hd hc) (IsTup.new s1.heap _) fun h' hx'=>?_)));have I3:=I2.kept (h':=h') (t':=s1.toks) fun b o e=>hx' b o (Nat.ne_of_lt (Heap.lt_size e)) e;show wpAny _ _ (assignInOrder [fun v=>bindName X.env y v,fun v=>bindName X.env x v] [u2,u1] >>= fun _=>pure Flow.next) _ _ _;refine wpAny_bind (assignInOrder_cons (wpAny_bindName (sQ I3 hN hj (.inl hy) Sr (fun s2 I4=>?_) (.inr hy))));refine assignInOrder_cons (wpAny_bindName (sQ I4 hN hi (.inl hx) rv (fun s3 I5=>assignInOrder_nil (wpAny_pure ?_)) (.inr hx)));rw[List.set_comm _ _ (Ne.symm hij)]at I5;exact⟨_,H1,I5,q1⟩
end
section
variable {X:Cx} {pos:Pos}
def Yp (c:TT)(tb:TS):TS:=fun D σ H=>∃ W:Nat->St->Hp->Prop,(∃ m,W m σ H)/\∀ m σ H,W m σ H ->
 c σ H fun b H1=>if b=true then ∃ N:St->Hp->Prop,(∀ σ' H',N σ' H'->∃ m',m'<m/\W m' σ' H')/\tb { D with nx:=N,ct:=N,bk:=D.nx } σ H1 else D.nx σ H1
theorem BJ {c:Expr}{body:List Stmt}{tc:TT}{tb:TS}(hp:PassesOwn (model X.prog X.w) X.A X.env X.xe)(hc:PT X c tc)(hb:Lc X body tb):PS X (.While c body [] pos) (Yp tc tb):=by
 intro pins s σ H D I h;obtain⟨W,⟨m0,w0⟩,turn⟩:=h;refine wpAny_While (codeAny_whileLoop (fun n s'=>∃ σ' H',Inv X pins σ' H' s'/\W n σ' H') ?_ m0 ⟨σ,H,I,w0⟩);rintro n s1 ⟨σ1,H1,I1,w1⟩;refine wpAny_passesOwn hp (cI (hc pins s1 σ1 H1 _ I1 (turn n σ1 H1 w1)) fun b s2 ⟨H2,I2,q2⟩=>?_);cases b with
 |true =>
  obtain⟨N,hN,q2⟩:=q2;rw[if_pos rfl];refine wpAny_passesOwn hp (cI (hb pins s2 σ1 H2 _ I2 q2) fun f s3 q3=>?_);cases f with
  |next =>
   obtain⟨σ3,H3,I3,n3⟩:=q3;obtain⟨m',hm,w3⟩:=hN σ3 H3 n3;exact⟨m',hm,σ3,H3,I3,w3⟩
  |cont =>
   obtain⟨σ3,H3,I3,n3⟩:=q3;obtain⟨m',hm,w3⟩:=hN σ3 H3 n3;exact⟨m',hm,σ3,H3,I3,w3⟩
  |brk=>exact q3
  |ret v=>exact q3
 |false =>
  rw[if_neg Bool.false_ne_true];exact wpAny_execs_nil ⟨σ1,H2,I2,q2⟩
end
structure It where
 go:Nat->Hp->Prop
 Vd:Nat->Hp->V->Hp->Prop
 stop:Nat->Hp->Prop
def qt (X:Cx)(pins:List (Addr×Obj))(H:Hp)(b:Addr):Prop :=
 H b=none/\b≠X.env.locals/\b ∉ X.fs/\(b∈X.ex\/X.s₀.heap.objs.size<=b)/\(∀ x c,X.env.cells.lookup x=some c->c≠b)/\∀ p∈X.pn++pins,p.1≠b
theorem Inv.Qp {X:Cx}{pins:List (Addr×Obj)}{σ:St}{H H':Hp}{s:Shared}{b:Addr}(I:Inv X pins σ H s)(hb:s.heap.objs.size<=b)(hn:H' b=none):qt X pins H' b:=by
 refine⟨hn,Nat.ne_of_gt (Nat.lt_of_lt_of_le I.lt hb),I.acK hb,.inr (Nat.le_trans I.sz hb),fun x c e z=>?_,fun p hp z=>?_⟩
 ·obtain⟨v,q⟩:=I.cell x c e;exact absurd (Nat.lt_of_lt_of_le q.lt (by rw[z];exact hb)) (Nat.lt_irrefl _)
 ·exact absurd (Nat.lt_of_lt_of_le (Heap.lt_size (I.pin p hp).1) (by rw[z];exact hb)) (Nat.lt_irrefl _)
structure Turn (P:Program)(w:World)(K:Frag)(tg:Expr)(J:It)(fp:List Addr)(it:Addr)(tn:Nat->Heap->Prop):Prop where
 mem:it∈fp
 obj:∀ i h,tn i h->∀ b∈fp,∃ o,h.get? b=some o/\∀ v,o.data≠.cell v
 keep:∀ i h h',tn i h->(∀ b∈fp,∀ o,h.get? b=some o->h'.get? b=some o)->tn i h'
 item:∀(X:Cx),X.prog=P->X.w=w->X.K=K->X.calm=true->∀(i:Nat)(pins:List (Addr×Obj)) (s:Shared) (σ:St) (H:Hp) (E:Value->Shared->Prop),Inv X pins σ H s->(∀ b∈fp,qt X pins H b)->tn i s.heap->J.go i H ->
  wpAny (model P w) X.A (pyNext (.ref it)) (fun r s1=>∃ u,r=some u /\
   wpAny (model P w) X.A (letOwnedTupleGo tg (.ref it) u) (fun _ s2=>∃ x H',Inv X pins σ H' s2/\RelV x u/\J.Vd i H x H'/\tn (i+1) s2.heap/\∀ b∈fp,H' b=none) E s1) E s
 done:∀(X:Cx),X.prog=P->X.w=w->X.K=K->X.calm=true->∀(i:Nat)(pins:List (Addr×Obj)) (s:Shared) (σ:St) (H:Hp) (E:Value->Shared->Prop),Inv X pins σ H s->(∀ b∈fp,qt X pins H b)->tn i s.heap->J.stop i H ->
  wpAny (model P w) X.A (pyNext (.ref it)) (fun r s1=>r=none/\Inv X pins σ H s1) E s
 self:∀(A:Around)(i:Nat)(s:Shared)(Q:Value->Shared->Prop)(E:Value->Shared->Prop),tn i s.heap->Q (.ref it) s->wpAny (model P w) A (pyIter (.ref it)) Q E s
abbrev TI:=St->Hp->(It->Hp->Prop)->Prop
def PIE (X:Cx)(pins:List (Addr×Obj))(σ:St)(tg:Expr)(R:It->Hp->Prop)(itv:Value)(s2:Shared):Prop :=
 ∃(it:Addr)(fp:List Addr)(tn:Nat->Heap->Prop)(J:It)(H':Hp),itv=.ref it/\Inv X pins σ H' s2/\Turn X.prog X.w X.K tg J fp it tn/\tn 0 s2.heap/\(∀ b∈fp,qt X pins H' b)/\R J H'
def PI (X:Cx)(tg iter:Expr)(wi:TI):Prop :=
 ∀(pins:List (Addr×Obj)) (s:Shared) (σ:St) (H:Hp) (R:It->Hp->Prop),Inv X pins σ H s->wi σ H R ->
  wpAny (model X.prog X.w) X.A (eval iter X.env) (fun v s1=>wpAny (model X.prog X.w) X.A (pyIter v) (PIE X pins σ tg R) X.xe s1) X.xe s
theorem Ss {M:Model}{A:Around}{E:Value->Shared->Prop}{s:Shared}{tg:Expr}{it:Addr}{u:Value}{o:Obj}{n:String}{vs:Array Value}{Q:Unit->Shared->Prop}(ho:s.heap.get? it=some o)(hc:o.cls=.type n)(hd:o.data=.fields vs)
  (hn:["enumerate","zip","dict_itemiterator","dict_reverseitemiterator","odict_iterator","itertools.zip_longest","itertools.pairwise"].contains n=false) (hQ:Q () s):wpAny M A (letOwnedTupleGo tg (.ref it) u) Q E s:=by
 unfold letOwnedTupleGo;cases tg <;> first
  |exact wpAny_pure hQ
  |(cases u <;> first
    |exact wpAny_pure hQ
    |(refine wpAny_bind (wpAny_load ho ?_);rw[hc,hd];show wpAny M A (if(["enumerate","zip","dict_itemiterator","dict_reverseitemiterator","odict_iterator","itertools.zip_longest","itertools.pairwise"].contains n&&vs[0]? == some (rawInt _))=true then _ else _) Q E s;rw[if_neg (by intro h;rw[hn,Bool.false_and]at h;cases h)];exact wpAny_pure hQ))
def ZG (K:Frag)(a:Addr):It :=
 ⟨fun i H=>∃ xs x,a6 K H a xs/\xs[i]? = some x,fun i H x H'=>H'=H/\∀ xs,a6 K H a xs->xs[i]? = some x,fun i H=>∃ xs,a6 K H a xs/\xs.length<=i⟩
def ZH (K:Frag)(a:Addr):It :=
 ⟨fun i H=>∃ xs x,dc K H a xs/\xs[i]? = some x,fun i H x H'=>H'=H/\∀ xs,dc K H a xs->xs[i]? = some x,fun i H=>∃ xs,dc K H a xs/\xs.length<=i⟩
def Xc (lo:Int)(n:Nat):It:=⟨fun i _=>i<n,fun i H x H'=>H'=H/\x=.int (lo+i),fun i _=>n<=i⟩
theorem Qq {P:Program}{w:World}{K:Frag}{tg:Expr}(a it:Addr):Turn P w K tg (ZG K a) [it] it (fun i h=>h.IsListIter it a i) where
 mem:=by simp
 obj:=fun i h st b hb=>by
  have e:b=it:=by simpa using hb
  subst e;obtain⟨o,e,c,d⟩:=st;exact⟨o,e,fun v z=>by rw[d]at z;cases z⟩
 keep:=fun i h h' st k=>st.at fun o e=>k it (by simp) o e
 item:=by
  intro X hP hw hK hc i pins s σ H E I hf st hg;subst hP hw hK;obtain⟨xs,x,hq,hx⟩:=hg;obtain⟨its,rv,p,hz⟩:=I.list hq;obtain⟨u,hu,ru⟩:=rv.get hx;obtain⟨f0,f1,f2,f3,f4,f5⟩:=hf it (by simp);refine wpAny_pyNext_list_item st p.isList (x:=u) (by simpa using hu) fun h' st' sb=>?_;have I1:Inv X pins σ H { s with heap:=h' }:=I.turned (t':=s.toks) (fun b o hb e=>(sb.2 b hb).trans e) f0 f1 f3 f4 f5;obtain⟨o,e,c,d⟩:=id st';exact⟨u,rfl,Ss (s:={ s with heap:=h' }) e c d (by decide) ⟨x,H,I1,ru,⟨rfl,fun ys hy=>by rw[I.Ld hy hq];exact hx⟩,st',fun b hb=>(hf b hb).1⟩⟩
 done:=by
  intro X hP hw hK hc i pins s σ H E I hf st hg;subst hP hw hK;obtain⟨xs,hq,hx⟩:=hg;obtain⟨its,rv,p,hz⟩:=I.list hq;obtain⟨f0,f1,f2,f3,f4,f5⟩:=hf it (by simp);have hl:=rv.length;exact wpAny_pyNext_list_end (I.ok.hd hc) st p.isList (by simp;omega) fun h' eb=>⟨rfl,I.turned (t':=s.toks) (fun b o hb e=>eb b o hb e) f0 f1 f3 f4 f5⟩
 self:=fun _ _ _ _ _ st h=>wpAny_pyIter_listiter st h
theorem MM {P:Program}{w:World}{K:Frag}{tg:Expr}(a it:Addr):Turn P w K tg (ZH K a) [it] it (fun i h=>h.IsTupleIter it a i) where
 mem:=by simp
 obj:=fun i h st b hb=>by
  have e:b=it:=by simpa using hb
  subst e;obtain⟨o,e,c,d⟩:=st;exact⟨o,e,fun v z=>by rw[d]at z;cases z⟩
 keep:=fun i h h' st k=>st.at fun o e=>k it (by simp) o e
 item:=by
  intro X hP hw hK hc i pins s σ H E I hf st hg;subst hP hw hK;obtain⟨xs,x,hq,hx⟩:=hg;obtain⟨its,rv,p,hz⟩:=I.tuple hq;obtain⟨u,hu,ru⟩:=rv.get hx;obtain⟨f0,f1,f2,f3,f4,f5⟩:=hf it (by simp);refine wpAny_pyNext_tuple_item st (show s.heap.IsTuple a its.toArray from p) (x:=u) (by simpa using hu) fun h' st' sb=>?_;have I1:Inv X pins σ H { s with heap:=h' }:=I.turned (t':=s.toks) (fun b o hb e=>(sb.2 b hb).trans e) f0 f1 f3 f4 f5;obtain⟨o,e,c,d⟩:=id st';exact⟨u,rfl,Ss (s:={ s with heap:=h' }) e c d (by decide) ⟨x,H,I1,ru,⟨rfl,fun ys hy=>by rw[I.Qo hy hq];exact hx⟩,st',fun b hb=>(hf b hb).1⟩⟩
 done:=by
  intro X hP hw hK hc i pins s σ H E I hf st hg;subst hP hw hK;obtain⟨xs,hq,hx⟩:=hg;obtain⟨its,rv,p,hz⟩:=I.tuple hq;obtain⟨f0,f1,f2,f3,f4,f5⟩:=hf it (by simp);have hl:=rv.length;exact wpAny_pyNext_tuple_end (I.ok.hd hc) st (show s.heap.IsTuple a its.toArray from p) (by simp;omega) fun h' eb=>⟨rfl,I.turned (t':=s.toks) (fun b o hb e=>eb b o hb e) f0 f1 f3 f4 f5⟩
 self:=fun _ _ _ _ _ st h=>wpAny_pyIter_tupleiter st h
theorem MN {P:Program}{w:World}{K:Frag}{tg:Expr}(it:Addr)(lo:Int)(n:Nat):Turn P w K tg (Xc lo n) [it] it (fun i h=>IsRangeIter h it (lo+(i:Nat) * 1) ((n:Int)-(i:Nat)) 1) where
 mem:=by simp
 obj:=fun i h st b hb=>by
  have e:b=it:=by simpa using hb
  subst e;exact⟨_,st,fun v z=>by
   have z':Data.fields _=Data.cell v:=z;cases z'⟩
 keep:=fun i h h' st k=>k it (by simp) _ st
 item:=by
  intro X hP hw hK hc i pins s σ H E I hf st hg;subst hP hw hK;obtain⟨f0,f1,f2,f3,f4,f5⟩:=hf it (by simp);have W:=Walks.range (prog:=X.prog) (w:=X.w) (I.ok.hd hc) it lo 1 n;refine W.item i s _ _ hg st fun v h' tk hv st' kk=>?_;obtain⟨t,rfl⟩:=hv;have I1:Inv X pins σ H { s with heap:=h',toks:=tk }:=I.turned (fun b o hb e=>kk b o (by simpa using hb) e) f0 f1 f3 f4 f5;refine⟨_,rfl,Ss (s:={ s with heap:=h',toks:=tk }) (n:="range_iterator") st' rfl rfl (by decide) ⟨.int (lo+i),H,I1,⟨t,?_⟩,⟨rfl,rfl⟩,st',fun b hb=>(hf b hb).1⟩⟩;rw[Int.mul_one]
 done:=by
  intro X hP hw hK hc i pins s σ H E I hf st hg;subst hP hw hK;obtain⟨f0,f1,f2,f3,f4,f5⟩:=hf it (by simp);exact wpAny_pyNext_range_end (I.ok.hd hc) st (by have:n<=i:=hg;omega) fun h' eb=>⟨rfl,I.turned (t':=s.toks) (fun b o hb e=>eb b o hb e) f0 f1 f3 f4 f5⟩
 self:=fun _ _ _ _ _ st h=>wpAny_pyIter_rangeiter st h
end L2
namespace L2
open PySem PySem.Spec PyProof.Rows
section
variable {X:Cx} {tg:Expr}
inductive Su (K:Frag)(R:(It->Hp->Prop))(x:V)(H1:Hp):Prop
 |mk (a:_) (qw:x=.ref a) (qx:(∃ xs,a6 K H1 a xs)/\R (ZG K a) H1):Su K R x H1
def ZY (K:Frag)(tl:TE):TI:=fun σ H R=>tl σ H fun x H1=>Su K R x H1
inductive Xd (K:Frag)(R:(It->Hp->Prop))(x:V)(H1:Hp):Prop
 |mk (a:_) (qw:x=.ref a) (qx:(∃ xs,dc K H1 a xs)/\R (ZH K a) H1):Xd K R x H1
def acX (K:Frag)(tl:TE):TI:=fun σ H R=>tl σ H fun x H1=>Xd K R x H1
theorem kX {l:Expr}{tl:TE}(hl:PE X l tl):PI X tg l (ZY X.K tl):=by
 intro pins s σ H R I h;refine cI (hl pins s σ H _ I h) fun v s1 ⟨x,H1,I1,r1,q1⟩=>?_;obtain⟨a,e,⟨xs,hq⟩,q⟩:=q1;subst e;cases r1;obtain⟨its,rv,p,hz⟩:=I1.list hq;refine wpAny_pyIter_list p.isList ?_;refine⟨s1.heap.objs.size,[s1.heap.objs.size],_,_,H1,rfl,I1.kept (t':=s1.toks) fun b o e=>Heap.get?_push_of_some _ e,Qq a _,⟨_,Heap.get?_push_size _ rfl,rfl,rfl⟩,fun b hb=>?_,q⟩;have e:b=s1.heap.objs.size:=by simpa using hb
 subst e;exact I1.Qp (Nat.le_refl _) (I1.hok.fresh (Nat.le_refl _))
theorem Sv {l:Expr}{tl:TE}(hl:PE X l tl):PI X tg l (acX X.K tl):=by
 intro pins s σ H R I h;refine cI (hl pins s σ H _ I h) fun v s1 ⟨x,H1,I1,r1,q1⟩=>?_;obtain⟨a,e,⟨xs,hq⟩,q⟩:=q1;subst e;cases r1;obtain⟨its,rv,p,hz⟩:=I1.tuple hq;refine wpAny_pyIter_tuple (show s1.heap.IsTuple a its.toArray from p) ?_;refine⟨s1.heap.objs.size,[s1.heap.objs.size],_,_,H1,rfl,I1.kept (t':=s1.toks) fun b o e=>Heap.get?_push_of_some _ e,MM a _,⟨_,Heap.get?_push_size _ rfl,rfl,rfl⟩,fun b hb=>?_,q⟩;have e:b=s1.heap.objs.size:=by simpa using hb
 subst e;exact I1.Qp (Nat.le_refl _) (I1.hok.fresh (Nat.le_refl _))
theorem Sw {pins:List (Addr×Obj)}{σ:St}{H:Hp}{s:Shared}{R:It->Hp->Prop}{E:Value->Shared->Prop}{lo hi:Int}{t u v:Tok}{tk:Nat}(I:Inv X pins σ H s)(h1:-(2 ^ 62)<=lo)(h2:lo<2 ^ 62)(h3:-(2 ^ 62)<=hi)(h4:hi<2 ^ 62)
  (q:R (Xc lo (hi-lo).toNat) H):wpAny (model X.prog X.w) X.A (pyIter (.ref s.heap.objs.size)) (PIE X pins σ tg R) E { s with heap:=s.heap.push { cls:=.type "range",data:=.fields #[.int lo t,.int hi u,.int 1 v] },toks:=tk }:=by
 refine wpAny_pyIter_range (IsRange.new ..) (small_one h1 h2 h3 h4) ?_;have I1:Inv X pins σ H { s with heap:=s.heap.push { cls:=.type "range",data:=.fields #[.int lo t,.int hi u,.int 1 v] },toks:=tk }:=I.kept fun b o e=>Heap.get?_push_of_some _ e;refine⟨(s.heap.push { cls:=.type "range",data:=.fields #[.int lo t,.int hi u,.int 1 v] }).objs.size,[(s.heap.push { cls:=.type "range",data:=.fields #[.int lo t,.int hi u,.int 1 v] }).objs.size],_,_,H,rfl,
  I1.kept (t':=tk) fun b o e=>Heap.get?_push_of_some _ e,MN _ lo (hi-lo).toNat,?_,fun b hb=>?_,q⟩
 ·have e1:lo+((0:Nat):Int) * 1=lo:=by simp
  have e2:(((hi-lo).toNat:Nat):Int)-((0:Nat):Int)=Builtin.Range.rangeSize lo hi 1:=by rw[rangeSize_one];split <;> omega
  show IsRangeIter _ _ (lo+((0:Nat):Int) * 1) ((((hi-lo).toNat:Nat):Int)-((0:Nat):Int)) 1;rw[e1,e2];exact Heap.get?_push_size _ rfl
 ·have e:b=(s.heap.push { cls:=.type "range",data:=.fields #[.int lo t,.int hi u,.int 1 v] }).objs.size:=by simpa using hb
  subst e;exact I1.Qp (Nat.le_refl _) (I1.hok.fresh (Nat.le_refl _))
inductive Sx (R:(It->Hp->Prop))(vs:List V)(H1:Hp):Prop
 |mk (j:Int) (qw:vs=[.int j]) (qx:-(2 ^ 62)<=j/\j<2 ^ 62/\R (Xc 0 j.toNat) H1):Sx R vs H1
def ZZ (ta:TA):TI:=fun σ H R=>ta σ H fun vs H1=>Sx R vs H1
theorem jD {a:Expr}{ta:TA}{p pos:Pos}(hg:Gl X "range")(hm:X.mg "range"=none)(ha:PA X [a] ta)(hs:starEach [a] X.env=[(false,eval a X.env)]:=by rfl):PI X tg (.Call (.Name "range" p) [a] [] pos) (ZZ ta):=by
 intro pins s σ H R I h;refine Call_ (vB I hg hm boot_range (PyProof.Rows.callWith_type1 (cI (ha pos pins s σ H _ I h) fun us s1 ⟨vs,H1,I1,r1,q1⟩=>?_) hs rfl));obtain⟨j,e,q1,q2,q⟩:=q1;subst e;cases r1 with
 |cons r rr =>
  cases rr;obtain⟨t,rfl⟩:=r;exact call_range_1 (Sw I1 (by omega) (by omega) q1 q2 (by simpa using q))
def acY (wi:TI)(g:TG)(tb:TS):TS:=fun D σ H=>wi σ H fun J H1=>∃ W:Nat->Nat->St->Hp->Prop,(∃ m,W 0 m σ H1)/\∀ i m σ H,W i m σ H ->
 (J.stop i H/\D.nx σ H)\/(J.go i H/\∃ N:St->Hp->Prop,(∀ σ' H',N σ' H'->∃ m',m'<m/\W (i+1) m' σ' H')/\∀ x H',J.Vd i H x H'->g x σ H' fun σ2 H2=>tb { D with nx:=N,ct:=N,bk:=D.nx } σ2 H2)
def BK (fp:List Addr)(h:Heap):List (Addr×Obj):=fp.filterMap fun b=>(h.get? b).map fun o=>(b,o)
theorem mP {fp:List Addr}{h:Heap}{b:Addr}{o:Obj}(hb:b∈fp)(e:h.get? b=some o):(b,o)∈BK fp h:=List.mem_filterMap.mpr ⟨b,hb,by rw[e];rfl⟩
theorem Qr {fp:List Addr}{h:Heap}{p:Addr×Obj}(hp:p∈BK fp h):p.1∈fp/\h.get? p.1=some p.2:=by
 obtain⟨b,hb,e⟩:=List.mem_filterMap.mp hp;cases q:h.get? b with
 |none=>rw[q]at e;cases e
 |some o =>
  rw[q]at e;have e':(b,o)=p:=Option.some.inj e;subst e';exact⟨hb,q⟩
theorem Inv.pinned {pins:List (Addr×Obj)}{σ:St}{H:Hp}{s:Shared}{fp:List Addr}(I:Inv X pins σ H s)(hf:∀ b∈fp,qt X pins H b)(ho:∀ b∈fp,∃ o,s.heap.get? b=some o/\∀ v,o.data≠.cell v):Inv X (pins++BK fp s.heap) σ H s :=
 I.Pd fun p hp=>(mem_append.mp hp).elim (fun z=>I.pin p (mem_append_right _ z)) fun z=>by
  obtain⟨hb,e⟩:=Qr z;obtain⟨f0,f1,f2,_⟩:=hf p.1 hb;obtain⟨o,e',d⟩:=ho p.1 hb;rw[e]at e';cases e';exact⟨e,f0,f1,f2,d⟩
theorem Inv.oD {pins pl:List (Addr×Obj)}{σ:St}{H:Hp}{s:Shared}(I:Inv X (pins++pl) σ H s):Inv X pins σ H s:=I.Pd fun p hp=>I.pin p (mem_append_right _ (mem_append_left _ hp))
theorem fU {iter:Expr}{body:List Stmt}{wi:TI}{g:TG}{tb:TS}{pos:Pos}(hp:PassesOwn (model X.prog X.w) X.A X.env X.xe)(hc:X.calm=true)(hi:PI X tg iter wi)(hg:PG X tg g)(hb:Lc X body tb)
  (hs:∀ x,foldedSetIterable iter X.env x=pure x:=by intro _;rfl):PS X (.For tg iter body [] pos) (acY wi g tb):=by
 intro pins s σ H D I h;refine wpAny_For (cI (hi pins s σ H _ I h) fun v s1 h1=>cI h1 fun itv s2 h2=>?_) hs;obtain⟨it,fp,tn,J,H2,e,I2,T,st2,f2,W,⟨m0,w0⟩,turn⟩:=h2;subst e;have stat:∀{H':Hp},(∀ b∈fp,H' b=none)->∀ b∈fp,qt X pins H' b:=fun hn b hb=>⟨hn b hb,(f2 b hb).2⟩;refine codeAny_forLoop_any (fun n s'=>∃ i σ' H',Inv X pins σ' H' s'/\tn i s'.heap/\(∀ b∈fp,H' b=none)/\W i n σ' H') ?_ m0 ⟨0,σ,H2,I2,st2,fun b hb=>(f2 b hb).1,w0⟩;rintro n s3 ⟨i,σ3,H3,I3,st3,fr3,w3⟩;rcases turn i n σ3 H3 w3 with ⟨stop,qn⟩|⟨go,N,hN,step⟩
 ·refine wpAny_passesOwn hp (cI (T.done X rfl rfl rfl hc i pins s3 σ3 H3 X.xe I3 (stat fr3) st3 stop) fun r s4 ⟨hr,I4⟩=>?_);subst hr;exact wpAny_execs_nil ⟨σ3,H3,I4,qn⟩
 ·refine wpAny_passesOwn hp (cI (T.item X rfl rfl rfl hc i pins s3 σ3 H3 X.xe I3 (stat fr3) st3 go) fun r s4 ⟨u,hr,h4⟩=>?_);subst hr;refine wpAny_passesOwn hp (cI h4 fun _ s5 ⟨x,H5,I5,r5,y5,Yr,fr5⟩=>?_);have I5':=I5.pinned (stat fr5) (T.obj _ _ Yr);refine wpAny_passesOwn hp (cI (hg _ s5 σ3 H5 x u _ I5' r5 (step x H5 y5)) fun _ s6 ⟨σ6,H6,I6,q6⟩=>?_);refine wpAny_passesOwn hp (cI (hb _ s6 σ6 H6 _ I6 q6) fun f s7 q7=>?_);have again:∀{σ7:St} {H7:Hp},Inv X (pins++BK fp s5.heap) σ7 H7 s7->N σ7 H7->∃ m,m<n/\∃ i σ' H',Inv X pins σ' H' s7/\tn i s7.heap/\(∀ b∈fp,H' b=none)/\W i m σ' H':=fun {σ7 H7} I7 n7=>by
   obtain⟨m',hm,w7⟩:=hN σ7 H7 n7;refine⟨m',hm,i+1,σ7,H7,I7.oD,T.keep _ _ _ Yr fun b hb o e=>(I7.pin (b,o) (mem_append_right _ (mem_append_right _ (mP hb e)))).1,fun b hb=>?_,w7⟩;obtain⟨o,e,d⟩:=T.obj _ _ Yr b hb;exact(I7.pin (b,o) (mem_append_right _ (mem_append_right _ (mP hb e)))).2.1
  cases f with
  |next=>obtain⟨σ7,H7,I7,n7⟩:=q7;exact again I7 n7
  |cont=>obtain⟨σ7,H7,I7,n7⟩:=q7;exact again I7 n7
  |brk=>obtain⟨σ7,H7,I7,q7⟩:=q7;exact⟨σ7,H7,I7.oD,q7⟩
  |ret v=>obtain⟨x7,σ7,H7,I7,r7,q7⟩:=q7;exact⟨x7,σ7,H7,I7.oD,r7,q7⟩
end
theorem jS {K:Frag}{a:Addr}{xs:List V}{g:TG}{tb:TS}{D:Ends}{σ:St}{H:Hp}(Pv:Nat->St->Hp->Prop)(h0:Pv 0 σ H)(hl:∀ i σ H,i<=xs.length->Pv i σ H->a6 K H a xs)
  (hs:∀ i x σ H,xs[i]? = some x->Pv i σ H->g x σ H fun σ2 H2=>tb { D with nx:=Pv (i+1),ct:=Pv (i+1),bk:=D.nx } σ2 H2) (hd:∀ σ H,Pv xs.length σ H->D.nx σ H) :
  ∃ W:Nat->Nat->St->Hp->Prop,(∃ m,W 0 m σ H)/\∀ i m σ H,W i m σ H ->
   ((ZG K a).stop i H/\D.nx σ H)\/((ZG K a).go i H/\∃ N:St->Hp->Prop,(∀ σ' H',N σ' H'->∃ m',m'<m/\W (i+1) m' σ' H')/\∀ x H',(ZG K a).Vd i H x H'->g x σ H' fun σ2 H2=>tb { D with nx:=N,ct:=N,bk:=D.nx } σ2 H2):=by
 refine⟨fun i m σ H=>m=xs.length-i/\i<=xs.length/\Pv i σ H,⟨xs.length,by simp,Nat.zero_le _,h0⟩,?_⟩;rintro i m σ H ⟨rfl,hi,p⟩;have q:=hl i σ H hi p
 by_cases hlt:i<xs.length
 ·refine .inr ⟨⟨xs,xs[i],q,by simp[hlt]⟩,Pv (i+1),fun σ' H' p'=>⟨xs.length-(i+1),by omega,rfl,hlt,p'⟩,fun x H' y=>?_⟩;obtain⟨e,y⟩:=y;subst e;exact hs i x σ _ (y xs q) p
 ·have e:i=xs.length:=by omega
  subst e;exact .inl ⟨⟨xs,q,Nat.le_refl _⟩,hd σ H p⟩
theorem Vq {K:Frag}{a:Addr}{xs:List V}{g:TG}{tb:TS}{D:Ends}{σ:St}{H:Hp}(Pv:Nat->St->Hp->Prop)(h0:Pv 0 σ H)(hl:∀ i σ H,i<=xs.length->Pv i σ H->dc K H a xs)
  (hs:∀ i x σ H,xs[i]? = some x->Pv i σ H->g x σ H fun σ2 H2=>tb { D with nx:=Pv (i+1),ct:=Pv (i+1),bk:=D.nx } σ2 H2) (hd:∀ σ H,Pv xs.length σ H->D.nx σ H) :
  ∃ W:Nat->Nat->St->Hp->Prop,(∃ m,W 0 m σ H)/\∀ i m σ H,W i m σ H ->
   ((ZH K a).stop i H/\D.nx σ H)\/((ZH K a).go i H/\∃ N:St->Hp->Prop,(∀ σ' H',N σ' H'->∃ m',m'<m/\W (i+1) m' σ' H')/\∀ x H',(ZH K a).Vd i H x H'->g x σ H' fun σ2 H2=>tb { D with nx:=N,ct:=N,bk:=D.nx } σ2 H2):=by
 refine⟨fun i m σ H=>m=xs.length-i/\i<=xs.length/\Pv i σ H,⟨xs.length,by simp,Nat.zero_le _,h0⟩,?_⟩;rintro i m σ H ⟨rfl,hi,p⟩;have q:=hl i σ H hi p
 by_cases hlt:i<xs.length
 ·refine .inr ⟨⟨xs,xs[i],q,by simp[hlt]⟩,Pv (i+1),fun σ' H' p'=>⟨xs.length-(i+1),by omega,rfl,hlt,p'⟩,fun x H' y=>?_⟩;obtain⟨e,y⟩:=y;subst e;exact hs i x σ _ (y xs q) p
 ·have e:i=xs.length:=by omega
  subst e;exact .inl ⟨⟨xs,q,Nat.le_refl _⟩,hd σ H p⟩
theorem lM {lo:Int}{n:Nat}{g:TG}{tb:TS}{D:Ends}{σ:St}{H:Hp}(Pv:Nat->St->Hp->Prop)(h0:Pv 0 σ H)
  (hs:∀ i σ H,i<n->Pv i σ H->g (.int (lo+i)) σ H fun σ2 H2=>tb { D with nx:=Pv (i+1),ct:=Pv (i+1),bk:=D.nx } σ2 H2) (hd:∀ σ H,Pv n σ H->D.nx σ H) :
  ∃ W:Nat->Nat->St->Hp->Prop,(∃ m,W 0 m σ H)/\∀ i m σ H,W i m σ H ->
   ((Xc lo n).stop i H/\D.nx σ H)\/((Xc lo n).go i H/\∃ N:St->Hp->Prop,(∀ σ' H',N σ' H'->∃ m',m'<m/\W (i+1) m' σ' H')/\∀ x H',(Xc lo n).Vd i H x H'->g x σ H' fun σ2 H2=>tb { D with nx:=N,ct:=N,bk:=D.nx } σ2 H2):=by
 refine⟨fun i m σ H=>m=n-i/\i<=n/\Pv i σ H,⟨n,by simp,Nat.zero_le _,h0⟩,?_⟩;rintro i m σ H ⟨rfl,hi,p⟩
 by_cases hlt:i<n
 ·refine .inr ⟨hlt,Pv (i+1),fun σ' H' p'=>⟨n-(i+1),by omega,rfl,hlt,p'⟩,fun x H' y=>?_⟩;obtain⟨e,y⟩:=y;subst e y;exact hs i σ _ hlt p
 ·have e:i=n:=by omega
  subst e;exact .inl ⟨Nat.le_refl _,hd σ H p⟩
end L2
namespace L2
open PySem PySem.Spec PyProof.Rows
abbrev R2:=V->V->Hp->VK->Prop
def ox (X:Cx)(f:Value->Value->Sem Value)(r:R2):Prop :=
 ∀(pins:List (Addr×Obj)) (s:Shared) (σ:St) (H:Hp) (x y:V) (v u:Value) (Q:VK),Inv X pins σ H s->RelV x v->RelV y u->r x y H Q ->
  wpAny (model X.prog X.w) X.A (f v u) (EP X pins σ Q) X.xe s
def UnR (X:Cx)(f:Value->Sem Value)(r:V->Hp->VK->Prop):Prop :=
 ∀(pins:List (Addr×Obj)) (s:Shared) (σ:St) (H:Hp) (x:V) (v:Value) (Q:VK),Inv X pins σ H s->RelV x v->r x H Q ->
  wpAny (model X.prog X.w) X.A (f v) (EP X pins σ Q) X.xe s
def ig (X:Cx)(f:Value)(r:List V->Hp->VK->Prop):Prop :=
 ∀(pins:List (Addr×Obj)) (s:Shared) (σ:St) (H:Hp) (xs:List V) (us:List Value) (Q:VK),Inv X pins σ H s->Vals xs us->r xs H Q ->
  wpAny (model X.prog X.w) X.A (call f us) (EP X pins σ Q) X.xe s
def tOp (r:R2)(ta tb:TE):TE:=fun σ H Q=>ta σ H fun x H1=>tb σ H1 fun y H2=>r x y H2 Q
def tUn (r:V->Hp->VK->Prop)(ta:TE):TE:=fun σ H Q=>ta σ H fun x H1=>r x H1 Q
inductive rII (C:Int->Int->Prop)(g:Int->Int->V)(x:V)(y:V)(H:Hp)(Q:VK):Prop
 |mk (i:_) (j:_) (qw:x=.int i) (qx:y=.int j) (AL:C i j/\Q (g i j) H):rII C g x y H Q
def rI (C:Int->Int->Prop)(g:Int->Int->V):R2:=fun x y H Q=>rII C g x y H Q
inductive Z0 (g:Int->Int->V)(x:V)(y:V)(H:Hp)(Q:VK):Prop
 |mk (i:_) (j:_) (qw:x=.int i) (qx:y=.int j) (AL:Q (g i j) H):Z0 g x y H Q
def Ys (g:Int->Int->V):R2:=fun x y H Q=>Z0 g x y H Q
def rU (g:Int->V):V->Hp->VK->Prop:=fun x H Q=>∃ i,x=.int i/\Q (g i) H
section
variable {X:Cx} {a b c:Expr} {ta tb tc:TE} {pos:Pos}
theorem Yt (ha:PE X a ta)(hb:PE X b tb){pins:List (Addr×Obj)}{s:Shared}{σ:St}{H:Hp}{R:V->V->Hp->Prop}(I:Inv X pins σ H s)
  (h:ta σ H fun x H1=>tb σ H1 fun y H2=>R x y H2) {Q:Value->Shared->Prop} {f:Value->Value->Sem Value}
  (hf:∀ v u s2 x y H2,Inv X pins σ H2 s2->RelV x v->RelV y u->R x y H2->wpAny (model X.prog X.w) X.A (f v u) Q X.xe s2) :
  wpAny (model X.prog X.w) X.A (eval a X.env) (fun v s₁=>wpAny (model X.prog X.w) X.A (eval b X.env) (fun u s₂=>wpAny (model X.prog X.w) X.A (f v u) Q X.xe s₂) X.xe s₁) X.xe s:=by
 refine cI (ha pins s σ H _ I h) fun v s1 ⟨x,H1,I1,r1,q1⟩=>?_;refine cI (hb pins s1 σ H1 _ I1 q1) fun u s2 ⟨y,H2,I2,r2,q2⟩=>?_;exact hf v u s2 x y H2 I2 r1 r2 q2
theorem aE {op:Operator}{r:R2}(ho:ox X (binaryOp op) r)(ha:PE X a ta)(hb:PE X b tb):PE X (.BinOp a op b pos) (tOp r ta tb):=by
 intro pins s σ H Q I h;exact wpAny_BinOp (Yt ha hb I h fun v u s2 x y H2 I2 rx ry q=>ho pins s2 σ H2 x y v u Q I2 rx ry q)
theorem Xe {op:UnaryOp}{r:V->Hp->VK->Prop}(ho:UnR X (unaryOp op) r)(ha:PE X a ta):PE X (.UnaryOp op a pos) (tUn r ta):=by
 intro pins s σ H Q I h;exact UnaryOp_ (cI (ha pins s σ H _ I h) fun v s1 ⟨x,H1,I1,r1,q1⟩=>ho pins s1 σ H1 x v Q I1 r1 q1)
theorem opI {f:Value->Value->Sem Value}{C:Int->Int->Prop}{g:Int->Int->Int}
  (rule:∀(i j:Int)(t u:Tok)(s:Shared)(Q:Value->Shared->Prop)(E:Value->Shared->Prop),C i j->Q (.int (g i j) s.toks) { s with toks:=s.toks+1 }->wpAny (model X.prog X.w) X.A (f (.int i t) (.int j u)) Q E s) :
  ox X f (rI C fun i j=>.int (g i j)):=by
 intro pins s σ H x y v u Q I rx ry h;obtain⟨i,j,rfl,rfl,hc,q⟩:=h;obtain⟨t,rfl⟩:=rx;obtain⟨t',rfl⟩:=ry;exact rule i j t t' s _ _ hc ⟨.int (g i j),H,I.tok _,⟨_,rfl⟩,q⟩
theorem Z1 {f:Value->Value->Sem Value}{g:Int->Int->Int}
  (rule:∀(i j:Int)(t u:Tok)(s:Shared)(Q:Value->Shared->Prop)(E:Value->Shared->Prop),Q (.int (g i j) s.toks) { s with toks:=s.toks+1 }->wpAny (model X.prog X.w) X.A (f (.int i t) (.int j u)) Q E s) :
  ox X f (Ys fun i j=>.int (g i j)):=by
 intro pins s σ H x y v u Q I rx ry h;obtain⟨i,j,rfl,rfl,q⟩:=h;obtain⟨t,rfl⟩:=rx;obtain⟨t',rfl⟩:=ry;exact rule i j t t' s _ _ ⟨.int (g i j),H,I.tok _,⟨_,rfl⟩,q⟩
theorem Yu {f:Value->Value->Sem Value}{g:Int->Int->Bool}
  (rule:∀(i j:Int)(t u:Tok)(s:Shared)(Q:Value->Shared->Prop)(E:Value->Shared->Prop),Q (.bool (g i j)) s->wpAny (model X.prog X.w) X.A (f (.int i t) (.int j u)) Q E s) :
  ox X f (Ys fun i j=>.bl (g i j)):=by
 intro pins s σ H x y v u Q I rx ry h;obtain⟨i,j,rfl,rfl,q⟩:=h;obtain⟨t,rfl⟩:=rx;obtain⟨t',rfl⟩:=ry;exact rule i j t t' s _ _ ⟨.bl (g i j),H,I,rfl,q⟩
def ac2 (i j:Int):Prop:=0<j/\j<1073741824
def ac3 (i j:Int):Prop:=0<=j/\j<=1000000/\i.natAbs<2 ^ 64
def Yv (i j:Int):Prop:=(-(2 ^ 64)<i/\i<2 ^ 64)\/(-(2 ^ 64)<j/\j<2 ^ 64)
theorem Yv.ok {i j:Int}(h:Yv i j):IntMulOk i j:=by
 rcases h with ⟨h1,h2⟩|⟨h1,h2⟩
 ·exact .of_left (intBits_le_64 h1 h2)
 ·exact .of_right (intBits_le_64 h1 h2)
theorem bV:ox X (binaryOp .Add) (Ys fun i j=>.int (i+j)):=Z1 fun _ _ _ _ _ _ _ q=>add_int q
theorem jh:ox X (binaryOp .Sub) (Ys fun i j=>.int (i-j)):=Z1 fun _ _ _ _ _ _ _ q=>sub_int q
theorem qI:ox X (binaryOp .Mult) (rI Yv fun i j=>.int (i * j)):=opI fun _ _ _ _ _ _ _ hc q=>mul_int q hc.ok
theorem jA:ox X (binaryOp .FloorDiv) (rI ac2 fun i j=>.int (i / j)):=opI fun i j _ _ _ _ _ hc q=>by
 have h1:(0:Int)<j:=hc.1;have h2:j<1073741824:=hc.2;exact floordiv_int (by omega) (by rw[Int.fdiv_eq_ediv_of_nonneg i (by omega)];exact q) (.inl (PyProof.noPylong_small (by omega)))
theorem cZ:ox X (binaryOp .Mod) (rI (fun _ j=>0<j) fun i j=>.int (i % j)):=opI fun i j _ _ _ _ _ hc q=>by
 have h1:(0:Int)<j:=hc;exact mod_int' (by omega) (by rw[Int.fmod_eq_emod_of_nonneg i (by omega)];exact q)
theorem Sy:ox X (binaryOp .Pow) (rI ac3 fun i j=>.int (i ^ j.toNat)):=opI fun _ _ _ _ _ _ _ hc q=>pow_int_small hc.1 hc.2.1 hc.2.2 q
theorem unI {f:Value->Sem Value}{g:Int->Int}
  (rule:∀(i:Int)(t:Tok)(s:Shared)(Q:Value->Shared->Prop)(E:Value->Shared->Prop),Q (.int (g i) s.toks) { s with toks:=s.toks+1 }->wpAny (model X.prog X.w) X.A (f (.int i t)) Q E s) :
  UnR X f (rU fun i=>.int (g i)):=by
 intro pins s σ H x v Q I rx h;obtain⟨i,rfl,q⟩:=h;obtain⟨t,rfl⟩:=rx;exact rule i t s _ _ ⟨.int (g i),H,I.tok _,⟨_,rfl⟩,q⟩
theorem Sz:UnR X (unaryOp .USub) (rU fun i=>.int (-i)):=unI fun _ _ _ _ _ q=>neg_int q
end
def Z2:V->V->Bool
 |.non,.non=>true|.non,.int _=>true|.int _,.non=>true|.non,.bl _=>true|.bl _,.non=>true|.non,.str _=>true|.str _,.non=>true
 |.int _,.int _=>true|.bl _,.bl _=>true|.str _,.str _=>true|.Sj _,.Sj _=>true
 |.int _,.str _=>true|.str _,.int _=>true|.bl _,.str _=>true|.str _,.bl _=>true
 |_,_=>false
def rEq:R2:=fun x y H Q=>Z2 x y=true/\Q (.bl (decide (x=y))) H
def rNe:R2:=fun x y H Q=>Z2 x y=true/\Q (.bl (!decide (x=y))) H
theorem Pf {i j:Int}:decide (V.int i=V.int j)=(i==j):=by
 rw[Bool.eq_iff_iff];simp
theorem SA {i j:Bool}:decide (V.bl i=V.bl j)=(i==j):=by
 rw[Bool.eq_iff_iff];simp
theorem Pg {i j:Str}:decide (V.str i=V.str j)=(i==j):=by
 rw[Bool.eq_iff_iff];simp
theorem Ph {i j:Array UInt8}:decide (V.Sj i=V.Sj j)=(i.toList==j.toList):=by
 rw[Bool.eq_iff_iff];cases i;cases j;simp
section
variable {X:Cx} {a b c:Expr} {ta tb tc:TE} {pos:Pos}
theorem ba {pins:List (Addr×Obj)}{σ:St}{H:Hp}{s:Shared}{Q:VK}{k k':Bool}(I:Inv X pins σ H s)(q:Q (.bl k) H)(e:k=k'):EP X pins σ Q (.bool k') s:=by
 subst e;exact⟨.bl k,H,I,rfl,q⟩
theorem a4:ox X (compareOp .Eq) rEq:=by
 intro pins s σ H x y v u Q I rx ry h;obtain⟨hs,q⟩:=h;cases x with
 |non =>
  cases rx;cases y with
  |non=>cases ry;exact PySem.EqNone.eq_none_none (ba I q (by simp))
  |bl j=>cases ry;exact PySem.EqNone.eq_none_bool (ba I q (by simp))
  |int j=>obtain⟨t',rfl⟩:=ry;exact PySem.EqNone.eq_none_int (ba I q (by simp))
  |str j=>obtain⟨t',rfl⟩:=ry;exact PySem.EqNone.eq_none_str (ba I q (by simp))
  |_=>exact absurd (show false=true from hs) Bool.false_ne_true
 |bl i =>
  cases rx;cases y with
  |non=>cases ry;exact PySem.EqNone.eq_bool_none (ba I q (by simp))
  |bl j=>cases ry;exact eq_bool (ba I q SA)
  |str j=>obtain⟨t',rfl⟩:=ry;exact PySem.EqMixed.eq_bool_str (ba I q (by simp))
  |_=>exact absurd (show false=true from hs) Bool.false_ne_true
 |int i =>
  obtain⟨t,rfl⟩:=rx;cases y with
  |non=>cases ry;exact PySem.EqNone.eq_int_none (ba I q (by simp))
  |int j=>obtain⟨t',rfl⟩:=ry;exact eq_int (ba I q Pf)
  |str j=>obtain⟨t',rfl⟩:=ry;exact PySem.EqMixed.eq_int_str (ba I q (by simp))
  |_=>exact absurd (show false=true from hs) Bool.false_ne_true
 |str i =>
  obtain⟨t,rfl⟩:=rx;cases y with
  |non=>cases ry;exact PySem.EqNone.eq_str_none (ba I q (by simp))
  |bl j=>cases ry;exact PySem.EqMixed.eq_str_bool (ba I q (by simp))
  |int j=>obtain⟨t',rfl⟩:=ry;exact PySem.EqMixed.eq_str_int (ba I q (by simp))
  |str j=>obtain⟨t',rfl⟩:=ry;exact eq_str (ba I q Pg)
  |_=>exact absurd (show false=true from hs) Bool.false_ne_true
 |Sj i =>
  obtain⟨t,rfl⟩:=rx;cases y with
  |Sj j=>obtain⟨t',rfl⟩:=ry;exact PySem.W.eq_bytes (ba I q Ph)
  |_=>exact absurd (show false=true from hs) Bool.false_ne_true
 |_=>cases y <;> exact absurd (show false=true from hs) Bool.false_ne_true
theorem qz:ox X (compareOp .NotEq) rNe:=by
 intro pins s σ H x y v u Q I rx ry h;obtain⟨hs,q⟩:=h;cases x with
 |non =>
  cases rx;cases y with
  |non=>cases ry;exact PySem.EqNone.ne_none_none (ba I q (by simp))
  |bl j=>cases ry;exact PySem.EqNone.ne_none_bool (ba I q (by simp))
  |int j=>obtain⟨t',rfl⟩:=ry;exact PySem.EqNone.ne_none_int (ba I q (by simp))
  |str j=>obtain⟨t',rfl⟩:=ry;exact PySem.EqNone.ne_none_str (ba I q (by simp))
  |_=>exact absurd (show false=true from hs) Bool.false_ne_true
 |bl i =>
  cases rx;cases y with
  |non=>cases ry;exact PySem.EqNone.ne_bool_none (ba I q (by simp))
  |bl j=>cases ry;exact ne_bool (ba I q (congrArg not SA))
  |str j=>obtain⟨t',rfl⟩:=ry;exact PySem.EqMixed.ne_bool_str (ba I q (by simp))
  |_=>exact absurd (show false=true from hs) Bool.false_ne_true
 |int i =>
  obtain⟨t,rfl⟩:=rx;cases y with
  |non=>cases ry;exact PySem.EqNone.ne_int_none (ba I q (by simp))
  |int j=>obtain⟨t',rfl⟩:=ry;exact ne_int (ba I q (congrArg not Pf))
  |str j=>obtain⟨t',rfl⟩:=ry;exact PySem.EqMixed.ne_int_str (ba I q (by simp))
  |_=>exact absurd (show false=true from hs) Bool.false_ne_true
 |str i =>
  obtain⟨t,rfl⟩:=rx;cases y with
  |non=>cases ry;exact PySem.EqNone.ne_str_none (ba I q (by simp))
  |bl j=>cases ry;exact PySem.EqMixed.ne_str_bool (ba I q (by simp))
  |int j=>obtain⟨t',rfl⟩:=ry;exact PySem.EqMixed.ne_str_int (ba I q (by simp))
  |str j=>obtain⟨t',rfl⟩:=ry;exact ne_str (ba I q (congrArg not Pg))
  |_=>exact absurd (show false=true from hs) Bool.false_ne_true
 |Sj i =>
  obtain⟨t,rfl⟩:=rx;cases y with
  |Sj j=>obtain⟨t',rfl⟩:=ry;exact PySem.W.ne_bytes (ba I q (congrArg not Ph))
  |_=>exact absurd (show false=true from hs) Bool.false_ne_true
 |_=>cases y <;> exact absurd (show false=true from hs) Bool.false_ne_true
theorem sR:ox X (compareOp .Lt) (Ys fun i j=>.bl (decide (i<j))):=Yu fun _ _ _ _ _ _ _ q=>lt_int q
theorem Xf:ox X (compareOp .LtE) (Ys fun i j=>.bl (decide (i<=j))):=Yu fun _ _ _ _ _ _ _ q=>le_int q
theorem Pj:ox X (compareOp .Gt) (Ys fun i j=>.bl (decide (j<i))):=Yu fun _ _ _ _ _ _ _ q=>gt_int q
theorem a7:ox X (compareOp .In) (fun x y H Q=>∃ i j,x=.str i/\y=.str j/\Q (.bl (!(Builtin.Str.occurrences j i 0 j.length 1).isEmpty)) H):=by
 intro pins s σ H x y v u Q I rx ry h;obtain⟨i,j,rfl,rfl,q⟩:=h;obtain⟨t,rfl⟩:=rx;obtain⟨t',rfl⟩:=ry;exact in_str (ba I q rfl)
theorem Ho:ox X (compareOp .Is) (fun x y H Q=>y=.non/\Q (.bl (decide (x=.non))) H):=by
 intro pins s σ H x y v u Q I rx ry h;obtain⟨rfl,q⟩:=h;cases ry;refine is_none_gen (ba I q ?_);cases x <;> first
  |(cases rx;rfl)
  |(obtain⟨t,rfl⟩:=rx;rfl)
theorem Pk:ox X (compareOp .IsNot) (fun x y H Q=>y=.non/\Q (.bl (!decide (x=.non))) H):=by
 intro pins s σ H x y v u Q I rx ry h;obtain⟨rfl,q⟩:=h;cases ry;refine isnot_none_gen (ba I q ?_);cases x <;> first
  |(cases rx;rfl)
  |(obtain⟨t,rfl⟩:=rx;rfl)
theorem ox.or {f:Value->Value->Sem Value}{r r':R2}(h:ox X f r)(h':ox X f r'):ox X f (fun x y H Q=>r x y H Q\/r' x y H Q):=by
 intro pins s σ H x y v u Q I rx ry q;rcases q with q|q
 ·exact h pins s σ H x y v u Q I rx ry q
 ·exact h' pins s σ H x y v u Q I rx ry q
theorem av (b:Expr){op:CmpOp}(h:op≠.In:=by decide)(h2:op≠.NotIn:=by decide):behindInMarks op b=false:=by
 have e1:(op==CmpOp.In)=false:=by cases op <;> first|rfl|exact absurd rfl h
 have e2:(op==CmpOp.NotIn)=false:=by cases op <;> first|rfl|exact absurd rfl h2
 cases b <;> simp[behindInMarks,e1,e2]
theorem b7 {op:CmpOp}{r:R2}(ho:ox X (compareOp op) r)(ha:PE X a ta)(hb:PE X b tb)(hm:behindInMarks op b=false):PE X (.Compare a [op] [b] pos) (tOp r ta tb):=by
 intro pins s σ H Q I h;exact wpAny_Compare1 (Yt ha hb I h fun v u s2 x y H2 I2 rx ry q=>ho pins s2 σ H2 x y v u Q I2 rx ry q) hm
inductive SD (Q:(Bool->Hp->Prop))(x:V)(H':Hp):Prop
 |mk (k:_) (qw:x=.bl k) (qx:Q k H'):SD Q x H'
def Xg (t:TE):TT:=fun σ H Q=>t σ H fun x H'=>SD Q x H'
theorem ar {op:CmpOp}{r:R2}(ho:ox X (compareOp op) r)(ha:PE X a ta)(hb:PE X b tb)(hm:behindInMarks op b=false):PT X (.Compare a [op] [b] pos) (Xg (tOp r ta tb)):=by
 intro pins s σ H Q I h;refine wpAny_isTrue_Compare1 (cI (ha pins s σ H _ I h) fun v s1 ⟨x,H1,I1,r1,q1⟩=>cI (hb pins s1 σ H1 _ I1 q1) fun u s2 ⟨y,H2,I2,r2,q2⟩ =>
  cI (ho pins s2 σ H2 x y v u _ I2 r1 r2 q2) fun c s3 ⟨z,H3,I3,r3,k,e,q3⟩=>?_) hm
 subst e;cases r3;exact wpAny_truthy_bool ⟨H3,I3,q3⟩
def Yw (r r':R2)(ta tb tc:TE):TE:=fun σ H Q=>ta σ H fun x H1=>tb σ H1 fun y H2=>r x y H2 fun z H3=>∃ k,z=.bl k /\
 (if k=true then tc σ H3 fun w' H4=>r' y w' H4 Q else Q (.bl false) H3)
theorem SE {op op':CmpOp}{r r':R2}(ho:ox X (compareOp op) r)(ho':ox X (compareOp op') r')(ha:PE X a ta)(hb:PE X b tb)(hc:PE X c tc)
  (hm:lastMarks [op,op'] [b,c]=false:=by with_unfolding_all rfl):PT X (.Compare a [op,op'] [b,c] pos) (Xg (Yw r r' ta tb tc)):=by
 intro pins s σ H Q I h;refine isTrue_chain (cI (ha pins s σ H _ I h) fun v s1 ⟨x,H1,I1,r1,q1⟩=>test_link (cI (hb pins s1 σ H1 _ I1 q1) fun u s2 ⟨y,H2,I2,r2,q2⟩ =>
  cI (ho pins s2 σ H2 x y v u _ I2 r1 r2 q2) fun d s3 ⟨z,H3,I3,r3,k,e,q3⟩=>?_)) hm
 subst e;cases r3;refine wpAny_truthy_bool ?_;cases k with
 |false =>
  obtain⟨k',e',q'⟩:=q3;cases e';exact ite_ff ⟨H3,I3,q'⟩
 |true =>
  refine ite_tt (test_last (cI (hc pins s3 σ H3 _ I3 q3) fun w' s4 ⟨z',H4,I4,r4,q4⟩=>cI (ho' pins s4 σ H4 y z' u w' _ I4 r2 r4 q4) fun d' s5 ⟨z2,H5,I5,r5,k2,e2,q5⟩=>?_));subst e2;cases r5;exact wpAny_truthy_bool ⟨H5,I5,q5⟩
theorem vC:(sizeLine:Nat)<2 ^ 63:=by rw[sizeLine_eq];decide
theorem aG:ox X (binaryOp .Add) (fun x y H Q=>∃ i j,x=.str i/\y=.str j/\i.length+j.length<=sizeLine/\Q (.str (i++j)) H):=by
 intro pins s σ H x y v u Q I rx ry h;obtain⟨i,j,rfl,rfl,hz,q⟩:=h;obtain⟨t,rfl⟩:=rx;obtain⟨t',rfl⟩:=ry;exact add_str (fun t' tk=>⟨.str (i++j),H,I.tok _,⟨_,rfl⟩,q⟩) hz
theorem vals1 {x:V}{us:List Value}(r:Vals [x] us):∃ u,us=[u]/\RelV x u:=by
 cases r with
 |cons r1 r2=>cases r2;exact⟨_,rfl,r1⟩
theorem vals2 {x y:V}{us:List Value}(r:Vals [x,y] us):∃ u w',us=[u,w']/\RelV x u/\RelV y w':=by
 cases r with
 |cons r1 r2 =>
  cases r2 with
  |cons r3 r4=>cases r4;exact⟨_,_,rfl,r1,r3⟩
theorem Qs (hc:X.calm=true):ig X (.builtin "max") (fun xs H Q=>∃ i j,xs=[.int i,.int j]/\Q (.int (if j > i then j else i)) H):=by
 intro pins s σ H xs us Q I r h;obtain⟨i,j,rfl,q⟩:=h;obtain⟨u,w',rfl,⟨t,rfl⟩,⟨t',rfl⟩⟩:=vals2 r;refine max_two_ints (I.ok.hd hc) fun h' tk k=>⟨_,H,I.kept k,?_,q⟩
 by_cases hj:j > i
 ·rw[if_pos hj,if_pos hj];exact⟨_,rfl⟩
 ·rw[if_neg hj,if_neg hj];exact⟨_,rfl⟩
theorem Qt (hc:X.calm=true):ig X (.builtin "min") (fun xs H Q=>∃ i j,xs=[.int i,.int j]/\Q (.int (if j<i then j else i)) H):=by
 intro pins s σ H xs us Q I r h;obtain⟨i,j,rfl,q⟩:=h;obtain⟨u,w',rfl,⟨t,rfl⟩,⟨t',rfl⟩⟩:=vals2 r;refine min_two_ints (I.ok.hd hc) fun h' tk k=>⟨_,H,I.kept k,?_,q⟩
 by_cases hj:j<i
 ·rw[if_pos hj,if_pos hj];exact⟨_,rfl⟩
 ·rw[if_neg hj,if_neg hj];exact⟨_,rfl⟩
theorem qc:ig X (.type "int") (fun xs H Q=>(∃ i,xs=[.int i]/\Q (.int i) H)\/∃ k,xs=[.bl k]/\Q (.int (if k then 1 else 0)) H):=by
 intro pins s σ H xs us Q I r h;rcases h with ⟨i,rfl,q⟩|⟨k,rfl,q⟩
 ·obtain⟨u,rfl,t,rfl⟩:=vals1 r;exact call_int_int ⟨.int i,H,I,⟨_,rfl⟩,q⟩
 ·obtain⟨u,rfl,r1⟩:=vals1 r;cases r1;exact call_int_bool ⟨.int (if k then 1 else 0),H,I.tok _,⟨_,rfl⟩,q⟩
end
end L2
namespace L2
open PySem PySem.Spec PyProof.Rows
structure Yx (h:Heap)(x dx C:Addr)(mA:Str->Option Value):Prop where
 obj:h.get? x=some (instObj C dx)
 ns:h.Ns1 dx mA
 ne:dx≠x
theorem Qu {h:Heap}{dx:Addr}{mA:Str->Option Value}(n:h.Ns1 dx mA):∃ od,h.get? dx=some od/\∀ name,lookIn name od=some (mA name):=by
 obtain⟨o,es,ep,ho,hd,hk,_,hm⟩:=n;refine⟨o,ho,fun name=>?_⟩;have e:=hm name;unfold nsFind findBy at e;rw[<-Array.find?_toList]at e;unfold lookIn;rw[hd];dsimp only;split
 ·rename_i y q
  rw[q]at e;exact congrArg some e
 ·rename_i q
  rw[q]at e;have a:es.toList.any (·.refKey)=false:=by
   rw[List.any_eq_false];intro y hy;obtain⟨z,t,hkey⟩:=hk y (Array.mem_toList_iff.mp hy);simp[DictEntry.refKey,hkey]
  have a':¬ es.toList.any (·.refKey)=true:=by rw[a];exact Bool.false_ne_true
  rw[if_neg a'];exact congrArg some e
theorem Yx.look {h:Heap}{x dx C:Addr}{mA:Str->Option Value}(I:Yx h x dx C mA):∃ od,PySem.W.InstAt h x (instObj C dx) C (some od)/\∀ name,lookIn name od=some (mA name) :=
 let ⟨od,ho,hl⟩:=Qu I.ns
 ⟨od,⟨I.obj,rfl,rfl,ho⟩,hl⟩
section
variable {prog:Program} {w:World} {A:Around} {E:Value->Shared->Prop} {s:Shared} {K:Frag} {x dx C f:Addr} {mA:Str->Option Value} {name:Str} {v:Value}
end
theorem oa.some_of {v:V}{o:Option Value}(r:oa (some v) o):∃ u,o=some u/\RelV v u:=by
 cases o with
 |none=>exact(show False from r).elim
 |some u=>exact⟨u,rfl,r⟩
section
variable {P:Program} {w:World} {H H':Hp} {h h':Heap} {a C dx:Addr} {fs fs':List (Str×V)}
theorem Vr (hok:qv P w H h)(e:H a=some (.ins C dx fs)):∃ mA,Yx h a dx C mA/\(∀ f,oa (fs.lookup f) (mA f))/\PySem.Within mA (fs.map (·.1))/\fs.length<=1000/\H dx=some (.own a):=by
 obtain⟨d,z,ne,ob,mA,n,r,q⟩:=(show cB P w H h a (.ins C dx fs) from hok a _ e);exact⟨mA,⟨ob,n,ne⟩,r,q,z,d⟩
end
structure Z4 (K:Frag)(C:Addr):Prop where
 pg:plainGet K C Str.empty=true
 hd:PySem.W.hasDictIn K C=true
 po:PySem.W.plainOver K C=true
 sa:findIn K (.ref C) "__setattr__"=some (some (.builtin "object.__setattr__"))
theorem Z4.get {K:Frag}{C:Addr}(c:Z4 K C)(f:Str):plainGet K C f=true:=c.pg
section
variable {X:Cx} {pins:List (Addr×Obj)} {σ:St} {H:Hp} {s:Shared} {a C dx:Addr} {fs:List (Str×V)} {f:Str} {v:V} {A:Around} {E:Value->Shared->Prop}
end
section
variable {X:Cx} {o e value:Expr} {f:Str} {pos pos' tpos:Pos} {ta tv:TE}
end
section
variable {X:Cx} {pins:List (Addr×Obj)} {σ:St} {H:Hp} {s:Shared} {A:Around} {E:Value->Shared->Prop} {Q:Value->Shared->Prop} {c:Value} {b:Bool}
inductive oe (K:Frag)(H:Hp):V->Value->Prop where
 |non:oe K H .non (.type "NoneType")
 |bl (x:Bool):oe K H (.bl x) (.type "bool")
 |int (i:Int):oe K H (.int i) (.type "int")
 |str (x:Str):oe K H (.str x) (.type "str")
 |flt (x:UInt64):oe K H (.flt x) (.type "float")
 |lst {a:Addr} {xs:List V} (e:H a=some (.lst xs)):oe K H (.ref a) (.type "list")
 |jC {a:Addr} {o:Obj} {xs:List V} (e:H a=some (.jC o (.lst xs))):oe K H (.ref a) (.type "list")
 |tup {a:Addr} {xs:List V} (e:H a=some (.tup xs)):oe K H (.ref a) (.type "tuple")
 |dK {a:Addr} {kvs:List (Key×V)} (e:H a=some (.dK kvs)):oe K H (.ref a) (.type "dict")
 |dT {a:Addr} {kvs:List (List Key×V)} (e:H a=some (.dT kvs)):oe K H (.ref a) (.type "dict")
 |ins {a C dx:Addr} {fs:List (Str×V)} (e:H a=some (.ins C dx fs)) (cl:Z4 K C) (ha:findIn K (.ref C) "__class__"=some (some (.builtin "object.__class__")))
   (hn:specialIn K (.builtin "object.__class__") "__get__"=some (some (.builtin "getset_descriptor.__get__"))) (htk:PySem.W.takesIn K (.builtin "object.__class__")=some true)
   (hm:mroIn K C (.type "object")=some true):oe K H (.ref a) (.ref C)
theorem Qv {x:V}{u t:Value}(I:Inv X pins σ H s)(rx:RelV x u)(ty:oe X.K H x t)(e:kitOne X.K t c=some b)(h:∀ tk,Q (.bool b) { s with toks:=tk }) :
  wpAny (model X.prog X.w) A (call (.builtin "isinstance") [u,c]) Q E s:=by
 cases ty with
 |non=>cases (show u=Value.none from rx);exact kia_one PySem.W.kitx_none I.EZ True.intro e (fun z=>nomatch z) h
 |bl y=>cases (show u=Value.bool y from rx);exact kia_one PySem.W.kitx_bool I.EZ True.intro e (fun z=>nomatch z) h
 |int i=>obtain⟨t,q⟩:=(show ∃ t,u=Value.int i t from rx);cases q;exact kia_one PySem.W.kitx_int I.EZ True.intro e (fun z=>nomatch z) h
 |str y=>obtain⟨t,q⟩:=(show ∃ t,u=Value.str y t from rx);cases q;exact kia_one PySem.W.kitx_str I.EZ True.intro e (fun z=>nomatch z) h
 |flt y=>obtain⟨t,q⟩:=(show ∃ t,u=Value.float y t from rx);cases q;exact kia_one PySem.W.kitx_float I.EZ True.intro e (fun z=>nomatch z) h
 | @lst a xs ea =>
  cases (show u=Value.ref a from rx);obtain⟨_,_,n,_,h1⟩:=(show cB X.prog X.w H s.heap a (.lst xs) from I.hok a _ ea);exact kia_one kitx_list I.EZ ⟨_,h1,rfl⟩ e (fun z=>nomatch z) h
 | @jC a ob xs ea =>
  cases (show u=Value.ref a from rx);obtain⟨_,_,_,n,_,h1⟩:=(show cB X.prog X.w H s.heap a (.jC ob (.lst xs)) from I.hok a _ ea);exact kia_one kitx_list I.EZ ⟨_,h1,rfl⟩ e (fun z=>nomatch z) h
 | @tup a xs ea =>
  cases (show u=Value.ref a from rx);obtain⟨_,_,_,p⟩:=(show cB X.prog X.w H s.heap a (.tup xs) from I.hok a _ ea);obtain⟨o,h1,h2,_⟩:=p;exact kia_one kitx_tuple I.EZ ⟨o,h1,h2⟩ e (fun z=>nomatch z) h
 | @dK a kvs ea =>
  cases (show u=Value.ref a from rx);obtain⟨_,_,vs,_,p⟩:=(show cB X.prog X.w H s.heap a (.dK kvs) from I.hok a _ ea);obtain⟨o,es,ep,h1,h2,_⟩:=p;exact kia_one kitx_dict I.EZ ⟨o,h1,h2.1⟩ e (fun z=>nomatch z) h
 | @dT a kvs ea =>
  cases (show u=Value.ref a from rx);obtain⟨_,_,xs,_,o,es,ep,h1,h2,_⟩:=(show cB X.prog X.w H s.heap a (.dT kvs) from I.hok a _ ea);exact kia_one kitx_dict I.EZ ⟨o,h1,h2.1⟩ e (fun z=>nomatch z) h
 | @ins a C dx fs ea cl ha hn htk hm =>
  cases (show u=Value.ref a from rx);obtain⟨mA,O,_⟩:=Vr I.hok ea;obtain⟨od,J,_⟩:=O.look;exact kia_one (PySem.W.kitx_own (cl.get _) cl.hd ha hn htk hm) I.EZ J e (fun z=>nomatch z) h
end
end L2
namespace L2
open PySem PySem.Spec PyProof.Rows
structure kW (k:Nat)(A:Around):Prop where
 hd:A.handled=none
 dp:A.depth+3 * k+5<recursionLimit
 un:A.units+16 * k+200<cLine
theorem kW.mono {j k:Nat}{A:Around}(r:kW k A)(h:j<=k):kW j A:=⟨r.hd,by have:=r.dp;omega,by have:=r.un;omega⟩
theorem kW.deeper {k:Nat}{A:Around}(r:kW (k+1) A)(env:Env):kW k (A.deeper env) :=
 ⟨r.hd,by have:=r.dp;show A.depth+1+3 * k+5<_;omega,by have:=r.un;show A.units+3+16 * k+200<_;omega⟩
theorem kW.depth {k:Nat}{A:Around}(r:kW k A):A.depth<recursionLimit:=by have:=r.dp;omega
theorem kW.units {k:Nat}{A:Around}(r:kW k A):A.units+64<cLine:=by have:=r.un;omega
def Z7:TA:=fun _ H Q=>Q [] H
def Xh (ta:TE)(tr:TA):TA:=fun σ H Q=>ta σ H fun x H1=>tr σ H1 fun xs H2=>Q (x::xs) H2
section
variable {X:Cx} {e:Expr} {es:List Expr} {te:TE} {t:TA} {pos:Pos}
theorem ao:PA X [] Z7:=fun _ _ _ _ H Q I h=>Calls.spliced_nil ⟨[],H,I,.nil,h⟩
theorem aa (ha:PE X e te)(hr:PA X es t)(hs:starEach (e::es) X.env=(false,eval e X.env)::starEach es X.env:=by rfl):PA X (e::es) (Xh te t):=by
 intro pos pins s σ H Q I h;rw[hs];show wpAny _ _ (spliced ((false,eval e X.env)::backTo pos (starEach es X.env))) _ _ s;refine Calls.spliced_cons (cI (ha pins s σ H _ I h) fun u s1 ⟨x,H1,I1,r1,q1⟩=>?_);exact cI (hr pos pins s1 σ H1 _ I1 q1) fun us s2 ⟨xs,H2,I2,r2,q2⟩=>⟨x::xs,H2,I2,.cons r1 r2,q2⟩
def ac4 (t:TA):TE:=fun σ H Q=>t σ H fun xs H1=>xs.length<=sizeLine/\∀ p,H1 p=none->Q (.ref p) (upd H1 p (.tup xs))
def ac5 (t:TA):TE:=fun σ H Q=>t σ H fun xs H1=>xs.length<=sizeLine/\∀ p,H1 p=none->Q (.ref p) (upd H1 p (.lst xs))
theorem ee {x1}(h:PA X es t):PE X (.Tuple es x1 pos) (ac4 t):=by
 intro pins s σ H Q I hq;refine wpAny_Tuple_spliced (cI (h pos pins s σ H _ I hq) fun us s1 ⟨xs,H1,I1,r,z,q⟩=>⟨by rw[<-r.length];exact z,?_⟩);have hf:H1 s1.heap.objs.size=none:=I1.hok.fresh (Nat.le_refl _);refine⟨.ref s1.heap.objs.size,upd H1 s1.heap.objs.size (.tup xs),I1.laid (t':=s1.toks) (fun b u e=>Heap.get?_push_of_some _ e) (Nat.le_refl _) ?_,rfl,q _ hf⟩;exact⟨z,us,r,⟨_,Heap.get?_push_size _ rfl,rfl,_,rfl⟩⟩
theorem e8 (h:PA X es t):PE X (.List es pos) (ac5 t):=by
 intro pins s σ H Q I hq;refine wpAny_List_spliced (cI (h pos pins s σ H _ I hq) fun us s1 ⟨xs,H1,I1,r,z,q⟩=>⟨by rw[<-r.length];exact z,?_⟩);have hf:H1 s1.heap.objs.size=none:=I1.hok.fresh (Nat.le_refl _);refine⟨.ref s1.heap.objs.size,upd H1 s1.heap.objs.size (.lst xs),I1.laid (t':=s1.toks) (fun b u e=>Heap.get?_push_of_some _ e) (Nat.le_refl _) ?_,rfl,q _ hf⟩;exact⟨z,us,0,r,Heap.get?_push_size _ rfl⟩
end
abbrev Sp:=List V->Hp->VK->XK->Prop
abbrev SG:=List Env->Hp->Shared->XK->Value->Shared->Prop
structure Vs (P:Program)(w:World)(K:Frag)(mg:Str->Option Value)(base:Heap)(A:Around)(outer:List Env)(s:Shared)(H:Hp):Prop where
 frames:A.frames=some outer
 mod:Mod K mg base
 bs:∀ b o,base.get? b=some o->s.heap.get? b=some o/\H b=none
 Vc:base.objs.size<=s.heap.objs.size
 BI:s.heap.FunFrames base outer
 ZF:∀ b∈frs outer,H b=none
 hok:qv P w H s.heap
 bare:AllBare s.gens
def CE (outer:List Env)(P:Program)(w:World)(H:Hp)(s:Shared)(Q:VK)(u:Value)(s':Shared):Prop :=
 ∃ v H',s'.os=s.os/\AllBare s'.gens/\Un (frs outer) [] H H' s.heap s'.heap/\qv P w H' s'.heap/\RelV v u/\Q v H'
def CR (CX:SG)(outer:List Env)(P:Program)(w:World)(H:Hp)(s:Shared)(Q:VK)(E:XK)(r:Result)(s':Shared):Prop :=
 match r with
 |.ok (.ret u)=>CE outer P w H s Q u s'
 |.ok _=>False
 |.error e=>CX outer H s E e s'
structure cw (P:Program)(w:World)(K:Frag)(mg:Str->Option Value)(base:Heap)(CX:SG)(k:Nat)(f:Addr)(fd:FuncData)(ps:List Str)(sp:Sp):Prop where
 len:∀ vs H Q E,sp vs H Q E->vs.length=ps.length
 run:∀(A:Around)(outer:List Env)(s:Shared)(H:Hp)(args:Args)(us:List Value)(vs:List V)(Q:VK)(E:XK),kW k A->Vs P w K mg base A outer s H->BindsTo s fd args (ps.zip us)->Vals vs us->sp vs H Q E ->
  codeAny (model P w) A (.call (.ref f) args) (CR CX outer P w H s Q E) s
section
variable {X:Cx} {pins:List (Addr×Obj)} {σ:St} {H:Hp} {s s':Shared}
theorem Inv.env0 (I:Inv X pins σ H s):Vs X.prog X.w X.K X.mg X.base X.A X.stack s H :=
 ⟨I.ok.frames,I.ok.mod,I.bs,Nat.le_trans I.ok.Vc I.sz,I.stack,I.Pc,I.hok,I.bare⟩
theorem Inv.after {Q:VK}{u:Value}(I:Inv X pins σ H s)(h:CE X.stack X.prog X.w H s Q u s'):EP X pins σ Q u s':=by
 obtain⟨v,H',os,bare,un,hok,r,q⟩:=h;obtain⟨hh,g,d,t,os'⟩:=s';obtain rfl:os'=s.os:=os;exact⟨v,H',I.call (h':=hh) (g':=g) (d':=d) (t':=t) (ch:=[]) un hok bare (fun b z=>absurd z (by simp)),r,q⟩
end
def Z8 (sp:Sp)(MO:List V)(E:XK)(t:TA):TE:=fun σ H Q=>t σ H fun vs H1=>sp (vs++MO) H1 Q E
def Binds (K:Frag)(fd:FuncData)(ps:List Str)(ds:List Value):Prop :=
 ∀(s:Shared)(us:List Value),K.In s.heap->(us++ds).length=ps.length->BindsTo s fd ⟨us,[]⟩ (ps.zip (us++ds))
theorem Binds.all {K:Frag}{fd:FuncData}{ps:List Str}(h:∀ us:List Value,us.length=ps.length->bindArgs fd ⟨us,[]⟩=pure (ps.zip us)):Binds K fd ps []:=fun s us _ hl=>by
 rw[append_nil]at hl ⊢;exact .of_eq (h us hl)
def Passes (CX:SG)(X:Cx)(E:XK):Prop:=∀(pins:List (Addr×Obj)) (σ:St) (H:Hp) (s:Shared) (e:Value) (s':Shared),Inv X pins σ H s->CX X.stack H s E e s'->X.xe e s'
section
variable {X:Cx} {CX:SG} {k:Nat} {f C:Addr} {fd:FuncData} {ps:List Str} {sp:Sp} {MO:List V} {ds:List Value} {E:XK} {x m:Str} {p pos apos:Pos} {e o:Expr} {es:List Expr} {ta:TE} {t:TA}
theorem Yz {pins:List (Addr×Obj)}{σ:St}{H:Hp}{s:Shared}{Q:VK}{us:List Value}{vs:List V}(F:cw X.prog X.w X.K X.mg X.base CX k f fd ps sp)(hr:kW k X.A)(hb:Binds X.K fd ps ds)(hd:Vals MO ds)(hx:Passes CX X E)
  (I:Inv X pins σ H s) (r:Vals vs us) (h:sp (vs++MO) H Q E):wpAny (model X.prog X.w) X.A (call (.ref f) us) (EP X pins σ Q) X.xe s:=by
 have r2:Vals (vs++MO) (us++ds):=r.append hd;have hl:(us++ds).length=ps.length:=by rw[<-r2.length];exact F.len _ _ _ _ h
 refine wpAny_call (codeAny_mono (F.run X.A X.stack s H ⟨us,[]⟩ (us++ds) (vs++MO) Q E hr I.env0 (hb s us I.EZ hl) r2 h) fun r s' hq=>?_);cases r with
 |error e=>exact hx pins σ H s e s' I hq
 |ok fl =>
  cases fl with
  |ret u=>exact I.after hq
  |next=>exact False.elim hq
  |brk=>exact False.elim hq
  |cont=>exact False.elim hq
theorem ax (F:cw X.prog X.w X.K X.mg X.base CX k f fd ps sp)(hr:kW k X.A)(hg:Gl X x)(hm:X.mg x=some (.ref f))(hk:keepIn X.K (.ref f)=true)(hb:Binds X.K fd ps ds)(hd:Vals MO ds)(hx:Passes CX X E)
  (ha:PA X (e::es) t) (hdb:(x==("__debug__":Str))=false:=by decide) (he:starEach (e::es) X.env=(false,eval e X.env)::starEach es X.env:=by rfl) (hpl:(backTo pos (starEach es X.env)).any (·.1)=false:=by rfl) :
  PE X (.Call (.Name x p) (e::es) [] pos) (Z8 sp MO E t):=by
 intro pins s σ H Q I h;refine wpAny_Call_Name_kw (Pe I hg hm ?_ hdb);refine PySem.W.callWith_K (h₀:=X.base) I.ok.mod.kin hk (cI (ha pos pins s σ H _ I h) fun us s1 ⟨vs,H1,I1,r,q⟩=>⟨I1.EZ,?_⟩) he hpl;exact Yz F hr hb hd hx I1 r q
end
section
variable {X:Cx} {CX:SG} {k:Nat} {f C:Addr} {fd:FuncData} {ps ks:List Str} {sp:Sp} {E:XK} {x m:Str} {p pos apos af3:Pos} {e o:Expr} {es:List Expr} {kws:List Keyword} {te ta:TE} {t tk:TA} {nm:Option Str}
variable {g:List Value->List Value->List Value} {gV:List V->List V->List V}
end
structure aF (N P:List Str)(sc:Scope):Prop where
 kind:sc.kind=.function
 co:sc.isCoroutine=false
 gen:sc.isGenerator=false
 nd:N.Nodup
 pre:N.take P.length=P
 par:∀ x∈P,sc.names.lookup x=some .local\/sc.names.lookup x=some .cell
 YA:∀ y∈sc.names,y.2≠.free
theorem Gv {kindOf:Str->Option NameKind}{x:Str}:∀{binds:List (Str×Value)} {m:Str->Option Value},(∀ v,(x,v) ∉ binds)->bindL kindOf binds m x=m x
 |[],_,_=>rfl
 |(n,v)::r,m,h=>by
  unfold bindL;rw[Gv fun w hw=>h w (mem_cons_of_mem _ hw)];split
  ·have:x≠n:=by rintro rfl;exact h v mem_cons_self
   simp[this]
  ·rfl
theorem Gw {kindOf:Str->Option NameKind}{x:Str}:∀{binds:List (Str×Value)} {m:Str->Option Value},(∀ v,(x,v) ∉ binds)->bindC kindOf binds m x=m x
 |[],_,_=>rfl
 |(n,v)::r,m,h=>by
  unfold bindC;rw[Gw fun w hw=>h w (mem_cons_of_mem _ hw)];split
  ·rfl
  ·have:x≠n:=by rintro rfl;exact h v mem_cons_self
   simp[this]
theorem Gx {kindOf:Str->Option NameKind}{x:Str}{v:Value}:∀{P:List Str} {vs:List Value} {i:Nat} {m:Str->Option Value},P.Nodup->P[i]? = some x->vs[i]? = some v->kindOf x=some .local ->
  bindL kindOf (P.zip vs) m x=some v
 |[],_,_,_,_,h,_,_=>by simp at h
 |_::_,[],_,_,_,_,h,_=>by simp at h
 |p::P,w::vs,0,m,nd,h1,h2,hk=>by
  simp at h1 h2;subst h1;subst h2;show bindL kindOf ((p,w)::P.zip vs) m p=_;unfold bindL;rw[Gv fun v hv=>(List.nodup_cons.mp nd).1 (List.of_mem_zip hv).1,if_pos hk];simp
 |p::P,w::vs,i+1,m,nd,h1,h2,hk=>by
  show bindL kindOf ((p,w)::P.zip vs) m x=_;unfold bindL;exact Gx (i:=i) (List.nodup_cons.mp nd).2 (by simpa using h1) (by simpa using h2) hk
theorem Gy {kindOf:Str->Option NameKind}{x:Str}{v:Value}:∀{P:List Str} {vs:List Value} {i:Nat} {m:Str->Option Value},P.Nodup->P[i]? = some x->vs[i]? = some v->kindOf x≠some .local ->
  bindC kindOf (P.zip vs) m x=some v
 |[],_,_,_,_,h,_,_=>by simp at h
 |_::_,[],_,_,_,_,h,_=>by simp at h
 |p::P,w::vs,0,m,nd,h1,h2,hk=>by
  simp at h1 h2;subst h1;subst h2;show bindC kindOf ((p,w)::P.zip vs) m p=_;unfold bindC;rw[Gw fun v hv=>(List.nodup_cons.mp nd).1 (List.of_mem_zip hv).1,if_neg hk];simp
 |p::P,w::vs,i+1,m,nd,h1,h2,hk=>by
  show bindC kindOf ((p,w)::P.zip vs) m x=_;unfold bindC;exact Gy (i:=i) (List.nodup_cons.mp nd).2 (by simpa using h1) (by simpa using h2) hk
def start (N:List Str)(vs:List V):St:=vs.map some++List.replicate (N.length-vs.length) none
def Lf (CX:SG)(P:Program)(w:World)(K:Frag)(mg:Str->Option Value)(base:Heap)(N:List Str)(qual:Str)(scope:Scope)(f:Addr)(cd:Value)(A:Around)(outer:List Env)(s:Shared)(H:Hp)(E:XK):Cx where
 prog:=P
 w:=w
 K:=K
 mg:=mg
 base:=base
 A:=A.deeper (envOfC qual scope s.heap.objs.size f cd)
 N:=N
 s₀:=s
 H₀:=H
 env:=envOfC qual scope s.heap.objs.size f cd
 outer:=outer
 stack:=envOfC qual scope s.heap.objs.size f cd::outer
 ex:=[]
 calm:=true
 fn:=fun _=>true
 pn:=[]
 xe:=fun e s'=>wpAny (model P w) (A.deeper (envOfC qual scope s.heap.objs.size f cd)) (leaving (envOfC qual scope s.heap.objs.size f cd) e) (fun _ s''=>CX outer H s E e s'') (fun e' s''=>CX outer H s E e' s'') s'
theorem Lg {sc:Scope}{n:Nat}{x:Str}(h:sc.names.lookup x=some .cell):∃ c,(cellsFrom n sc.names []).lookup x=some c:=by
 have q:=PySem.W.cellsFrom_some sc.names n [] (.inl h);exact Option.isSome_iff_exists.mp q
theorem Qw {CX:SG}{P:Program}{w:World}{K:Frag}{mg:Str->Option Value}{base:Heap}{N ps:List Str}{qual:Str}{scope:Scope}{f:Addr}{cd:Value}{A:Around}{outer:List Env}{s s1:Shared}{H:Hp}{E:XK}{us:List Value}{vs:List V}
  (S:aF N ps scope) (hd:A.handled=none) (e0:Vs P w K mg base A outer s H) (hl:vs.length=ps.length) (r:Vals vs us)
  (x:InCallC s s.heap.objs.size (bindL (envOfC qual scope s.heap.objs.size f cd).kindOf (ps.zip us) fun _=>none) (cellsFrom (s.heap.objs.size+1) scope.names []) (bindC (envOfC qual scope s.heap.objs.size f cd).kindOf (ps.zip us) fun _=>none) s1) :
  Inv (Lf CX P w K mg base N qual scope f cd A outer s H E) [] (start N vs) H s1:=by
 have hpl:ps.length<=N.length:=by have:=congrArg List.length S.pre;rw[length_take]at this;omega
 obtain⟨h1,tk,rfl,hk⟩:=x.done;have Z9:∀ b:Addr,b ∉ (Lf CX P w K mg base N qual scope f cd A outer s H E).ex:=fun b z=>absurd (show b∈([]:List Addr) from z) (by simp);refine⟨⟨e0.mod,S.kind,rfl,rfl,Nat.le_refl _,fun y z c h1 h2=>?_,fun y hy=>?_,fun y c _ h=>?_,fun _=>hd,Around.frames_deeper e0.frames,.inr ⟨rfl,rfl⟩,fun b z=>absurd z (Z9 b),e0.bs,e0.Vc,fun b _ _=>Z9 b,fun b z=>absurd z (Z9 b),e0.BI,e0.ZF⟩,
  rfl,e0.bare,Un.kept hk,⟨_,x.toInCall.ns,fun i y v h1 h2 h3=>?_⟩,fun y c h=>⟨_,x.cell y c h⟩,e0.hok.fresh (Nat.le_refl _),fun y c h=>?_,fun p hp=>absurd (show p∈([]:List (Addr×Obj)) from hp) (by simp),e0.hok.kept hk,?_⟩
 ·exact name_of_addr x.apart (PySem.mem_of_lookup h1) (PySem.mem_of_lookup h2)
 ·have hy:scope.names.lookup y=some .cell\/scope.names.lookup y=some .free:=hy;rcases hy with hy|hy
  ·exact Lg hy
  ·exact absurd rfl (S.YA _ (PySem.mem_of_lookup hy))
 ·exact Nat.le_of_lt (x.above y c (PySem.mem_of_lookup h))
 ·have hi:i<vs.length:=by
   unfold start at h2
   by_cases hi:i<vs.length
   ·exact hi
   ·rw[getElem?_append_right (by simpa using hi)]at h2;rw[List.getElem?_replicate]at h2;split at h2 <;> cases h2
  have ha:vs[i]? = some v:=by
   unfold start at h2;rw[List.getElem?_append_left (by simpa using hi),getElem?_map]at h2;cases e:vs[i]? with
   |none=>rw[e]at h2;cases h2
   |some a=>rw[e]at h2;cases h2;rfl
  obtain⟨u,hu,rv⟩:=r.get ha;have hp:ps[i]? = some y:=by
   rw[<-S.pre,List.getElem?_take_of_lt (by omega)];exact h1
  have ndP:ps.Nodup:=by rw[<-S.pre];exact S.nd.sublist (List.take_sublist _ _)
  refine⟨u,rv,?_⟩;rcases S.par y (mem_of_getElem? hp) with k|k
  ·exact .inl ⟨k,Gx ndP hp hu k⟩
  ·obtain⟨c,e⟩:=Lg (n:=s.heap.objs.size+1) k;refine .inr ⟨.inl k,c,e,?_⟩;have q:=x.cell y c e;rw[Gy ndP hp hu (by show scope.names.lookup y≠_;rw[k];decide)]at q;exact q
 ·exact e0.hok.fresh (Nat.le_of_lt (x.above y c (PySem.mem_of_lookup h)))
 ·unfold start;show _=N.length;rw[length_append,length_map,List.length_replicate];omega
theorem SH {CX:SG}{P:Program}{w:World}{K:Frag}{mg:Str->Option Value}{base:Heap}{k:Nat}{f:Addr}{name qual:Str}{params:Arguments}{body:List Stmt}{scope:Scope}{dV kV doc pm cdv ct oc:Value}{an od:Option Addr}
  {osl:Array (Option Value)} {N ps:List Str} {sp:Sp} (lk:K.lookup f=some ⟨oc,od,.func (fnOf name qual params body scope dV kV doc pm an cdv ct),osl⟩) (hcd:codeIn K cdv qual=true) (S:aF N ps scope)
  (len:∀ vs H Q E,sp vs H Q E->vs.length=ps.length)
  (hbody:∀(A:Around)(outer:List Env)(s:Shared)(H:Hp)(vs:List V)(Q:VK)(E:XK),kW k (A.deeper (envOfC qual scope s.heap.objs.size f cdv))->sp vs H Q E ->
   ∃ t,Lc (Lf CX P w K mg base N qual scope f cdv A outer s H E) body t/\t { nx:=fun _ H'=>Q .non H',rt:=Q } (start N vs) H) :
  cw P w K mg base CX (k+1) f (fnOf name qual params body scope dV kV doc pm an cdv ct) ps sp:=by
 refine⟨len,fun A outer s H args us vs Q E hr e0 hb r hsp=>?_⟩;have hl:=len _ _ _ _ hsp;have KX:K.In s.heap:=e0.mod.kin.keeps fun b o e=>(e0.bs b o e).1;have lim:s.heap.NoLimit:=e0.mod.nolimit.keeps fun b o e=>(e0.bs b o e).1;have hkind:∀ y∈ps.zip us,scope.names.lookup y.1=some .local\/(scope.names.lookup y.1=some .cell/\((cellsFrom (s.heap.objs.size+1) scope.names []).lookup y.1).isSome=true):=fun⟨n,v⟩ hy=>by
  rcases S.par n (List.of_mem_zip hy).1 with q|q
  ·exact .inl q
  ·exact .inr ⟨q,PySem.W.cellsFrom_some _ _ _ (.inl q)⟩
 refine codeAny_call_function hr.depth (KX _ _ lk) rfl S.co S.gen rfl (PySem.W.codeRec_of KX hcd) (hb _ _ _ _ ?_);refine wpAny_newFunctionEnv_cells S.kind hkind fun env he s1 x=>?_;subst he;refine⟨lim.keeps x.toInCall.keep,codeAny_func ?_⟩;obtain⟨t,ht,hq⟩:=hbody A outer s H vs Q E (hr.deeper _) hsp;have I:Inv (Lf CX P w K mg base N qual scope f cdv A outer s H E) [] (start N vs) H s1:=Qw S hr.hd e0 hl r x;refine wpAny_mono (ht [] s1 (start N vs) H _ I hq) (fun fl s' hs=>?_) fun e s' hs=>hs;have fin:∀{σ':St} {H':Hp} {v:V} {u:Value},Inv (Lf CX P w K mg base N qual scope f cdv A outer s H E) [] σ' H' s'->RelV v u->Q v H'->CE outer P w H s Q u s' :=
  fun {σ' H' v u} J rv q=>⟨v,H',J.os,J.bare,J.base,J.hok,rv,q⟩
 cases fl with
 |ret u =>
  obtain⟨v,σ',H',J,rv,q⟩:=hs;exact fin J rv q
 |next =>
  obtain⟨σ',H',J,q⟩:=hs;exact fin (v:=V.non) (u:=Value.none) J rfl q
 |brk =>
  obtain⟨_,_,_,q⟩:=hs;exact False.elim q
 |cont =>
  obtain⟨_,_,_,q⟩:=hs;exact False.elim q
end L2
namespace L2
open PySem PySem.Spec PyProof.Rows
section
variable {X:Cx} {x:Str} {p pos:Pos} {e:Expr} {es:List Expr} {t:TA} {id T:String} {r:List V->Hp->VK->Prop}
def tCB (r:List V->Hp->VK->Prop)(t:TA):TE:=fun σ H Q=>t σ H fun vs H1=>r vs H1 Q
theorem bF (hc:ig X (.builtin id) r)(hg:Gl X x)(hm:X.mg x=none)(hv:bootBuiltins x=some (.builtin id))(ha:PA X (e::es) t)(hn:x ≠ "__name__":=by decide)(hdb:(x==("__debug__":Str))=false:=by decide)
  (he:starEach (e::es) X.env=(false,eval e X.env)::starEach es X.env:=by rfl) (hpl:(backTo pos (starEach es X.env)).any (·.1)=false:=by rfl):PE X (.Call (.Name x p) (e::es) [] pos) (tCB r t):=by
 intro pins s σ H Q I h;refine wpAny_Call_Name_kw (vB I hg hm hv ?_ hn hdb);exact PyProof.Rows.callWith_builtin1 (cI (ha pos pins s σ H _ I h) fun us s1 ⟨vs,H1,I1,r1,q1⟩=>hc pins s1 σ H1 vs us Q I1 r1 q1) he hpl
theorem gi (hc:ig X (.type T) r)(hg:Gl X x)(hm:X.mg x=none)(hv:bootBuiltins x=some (.type T))(ha:PA X (e::es) t)(hn:x ≠ "__name__":=by decide)(hdb:(x==("__debug__":Str))=false:=by decide)
  (he:starEach (e::es) X.env=(false,eval e X.env)::starEach es X.env:=by rfl) (hpl:(backTo pos (starEach es X.env)).any (·.1)=false:=by rfl):PE X (.Call (.Name x p) (e::es) [] pos) (tCB r t):=by
 intro pins s σ H Q I h;refine wpAny_Call_Name_kw (vB I hg hm hv ?_ hn hdb);exact PyProof.Rows.callWith_type1 (cI (ha pos pins s σ H _ I h) fun us s1 ⟨vs,H1,I1,r1,q1⟩=>hc pins s1 σ H1 vs us Q I1 r1 q1) he hpl
end
end L2
namespace HT
open PySem PyProof.Rows
section
open PySem.SeqAt
open PySem.AutoSeq1 (wpAny_loadPart')
open PySem.MeetsSeq PySem.MeetsSeq2 PySem.MeetsSeq3
end
section
variable {prog:Program} {w:World} {A:Around} {E:Value->Shared->Prop} {s:Shared}
def iw (n d:Nat):Option Int->Nat
 |none=>d
 |some v=>if v<0 then(v+(n:Int)).toNat else min v.toNat n
theorem Lh (n d:Nat):iw n d none=d:=rfl
theorem Pl (n d k:Nat):iw n d (some (k:Int))=min k n:=by
 show(if(k:Int)<0 then((k:Int)+(n:Int)).toNat else min (k:Int).toNat n)=min k n;rw[if_neg (by omega),Int.toNat_natCast]
theorem YB (n d:Nat)(hd:d<=n)(o:Option Int):iw n d o<=n:=by
 cases o with
 |none=>exact hd
 |some v =>
  show(if v<0 then(v+(n:Int)).toNat else min v.toNat n)<=n
  by_cases hv:v<0
  ·rw[if_pos hv];omega
  ·rw[if_neg hv];exact Nat.min_le_right _ _
theorem Pm (v:Int)(n d:Nat):(if v<0 then max (v+(n:Int)) 0 else min v (n:Int))=((iw n d (some v):Nat):Int):=by
 show(if v<0 then max (v+(n:Int)) 0 else min v (n:Int))=(((if v<0 then(v+(n:Int)).toNat else min v.toNat n):Nat):Int)
 by_cases hv:v<0
 ·simp only [if_pos hv];omega
 ·simp only [if_neg hv];omega
theorem MP (lo hi:Option Int)(n:Nat):Builtin.Slice.sliceAdjust lo hi 1 (n:Int)=(((iw n 0 lo:Nat):Int),((iw n n hi:Nat):Int)):=by
 have h1:¬((1:Int)<0):=by omega
 unfold Builtin.Slice.sliceAdjust;simp only [h1,if_false];refine Prod.ext ?_ ?_
 ·cases lo with
  |none=>rfl
  |some v=>exact Pm v n 0
 ·cases hi with
  |none=>rfl
  |some v=>exact Pm v n n
theorem MQ (i j:Nat):Builtin.Slice.slicePlaces (i:Int) (j:Int) 1=j-i:=by
 unfold Builtin.Slice.slicePlaces;have h1:(1:Int) > 0:=by omega
 simp only [h1,if_true,Int.ediv_one];split <;> omega
theorem BL {v:Value}{o:Option Int}{Q:Option Int->Shared->Prop}(p:IsPart v o)(h:Q o s):wpAny (model prog w) A (Builtin.Slice.slicePartIndex v) Q E s:=by
 cases p with
 |none=>exact slicePart_none h
 |int i t=>exact slicePart_int h
theorem vD {sl:Addr}{vl vu:Value}{lo hi:Option Int}{n:Nat}{Q:Int×Int×Nat->Shared->Prop}(hs:s.heap.IsSliceOf sl vl vu .none)(pl:IsPart vl lo)(pu:IsPart vu hi)
  (h:Q (((iw n 0 lo:Nat):Int),1,iw n n hi-iw n 0 lo) s):wpAny (model prog w) A (Builtin.Slice.sliceApplied (.ref sl) (pure (n:Int))) Q E s:=by
 obtain⟨os,hos,hcs,hds⟩:=id hs;unfold Builtin.Slice.sliceApplied Builtin.Slice.sliceFields;refine wpAny_bind (wpAny_bind (wpAny_field hos hds (x:=vl) rfl (wpAny_bind (wpAny_field hos hds (x:=vu) rfl (wpAny_bind (wpAny_field hos hds (x:=.none) rfl (wpAny_pure ?_)))))));refine wpAny_bind (slicePart_none ?_);show wpAny _ _ (if((1:Int)==0)=true then _ else _) _ _ s;rw[if_neg (by decide)];refine wpAny_bind (BL pl (wpAny_bind (BL pu (wpAny_bind (wpAny_pure ?_)))));show wpAny _ _ (match Builtin.Slice.sliceAdjust lo hi 1 (n:Int) with|(lo,hi)=>pure (lo,(1:Int),Builtin.Slice.slicePlaces lo hi 1)) _ _ s;rw[MP lo hi n];show wpAny _ _ (pure (((iw n 0 lo:Nat):Int),(1:Int),Builtin.Slice.slicePlaces ((iw n 0 lo:Nat):Int) ((iw n n hi:Nat):Int) 1)) _ _ s;rw[MQ];exact wpAny_pure h
theorem SI (xs:Array Value)(i k:Nat):((List.range k).filterMap fun(m:Nat)=>xs[((i:Int)+(m:Int) * 1).toNat]?).toArray=((xs.toList.drop i).take k).toArray:=by
 have e:(fun(m:Nat)=>xs[((i:Int)+(m:Int) * 1).toNat]?)=fun m=>xs[i+m]?:=by
  funext m
  have:((i:Int)+(m:Int) * 1).toNat=i+m:=by omega
  rw[this]
 rw[e];have:=pick_run xs i k;rw[List.filterMap_map]at this;have e2:((fun x=>xs[x]?) ∘ fun x=>i+x)=fun m=>xs[i+m]?:=rfl;rw[e2]at this;rw[this]
theorem sS {t sl:Addr}{items:Array Value}{vl vu:Value}{lo hi:Option Int}{Q:Value->Shared->Prop}(ht:IsTup s.heap t items)(hs:s.heap.IsSliceOf sl vl vu .none)(pl:IsPart vl lo)(pu:IsPart vu hi)
  (hw:¬(iw items.size 0 lo=0/\iw items.size items.size hi=items.size))
  (h:Q (.ref s.heap.objs.size) { s with heap:=s.heap.push { cls:=.type "tuple",data:=.seq ((items.toList.drop (iw items.size 0 lo)).take (iw items.size items.size hi-iw items.size 0 lo)).toArray } })
  (hsz:items.size<=sizeLine):wpAny (model prog w) A (getItem (.ref t) (.ref sl)) Q E s:=by
 have Pn:sizeOk (.seq ((items.toList.drop (iw items.size 0 lo)).take (iw items.size items.size hi-iw items.size 0 lo)).toArray):=by
  show((items.toList.drop (iw items.size 0 lo)).take (iw items.size items.size hi-iw items.size 0 lo)).toArray.size<=sizeLine;rw[size_toArray,length_take,length_drop,Array.length_toList];omega
 have hj:iw items.size items.size hi<=items.size:=YB _ _ (Nat.le_refl _) hi;obtain⟨os,hos,hcs,hds⟩:=id hs;have hTs:s.TypeIs (.ref sl) "slice":=⟨os,hos,hcs⟩;unfold getItem
 try with_reducible refine wpAny_holding ?_
 first|refine wpAny_bind (wpAny_pure ?_)|skip
 refine wpAny_bind (wpAny_sequenceKey ht.typeIs (by decide) ?_);refine wpAny_bind (wpAny_callSpecial?_slot (name:=Str.ofString "__getitem__") ht.typeIs PyProof.Rows.slot_tuple_getitem
  (wpAny_call_entry PyProof.Rows.slot_tuple_getitem ht.typeIs entry_tuple_getitem ?_ (args_tuple_getitem _ _)))
 show wpAny _ _ (Builtin.Tuple.tupleItemsOf (.ref t) >>= _) _ _ s;refine wpAny_bind (tupleItemsOf_ ht ?_);refine wpAny_bind (wpAny_typeOf hTs ?_);rw[if_pos (by decide)];refine wpAny_bind (vD hs pl pu ?_);have hno:¬((((iw items.size 0 lo:Nat):Int)==0&&(1:Int)==1&&(iw items.size items.size hi-iw items.size 0 lo)==items.size)=true):=by
  intro q;rw[Bool.and_eq_true,Bool.and_eq_true]at q;have q1:((iw items.size 0 lo:Nat):Int)=0:=eq_of_beq q.1.1;have q2:iw items.size items.size hi-iw items.size 0 lo=items.size:=eq_of_beq q.2;exact hw ⟨by omega,by omega⟩
 show wpAny _ _ (if(((iw items.size 0 lo:Nat):Int)==0&&(1:Int)==1&&(iw items.size items.size hi-iw items.size 0 lo)==items.size)=true then _ else _) _ _ s;rw[if_neg hno,SI]
 first
  |exact wpAny_bind (m:=Builtin.Tuple.tupleExact _) (wpAny_newObj_type (wpAny_pure ⟨_,rfl,wpAny_pure h⟩) Pn)
  |exact wpAny_bind (m:=Builtin.Tuple.tupleExact _) (wpAny_newObj_type (wpAny_bind (wpAny_pure (wpAny_pure ⟨_,rfl,wpAny_pure h⟩))) Pn)
  |exact wpAny_bind (wpAny_bind (m:=Builtin.Tuple.tupleExact _) (wpAny_newObj_type (wpAny_pure (wpAny_pure ⟨_,rfl,wpAny_pure h⟩)) Pn))
  |exact wpAny_bind (wpAny_bind (m:=Builtin.Tuple.tupleExact _) (wpAny_newObj_type (wpAny_pure ⟨_,rfl,wpAny_pure h⟩) Pn))
end
end HT
namespace L2
open PySem PySem.Spec PyProof.Rows
abbrev TO:=St->Hp->(Option Int->Hp->Prop)->Prop
def PO (X:Cx)(e:Option Expr)(t:TO):Prop :=
 ∀(pins:List (Addr×Obj)) (s:Shared) (σ:St) (H:Hp) (Q:Option Int->Hp->Prop),Inv X pins σ H s->t σ H Q ->
  wpAny (model X.prog X.w) X.A (evalPart e X.env) (fun u s'=>∃ o H',Inv X pins σ H' s'/\IsPart u o/\Q o H') X.xe s
def Vt:TO:=fun _ H Q=>Q none H
inductive SJ (Q:(Option Int->Hp->Prop))(x:V)(H1:Hp):Prop
 |mk (i:_) (qw:x=.int i) (qx:Q (some i) H1):SJ Q x H1
def aaa (t:TE):TO:=fun σ H Q=>t σ H fun x H1=>SJ Q x H1
section
variable {X:Cx} {e:Expr} {te:TE} {lo hi:Option Expr} {tl th:TO} {pos p2:Pos}
theorem Hq:PO X none Vt:=by
 intro pins s σ H Q I h;rw[evalPart_none];exact wpAny_pure ⟨none,H,I,.none,h⟩
theorem Hr (h:PE X e te):PO X (some e) (aaa te):=by
 intro pins s σ H Q I hw;rw[evalPart_some];refine cI (h pins s σ H _ I hw) fun u s1 ⟨x,H1,I1,r1,q1⟩=>?_;obtain⟨i,rfl,q⟩:=q1;obtain⟨t,rfl⟩:=r1;exact⟨some i,H1,I1,.int i t,q⟩
def Xi (X:Cx)(r:V->Option Int->Option Int->Hp->VK->Prop):Prop :=
 ∀(pins:List (Addr×Obj)) (s:Shared) (σ:St) (H:Hp) (x:V) (v vl vu:Value) (lo hi:Option Int) (sl:Addr) (Q:VK),Inv X pins σ H s->RelV x v->s.heap.IsSliceOf sl vl vu .none->IsPart vl lo->IsPart vu hi->r x lo hi H Q ->
  ∃ T id,typeLookup (.type T) "__getitem__"=pure (some (.builtin id))/\s.TypeIs v T/\wpAny (model X.prog X.w) X.A (getItem v (.ref sl)) (EP X pins σ Q) X.xe s
theorem Xi.or {r r':V->Option Int->Option Int->Hp->VK->Prop}(h:Xi X r)(h':Xi X r'):Xi X (fun x lo hi H Q=>r x lo hi H Q\/r' x lo hi H Q):=by
 intro pins s σ H x v vl vu lo hi sl Q I rx hs pl pu q;rcases q with q|q
 ·exact h pins s σ H x v vl vu lo hi sl Q I rx hs pl pu q
 ·exact h' pins s σ H x v vl vu lo hi sl Q I rx hs pl pu q
def tSl (r:V->Option Int->Option Int->Hp->VK->Prop)(te:TE)(tl th:TO):TE:=fun σ H Q=>te σ H fun x H1=>tl σ H1 fun l H2=>th σ H2 fun u H3=>r x l u H3 Q
theorem BM {r:V->Option Int->Option Int->Hp->VK->Prop}(hr:Xi X r)(he:PE X e te)(hl:PO X lo tl)(hu:PO X hi th):PE X (.Subscript e (.Slice lo hi none p2) pos) (tSl r te tl th):=by
 intro pins s σ H Q I h;refine Subscript_ (cI (he pins s σ H _ I h) fun v s1 ⟨x,H1,I1,r1,q1⟩=>?_);refine wpAny_Slice (cI (hl pins s1 σ H1 _ I1 q1) fun vl s2 ⟨l,H2,I2,pl,q2⟩=>cI (hu pins s2 σ H2 _ I2 q2) fun vu s3 ⟨u,H3,I3,pu,q3⟩=>?_);rw[evalPart_none];refine wpAny_pure ?_;have I4:Inv X pins σ H3 { s3 with heap:=s3.heap.push { cls:=.type "slice",data:=.fields #[vl,vu,.none] } }:=I3.kept (t':=s3.toks) fun b ob q=>Heap.get?_push_of_some _ q;obtain⟨T,id,hT,ht,hg⟩:=hr pins { s3 with heap:=s3.heap.push { cls:=.type "slice",data:=.fields #[vl,vu,.none] } } σ H3 x v vl vu l u s3.heap.objs.size Q I4 r1 (Heap.IsSliceOf.new ..) pl pu q3;show wpAny (model X.prog X.w) X.A (subscriptTail e (.Slice lo hi none p2) v (.ref s3.heap.objs.size)) (EP X pins σ Q) X.xe { s3 with heap:=s3.heap.push { cls:=.type "slice",data:=.fields #[vl,vu,.none] } };exact tail_any (ops:=[.ref s3.heap.objs.size,v]) ht hT hg (by with_unfolding_all rfl)
def E1 (xs:List V)(lo hi:Option Int):List V:=(xs.drop (HT.iw xs.length 0 lo)).take (HT.iw xs.length xs.length hi-HT.iw xs.length 0 lo)
theorem yt (xs:List V)(lo hi:Option Int):(E1 xs lo hi).length<=xs.length:=by
 unfold E1;rw[length_take,length_drop];omega
inductive Xj (K:Frag)(x:V)(lo:Option Int)(hi:Option Int)(H:Hp)(Q:VK):Prop
 |mk (a:_) (xs:_) (qw:x=.ref a) (qx:dc K H a xs) (AL:¬(HT.iw xs.length 0 lo=0/\HT.iw xs.length xs.length hi=xs.length)) (MI:∀ p,H p=none->Q (.ref p) (upd H p (.tup (E1 xs lo hi)))):Xj K x lo hi H Q
def ac7 (K:Frag):V->Option Int->Option Int->Hp->VK->Prop:=fun x lo hi H Q=>Xj K x lo hi H Q
theorem MR:Xi X (ac7 X.K):=by
 intro pins s σ H x v vl vu lo hi sl Q I rx hs pl pu h;obtain⟨a,xs,rfl,hx,hw,q⟩:=h;cases rx;obtain⟨its,r,ht,hz⟩:=I.tuple hx;have hlen:its.toArray.size=xs.length:=by rw[size_toArray];exact r.length.symm
 refine⟨"tuple",_,PyProof.Rows.slot_tuple_getitem.lookup,ht.typeIs,?_⟩;refine HT.sS ht hs pl pu (by rw[hlen];exact hw) ?_ (by rw[hlen];exact hz);rw[hlen];refine⟨.ref s.heap.objs.size,_,I.laid (t':=s.toks) (o:=.tup (E1 xs lo hi)) (fun b ob q=>Heap.get?_push_of_some _ q) (Nat.le_refl _) ?_,rfl,q _ (I.hok.fresh (Nat.le_refl _))⟩;exact⟨Nat.le_trans (yt xs lo hi) hz,_,(r.drop (HT.iw xs.length 0 lo)).take (HT.iw xs.length xs.length hi-HT.iw xs.length 0 lo),IsTup.new _ _⟩
end
end L2
namespace L2
open PySem PySem.Spec PyProof.Rows
def Vu (n:Nat)(i:Int):Option Nat:=if 0<=i then(if i<n then some i.toNat else none) else if -(n:Int)<=i then some (i+n).toNat else none
def Xk {α:Type}(xs:List α)(i:Int):Option α:=(Vu xs.length i).bind fun j=>xs[j]?
theorem Po {n:Nat}{i:Int}{j:Nat}(h:Vu n i=some j):seqIndex? i n=some j/\j<n/\-(n:Int)<=i/\i<n:=by
 unfold Vu at h
 by_cases h0:0<=i
 ·rw[if_pos h0]at h
  by_cases h1:i<n
  ·rw[if_pos h1]at h;have e:i.toNat=j:=Option.some.inj h;exact⟨by rw[seqIndex_of h0 h1,e],by omega,by omega,h1⟩
  ·rw[if_neg h1]at h;cases h
 ·rw[if_neg h0]at h
  by_cases h1:-(n:Int)<=i
  ·rw[if_pos h1]at h;have e:(i+n).toNat=j:=Option.some.inj h;exact⟨by rw[seqIndex_neg (by omega) h1,e],by omega,h1,by omega⟩
  ·rw[if_neg h1]at h;cases h
theorem Hs {α:Type}{xs:List α}{i:Int}{v:α}(h:Xk xs i=some v):∃ j,seqIndex? i xs.length=some j/\xs[j]? = some v/\j<xs.length/\-(xs.length:Int)<=i/\i<xs.length:=by
 unfold Xk at h;cases e:Vu xs.length i with
 |none=>rw[e]at h;cases h
 |some j =>
  rw[e]at h;obtain⟨h1,h2,h3,h4⟩:=Po e;exact⟨j,h1,h,h2,h3,h4⟩
theorem Ht {α:Type}{xs:List α}{j:Nat}{v:α}(h:xs[j]? = some v):Xk xs (j:Int)=some v:=by
 have hj:j<xs.length:=(List.getElem?_eq_some_iff.mp h).1;have e:Vu xs.length (j:Int)=some j:=by
  unfold Vu;rw[if_pos (by omega),if_pos (by omega)];simp
 unfold Xk;rw[e];exact h
def Vv (b:Expr):Prop:=∀ o i,subscripted b false o i=operate [o,i] (getItem o i)
def Vf (X:Cx)(r:R2):Prop :=
 ∀(value slice:Expr)(pins:List (Addr×Obj)) (s:Shared) (σ:St) (H:Hp) (x y:V) (v u:Value) (Q:VK),Inv X pins σ H s->RelV x v->RelV y u->r x y H Q ->
  subscripted slice false v u=operate [v,u] (getItem v u)->wpAny (model X.prog X.w) X.A (subscriptTail value slice v u) (EP X pins σ Q) X.xe s
def MtR (X:Cx)(id:String)(r:V->List V->Hp->VK->Prop):Prop :=
 ∀(pins:List (Addr×Obj)) (s:Shared) (σ:St) (H:Hp) (x:V) (xs:List V) (v:Value) (us:List Value) (Q:VK),Inv X pins σ H s->RelV x v->Vals xs us->r x xs H Q ->
  wpAny (model X.prog X.w) X.A (call (.builtin id) (v::us)) (EP X pins σ Q) X.xe s
section
variable {X:Cx} {a b:Expr} {ta tb:TE} {pos:Pos}
theorem Vf.or {r r':R2}(h:Vf X r)(h':Vf X r'):Vf X (fun x y H Q=>r x y H Q\/r' x y H Q):=by
 intro value slice pins s σ H x y v u Q I rx ry q hs;rcases q with q|q
 ·exact h value slice pins s σ H x y v u Q I rx ry q hs
 ·exact h' value slice pins s σ H x y v u Q I rx ry q hs
theorem aI {r:R2}(hr:Vf X r)(ha:PE X a ta)(hb:PE X b tb)(hs:Vv b):PE X (.Subscript a b pos) (tOp r ta tb):=by
 intro pins s σ H Q I h;exact Subscript_ (Yt ha hb I h fun v u s2 x y H2 I2 rx ry q=>hr a b pins s2 σ H2 x y v u Q I2 rx ry q (hs _ _))
inductive Xl (K:Frag)(x:V)(y:V)(H:Hp)(Q:VK):Prop
 |mk (p:_) (xs:_) (i:_) (v:_) (qw:x=.ref p) (qx:y=.int i) (AL:a6 K H p xs) (MI:Xk xs i=some v) (Ve:Q v H):Xl K x y H Q
def E2 (K:Frag):R2:=fun x y H Q=>Xl K x y H Q
inductive Xm (K:Frag)(x:V)(y:V)(H:Hp)(Q:VK):Prop
 |mk (p:_) (xs:_) (i:_) (v:_) (qw:x=.ref p) (qx:y=.int i) (AL:dc K H p xs) (MI:Xk xs i=some v) (Ve:Q v H):Xm K x y H Q
def E3 (K:Frag):R2:=fun x y H Q=>Xm K x y H Q
inductive Xn (x:V)(y:V)(H:Hp)(Q:VK):Prop
 |mk (z:_) (i:_) (c:_) (qw:x=.str z) (qx:y=.int i) (AL:z.length<=sizeLine) (MI:Xk z.cps.toList i=some c) (Ve:Q (.str ⟨#[c]⟩) H):Xn x y H Q
def E4 :R2:=fun x y H Q=>Xn x y H Q
theorem Vw:Vf X (E2 X.K):=by
 intro value slice pins s σ H x y v u Q I rx ry h hs;obtain⟨p,xs,i,z,rfl,rfl,hq,he,q⟩:=h;cases rx;obtain⟨t,rfl⟩:=ry;obtain⟨its,r,pl,hz⟩:=I.list hq;obtain⟨j,h1,h2,h3,h4,h5⟩:=Hs he;obtain⟨w,ew,Sr⟩:=r.get h2;have hl:=r.length;have hn:=vC;have fin:EP X pins σ Q w s:=⟨z,H,I,Sr,q⟩
 by_cases h0:0<=i
 ·have hj:i.toNat=j:=by
   rw[seqIndex_of h0 h5]at h1;exact Option.some.inj h1
  exact item_listR pl.isList h0 (by omega) (by rw[hj];simpa using ew) fin hs
 ·have hj:(i+(its.toArray.size:Int)).toNat=j:=by
   rw[seqIndex_neg (by omega) h4]at h1;rw[size_toArray,<-hl];exact Option.some.inj h1
  exact subscriptTail_builtinR (x:=w) pl.isList.typeIs slot_list_getitem.lookup
   (wpAny_getItem_list_neg (Q:=fun r s'=>r=w/\EP X pins σ Q r s') pl.isList (by omega) (by rw[size_toArray] <;> omega) (by omega) (by rw[hj];simpa using ew) ⟨rfl,fin⟩) hs
theorem YC:Vf X (E3 X.K):=by
 intro value slice pins s σ H x y v u Q I rx ry h hs;obtain⟨p,xs,i,z,rfl,rfl,hq,he,q⟩:=h;cases rx;obtain⟨t,rfl⟩:=ry;obtain⟨its,r,pl,hz⟩:=I.tuple hq;obtain⟨j,h1,h2,h3,h4,h5⟩:=Hs he;obtain⟨w,ew,Sr⟩:=r.get h2;have hl:=r.length;have hn:=vC;have fin:EP X pins σ Q w s:=⟨z,H,I,Sr,q⟩;exact subscriptTail_builtinR (x:=w) pl.typeIs slot_tuple_getitem.lookup
  (getItem_tuple (j:=j) (Q:=fun r s'=>r=w/\EP X pins σ Q r s') pl (by omega) (by omega) (by rw[size_toArray,<-hl];exact h1) (by simpa using ew) ⟨rfl,fin⟩) hs
theorem YD:Vf X E4:=by
 intro value slice pins s σ H x y v u Q I rx ry h hs;obtain⟨z,i,c,rfl,rfl,hz,he,q⟩:=h;obtain⟨t,rfl⟩:=rx;obtain⟨t',rfl⟩:=ry;obtain⟨j,h1,h2,h3,h4,h5⟩:=Hs he;have hl:z.cps.toList.length=z.length:=by simp[Str.length]
 rw[hl]at h1 h4 h5;have hn:=vC;exact tail_any (typeIs_str s z t) slot_str_getitem.lookup (getItem_str (c:=c) (by
  have e1:decide (i < -(2 ^ 63:Int))=false:=decide_eq_false (by omega);have e2:decide (i ≥ 2 ^ 63)=false:=decide_eq_false (by omega);rw[e1,e2,Bool.or_false]) (by rw[h1];simpa using h2) ⟨.str ⟨#[c]⟩,H,I.tok _,⟨_,rfl⟩,q⟩) hs
def rIx (K:Frag):R2:=fun x y H Q=>E2 K x y H Q\/E3 K x y H Q\/E4 x y H Q
theorem aA:Vf X (rIx X.K):=Vw.or (YC.or YD)
theorem MS (its:List Value)(n j:Nat)(u:Value):Obj.mapSeq (·.setIfInBounds j u) { cls:=.type "list",data:=.seq its.toArray n } = { cls:=.type "list",data:=.seq (its.set j u).toArray n }:=by
 simp[Obj.mapSeq]
theorem Inv.lst {pins:List (Addr×Obj)}{σ:St}{H:Hp}{s:Shared}{p:Addr}{xs:List V}(I:Inv X pins σ H s)(h:H p=some (.lst xs)) :
  ∃(its:List Value)(n:Nat),Vals xs its/\s.heap.get? p=some { cls:=.type "list",data:=.seq its.toArray n }/\xs.length<=sizeLine:=by
 obtain⟨z,its,n,r,e⟩:=I.hok p _ h;exact⟨its,n,r,e,z⟩
theorem Inv.YE {pins:List (Addr×Obj)}{σ:St}{H:Hp}{s:Shared}{p:Addr}{xs ys:List V}{its its':List Value}{n n':Nat}{f:Obj->Obj}(I:Inv X pins σ H s)(h:H p=some (.lst xs))
  (ho:s.heap.get? p=some { cls:=.type "list",data:=.seq its.toArray n }) (hf:f { cls:=.type "list",data:=.seq its.toArray n } = { cls:=.type "list",data:=.seq its'.toArray n' }) (r:Vals ys its') (hz:ys.length<=sizeLine) (t:Nat) :
  Inv X pins σ (upd H p (.lst ys)) { s with heap:=s.heap.update p f,toks:=t }:=by
 have e:(s.heap.update p f).get? p=some { cls:=.type "list",data:=.seq its'.toArray n' }:=by
  rw[Heap.get?_update_self f ho (by rw[hf] <;> rfl),hf]
 refine I.write (x:=p) (e:=p) (by rw[h];trivial) (.inl rfl) (fun b u hb q=>(Heap.get?_update_other _ _ (Ne.symm hb)).trans q) ⟨_,e⟩ ?_;exact⟨hz,its',n',r,e⟩
inductive SK (o:V)(i:V)(v:V)(H:Hp)(Q:(Hp->Prop)):Prop
 |mk (p:_) (xs:_) (k:_) (j:_) (qw:o=.ref p) (qx:i=.int k) (AL:H p=some (.lst xs)) (MI:Vu xs.length k=some j) (Ve:Q (upd H p (.lst (xs.set j v)))):SK o i v H Q
def aab :V->V->V->Hp->(Hp->Prop)->Prop:=fun o i v H Q=>SK o i v H Q
theorem set_list:ZW X aab:=by
 intro pins s σ H o i v ov iv u Q I ro ri rv h;obtain⟨p,xs,k,j,rfl,rfl,hp,hj,q⟩:=h;cases ro;obtain⟨t,rfl⟩:=ri;obtain⟨its,n,r,ho,hz⟩:=I.lst hp;obtain⟨h1,h2,h3,h4⟩:=Po hj;have hl:=r.length;have hn:=vC;have I':Inv X pins σ (upd H p (.lst (xs.set j v))) { s with heap:=s.heap.update p (Obj.mapSeq (·.setIfInBounds j u)) } :=
  I.YE hp ho (MS its n j u) (r.set rv j) (by rw[List.length_set];exact hz) s.toks
 by_cases h0:0<=k
 ·have hk:k.toNat=j:=by
   rw[seqIndex_of h0 h4]at h1;exact Option.some.inj h1
  exact PySem.W.ki_setAt ho h0 (by omega) (by rw[size_toArray,<-hl];exact h4) (by rw[hk];exact⟨_,I',q⟩)
 ·have hk:(k+(its.toArray.size:Int)).toNat=j:=by
   rw[seqIndex_neg (by omega) h3]at h1;rw[size_toArray,<-hl];exact Option.some.inj h1
  exact PySem.W.ki_setBack ho (by omega) (by rw[size_toArray,<-hl];exact h3) (by omega) (by rw[hk];exact⟨_,I',q⟩)
theorem Hu (lo hi:Option Int)(n:Nat):(sliceBounds lo hi none n).1=((HT.iw n 0 lo:Nat):Int)/\(sliceBounds lo hi none n).2.1=((HT.iw n n hi:Nat):Int)/\(sliceBounds lo hi none n).2.2=1:=by
 refine⟨?_,?_,rfl⟩
 ·cases lo with
  |none=>simp[sliceBounds,HT.iw]
  |some i =>
   simp only [sliceBounds,HT.iw,Option.getD_none,show(1:Int) > 0 by decide,if_true]
   by_cases h:i<0
   ·simp only [h,if_true] <;> omega
   ·simp only [h,if_false] <;> omega
 ·cases hi with
  |none=>simp[sliceBounds,HT.iw]
  |some i =>
   simp only [sliceBounds,HT.iw,Option.getD_none,show(1:Int) > 0 by decide,if_true]
   by_cases h:i<0
   ·simp only [h,if_true] <;> omega
   ·simp only [h,if_false] <;> omega
theorem E5 (its:List Value)(lo hi:Option Int):slicePick its.toArray lo hi none=((its.drop (HT.iw its.length 0 lo)).take (HT.iw its.length its.length hi-HT.iw its.length 0 lo)).toArray:=by
 obtain⟨h1,h2,h3⟩:=Hu lo hi its.toArray.size;unfold slicePick;rw[h1,h2,h3];simp only [sliceRange_one,pick_run,size_toArray] <;> rfl
inductive Xo (K:Frag)(x:V)(lo:Option Int)(hi:Option Int)(H:Hp)(Q:VK):Prop
 |mk (a:_) (xs:_) (qw:x=.ref a) (qx:a6 K H a xs) (AL:∀ p,H p=none->Q (.ref p) (upd H p (.lst (E1 xs lo hi)))):Xo K x lo hi H Q
def ac8 (K:Frag):V->Option Int->Option Int->Hp->VK->Prop:=fun x lo hi H Q=>Xo K x lo hi H Q
theorem Hv:Xi X (ac8 X.K):=by
 intro pins s σ H x v vl vu lo hi sl Q I rx hs pl pu h;obtain⟨a,xs,rfl,hx,q⟩:=h;cases rx;obtain⟨its,r,ht,hz⟩:=I.list hx;have hlen:=r.length;refine⟨"list",_,slot_list_getitem.lookup,ht.isList.typeIs,?_⟩;refine wpAny_getItem_list_slice ht.isList hs pl pu .none (by simp) ?_ (by rw[size_toArray] <;> omega);rw[E5,<-hlen];refine⟨.ref s.heap.objs.size,_,I.laid (t':=s.toks) (o:=.lst (E1 xs lo hi)) (fun b ob q=>Heap.get?_push_of_some _ q) (Nat.le_refl _) ?_,rfl,q _ (I.hok.fresh (Nat.le_refl _))⟩;exact⟨Nat.le_trans (yt xs lo hi) hz,_,0,(r.drop (HT.iw xs.length 0 lo)).take (HT.iw xs.length xs.length hi-HT.iw xs.length 0 lo),Heap.get?_push_size _ rfl⟩
def qA:V->Bool
 |.non=>true
 |.bl _=>true
 |.int _=>true
 |.str _=>true
 |_=>false
def Vg:V->V->Bool
 |.non,.non=>true
 |.bl a,.bl b=>a==b
 |.bl a,.int b=>(if a then 1 else 0)==b
 |.int a,.bl b=>a==(if b then 1 else 0)
 |.int a,.int b=>a==b
 |.str a,.str b=>a==b
 |_,_=>false
theorem SM {A:Around}{s:Shared}{y x:V}{u v:Value}(ry:RelV y u)(rx:RelV x v)(fy:qA y=true)(fx:qA x=true):SeqAt.EqAt A s u v (Vg y x):=by
 cases y with
 |non =>
  cases ry;cases x with
  |non=>cases rx;exact SeqAt.EqAt.same _
  |bl b=>cases rx;exact SeqAt.EqAt.none_bool b
  |int b=>obtain⟨t,rfl⟩:=rx;exact SeqAt.EqAt.none_int b t
  |str b=>obtain⟨t,rfl⟩:=rx;exact SeqAt.EqAt.none_str b t
  |_=>exact absurd (show false=true from fx) Bool.false_ne_true
 |bl a =>
  cases ry;cases x with
  |non=>cases rx;exact SeqAt.EqAt.bool_none a
  |bl b=>cases rx;exact SeqAt.EqAt.bool_bool a b
  |int b=>obtain⟨t,rfl⟩:=rx;exact SeqAt.EqAt.bool_int a b t
  |str b=>obtain⟨t,rfl⟩:=rx;exact SeqAt.EqAt.bool_str a b t
  |_=>exact absurd (show false=true from fx) Bool.false_ne_true
 |int a =>
  obtain⟨t',rfl⟩:=ry;cases x with
  |non=>cases rx;exact SeqAt.EqAt.int_none a t'
  |bl b=>cases rx;exact SeqAt.EqAt.int_bool a t' b
  |int b=>obtain⟨t,rfl⟩:=rx;exact SeqAt.EqAt.int_int a t' b t
  |str b=>obtain⟨t,rfl⟩:=rx;exact SeqAt.EqAt.int_str a t' b t
  |_=>exact absurd (show false=true from fx) Bool.false_ne_true
 |str a =>
  obtain⟨t',rfl⟩:=ry;cases x with
  |non=>cases rx;exact SeqAt.EqAt.str_none a t'
  |bl b=>cases rx;exact SeqAt.EqAt.str_bool a t' b
  |int b=>obtain⟨t,rfl⟩:=rx;exact SeqAt.EqAt.str_int a t' b t
  |str b=>obtain⟨t,rfl⟩:=rx;exact SeqAt.EqAt.str_str a t' b t
  |_=>exact absurd (show false=true from fx) Bool.false_ne_true
 |_=>exact absurd (show false=true from fy) Bool.false_ne_true
def MT (x:V)(u:Value):Bool:=match u with
 |.none=>Vg .non x
 |.bool b=>Vg (.bl b) x
 |.int i _=>Vg (.int i) x
 |.str z _=>Vg (.str z) x
 |_=>false
theorem SN {x y:V}{u:Value}(r:RelV y u)(f:qA y=true):MT x u=Vg y x:=by
 cases y with
 |non=>cases r;rfl
 |bl b=>cases r;rfl
 |int i=>obtain⟨t,rfl⟩:=r;rfl
 |str z=>obtain⟨t,rfl⟩:=r;rfl
 |_=>exact absurd (show false=true from f) Bool.false_ne_true
theorem sU {x:V}:∀{xs:List V} {us:List Value},Vals xs us->xs.all qA=true->us.any (MT x)=xs.any fun y=>Vg y x
 |_,_,.nil,_=>rfl
 |y::xs,u::us,.cons r t,f=>by
  rw[List.all_cons,Bool.and_eq_true]at f;rw[List.any_cons,List.any_cons,SN r f.1,sU t f.2]
theorem oE {A:Around}{s:Shared}{x:V}{v:Value}(rx:RelV x v)(fx:qA x=true):∀{xs:List V} {us:List Value},Vals xs us->xs.all qA=true->∀ u∈us,SeqAt.EqAt A s u v (MT x u)
 |_,_,.nil,_=>fun u hu=>by cases hu
 |y::xs,u::us,.cons r t,f=>fun u' hu=>by
  rw[List.all_cons,Bool.and_eq_true]at f;rcases List.mem_cons.mp hu with rfl|hu
  ·rw[SN r f.1];exact SM r rx f.1 fx
  ·exact oE rx fx t f.2 u' hu
def inV (x:V)(xs:List V):Bool:=xs.any fun y=>Vg y x
inductive aac (K:Frag)(neg:Bool)(x:V)(y:V)(H:Hp)(Q:VK):Prop
 |mk (p:_) (xs:_) (qw:y=.ref p) (qx:(a6 K H p xs\/dc K H p xs)) (AL:qA x=true) (MI:xs.all qA=true) (Ve:Q (.bl (if neg then !inV x xs else inV x xs)) H):aac K neg x y H Q
def rIn (K:Frag)(neg:Bool):R2:=fun x y H Q=>aac K neg x y H Q
theorem a8:ox X (compareOp .In) (rIn X.K false):=by
 intro pins s σ H x y v u Q I rx ry h;obtain⟨p,xs,rfl,hq,fx,fs,q⟩:=h;cases ry;rcases hq with hq|hq
 ·obtain⟨its,r,pl,hz⟩:=I.list hq;refine SeqAt.in_listAt (MT x) pl.isList (fun w hw=>oE rx fx r fs w (by simpa using hw)) ⟨.bl _,H,I,rfl,?_⟩;rw[show its.toArray.any (MT x)=its.any (MT x) by simp,sU r fs];exact q
 ·obtain⟨its,r,pl,hz⟩:=I.tuple hq;refine SeqAt.in_tupleAt (MT x) pl (fun w hw=>oE rx fx r fs w (by simpa using hw)) ⟨.bl _,H,I,rfl,?_⟩;rw[show its.toArray.any (MT x)=its.any (MT x) by simp,sU r fs];exact q
theorem sV:ox X (compareOp .NotIn) (rIn X.K true):=by
 intro pins s σ H x y v u Q I rx ry h;obtain⟨p,xs,rfl,hq,fx,fs,q⟩:=h;cases ry;rcases hq with hq|hq
 ·obtain⟨its,r,pl,hz⟩:=I.list hq;refine SeqAt.notIn_listAt (MT x) pl.isList (fun w hw=>oE rx fx r fs w (by simpa using hw)) ⟨.bl _,H,I,rfl,?_⟩;rw[show its.toArray.any (MT x)=its.any (MT x) by simp,sU r fs];exact q
 ·obtain⟨its,r,pl,hz⟩:=I.tuple hq;refine SeqAt.notIn_tupleAt (MT x) pl (fun w hw=>oE rx fx r fs w (by simpa using hw)) ⟨.bl _,H,I,rfl,?_⟩;rw[show its.toArray.any (MT x)=its.any (MT x) by simp,sU r fs];exact q
theorem sW:ox X (compareOp .NotIn) (fun x y H Q=>∃ i j,x=.str i/\y=.str j/\Q (.bl (!(!(Builtin.Str.occurrences j i 0 j.length 1).isEmpty))) H):=by
 intro pins s σ H x y v u Q I rx ry h;obtain⟨i,j,rfl,rfl,q⟩:=h;obtain⟨t,rfl⟩:=rx;obtain⟨t',rfl⟩:=ry;exact notIn_str ⟨.bl _,H,I,rfl,q⟩
theorem bj:ig X (.builtin "len") (fun xs H Q=>∃ p ys,xs=[.ref p]/\(a6 X.K H p ys\/dc X.K H p ys)/\Q (.int ys.length) H):=by
 intro pins s σ H xs us Q I r h;obtain⟨p,ys,rfl,hq,q⟩:=h;obtain⟨u,rfl,rx⟩:=vals1 r;cases rx;have hn:=vC;rcases hq with hq|hq
 ·obtain⟨its,r',pl,hz⟩:=I.list hq;have hlen:=r'.length;exact Calls.call_len_list pl.isList (by simp only [size_toArray] <;> omega) ⟨.int ys.length,H,I.tok _,⟨s.toks+1,by rw[size_toArray,hlen]⟩,q⟩
 ·obtain⟨its,r',pl,hz⟩:=I.tuple hq;have hlen:=r'.length;exact len_tuple pl (by simp only [size_toArray] <;> omega) ⟨.int ys.length,H,I.tok _,⟨s.toks+1,by rw[size_toArray,hlen]⟩,q⟩
theorem bo:ig X (.builtin "len") (fun xs H Q=>∃ z,xs=[.str z]/\z.length<=sizeLine/\Q (.int z.length) H):=by
 intro pins s σ H xs us Q I r h;obtain⟨z,rfl,hz,q⟩:=h;obtain⟨u,rfl,t,rfl⟩:=vals1 r;have hn:=vC;exact len_str (by omega) ⟨.int z.length,H,I.tok _,⟨_,rfl⟩,q⟩
theorem ig.or {f:Value}{r r':List V->Hp->VK->Prop}(h:ig X f r)(h':ig X f r'):ig X f (fun xs H Q=>r xs H Q\/r' xs H Q):=by
 intro pins s σ H xs us Q I rs q;rcases q with q|q
 ·exact h pins s σ H xs us Q I rs q
 ·exact h' pins s σ H xs us Q I rs q
theorem Hw:ig X (.type "list") (fun xs H Q=>∃ p ys,xs=[.ref p]/\(a6 X.K H p ys\/dc X.K H p ys)/\∀ l,H l=none->Q (.ref l) (upd H l (.lst ys))):=by
 intro pins s σ H xs us Q I r h;obtain⟨p,ys,rfl,hq,q⟩:=h;obtain⟨u,rfl,rx⟩:=vals1 r;cases rx;have fin:∀(its:List Value),Vals ys its->ys.length<=sizeLine->∀(h':Heap)(c':Nat),(∀ b o',s.heap.get? b=some o'->h'.get? b=some o') ->
   h'.get? s.heap.objs.size=some { cls:=.type "list",dict:=none,data:=.seq its.toArray c',slots:=#[] }->EP X pins σ Q (.ref s.heap.objs.size) { s with heap:=h' }:=fun its r' hz h' c' kp e =>
  ⟨.ref s.heap.objs.size,_,I.laid (t':=s.toks) kp (Nat.le_refl _) (show cB X.prog X.w _ h' _ (.lst ys) from⟨hz,its,c',r',e⟩),rfl,q _ (I.hok.fresh (Nat.le_refl _))⟩
 rcases hq with hq|hq
 ·obtain⟨its,r',pl,hz⟩:=I.list hq;have hlen:=r'.length;obtain⟨o,ho,hc,n,hd⟩:=pl.isList;exact call_list_seq p (.inl rfl) ho hc hd (fun h' c' kp e=>fin its r' hz h' c' kp e) (by simp only [size_toArray] <;> omega)
 ·obtain⟨its,r',pl,hz⟩:=I.tuple hq;have hlen:=r'.length;obtain⟨o,ho,hc,n,hd⟩:=pl;exact call_list_seq p (.inr rfl) ho hc hd (fun h' c' kp e=>fin its r' hz h' c' kp e) (by simp only [size_toArray] <;> omega)
theorem E6:ig X (.type "tuple") (fun xs H Q=>∃ p ys,xs=[.ref p]/\((a6 X.K H p ys/\∀ l,H l=none->Q (.ref l) (upd H l (.tup ys)))\/(dc X.K H p ys/\Q (.ref p) H))):=by
 intro pins s σ H xs us Q I r h;obtain⟨p,ys,rfl,h⟩:=h;obtain⟨u,rfl,rx⟩:=vals1 r;cases rx;rcases h with ⟨hq,q⟩|⟨hq,q⟩
 ·obtain⟨its,r',pl,hz⟩:=I.list hq;have hlen:=r'.length;refine call_tuple_list pl.isList (fun h' kp=>?_) (by simp only [size_toArray] <;> omega);have I1:Inv X pins σ H { s with heap:=h' }:=I.kept (t':=s.toks) kp;have I2:Inv X pins σ (upd H h'.objs.size (.tup ys)) { s with heap:=h'.push { cls:=.type "tuple",data:=.seq its.toArray } } :=
   I1.laid (t':=s.toks) (fun b o e=>Heap.get?_push_of_some _ e) (Nat.le_refl _) (show cB X.prog X.w _ _ _ (.tup ys) from⟨hz,its,r',IsTup.new _ _⟩)
  exact⟨.ref h'.objs.size,_,I2,rfl,q _ (I1.hok.fresh (Nat.le_refl _))⟩
 ·obtain⟨its,r',pl,hz⟩:=I.tuple hq;exact call_tuple_same pl ⟨.ref p,H,I,rfl,q⟩
def tyV (K:Frag)(T:String)(x:V)(H:Hp):Prop:=match x with
 |.str _=>T = "str"
 |.int _=>T = "int"
 |.ref p=>(T = "list"/\∃ xs,a6 K H p xs)\/(T = "tuple"/\∃ o,K.lookup p=some o/\o.cls=.type "tuple"/\o.dict=none) \/
   (T = "dict"/\((∃ kvs,H p=some (.dK kvs))\/∃ kvs,H p=some (.dT kvs)))\/(T = "set"/\∃ S n,H p=some (.set S n))
 |_=>False
theorem YF {pins:List (Addr×Obj)}{σ:St}{H:Hp}{s:Shared}{T:String}{x:V}{v:Value}(I:Inv X pins σ H s)(r:RelV x v)(ty:tyV X.K T x H) :
  s.TypeIs v T/\∀ a,v=.ref a->∃ ob,s.heap.get? a=some ob/\ob.dict=none:=by
 cases x with
 |str z =>
  obtain⟨t,rfl⟩:=r;cases (show T = "str" from ty);exact⟨typeIs_str s z t,fun _ e=>nomatch e⟩
 |int i =>
  obtain⟨t,rfl⟩:=r;cases (show T = "int" from ty);exact⟨typeIs_int s i t,fun _ e=>nomatch e⟩
 |ref p =>
  cases r;rcases ty with ⟨rfl,xs,hq⟩|⟨rfl,o,hk,hc,hd⟩|⟨rfl,hk⟩|⟨rfl,S,n,hk⟩
  ·obtain⟨its,_,pl,_⟩:=I.list hq;refine⟨pl.isList.typeIs,fun a e=>?_⟩;cases e;obtain⟨o,n,e,c,hd,_⟩:=pl;exact⟨o,e,hd⟩
  ·refine⟨⟨o,I.EZ p o hk,hc⟩,fun a e=>?_⟩;cases e;exact⟨o,I.EZ _ o hk,hd⟩
  ·have z:∃ o,s.heap.get? p=some o/\o.ExactDict:=by
    rcases hk with ⟨kvs,hk⟩|⟨kvs,hk⟩
    ·obtain⟨_,_,_,_,o,_,_,e,ex,_⟩:=I.hok p _ hk;exact⟨o,e,ex⟩
    ·obtain⟨_,_,_,_,o,_,_,e,ex,_⟩:=I.hok p _ hk;exact⟨o,e,ex⟩
   obtain⟨o,e,ex⟩:=z;refine⟨⟨o,e,ex.1⟩,fun a e2=>?_⟩;cases e2;exact⟨o,e,ex.2.1⟩
  ·obtain⟨o,_,_,_,e,ex,_⟩:=I.hok p _ hk;refine⟨⟨o,e,ex.1⟩,fun a e2=>?_⟩;cases e2;exact⟨o,e,ex.2.1⟩
 |_=>exact False.elim ty
def tBM (K:Frag)(T:String)(r:V->List V->Hp->VK->Prop)(to:TE)(t:TA):TE:=fun σ H Q=>to σ H fun x H1=>tyV K T x H1/\t σ H1 fun xs H2=>r x xs H2 Q
variable {o e:Expr} {es:List Expr} {to:TE} {t:TA} {name:Str} {apos cpos:Pos} {T id:String} {r:V->List V->Hp->VK->Prop}
theorem kY (pa:PlainAttrs T)(slot:Slot T name id)(hty:typeOf (.builtin id)=pure (.type "method_descriptor"))(hm:MtR X id r)(ho:PE X o to)(ha:PA X (e::es) t)
  (hbase:attributeBase o name X.env (eval o X.env)=eval o X.env:=by rfl)
  (hfew:((backTo cpos (starEach (e::es) X.env)).all (fun x=>!x.1)&&(backToKw cpos (keywordEach [] X.env)).all (fun x=>x.1.isSome)
   && decide ((e::es).length+([]:List Keyword).length+(if([]:List Keyword).isEmpty then 0 else 1)<30))=true:=by rfl)
  (hline:(apos.endLine==cpos.line)=true:=by rfl) (hs:starEach (e::es) X.env=(false,eval e X.env)::starEach es X.env:=by rfl) (hplain:(backTo cpos (starEach es X.env)).any (·.1)=false:=by rfl) :
  PE X (.Call (.Attribute o name apos) (e::es) [] cpos) (tBM X.K T r to t):=by
 intro pins s σ H Q I h;refine wpAny_Call_method_late hbase hfew hline rfl (cI (ho pins s σ H _ I h) fun v s1 ⟨x,H1,I1,r1,ty,q1⟩=>?_);obtain⟨h1,h2⟩:=YF I1 r1 ty;refine⟨T,id,pa,slot,hty,h1,h2,?_⟩;have hA:=ha cpos pins s1 σ H1 _ I1 q1;rw[hs]at hA ⊢;refine Calls.callWith_builtin (by show(false||(backTo cpos (starEach es X.env)).any (·.1))=false;rw[hplain] <;> rfl) (Calls.evalArgs_plain ?_);exact cI hA fun us s2 ⟨vs,H2,I2,r2,q2⟩=>hm pins s2 σ H2 x vs v us Q I2 r1 r2 q2
end
end L2
namespace L2
open PySem PySem.Spec PyProof.Rows
def MtM (X:Cx)(id:String)(r:V->List V->Hp->VK->Prop):Prop :=
 ∀(pins:List (Addr×Obj)) (s:Shared) (σ:St) (H:Hp) (x:V) (xs:List V) (v:Value) (us:List Value) (Q:VK),Inv X pins σ H s->RelV x v->Vals xs us->r x xs H Q ->
  wpAny (model X.prog X.w) X.A (call (.builtin id) (v::us)) (EP X pins σ Q) X.xe s
theorem Vals.one:∀{x:V} {us:List Value},Vals [x] us->∃ u,us=[u]/\RelV x u
 |_,_,.cons r .nil=>⟨_,rfl,r⟩
theorem Vals.two:∀{x y:V} {us:List Value},Vals [x,y] us->∃ u v,us=[u,v]/\RelV x u/\RelV y v
 |_,_,_,.cons r (.cons q .nil)=>⟨_,_,rfl,r,q⟩
theorem Vals.rep {xs:List V}{us:List Value}(h:Vals xs us):∀ k:Nat,Vals (List.replicate k xs).flatten (List.replicate k us).flatten
 |0=>.nil
 |k+1=>by
  rw[List.replicate_succ,List.replicate_succ,List.flatten_cons,List.flatten_cons];exact Vals.append h (Vals.rep h k)
theorem foldl_rep (its:List Value):∀(k:Nat)(acc:List Value),
  List.foldl (fun x1 x2=>x1++x2) acc.toArray (List.replicate k its.toArray)=(acc++(List.replicate k its).flatten).toArray
 |0,acc=>by simp
 |k+1,acc=>by
  have e:acc.toArray++its.toArray=(acc++its).toArray:=by simp
  have e2:(acc++its)++(List.replicate k its).flatten=acc++(List.replicate (k+1) its).flatten:=by
   rw[List.replicate_succ,List.flatten_cons,List.append_assoc]
  rw[<-e2,<-foldl_rep its k (acc++its),<-e,List.replicate_succ,List.foldl_cons]
section
variable {X:Cx} {pins:List (Addr×Obj)} {σ:St} {H:Hp} {s:Shared} {l b:Addr} {xs ys zs:List V}
theorem Inv.ac9 {its its':List Value}{n:Nat}{f:Array Value->Array Value}{t':Nat}(I:Inv X pins σ H s)(hH:H l=some (.lst xs))
  (e:s.heap.get? l=some { cls:=.type "list",data:=.seq its.toArray n }) (hf:f its.toArray=its'.toArray) (hv:Vals ys its') (hz:ys.length<=sizeLine) :
  Inv X pins σ (upd H l (.lst ys)) { s with heap:=s.heap.update l (Obj.mapSeq f),toks:=t' }:=by
 have q:=PySem.IsL.update e f;rw[hf]at q;refine I.write (x:=l) (e:=l) (by rw[hH];exact trivial) (.inl rfl) (fun b' u hb hu=>(Heap.get?_update_other s.heap (Obj.mapSeq f) (Ne.symm hb)).trans hu) ⟨_,q⟩ ?_;exact⟨hz,its',_,hv,q⟩
theorem Inv.aad {its:List Value}{t':Nat}(I:Inv X pins σ H s)(hv:Vals ys its)(hz:ys.length<=sizeLine) :
  Inv X pins σ (upd H s.heap.objs.size (.lst ys)) { s with heap:=s.heap.push { cls:=.type "list",data:=.seq its.toArray },toks:=t' } :=
 I.laid (fun _ _ q=>Heap.get?_push_of_some _ q) (Nat.le_refl _) ⟨hz,its,0,hv,Heap.get?_push_size _ rfl⟩
theorem Inv.fresh (I:Inv X pins σ H s):H s.heap.objs.size=none:=I.hok.fresh (Nat.le_refl _)
theorem Inv.Vx (I:Inv X pins σ H s)(hH:H l=some (.lst xs)):xs.length<=sizeLine/\∃(its:List Value)(n:Nat),Vals xs its/\xs.length=its.length/\s.heap.get? l=some { cls:=.type "list",data:=.seq its.toArray n }:=by
 obtain⟨z,its,n,r,e⟩:=I.hok l _ hH;exact⟨z,its,n,r,r.length,e⟩
theorem SO {n:Nat}(h:n<=sizeLine):Builtin.List.listTooLong n=false:=by
 unfold Builtin.List.listTooLong;exact decide_eq_false (by omega)
end
section
variable {X:Cx}
inductive Li (x:V)(vs:List V)(H:Hp)(Q:VK):Prop
 |mk (l:_) (xs:_) (y:_) (qw:x=.ref l) (qx:vs=[y]) (AL:H l=some (.lst xs)) (MI:xs.length<sizeLine) (Ve:Q .non (upd H l (.lst (xs++[y])))):Li x vs H Q
def Vy :V->List V->Hp->VK->Prop:=fun x vs H Q=>Li x vs H Q
theorem bW:MtM X "list.append" Vy:=by
 intro pins s σ H x vs v us Q I rx rv h;obtain⟨l,xs,y,rfl,rfl,hH,hz,q⟩:=h;cases rx;obtain⟨u,rfl,ru⟩:=rv.one;obtain⟨z,its,n,r,hl,e⟩:=I.Vx hH;refine call_meets F.slot_list_append ⟨_,e,rfl⟩ F.entry_list_append (F.args_list_append_2 _ _) (PySem.list_append l its.toArray n u (by rw[size_toArray];omega)) ⟨e,?_⟩;refine⟨.non,_,I.ac9 (its':=its++[u]) hH e (by simp) (r.append (.cons ru .nil)) ?_,rfl,q⟩;rw[length_append,List.length_singleton];omega
inductive Xp (x:V)(y:V)(H:Hp)(Q:VK):Prop
 |mk (l:_) (b:_) (xs:_) (zs:_) (qw:x=.ref l) (qx:y=.ref b) (AL:H l=some (.lst xs)) (MI:H b=some (.lst zs)) (Ve:xs.length+zs.length<=sizeLine) (h5_:∀ p,H p=none->Q (.ref p) (upd H p (.lst (xs++zs)))):Xp x y H Q
def ada :R2:=fun x y H Q=>Xp x y H Q
theorem bX:ox X (binaryOp .Add) ada:=by
 intro pins s σ H x y v u Q I rx ry h;obtain⟨l,b,xs,zs,rfl,rfl,hH,hB,hz,q⟩:=h;cases rx;cases ry;obtain⟨z,its,n,r,hl,e⟩:=I.Vx hH;obtain⟨z2,its2,n2,r2,hl2,e2⟩:=I.Vx hB;refine PySem.P.add_list e e2 ?_ (by rw[size_toArray,size_toArray];omega);have ea:its.toArray++its2.toArray=(its++its2).toArray:=by simp
 rw[ea];exact⟨.ref _,_,I.aad (t':=s.toks) (r.append r2) (by rw[length_append];omega),rfl,q _ I.fresh⟩
def adb:R2:=fun x y H Q=>∃ l k xs,x=.ref l/\y=.int k/\H l=some (.lst xs)/\-(2 ^ 63)<=k/\k<2 ^ 63/\xs.length * k.toNat<=sizeLine /\
 ∀ p,H p=none->Q (.ref p) (upd H p (.lst (List.replicate k.toNat xs).flatten))
theorem len_rep {α:Type}(xs:List α)(k:Nat):(List.replicate k xs).flatten.length=k * xs.length:=by
 induction k with
 |zero=>simp
 |succ k ih=>rw[List.replicate_succ,List.flatten_cons,length_append,ih,Nat.succ_mul,Nat.add_comm]
theorem qJ:ox X (binaryOp .Mult) adb:=by
 intro pins s σ H x y v u Q I rx ry h;obtain⟨l,k,xs,rfl,rfl,hH,h1,h2,hz,q⟩:=h;cases rx;obtain⟨t,rfl⟩:=ry;obtain⟨z,its,n,r,hl,e⟩:=I.Vx hH;have hlen:its.toArray.size * k.toNat<=sizeLine:=by rw[size_toArray,<-hl];exact hz
 have ade:¬ its.toArray.size * k.toNat > (2 ^ 63-1) / 8:=by
  have:(sizeLine:Nat)<=(2 ^ 63-1) / 8:=by decide
  omega
 have hfit:¬(!Builtin.List.listFitsIndex k)=true:=by
  rw[fitsIndex_both h1 h2];exact Bool.false_ne_true
 have aaf:¬ Builtin.List.listTooLong (its.toArray.size * k.toNat)=true:=by
  rw[SO hlen];exact Bool.false_ne_true
 have hnew:List.foldl (fun x1 x2=>x1++x2) #[] (List.replicate (if its.toArray.isEmpty=true then 0 else k.toNat) its.toArray)=(List.replicate k.toNat its).flatten.toArray:=by
  have f0:∀ m:Nat,List.foldl (fun x1 x2=>x1++x2) #[] (List.replicate m its.toArray)=(List.replicate m its).flatten.toArray:=fun m=>by
   have:=foldl_rep its m [];rw[nil_append]at this;exact this
  rw[f0];cases its with
  |nil=>simp
  |cons a r'=>rw[if_neg (by simp)]
 refine wpAny_binaryOp_repeat_ref (T:="list") (U:="int") (by decide) ⟨_,e,rfl⟩ (fun s'=>typeIs_int s' k t) noFill_list_mul F.fills_int_mul F.slot_int_rmul repeat_list F.slot_int_index.lookup
  (call_meets F.slot_int_rmul (typeIs_int s k t) F.entry_int_rmul (F.args_int_rmul_2 _ _) (int___rmul___int_list k t l its.toArray n)
   ⟨e,rfl,⟨_,e,rfl⟩,call_meets F.slot_list_mul ⟨_,e,rfl⟩ F.entry_list_mul (F.args_list_mul_2 _ _) (AutoListH.list___mul___list_int_3 l its.toArray n k t hfit ade aaf) ⟨e,?_⟩⟩)
 rw[hnew];exact⟨.ref _,_,I.aad (t':=s.toks) (r.rep k.toNat) (by rw[len_rep,Nat.mul_comm];exact hz),rfl,q _ I.fresh⟩
end
section
variable {prog:Program} {w:World} {A:Around} {E:Value->Shared->Prop} {s:Shared}
set_option maxRecDepth 100000 in
end
section
variable {X:Cx}
end
end L2
namespace Att
open PySem PySem.W PySem.Calls PyProof.Rows
theorem yC {P:Params}{h:Heap}:∀(ns:List Int)(vs:List Value),WellAll P h vs (ns.map WData.int)->IntsAre vs ns:=by
 intro ns
 induction ns with
 |nil =>
  intro vs w;rw[List.map_nil]at w;cases w;exact .nil
 |cons n ns ih =>
  intro vs w;rw[map_cons]at w;cases w with
  |cons a b =>
   cases a;exact .cons _ _ (ih _ b)
theorem Qy {l:OpenLaw}{n:Nat}(hn:l.most=some n){P:Params}{h:Heap}{args:List WData}{vals:List Value}
  (hpre:l.row.toRowW.claim.pre args=true) (hwl:WellAll P h vals args) :
  ∃ a vs ns,vals=[Value.ref a]/\args=[WData.list (ns.map WData.int)]/\h.get? a=some { cls:=.type "list",data:=.seq vs.toArray }/\IntsAre vs ns/\ns.length<=n:=by
 have hsh:WShape.hasAll [] args [.list .int]=true:=(pre_splitW hpre).1;have hc:l.pre.holds [] { args:=args } = true:=(pre_splitW hpre).2;obtain⟨d,r,rfl,h1,h2⟩:=hasAllW_cons hsh;obtain rfl:=hasAllW_nil h2;obtain⟨xs,rfl,h3⟩:=hasW_list h1;obtain⟨ns,rfl⟩:=items_int h3;have hlen:ns.length<=n:=by
  unfold OpenLaw.pre at hc;have h4:(WTm.not (.lt (.lit (.int (n:Int))) (.len (.arg 0)))).holds [] { args:=[.list (ns.map .int)] } = true:=by
   have h4:=(holds_andW hc).1;rw[hn]at h4;exact h4
  have h5:=condW_of h4 (w_not (w_lt w_lit (w_len_list (w_arg rfl))));rw[length_map]at h5;refine Nat.le_of_not_lt fun q=>?_;have q':(n:Int)<((ns.length:Nat):Int):=by omega
  first
   |(rw[decide_eq_true q']at h5;exact absurd h5 (by decide))
   |(simp at h5;omega)
 cases hwl with
 |cons w1 w2 =>
  cases w2;cases w1 with
  |list ho hall=>exact⟨_,_,ns,rfl,rfl,ho,yC ns _ hall,hlen⟩
theorem Qz (l:OpenLaw)(args:List WData):l.row.toRowW.claim.post args (.bool true) args=true :=
 postW_of (r:=l.row.toRowW) (X:=(true==true))
  (show WShape.has [] (.bool true) .bool=true by first|rfl|decide|simp[WShape.has,WShape.arms,WShape.armsAll])
  (show(WTm.eq .res (.lit (.bool true))).value [] { args:=args,res:=some (.bool true),after:=args } = some (.bool (true==true)) from w_eq_bool (w_res rfl) w_lit) rfl
theorem Lj {l:OpenLaw}{n:Nat}{q:Program}{loose:List Str}{XP:(Str->Option Value)->Heap->Prop}{YP:World->Heap->Prop}{d:DefRec}
  (hn:l.most=some n) (hdf:d.params.defaults=[])
  (call:∀(w:World)(s₀ s₁:Shared)(mg mb:Str->Option Value)(fa:Addr)(o:Obj)(pm cd doc:Value)(a:Addr)(vs:List Value)(ns:List Int),
   Ground q loose [] XP w s₀ mg mb s₁.heap->YP w s₁.heap ->
   s₁.heap.get? fa=some o->o.data=.func (docDef d.name d.params d.body d.scope pm cd doc)->s₁.heap.CodeRec cd d.name->mg d.name=some (.ref fa) ->
   s₁.heap.get? a=some { cls:=.type "list",data:=.seq vs.toArray }->IntsAre vs ns->ns.length<=n->s₁.gens = #[] ->
   codeAny (model l.prog w) callerA (.call (.ref fa) ⟨[.ref a],[]⟩) (fun r s'=>r=.ok (.ret (.bool true))/\OldK s₁.heap s'.heap/\s'.os=s₁.os/\AllBare s'.gens) s₁) :
  WalkO q loose XP YP l.row.toRowW d [] (fun f vs=>PySem.call f vs):=by
 intro w s₀ s₁ mg mb G Y fa o pm cd doc dV kV ho hd hcd hD hmg hg args vals as hpre hlay hrd hwl hlo;obtain rfl:dV=.none:=Dflts.none hD hdf;obtain rfl:kV=.none:=Dflts.noKw hD;obtain⟨a,vs,ns,rfl,rfl,hobj,hints,hlen⟩:=Qy hn hpre hwl;refine enter_call (codeAny_mono (call w s₀ s₁ mg mb fa o pm cd doc a vs ns G Y ho (fd_plain hd) hcd hmg hobj hints hlen hg) fun r s' hq=>?_);obtain⟨rfl,h2,h3,h4⟩:=hq;exact⟨.inl ⟨.bool true,.bool true,[],rfl,fun _=>rfl,.bool true,Qz l _,fun _=>⟨List.Pairwise.nil,fun _ hm=>(nomatch hm)⟩⟩,h2,h3,h4⟩
section
variable {prog:Program} {w:World} {A:Around} {E:Value->Shared->Prop} {s:Shared} {K:Frag}
def vE (h:Heap):Heap:={ h with objs:=#[] }
theorem BN (h:Heap)(b:Addr):(vE h).get? b=none:=by
 cases e:(vE h).get? b with
 |none=>rfl
 |some o=>exact absurd (Heap.lt_size e) (Nat.not_lt_zero _)
def ledger (h:Heap)(L d:Addr):List (Addr×Obj):=(List.range h.objs.size).filterMap fun a=>if a=L\/a=d then none else(h.get? a).map fun o=>(a,o)
theorem BO {h:Heap}{L d a:Addr}{o:Obj}:(a,o)∈ledger h L d ↔ a≠L/\a≠d/\h.get? a=some o:=by
 unfold ledger;rw[List.mem_filterMap];constructor
 ·rintro⟨b,_,e⟩;split at e
  ·cases e
  ·rename_i hb
   obtain⟨o',ho,e'⟩:=Option.map_eq_some_iff.mp e;cases e';exact⟨fun q=>hb (.inl q),fun q=>hb (.inr q),ho⟩
 ·rintro⟨n1,n2,ho⟩;refine⟨a,mem_range.mpr (Heap.lt_size ho),?_⟩;rw[if_neg (show ¬(a=L\/a=d) from fun q=>q.elim n1 n2),ho] <;> rfl
theorem YG {h:Heap}{L:Addr}{m:Str->Option Value}(n:h.Ns L m):Fr (vE h) L h m :=
 ⟨n,fun b o e=>(by rw[BN]at e;cases e),Nat.zero_le _⟩
end
end Att
namespace L2
open PySem PySem.Spec PyProof.Rows
theorem Gz:∀{vs:List Value} {ns:List Int},IntsAre vs ns->Vals (ns.map V.int) vs
 |_,_,.nil=>.nil
 |_,_,.cons n t h=>.cons ⟨t,rfl⟩ (Gz h)
end L2
namespace L2
open PySem PySem.Spec PyProof.Rows
end L2
namespace L2
open PySem PySem.Spec PyProof.Rows
def ak (s:Stmt):Arguments:=match s with
 |.FunctionDef _ a _ _ _ _ _ _ _ _=>a
 |_=>{ posonlyargs:=[],args:=[],vararg:=none,kwonlyargs:=[],kw_defaults:=[],kwarg:=none,defaults:=[] }
def ai (s:Stmt):List Stmt:=match s with
 |.FunctionDef _ _ b _ _ _ _ _ _ _=>b
 |_=>[]
def ae (s:Stmt):Scope:=match s with
 |.FunctionDef _ _ _ _ _ _ sc _ _ _=>sc
 |_=>{ kind:=.function,names:=[],isGenerator:=false,isCoroutine:=false }
abbrev ji:SG:=fun _ _ _ _ _ _=>False
abbrev E0:XK:=fun _ _ _=>False
theorem aN {X:Cx}:Passes ji X E0:=fun _ _ _ _ _ _ _ h=>h.elim
structure kZ (K:Frag)(x qual:Str)(st:Stmt)(f:Addr)(fd:FuncData):Prop where
 ex:∃(oc:Value)(od:Option Addr)(kV doc pm:Value)(an:Option Addr)(cdv ct:Value)(osl:Array (Option Value)),
  fd=fnOf x qual (ak st) (ai st) (ae st) .none kV doc pm an cdv ct/\K.lookup f=some ⟨oc,od,.func fd,osl⟩/\codeIn K cdv qual=true
 kp:keepIn K (.ref f)=true
section
variable {P:Program} {w:World} {K:Frag} {mg:Str->Option Value} {base:Heap}
theorem kZ.ok {x qual:Str}{st:Stmt}{f:Addr}{fd:FuncData}{N ps:List Str}{k:Nat}{sp:Sp}(F:kZ K x qual st f fd)(S:aF N ps (ae st))(len:∀ vs H Q E,sp vs H Q E->vs.length=ps.length)
  (hbody:∀(cdv:Value)(A:Around)(outer:List Env)(s:Shared)(H:Hp)(vs:List V)(Q:VK)(E:XK),kW k (A.deeper (envOfC qual (ae st) s.heap.objs.size f cdv))->sp vs H Q E ->
   ∃ t,Lc (Lf ji P w K mg base N qual (ae st) f cdv A outer s H E).Xa (ai st) t/\t { nx:=fun _ H'=>Q .non H',rt:=Q } (start N vs) H):cw P w K mg base ji (k+1) f fd ps sp:=by
 obtain⟨oc,od,kV,doc,pm,an,cdv,ct,osl,rfl,lk,hcd⟩:=F.ex;refine SH lk hcd S len fun A outer s H vs Q E hr hsp=>?_;obtain⟨t,h,q⟩:=hbody cdv A outer s H vs Q E hr hsp;exact⟨t,h.Xa,q⟩
theorem kZ.binds {x qual:Str}{st:Stmt}{f:Addr}{fd:FuncData}{ps:List Str}(F:kZ K x qual st f fd)
  (h:∀(kV doc pm:Value)(an:Option Addr)(cdv ct:Value)(us:List Value),us.length=ps.length->bindArgs (fnOf x qual (ak st) (ai st) (ae st) .none kV doc pm an cdv ct) ⟨us,[]⟩=pure (ps.zip us)):Binds K fd ps []:=by
 obtain⟨oc,od,kV,doc,pm,an,cdv,ct,osl,rfl,lk,hcd⟩:=F.ex;exact .all (h kV doc pm an cdv ct)
theorem aX {x qual:Str}{st:Stmt}{f:Addr}{oc:Value}{od an:Option Addr}{osl:Array (Option Value)}{kV doc pm cdv ct:Value}(l:K.lookup f=some ⟨oc,od,.func (fnOf x qual (ak st) (ai st) (ae st) .none kV doc pm an cdv ct),osl⟩)
  (c:codeIn K cdv qual=true) (k:keepIn K (.ref f)=true):kZ K x qual st f (fnOf x qual (ak st) (ai st) (ae st) .none kV doc pm an cdv ct):=⟨⟨oc,od,kV,doc,pm,an,cdv,ct,osl,rfl,l,c⟩,k⟩
end
theorem GA {A:Around}{k:Nat}(hr:kW k A):A.units+1<cLine:=Nat.lt_of_le_of_lt (Nat.add_le_add_left (by decide:1<=64) _) hr.units
theorem cf {n:Nat}(h:n<=1000):n<sizeLine:=Nat.lt_of_le_of_lt h (by decide)
section
variable {X:Cx}
theorem pv (i:Nat){x:Str}{pos:Pos}(hN:X.N[i]? = some x:=by rfl)(hv:Vis X.env.scope x:=by first|exact Or.inl rfl|exact Or.inr (Or.inl rfl)|exact Or.inr (Or.inr rfl))(hd:(x==("__debug__":Str))=false:=by decide)
  (hcd:(x==("__classdict__":Str))=false:=by decide):PE X (.Name x pos) (Yi i):=Yj hN hv hd hcd
end
theorem iy {A B:Prop}(h:B):if false=true then A else B:=by
 rw[if_neg Bool.false_ne_true];exact h
theorem mQ {A B:Prop}(h:A):if true=true then A else B:=by
 rw[if_pos rfl];exact h
theorem aV {c A B:Prop}[Decidable c](h1:c->A)(h2:¬ c->B):if c then A else B:=by
 by_cases h:c
 ·rw[if_pos h];exact h1 h
 ·rw[if_neg h];exact h2 h
def az (H H':Hp):Prop:=∀ b o,H b=some o->H' b=some o
theorem az.refl (H:Hp):az H H:=fun _ _ h=>h
theorem az.trans {H H1 H2:Hp}(a:az H H1)(b:az H1 H2):az H H2:=fun c o h=>b c o (a c o h)
theorem az.free {H H':Hp}(e:az H H'){l:Addr}(h:H' l=Option.none):H l=Option.none:=by
 cases q:H l with
 |none=>rfl
 |some o =>
  rw[e l o q]at h;cases h
theorem az.seq {K:Frag}{H H':Hp}{a:Addr}{xs:List V}(e:az H H')(h:a6 K H a xs):a6 K H' a xs:=by
 rcases h with (h|⟨o,h⟩)|h
 ·exact .inl (.inl (e _ _ h))
 ·exact .inl (.inr ⟨o,e _ _ h⟩)
 ·exact .inr h
end L2
set_option maxHeartbeats 4000000
namespace L2
open PySem PySem.Spec PyProof.Rows
def eW (env:Env):List (Str×NameKind)->List (Str×Addr)->List (Str×Addr)
 |[],acc=>acc
 |p::l,acc=>eW env l (if p.2 == .free then(p.1,(env.cells.lookup p.1).getD 0)::acc else acc)
theorem Pp {env:Env}{scope:Scope}(h:∀ p∈scope.names,p.2=.free->∃ c,env.cells.lookup p.1=some c):closureFor scope env=pure (eW env scope.names []):=by
 have go:∀(l:List (Str×NameKind)) (acc:List (Str×Addr)),(∀ p∈l,p.2=.free->∃ c,env.cells.lookup p.1=some c) ->
   (forIn l acc fun(p:Str×NameKind) cs=>if(p.2==NameKind.free)=true then(cellOf env p.1 >>= fun a=>pure (ForInStep.yield ((p.1,a)::cs))) else pure (ForInStep.yield cs))=(pure (eW env l acc):Sem (List (Str×Addr))):=by
  intro l
  induction l with
  |nil=>intro acc _;rfl
  |cons p l ih =>
   intro acc hl;rw[List.forIn_cons];have hr:=fun q hq=>hl q (mem_cons_of_mem _ hq)
   by_cases hk:p.2=.free
   ·obtain⟨c,hc⟩:=hl p mem_cons_self hk;have e1:(p.2==NameKind.free)=true:=by rw[hk];rfl
    rw[if_pos e1];have e2:cellOf env p.1=pure c:=by unfold cellOf;rw[hc]
    rw[e2,pure_bind,pure_bind];show forIn l ((p.1,c)::acc) _=_;rw[ih _ hr];show _=pure (eW env l (if p.2 == .free then(p.1,(env.cells.lookup p.1).getD 0)::acc else acc));rw[if_pos e1,hc];rfl
   ·have e1:¬(p.2==NameKind.free)=true:=by intro z;exact hk (by simpa using z)
    rw[if_neg e1,pure_bind];show forIn l acc _=_;rw[ih _ hr];show _=pure (eW env l (if p.2 == .free then(p.1,(env.cells.lookup p.1).getD 0)::acc else acc));rw[if_neg e1]
 have e:=go scope.names [] h;unfold closureFor;show(forIn scope.names ([]:List (Str×Addr)) _ >>= fun r=>pure r)=_;rw[bind_pure];exact e
theorem GB {env:Env}{x:Str}:∀(l:List (Str×NameKind)) (acc:List (Str×Addr)) {c:Addr},(eW env l acc).lookup x=some c->acc.lookup x=some c\/((x,NameKind.free)∈l/\c=(env.cells.lookup x).getD 0)
 |[],acc,c,h=>.inl h
 |p::l,acc,c,h=>by
  rcases GB l _ h with z|⟨z,e⟩
  ·by_cases hk:(p.2==NameKind.free)=true
   ·rw[if_pos hk,List.lookup_cons]at z
    by_cases hx:(x==p.1)=true
    ·rw[hx]at z;have e:x=p.1:=by simpa using hx
     have e2:p.2=.free:=by simpa using hk
     refine .inr ⟨?_,?_⟩
     ·rw[e,<-e2];exact mem_cons_self
     ·rw[e];exact(Option.some.inj z).symm
    ·have hx':(x==p.1)=false:=by simpa using hx
     rw[hx']at z;exact .inl z
   ·rw[if_neg hk]at z;exact .inl z
  ·exact .inr ⟨mem_cons_of_mem _ z,e⟩
theorem BP {env:Env}{x:Str}:∀(l:List (Str×NameKind)) (acc:List (Str×Addr)),((acc.lookup x).isSome=true\/(x,NameKind.free)∈l)->((eW env l acc).lookup x).isSome=true
 |[],acc,h=>by
  rcases h with h|h
  ·exact h
  ·cases h
 |p::l,acc,h=>by
  refine BP l _ ?_;rcases h with h|h
  ·left
   by_cases hk:(p.2==NameKind.free)=true
   ·rw[if_pos hk,List.lookup_cons];cases (x==p.1) with
    |true=>rfl
    |false=>exact h
   ·rw[if_neg hk];exact h
  ·rcases List.mem_cons.mp h with e|h
   ·left
    have e1:p.1=x:=by rw[<-e]
    have e2:(p.2==NameKind.free)=true:=by rw[<-e];rfl
    rw[if_pos e2,List.lookup_cons,e1];simp
   ·exact .inr h
theorem jT {env:Env}{x:Str}{k:NameKind}:∀(l:List (Str×NameKind)),
  (l.map fun(n,k)=>if(k==NameKind.free&&env.scope.kind == .function&&env.kindOf n==some .cell) then(n,NameKind.cell) else(n,k)).lookup x=some k ->
   l.lookup x=some k\/(k=.cell/\l.lookup x=some .free)
 |[],h=>by cases h
 |(n,q)::l,h=>by
  rw[map_cons]at h;cases hx:(x==n) with
  |true =>
   rw[List.lookup_cons,hx]
   by_cases hc:(q==NameKind.free&&env.scope.kind == .function&&env.kindOf n==some .cell)=true
   ·simp only [hc,if_true,List.lookup_cons,hx]at h;have e:q=.free:=by
     have:=(Bool.and_eq_true_iff.mp (Bool.and_eq_true_iff.mp hc).1).1
     simpa using this
    right
    exact⟨(Option.some.inj h).symm,by rw[e]⟩
   ·have hc':(q==NameKind.free&&env.scope.kind == .function&&env.kindOf n==some .cell)=false:=by simpa using hc
    simp only [hc',Bool.false_eq_true,if_false,List.lookup_cons,hx]at h;exact .inl h
  |false =>
   rw[List.lookup_cons,hx];refine jT (env:=env) l ?_
   by_cases hc:(q==NameKind.free&&env.scope.kind == .function&&env.kindOf n==some .cell)=true
   ·simp only [hc,if_true,List.lookup_cons,hx]at h;exact h
   ·have hc':(q==NameKind.free&&env.scope.kind == .function&&env.kindOf n==some .cell)=false:=by simpa using hc
    simp only [hc',Bool.false_eq_true,if_false,List.lookup_cons,hx]at h;exact h
structure Bk where
 C:Addr
 s₂:Shared
 ahP:Hp
 fp:List Addr
 xe:Value->Shared->Prop
def bY (X:Cx)(cn:List Str)(scope:Scope)(b:Bk):Cx where
 prog:=X.prog
 w:=X.w
 K:=X.K
 mg:=X.mg
 base:=X.base
 A:=X.A
 N:=cn++X.N
 s₀:=b.s₂
 H₀:=b.ahP
 env:=compEnvC scope (eW X.env scope.names []) b.C X.env
 outer:=X.stack
 stack:=X.stack
 ex:=b.fp
 fn:=fun _=>false
 calm:=X.calm
 pn:=[]
 xe:=b.xe
def SQ (sc:Scope)(N:List Str)(scope:Scope):Bool :=
 (scope.kind == .function) &&
 (scope.names.all fun p=>(p.2 != .cell)&&((p.2 != .free)||(sc.names.lookup p.1==some .cell)||(sc.names.lookup p.1==some .free))&&((p.2 != .local)||(scope.names.lookup p.1==some .local))) &&
 (N.all fun x=>scope.names.lookup x != some .local)
structure fR (sc:Scope)(N:List Str)(scope:Scope):Prop where
 kind:scope.kind=.function
 SR:∀ p∈scope.names,p.2≠.cell
 free:∀ p∈scope.names,p.2=.free->sc.names.lookup p.1=some .cell\/sc.names.lookup p.1=some .free
 loc:∀ p∈scope.names,p.2=.local->scope.names.lookup p.1=some .local
 apart:∀ x∈N,scope.names.lookup x≠some .local
theorem fR.of {sc:Scope}{N:List Str}{scope:Scope}(h:SQ sc N scope=true):fR sc N scope:=by
 unfold SQ at h;rw[Bool.and_eq_true,Bool.and_eq_true]at h;obtain⟨⟨h1,h2⟩,h3⟩:=h;rw[all_eq_true]at h2 h3;refine⟨by simpa using h1,fun p hp=>?_,fun p hp e=>?_,fun p hp e=>?_,fun x hx=>?_⟩
 ·have:=h2 p hp;rw[Bool.and_eq_true,Bool.and_eq_true]at this
  simpa using this.1.1
 ·have:=h2 p hp;rw[Bool.and_eq_true,Bool.and_eq_true]at this;have q:=this.1.2;rw[e]at q;rw[Bool.or_eq_true,Bool.or_eq_true]at q;rcases q with (q|q)|q
  ·exact absurd q (by decide)
  ·exact .inl (by simpa using q)
  ·exact .inr (by simpa using q)
 ·have:=h2 p hp;rw[Bool.and_eq_true,Bool.and_eq_true]at this;have q:=this.2;rw[e]at q;rw[Bool.or_eq_true]at q;rcases q with q|q
  ·exact absurd q (by decide)
  ·simpa using q
 ·have:=h3 x hx
  simpa using this
section
variable {X:Cx} {pins:List (Addr×Obj)} {σ:St} {H:Hp}
theorem oF {l:List (Str×NameKind)}{x:Str}{k:NameKind}(h:l.lookup x=some k):(x,k)∈l:=PySem.mem_of_lookup h
theorem Inv.block {s₂:Shared}{h₁:Heap}{tk:Nat}{cn:List Str}{scope:Scope}{fp:List Addr}{xe:Value->Shared->Prop}{C D:Addr}{m:Str->Option Value}
  (I:Inv X pins σ H s₂) (F:fR X.env.scope X.N scope) (hc:X.calm=true) (hf:∀ b∈fp,qt X pins H b) (hfl:∀ b∈fp,b<s₂.heap.objs.size)
  (hC:s₂.heap.objs.size<=C) (hD:s₂.heap.objs.size<=D) (hDC:D≠C) (hn:h₁.Ns C m) (old:∀ b o,s₂.heap.get? b=some o->h₁.get? b=some o)
  (hacc:h₁.get? D=some { cls:=.type "list",data:=.seq ([]:List Value).toArray 0 }) :
  Inv (bY X cn scope ⟨C,s₂,H,fp,xe⟩) [] (List.replicate cn.length none++σ) (upd H D (.lst [])) { s₂ with heap:=h₁,toks:=tk }:=by
 have Hy:∀ x,((bY X cn scope ⟨C,s₂,H,fp,xe⟩).env.kindOf x=some .cell\/(bY X cn scope ⟨C,s₂,H,fp,xe⟩).env.kindOf x=some .free)->(x,NameKind.free)∈scope.names:=by
  intro x hx;have hx':(relabel scope X.env).names.lookup x=some .cell\/(relabel scope X.env).names.lookup x=some .free:=hx;rcases hx' with z|z
  ·rcases jT scope.names z with z|⟨_,z⟩
   ·exact absurd rfl (F.SR _ (oF z))
   ·exact oF z
  ·rcases jT scope.names z with z|⟨e,_⟩
   ·exact oF z
   ·cases e
 have Pq:∀ x,(x,NameKind.free)∈scope.names->X.env.kindOf x=some .cell\/X.env.kindOf x=some .free:=fun x hx=>F.free _ hx rfl;have mR:∀ x c,(eW X.env scope.names []).lookup x=some c->X.env.cells.lookup x=some c:=by
  intro x c e;rcases GB _ _ e with z|⟨z,e2⟩
  ·cases z
  ·obtain⟨c',hc'⟩:=I.ok.has x (Pq x z);rw[hc']at e2 ⊢;rw[e2];rfl
 have af9:(bY X cn scope ⟨C,s₂,H,fp,xe⟩).fs=frs X.stack:=rfl;have adg:∀ b∈fp,b ∉ frs X.stack:=by
  intro b hb z;obtain⟨_,f1,f2,_⟩:=hf b hb;rcases List.mem_cons.mp (I.MK b z) with e|e
  ·exact f1 e
  ·exact f2 e
 have YH:∀ x c,X.env.cells.lookup x=some c->c<s₂.heap.objs.size:=by
  intro x c e;obtain⟨v,o,ho,_⟩:=I.cell x c e;exact Heap.lt_size ho
 have ok:(bY X cn scope ⟨C,s₂,H,fp,xe⟩).Ok:=by
  refine⟨I.ok.mod,?_,I.ok.glob,I.ok.blt,hC,fun x y c h1 h2=>I.ok.inj x y c (mR x c h1) (mR y c h2),fun x hx=>?_,fun x c z=>?_,fun _=>I.ok.hd hc,I.ok.frames,.inl rfl,fun b hb=>⟨?_,fun x c e=>?_⟩,
   fun b o e=>I.bs b o e,Nat.le_trans I.ok.Vc I.sz,fun b o e hb=>?_,fun b hb=>?_,I.stack,I.Pc⟩
  ·show(relabel scope X.env).kind=.function;exact F.kind
  ·have:=BP (env:=X.env) (x:=x) scope.names [] (.inr (Hy x hx));exact Option.isSome_iff_exists.mp this
  ·cases z
  ·exact Nat.ne_of_lt (Nat.lt_of_lt_of_le (hfl b hb) hC)
  ·exact(hf b hb).2.2.2.2.1 x c (mR x c e)
  ·have:X.base.objs.size<=X.s₀.heap.objs.size:=I.ok.Vc;rcases (hf b hb).2.2.2.1 with z|z
   ·exact I.ok.Sl b o e z
   ·exact absurd (Nat.lt_of_lt_of_le (Heap.lt_size e) (Nat.le_trans I.ok.Vc z)) (Nat.lt_irrefl _)
  ·exact adg b hb
 have hDn:H D=none:=I.hok.fresh hD;have adh:qv X.prog X.w (upd H D (.lst [])) h₁:=I.hok.laid old hD ⟨Nat.zero_le _,[],0,.nil,hacc⟩;refine⟨ok,rfl,I.bare,Un.laid old hD hDn,⟨m,hn,fun i x v e1 e2 e3=>?_⟩,fun x c e=>?_,?_,fun x c e=>?_,fun p hp=>absurd (show p∈([]:List (Addr×Obj)) from hp) (by simp),adh,?_⟩
 ·have hi:¬ i<cn.length:=by
   intro hi;rw[List.getElem?_append_left (by simpa using hi),List.getElem?_replicate]at e2;split at e2 <;> cases e2
  rw[getElem?_append_right (by simpa using hi),List.length_replicate]at e2;have e1':(cn++X.N)[i]? = some x:=e1;rw[getElem?_append_right (by omega)]at e1';obtain⟨m0,hm0,hl⟩:=I.loc;have hxN:x∈X.N:=mem_of_getElem? e1';have hfr:(x,NameKind.free)∈scope.names:=by
   have e3':(relabel scope X.env).names.lookup x=some .local\/(relabel scope X.env).names.lookup x=some .cell\/(relabel scope X.env).names.lookup x=some .free:=e3;rcases e3' with z|z|z
   ·rcases jT scope.names z with z|⟨e,_⟩
    ·exact absurd z (F.apart x hxN)
    ·cases e
   ·exact Hy x (.inl z)
   ·exact Hy x (.inr z)
  have hk:=Pq x hfr;have vis:Vis X.env.scope x:=by
   rcases hk with z|z
   ·exact .inr (.inl z)
   ·exact .inr (.inr z)
  obtain⟨u,r,lk⟩:=hl (i-cn.length) x v e1' e2 vis;refine⟨u,r,?_⟩;rcases lk with ⟨z,_⟩|⟨_,c,ec,z⟩
  ·rcases hk with q|q
   ·rw[z]at q;cases q
   ·rw[z]at q;cases q
  ·have hcl:(eW X.env scope.names []).lookup x=some c:=by
    obtain⟨c',e'⟩:=Option.isSome_iff_exists.mp (BP (env:=X.env) (x:=x) scope.names [] (.inr hfr));rw[e'];have:=mR x c' e';rw[ec]at this;exact this.symm
   refine .inr ⟨?_,c,hcl,?_⟩
   ·have e3':(relabel scope X.env).names.lookup x=some .local\/(relabel scope X.env).names.lookup x=some .cell\/(relabel scope X.env).names.lookup x=some .free:=e3;rcases e3' with y|y|y
    ·rcases jT scope.names y with y|⟨e,_⟩
     ·exact absurd y (F.apart x hxN)
     ·cases e
    ·exact .inl y
    ·exact .inr y
   ·obtain⟨o,ho,hd⟩:=z;exact⟨o,old c o ho,hd⟩
 ·obtain⟨v,o,ho,hd⟩:=I.cell x c (mR x c e);exact⟨v,o,old c o ho,hd⟩
 ·show upd H D (.lst []) C=none;rw[au (Ne.symm hDC)];exact I.hok.fresh hC
 ·rw[au (Nat.ne_of_lt (Nat.lt_of_lt_of_le (YH x c (mR x c e)) hD))];exact I.oy x c (mR x c e)
 ·show(List.replicate cn.length none++σ).length=(cn++X.N).length;rw[length_append,List.length_replicate,length_append,I.len]
theorem Inv.Pr {s₂ s':Shared}{h':Heap}{cn:List Str}{scope:Scope}{fp:List Addr}{xe:Value->Shared->Prop}{C:Addr}{H':Hp}{σ':St}{pl:List (Addr×Obj)}
  (I:Inv X pins σ H s₂) (hf:∀ b∈fp,qt X pins H b) (hC:s₂.heap.objs.size<=C) (J:Inv (bY X cn scope ⟨C,s₂,H,fp,xe⟩) pl σ' H' s') (sb:Heap.SameBut C s'.heap h') :
  Inv X pins σ H' { s' with heap:=h' }:=by
 have W8:∀ b o,s₂.heap.get? b=some o->b≠C:=fun b o e=>Nat.ne_of_lt (Nat.lt_of_lt_of_le (Heap.lt_size e) hC);have u:Un (frs X.stack) fp H H' s₂.heap s'.heap:=J.base;have un:Un (frs X.stack) fp H H' s₂.heap h' :=
  ⟨fun b o e n hb hx=>(sb.2 b (W8 b o e)).trans (u.keep b o e n hb hx),
   fun b o e n hb hx=>by
   obtain⟨sl,q⟩:=u.slot b o e n hb hx;exact⟨sl,(sb.2 b (W8 b o e)).trans q⟩,
   u.free,fun b o e hx=>by
   obtain⟨o',q⟩:=u.there b o e hx;exact⟨o',(sb.2 b (W8 b o e)).trans q⟩,u.tups,u.yB,u.BH⟩
 have fC:H' C=none:=J.free;have hok:qv X.prog X.w H' h':=fun b o e=>by
  refine(J.hok b o e).stay (fun c v hc q=>(sb.2 c ?_).trans q) (fun _ q=>q) fun _ _ q=>q;rintro rfl;rcases hc with z|z
  ·rw[<-z,fC]at e;cases e
  ·rw[fC]at z;cases z
 have os:s'.os=s₂.os:=J.os;refine I.call' (s':={ s' with heap:=h' }) os un hok J.bare fun b hb=>?_;obtain⟨_,f1,_,f3,f4,f5⟩:=hf b hb;exact⟨f3,f1,f4,f5⟩
end
end L2
set_option maxHeartbeats 4000000
namespace L2
open PySem PySem.Spec PyProof.Rows
theorem QA {prog:Program}{w:World}{A:Around}{R:Result->Shared->Prop}{s:Shared}{elt tg iter:Expr}{ifs:List Expr}{scope:Scope}{pos:Pos}{it acc:Value}{env:Env}(J:Nat->Shared->Prop)
  (turn:∀ n s,J n s->wpAny (model prog w) A (pyNext it) (fun r s₁=>(r=none/\R (.ok .next) s₁)\/∃ v,r=some v /\
   wpAny (model prog w) A (letOwnedTupleGo tg it v) (fun _ s₂=>wpAny (model prog w) A (assign tg env v) (fun _ s₃ =>
    wpAny (model prog w) A (forIn ifs true fun c r=>if r=true then do let ok <-isTrue c env (eval c env);pure (ForInStep.yield ok) else pure (ForInStep.yield r)) (fun ok s₄ =>
     if ok=true then wpAny (model prog w) A (eval elt env) (fun x s₅=>wpAny (model prog w) A (call (.builtin "list.append") [acc,x]) (fun _ s₆=>∃ m,m<n/\J m s₆) (notedBy (model prog w) A env fun e s'=>R (.error e) s') s₅)
      (notedBy (model prog w) A env fun e s'=>R (.error e) s') s₄
     else ∃ m,m<n/\J m s₄) (notedBy (model prog w) A env fun e s'=>R (.error e) s') s₃) (notedBy (model prog w) A env fun e s'=>R (.error e) s') s₂) (notedBy (model prog w) A env fun e s'=>R (.error e) s') s₁)
   (notedBy (model prog w) A env fun e s'=>R (.error e) s') s)
  (n:Nat) (h:J n s):codeAny (model prog w) A (.compLoop (.ListComp elt [⟨tg,iter,ifs,0⟩] scope pos) 0 it acc env) R s:=by
 refine codeAny_loop rfl J (fun n s hJ=>?_) n h;refine wpAny_noted (A:=A) (m:=compTurn (.ListComp elt [⟨tg,iter,ifs,0⟩] scope pos) 0 it acc env) (env:=env) ?_;rw[compTurn_list];refine wpAny_bind (wpAny_standAt (wpAny_bind (cI (turn n s hJ) fun r s₁ h₁=>?_)));rcases h₁ with ⟨e,h₁⟩|⟨v,e,h₁⟩
 ·subst e;exact wpAny_pure h₁
 ·subst e;refine wpAny_bind (cI h₁ fun _ s₂ h₂=>wpAny_bind (cI h₂ fun _ s₃ h₃=>wpAny_bind (cI h₃ fun ok s₄ h₄=>?_)));cases ok with
  |false=>exact wpAny_pure ⟨rfl,h₄⟩
  |true=>exact wpAny_bind (wpAny_bind (cI h₄ fun x s₅ h₅=>wpAny_bind (cI h₅ fun _ s₆ h₆=>wpAny_pure (wpAny_pure ⟨rfl,h₆⟩))))
def PF (X:Cx)(ifs:List Expr)(t:TT):Prop :=
 ∀(pins:List (Addr×Obj)) (s:Shared) (σ:St) (H:Hp) (Q:Bool->Hp->Prop),Inv X pins σ H s->t σ H Q ->
  wpAny (model X.prog X.w) X.A (forIn ifs true fun c r=>if r=true then do let ok <-isTrue c X.env (eval c X.env);pure (ForInStep.yield ok) else pure (ForInStep.yield r)) (TP X pins σ Q) X.xe s
def YI:TT:=fun _ H Q=>Q true H
theorem Hz {X:Cx}:PF X [] YI:=by
 intro pins s σ H Q I h;rw[List.forIn_nil];exact wpAny_pure ⟨H,I,h⟩
theorem YJ {X:Cx}{c:Expr}{t:TT}(hc:PT X c t):PF X [c] t:=by
 intro pins s σ H Q I h;rw[List.forIn_cons];refine wpAny_bind ?_;rw[if_pos rfl];refine wpAny_bind (cI (hc pins s σ H Q I h) fun ok s1 q=>wpAny_pure ?_);show wpAny _ _ (forIn [] ok _) _ _ _;rw[List.forIn_nil];exact wpAny_pure q
def MU (X:Cx)(C:Addr)(e:Value)(s':Shared):Prop :=
 ∃ m,s'.heap.Ns C m/\∀ h',Heap.SameBut C s'.heap h'->∀ cenv:Env,cenv.locals=C->wpAny (model X.prog X.w) X.A (passOn "comprehension.variables-let-go" e cenv:Sem Value) (fun _ _=>False) X.xe { s' with heap:=h' }
def lN (X:Cx)(scope:Scope)(C:Addr):Value->Shared->Prop :=
 notedBy (model X.prog X.w) X.A (compEnvC scope (eW X.env scope.names []) C X.env) (MU X C)
def SS (n:Nat)(wi:TI)(g:Bk->TG)(tc:Bk->TT)(te:Bk->TE):TE:=fun σ H Q=>wi σ H fun J H1=>∀(D:Addr)(b:Bk),H1 D=none->∃ W:Nat->Nat->List V->St->Hp->Prop,
 (∃ m,W 0 m [] (List.replicate n none++σ) (upd H1 D (.lst [])))/\∀ i m ys σ H,W i m ys σ H ->
  (J.stop i H/\Q (.ref D) H)\/(J.go i H/\∀ x H',J.Vd i H x H'->g b x σ H' fun σ2 H2=>tc b σ2 H2 fun ok H3 =>
   if ok=true then te b σ2 H3 fun y H4=>H4 D=some (.lst ys)/\ys.length<sizeLine/\∃ m',m'<m/\W (i+1) m' (ys++[y]) σ2 (upd H4 D (.lst (ys++[y])))
   else ∃ m',m'<m/\W (i+1) m' ys σ2 H3)
section
variable {X:Cx} {tg iter elt:Expr} {ifs:List Expr} {scope:Scope} {pos:Pos} {cn:List Str} {wi:TI} {g:Bk->TG} {tc:Bk->TT} {te:Bk->TE} {TH:Bk->Prop}
theorem Lk {pins:List (Addr×Obj)}{σ:St}{H:Hp}{s₂:Shared}{it:Addr}{fp:List Addr}{tn:Nat->Heap->Prop}{J:It}{RR:Value->Addr->Result->Shared->Prop}{QQ:Addr->Hp->Prop}{EE:Value->Shared->Prop}
  (hcalm:X.calm=true) (F:fR X.env.scope X.N scope) (hg:∀ b,TH b->PG (bY X cn scope b) tg (g b)) (ht:∀ b,TH b->PF (bY X cn scope b) ifs (tc b)) (he:∀ b,TH b->PE (bY X cn scope b) elt (te b))
  (hTH:∀ C,s₂.heap.objs.size<=C->TH ⟨C,s₂,H,fp,lN X scope C⟩)
  (I:Inv X pins σ H s₂) (T:Turn X.prog X.w X.K tg J fp it tn) (st:tn 0 s₂.heap) (hf:∀ b∈fp,qt X pins H b)
  (h:∀(D:Addr)(b:Bk),H D=none->∃ W:Nat->Nat->List V->St->Hp->Prop,(∃ m,W 0 m [] (List.replicate cn.length none++σ) (upd H D (.lst [])))/\∀ i m ys σ H,W i m ys σ H ->
   (J.stop i H/\QQ D H)\/(J.go i H/\∀ x H',J.Vd i H x H'->g b x σ H' fun σ2 H2=>tc b σ2 H2 fun ok H3 =>
    if ok=true then te b σ2 H3 fun y H4=>H4 D=some (.lst ys)/\ys.length<sizeLine/\∃ m',m'<m/\W (i+1) m' (ys++[y]) σ2 (upd H4 D (.lst (ys++[y])))
    else ∃ m',m'<m/\W (i+1) m' ys σ2 H3))
  (hR:∀ C D σ' H' s',s₂.heap.objs.size<=C->Inv (bY X cn scope ⟨C,s₂,H,fp,lN X scope C⟩) [] σ' H' s'->QQ D H'->RR (.ref D) C (.ok .next) s')
  (hE:∀ C D e s',MU X C e s'->RR (.ref D) C (.error e) s') :
  wpAny (model X.prog X.w) X.A (newList []) (fun acc s₃=>wpAny (model X.prog X.w) X.A (newFunctionEnv scope X.env.globals (eW X.env scope.names []) [] X.env.qual none .none (some X.env)) (fun cenv s₄ =>
   codeAny (model X.prog X.w) X.A (.compStart (.ListComp elt [⟨tg,iter,ifs,0⟩] scope pos) 0 (.ref it) acc { cenv with scope:=relabel scope X.env }) (RR acc cenv.locals) s₄) EE s₃) EE s₂:=by
 refine wpAny_newObj_type (wpAny_newFunctionEnv F.SR (by intro y hy;simp at hy) (fun h₁ hns₁ hsb₁=>?_) F.kind);dsimp only at hns₁ hsb₁ ⊢;generalize hH2:s₂.heap.push { cls:=.type "list",dict:=none,data:=.seq ([]:List Value).toArray } = H2 at hns₁ hsb₁ ⊢;have hC:H2.objs.size=s₂.heap.objs.size+1:=by rw[<-hH2,Heap.size_push]
 have hDC:s₂.heap.objs.size≠H2.objs.size:=by omega
 have hCle:s₂.heap.objs.size<=H2.objs.size:=by omega
 have hfl:∀ b∈fp,b<s₂.heap.objs.size:=fun b hb=>by
  obtain⟨o,e,_⟩:=T.obj 0 _ st b hb;exact Heap.lt_size e
 have adj:∀ b o,s₂.heap.get? b=some o->H2.get? b=some o:=fun b o e=>hH2 ▸ Heap.get?_push_of_some _ e;have old:∀ b o,s₂.heap.get? b=some o->h₁.get? b=some o:=fun b o e=>by
  have hb:=Heap.lt_size e;refine hsb₁.extBut b o (Nat.ne_of_lt (Nat.lt_of_lt_of_le hb hCle)) (Heap.get?_push_of_some _ (adj b o e))
 have hacc:h₁.get? s₂.heap.objs.size=some { cls:=.type "list",data:=.seq ([]:List Value).toArray 0 } :=
  hsb₁.extBut _ _ hDC (Heap.get?_push_of_some _ (hH2 ▸ Heap.get?_push_size _ rfl))
 have I0:=Inv.block (cn:=cn) (xe:=lN X scope H2.objs.size) (tk:=s₂.toks+([]:List (Str×Value)).length) I F hcalm hf hfl hCle (Nat.le_refl _) hDC hns₁ old hacc;have th:=hTH _ hCle;obtain⟨W,⟨m0,w0⟩,turn⟩:=h s₂.heap.objs.size ⟨H2.objs.size,s₂,H,fp,lN X scope H2.objs.size⟩ (I.hok.fresh (Nat.le_refl _));have fpx:∀{H':Hp},(∀ b∈fp,H' b=none)->∀ b∈fp,qt (bY X cn scope ⟨H2.objs.size,s₂,H,fp,lN X scope H2.objs.size⟩) [] H' b:=fun {H'} hn b hb=>by
  refine⟨hn b hb,(I0.ok.exf b hb).1,I0.ok.Sm b hb,.inl hb,(I0.ok.exf b hb).2,fun p hp=>absurd (show p∈([]:List (Addr×Obj)) from hp) (by simp)⟩
 have Xq:(bY X cn scope ⟨H2.objs.size,s₂,H,fp,lN X scope H2.objs.size⟩).calm=true:=hcalm;have loop:∀ s₃:Shared,s₃ = { s₂ with heap:=h₁,toks:=s₂.toks+([]:List (Str×Value)).length } ->
   codeAny (model X.prog X.w) X.A (.compLoop (.ListComp elt [⟨tg,iter,ifs,0⟩] scope pos) 0 (.ref it) (.ref s₂.heap.objs.size) (compEnvC scope (eW X.env scope.names []) H2.objs.size X.env))
    (RR (.ref s₂.heap.objs.size) H2.objs.size) s₃:=by
  rintro s₃ rfl;have toE:∀ e s',(bY X cn scope ⟨H2.objs.size,s₂,H,fp,lN X scope H2.objs.size⟩).xe e s' ->
    notedBy (model X.prog X.w) X.A (compEnvC scope (eW X.env scope.names []) H2.objs.size X.env) (fun e s'=>RR (.ref s₂.heap.objs.size) H2.objs.size (.error e) s') e s':=fun e s' z =>
   wpAny_mono (show notedBy (model X.prog X.w) X.A (compEnvC scope (eW X.env scope.names []) H2.objs.size X.env) (MU X H2.objs.size) e s' from z) (fun _ _ q=>hE _ _ _ _ q) fun _ _ q=>hE _ _ _ _ q
  refine QA (env:=compEnvC scope (eW X.env scope.names []) H2.objs.size X.env)
   (fun n s'=>∃ i ys σ' H',Inv (bY X cn scope ⟨H2.objs.size,s₂,H,fp,lN X scope H2.objs.size⟩) [] σ' H' s'/\tn i s'.heap/\(∀ b∈fp,H' b=none)/\W i n ys σ' H') ?_ m0
   ⟨0,[],_,_,I0,T.keep _ _ _ st fun b _ o e=>old b o e,fun b hb=>?_,w0⟩
  ·rintro n s' ⟨i,ys,σ',H',I',st',fr',w'⟩;rcases turn i n ys σ' H' w' with ⟨stop,qn⟩|⟨go,step⟩
   ·refine wpAny_mono (T.done (bY X cn scope ⟨H2.objs.size,s₂,H,fp,lN X scope H2.objs.size⟩) rfl rfl rfl Xq i [] s' σ' H' (fun _ _=>False) I' (fpx fr') st' stop) (fun r s4 ⟨hr,I4⟩=>?_) fun _ _ z=>z.elim;exact .inl ⟨hr,hR _ _ _ _ _ hCle I4 qn⟩
   ·refine wpAny_mono (T.item (bY X cn scope ⟨H2.objs.size,s₂,H,fp,lN X scope H2.objs.size⟩) rfl rfl rfl Xq i [] s' σ' H' (fun _ _=>False) I' (fpx fr') st' go) (fun r s4 ⟨u,hr,h4⟩=>?_) fun _ _ z=>z.elim;refine .inr ⟨u,hr,wpAny_mono h4 (fun _ s5 ⟨x,H5,I5,r5,y5,Yr,fr5⟩=>?_) fun _ _ z=>z.elim⟩;have I5':=I5.pinned (fpx fr5) (T.obj _ _ Yr);refine wpAny_mono (hg _ th _ s5 σ' H5 x u _ I5' r5 (step x H5 y5)) (fun _ s6 ⟨σ6,H6,I6,q6⟩=>?_) toE;refine wpAny_mono (ht _ th _ s6 σ6 H6 _ I6 q6) (fun ok s7 ⟨H7,I7,q7⟩=>?_) toE;have back:∀{σ8:St} {H8:Hp} {s8:Shared},Inv (bY X cn scope ⟨H2.objs.size,s₂,H,fp,lN X scope H2.objs.size⟩) ([]++BK fp s5.heap) σ8 H8 s8->tn (i+1) s8.heap/\∀ b∈fp,H8 b=none:=fun {σ8 H8 s8} I8=>by
     refine⟨T.keep _ _ _ Yr fun b hb o e=>(I8.pin (b,o) (mem_append_right _ (mem_append_right _ (mP hb e)))).1,fun b hb=>?_⟩;obtain⟨o,e,d⟩:=T.obj _ _ Yr b hb;exact(I8.pin (b,o) (mem_append_right _ (mem_append_right _ (mP hb e)))).2.1
    cases ok with
    |false =>
     rw[if_neg Bool.false_ne_true]at q7 ⊢;obtain⟨m',hm,w7⟩:=q7;obtain⟨t8,f8⟩:=back I7;exact⟨m',hm,i+1,ys,σ6,H7,I7.oD,t8,f8,w7⟩
    |true =>
     rw[if_pos rfl]at q7 ⊢;refine wpAny_mono (he _ th _ s7 σ6 H7 _ I7 q7) (fun v s8 ⟨y,H8,I8,r8,hl,hz,m',hm,w8⟩=>?_) toE;refine wpAny_mono (bW (X:=bY X cn scope ⟨H2.objs.size,s₂,H,fp,lN X scope H2.objs.size⟩) _ s8 σ6 H8 (.ref s₂.heap.objs.size) [y] (.ref s₂.heap.objs.size) [v] (fun _ H9=>W (i+1) m' (ys++[y]) σ6 H9) I8 rfl (.cons r8 .nil) ⟨_,ys,y,rfl,rfl,hl,hz,w8⟩)
      (fun _ s9 ⟨_,H9,I9,_,w9⟩=>?_) toE
     obtain⟨t9,f9⟩:=back I9;exact⟨m',hm,i+1,_,σ6,H9,I9.oD,t9,f9,w9⟩
  ·rw[au (Nat.ne_of_lt (hfl b hb))];exact(hf b hb).1
 exact codeAny_compStart_list (loop _ rfl) (T.self _ 0 _ _ _ (T.keep _ _ _ st fun b _ o e=>old b o e) (loop _ rfl))
theorem SU (hcalm:X.calm=true)(F:fR X.env.scope X.N scope)(hi:PI X tg iter wi)(hg:∀ b,TH b->PG (bY X cn scope b) tg (g b))(ht:∀ b,TH b->PF (bY X cn scope b) ifs (tc b))
  (he:∀ b,TH b->PE (bY X cn scope b) elt (te b))
  (hTH:∀ pins σ H s₂ fp C,Inv X pins σ H s₂->(∀ b∈fp,qt X pins H b)->s₂.heap.objs.size<=C->TH ⟨C,s₂,H,fp,lN X scope C⟩)
  (hs:∀ x,foldedSetIterable iter X.env x=pure x:=by intro _;rfl):PE X (.ListComp elt [⟨tg,iter,ifs,0⟩] scope pos) (SS cn.length wi g tc te):=by
 intro pins s σ H Q I h;rw[eval_ListComp];have hcl:closureFor scope X.env=pure (eW X.env scope.names []):=Pp fun p hp e=>I.ok.has p.1 (F.free p hp e);refine wpAny_comprehension_free (use:=none) rfl hs hcl F.kind F.loc (cI (hi pins s σ H _ I h) fun xv s₁ h₁=>cI h₁ fun itv s₂ h₂=>?_);obtain⟨it,fp,tn,J,H2,rfl,I2,T,st,f2,R⟩:=h₂;refine Lk (QQ:=fun D H'=>Q (.ref D) H') (RR:=fun acc C=>compPost (model X.prog X.w) X.A X.xe none (EP X pins σ Q) acc C) hcalm F hg ht he (fun C hC=>hTH pins σ H2 s₂ fp C I2 f2 hC) I2 T st f2 R ?_ ?_
 ·intro C D σ' H' s' hC I' q;obtain⟨m,hm,_⟩:=I'.loc;exact⟨m,hm,fun h' sb=>⟨.ref D,H',I2.Pr f2 hC I' sb,rfl,q⟩⟩
 ·intro C D e s' z;exact z
theorem AM (hcalm:X.calm=true)(F:fR X.env.scope X.N scope)(hi:PI X tg iter wi)(hg:∀ b,PG (bY X cn scope b) tg (g b))(ht:∀ b,PF (bY X cn scope b) ifs (tc b))(he:∀ b,PE (bY X cn scope b) elt (te b))
  (hs:∀ x,foldedSetIterable iter X.env x=pure x:=by intro _;rfl):PE X (.ListComp elt [⟨tg,iter,ifs,0⟩] scope pos) (SS cn.length wi g tc te) :=
 SU (TH:=fun _=>True) hcalm F hi (fun b _=>hg b) (fun b _=>ht b) (fun b _=>he b) (fun _ _ _ _ _ _ _ _ _=>trivial) hs
end
end L2
set_option maxHeartbeats 4000000
namespace L2
open PySem PySem.Spec PyProof.Rows
section
variable {X:Cx} {e:Expr} {es:List Expr} {te:TE} {pos:Pos}
abbrev TP1:=St->Hp->(Str->Hp->Prop)->Prop
abbrev YK:=Str->St->Hp->(Str->Hp->Prop)->Prop
def adl (X:Cx)(pins:List (Addr×Obj))(σ:St)(Q:Str->Hp->Prop)(u:Value)(s':Shared):Prop:=∃ y t H',u=.str y t/\Inv X pins σ H' s'/\Q y H'
def PP (X:Cx)(e:Expr)(t:TP1):Prop :=
 ∀(pins:List (Addr×Obj)) (s:Shared) (σ:St) (H:Hp) (Q:Str->Hp->Prop),Inv X pins σ H s->t σ H Q->wpAny (model X.prog X.w) X.A (eval e X.env) (adl X pins σ Q) X.xe s
def PPs (X:Cx)(es:List Expr)(t:YK):Prop :=
 ∀(pins:List (Addr×Obj)) (s:Shared) (σ:St) (H:Hp) (acc:Str) (Q:Str->Hp->Prop),Inv X pins σ H s->t acc σ H Q ->
  Joins (model X.prog X.w) X.A X.xe (evalEach es X.env) acc (fun out s₁=>∃ H',Inv X pins σ H' s₁/\Q out H') s
def tPC (x:Str):TP1:=fun _ H Q=>Q x H
def tPV (te:TE):TP1:=fun σ H Q=>te σ H fun v H1=>(∃ z,v=.str z/\z.length<=sizeLine/\Q z H1)\/∃ i:Int,v=.int i/\i.natAbs.log2<1920/\Q (toString i) H1
theorem SV {x j}:PP X (.Constant (.str x) j pos) (tPC x):=fun _ _ _ H _ I h=>Calls.Constant_str ⟨x,_,H,rfl,I.tok _,h⟩
theorem MV (he:PE X e te):PP X (.FormattedValue e (-1) none pos) (tPV te):=by
 intro pins s σ H Q I h;refine FormattedValue_plain (cI (he pins s σ H _ I h) fun v s1 ⟨x,H1,I1,r1,q1⟩=>?_);rcases q1 with ⟨z,rfl,hz,q⟩|⟨i,rfl,hi,q⟩
 ·obtain⟨t,rfl⟩:=r1;exact formatField_str (fun t' tk=>⟨z,t',H1,rfl,I1.tok _,q⟩) hz
 ·obtain⟨t,rfl⟩:=r1;exact formatField_int_small hi ⟨_,_,H1,rfl,I1.tok _,q⟩
def tJ0:YK:=fun acc _ H Q=>Q acc H
def tJ (t:TP1)(u:YK):YK:=fun acc σ H Q=>t σ H fun y H1=>(acc++y).length<=sizeLine/\u (acc++y) σ H1 Q
theorem VA:PPs X [] tJ0:=fun _ _ _ H _ _ I h=>⟨H,I,h⟩
theorem sX {t:TP1}{u:YK}(h1:PP X e t)(h2:PPs X es u):PPs X (e::es) (tJ t u):=by
 intro pins s σ H acc Q I h;refine wpAny_mono (h1 pins s σ H _ I h) (fun v s1 q=>?_) fun _ _ z=>z;obtain⟨y,tk,H1,rfl,I1,hz,q⟩:=q;exact⟨y,tk,rfl,hz,h2 pins s1 σ H1 _ Q I1 q⟩
def tF (u:YK):TE:=fun σ H Q=>u Str.empty σ H fun out H1=>out.length<=sizeLine/\Q (.str out) H1
theorem VB {e2:Expr}{u:YK}(h:PPs X (e::e2::es) u):PE X (.JoinedStr (e::e2::es) pos) (tF u):=by
 intro pins s σ H Q I hw;refine wpAny_JoinedStr ?_;have mono:∀(l:List (Sem Value)) (acc:Str) (Q1 Q2:Str->Shared->Prop) (s:Shared),(∀ o s,Q1 o s->Q2 o s)->Joins (model X.prog X.w) X.A X.xe l acc Q1 s->Joins (model X.prog X.w) X.A X.xe l acc Q2 s:=by
  intro l
  induction l with
  |nil=>intro acc Q1 Q2 s hm h;exact hm _ _ h
  |cons a l ih =>
   intro acc Q1 Q2 s hm h;refine wpAny_mono h (fun v s1 q=>?_) fun _ _ z=>z;obtain⟨y,t,e1,hz,q⟩:=q;exact⟨y,t,e1,hz,ih _ _ _ _ hm q⟩
 refine mono _ _ _ _ _ (fun out s1 q=>?_) (h pins s σ H _ _ I hw);obtain⟨H1,I1,hz,q⟩:=q;exact⟨hz,.str out,H1,I1.tok _,⟨_,rfl⟩,q⟩
theorem iX:ig X (.type "int") (fun xs H Q=>∃ z n,xs=[.str z]/\PySem.intText? z=some n/\z.length<=640/\Q (.int n) H):=by
 intro pins s σ H xs us Q I r h;obtain⟨z,n,rfl,hn,hl,q⟩:=h;obtain⟨u,rfl,t,rfl⟩:=r.one;exact PySem.W.KIN.call_text hn hl ⟨.int n,H,I.tok _,⟨_,rfl⟩,q⟩
def adm:V->Option Int->Option Int->Hp->VK->Prop:=fun x lo hi H Q=>∃ z,x=.str z/\z.length<=sizeLine/\Q (.str (Txt.slice z lo hi)) H
theorem GC {v:Value}{o:Option Int}(p:IsPart v o):∃ l:Option (Int×Tok),v=partValue l/\l.map (·.1)=o:=by
 cases p with
 |none=>exact⟨none,rfl,rfl⟩
 |int i t=>exact⟨some (i,t),rfl,rfl⟩
theorem MW:Xi X adm:=by
 intro pins s σ H x v vl vu lo hi sl Q I rx hs pl pu h;obtain⟨z,rfl,hz,q⟩:=h;obtain⟨t,rfl⟩:=rx;obtain⟨l,rfl,el⟩:=GC pl;obtain⟨u,rfl,eu⟩:=GC pu;subst el eu;refine⟨"str",_,F.slot_str_getitem.lookup,typeIs_str _ _ _,?_⟩;obtain⟨o,ho,hc,hd⟩:=hs;refine wpAny_getItem_str_slice (l:=l) (u:=u) (st:=none) ⟨o,ho,hc,hd⟩ rfl ?_;exact post_val_or_str ⟨Nat.le_trans (Txt.slice_le z _ _) hz,fun t' k=>⟨.str _,H,I.tok _,⟨t',rfl⟩,q⟩⟩
end
end L2
set_option maxHeartbeats 4000000
namespace L2
open PySem PySem.Spec PyProof.Rows PySem.SeqAt
inductive VC (K:Frag)(H:Hp):Nat->V->V->Prop where
 |flat {n:Nat} {x:V} (f:qA x=true):VC K H n x x
 |tup {n:Nat} {a b:Addr} {xs ys:List V} (ha:dc K H a xs) (hb:dc K H b ys) (hl:xs.length=ys.length) (h:∀(i:Nat) x y,xs[i]? = some x->ys[i]? = some y->VC K H n x y):VC K H (n+1) (.ref a) (.ref b)
 |lst {n:Nat} {a b:Addr} {xs ys:List V} (ha:a6 K H a xs) (hb:a6 K H b ys) (hl:xs.length=ys.length) (h:∀(i:Nat) x y,xs[i]? = some x->ys[i]? = some y->VC K H n x y):VC K H (n+1) (.ref a) (.ref b)
section
variable {X:Cx} {pins:List (Addr×Obj)} {σ:St} {H:Hp} {s:Shared}
theorem SW:∀{x:V},qA x=true->Vg x x=true:=by
 intro x f;cases x <;> first|(simp[Vg];done)|(cases f)
theorem oG (n:Nat):(List.range n).all (fun _=>true)=true:=by simp
theorem VC.at {n:Nat}{x y:V}(d:VC X.K H n x y)(I:Inv X pins σ H s):∀{A:Around} {u v:Value},A.units+n<cLine->RelV x u->RelV y v ->
  EqAt A s u v true/\(∀ a b,x=.ref a->y=.ref b->RcAt A s u v true/\RcNeAt A s u v false):=by
 induction d with
 | @flat n x f =>
  intro A u v hu ru rv;refine⟨?_,fun a b e _=>?_⟩
  ·have:=SM (A:=A) (s:=s) ru rv f f;rw[SW f]at this;exact this
  ·subst e;cases f
 | @tup n a b xs ys ha hb hl h ih =>
  intro A u v hu ru rv;cases ru;cases rv;obtain⟨its,r,p,_⟩:=I.tuple ha;obtain⟨its',r',p',_⟩:=I.tuple hb;have e1:=r.length;have e2:=r'.length;have he:∀ j (h1:j<its.toArray.size) (h2:j<its'.toArray.size),EqAt A.in1 s its.toArray[j] its'.toArray[j] true:=by
   intro j h1 h2;have h1':j<its.length:=by simpa using h1
   have h2':j<its'.length:=by simpa using h2
   have g1:xs[j]? = some xs[j]:=getElem?_eq_getElem (by omega);have g2:ys[j]? = some ys[j]:=getElem?_eq_getElem (by omega);obtain⟨u1,q1,k1⟩:=r.get g1;obtain⟨u2,q2,k2⟩:=r'.get g2;have z1:its.toArray[j]=u1:=by
    rw[getElem?_eq_getElem h1']at q1
    simpa using q1
   have z2:its'.toArray[j]=u2:=by
    rw[getElem?_eq_getElem h2']at q2
    simpa using q2
   rw[z1,z2];exact(ih j _ _ g1 g2 (by show A.units+1+n<cLine;omega) k1 k2).1
  have bt:((List.range (min its.toArray.size its'.toArray.size)).all (fun _=>true)&&its.toArray.size==its'.toArray.size)=true:=by
   rw[oG];simp;omega
  have rc:RcAt A s (.ref a) (.ref b) true:=by
   have:=RcAt.tuples (A:=A) (e:=fun _=>true) (show s.heap.IsTuple a its.toArray from p) (show s.heap.IsTuple b its'.toArray from p') (by omega) he;rw[bt]at this;exact this
  have rn:RcNeAt A s (.ref a) (.ref b) false:=by
   have:=RcNeAt.tuples (A:=A) (e:=fun _=>true) (show s.heap.IsTuple a its.toArray from p) (show s.heap.IsTuple b its'.toArray from p') (by omega) he;rw[bt]at this;exact this
  refine⟨?_,fun _ _ _ _=>⟨rc,rn⟩⟩
  by_cases e:a=b
  ·subst e;exact EqAt.same _
  ·exact EqAt.of_refs e rc
 | @lst n a b xs ys ha hb hl h ih =>
  intro A u v hu ru rv;cases ru;cases rv;obtain⟨its,r,p,_⟩:=I.list ha;obtain⟨its',r',p',_⟩:=I.list hb;have e1:=r.length;have e2:=r'.length;have he:∀ j (h1:j<its.toArray.size) (h2:j<its'.toArray.size),EqAt A.in1 s its.toArray[j] its'.toArray[j] true:=by
   intro j h1 h2;have h1':j<its.length:=by simpa using h1
   have h2':j<its'.length:=by simpa using h2
   have g1:xs[j]? = some xs[j]:=getElem?_eq_getElem (by omega);have g2:ys[j]? = some ys[j]:=getElem?_eq_getElem (by omega);obtain⟨u1,q1,k1⟩:=r.get g1;obtain⟨u2,q2,k2⟩:=r'.get g2;have z1:its.toArray[j]=u1:=by
    rw[getElem?_eq_getElem h1']at q1
    simpa using q1
   have z2:its'.toArray[j]=u2:=by
    rw[getElem?_eq_getElem h2']at q2
    simpa using q2
   rw[z1,z2];exact(ih j _ _ g1 g2 (by show A.units+1+n<cLine;omega) k1 k2).1
  have bt:(List.range its.toArray.size).all (fun _=>true)=true:=oG _;have rc:RcAt A s (.ref a) (.ref b) true:=by
   have:=RcAt.lists (A:=A) (e:=fun _=>true) p.isList p'.isList (by simp;omega) (by omega) he;rw[bt]at this;exact this
  have rn:RcNeAt A s (.ref a) (.ref b) false:=by
   have:=RcNeAt.lists (A:=A) (e:=fun _=>true) p.isList p'.isList (by simp;omega) (by omega) he;rw[bt]at this;exact this
  refine⟨?_,fun _ _ _ _=>⟨rc,rn⟩⟩
  by_cases e:a=b
  ·subst e;exact EqAt.same _
  ·exact EqAt.of_refs e rc
inductive Xr (K:Frag)(b:Bool)(x:V)(y:V)(H:Hp)(Q:VK):Prop
 |mk (a:_) (c:_) (qw:x=.ref a) (qx:y=.ref c) (AL:VC K H 60 x y/\Q (.bl b) H):Xr K b x y H Q
def aah (K:Frag)(b:Bool):R2:=fun x y H Q=>Xr K b x y H Q
theorem aL (hu:X.A.units+64<cLine):ox X (compareOp .Eq) (aah X.K true):=by
 intro pins s σ H x y v u Q I r1 r2 h;obtain⟨a,c,rfl,rfl,d,q⟩:=h;exact(((d.at I (A:=X.A) (by omega) r1 r2).2 a c rfl rfl).1) X.prog X.w X.xe _ ⟨.bl true,H,I,rfl,q⟩
theorem lz (hu:X.A.units+64<cLine):ox X (compareOp .NotEq) (aah X.K false):=by
 intro pins s σ H x y v u Q I r1 r2 h;obtain⟨a,c,rfl,rfl,d,q⟩:=h;exact(((d.at I (A:=X.A) (by omega) r1 r2).2 a c rfl rfl).2) X.prog X.w X.xe _ ⟨.bl false,H,I,rfl,q⟩
theorem oH:ig X (.builtin "isinstance") (fun xs H Q=>∃ x T t b,xs=[x,.ty T]/\oe X.K H x t/\kitOne X.K t (.type T)=some b/\Q (.bl b) H):=by
 intro pins s σ H xs us Q I r h;obtain⟨x,T,t,b,rfl,ty,e,q⟩:=h;obtain⟨u,v,rfl,r1,r2⟩:=r.two;cases r2;exact Qv I r1 ty e fun tk=>⟨.bl b,H,I.tok _,rfl,q⟩
def Itz (K:Frag)(a b:Addr):It :=
 ⟨fun i H=>∃ xs ys x y,a6 K H a xs/\a6 K H b ys/\xs[i]? = some x/\ys[i]? = some y,
  fun i H p H'=>∃ x y t,p=.ref t/\H t=none/\(∀ xs,a6 K H a xs->xs[i]? = some x)/\(∀ ys,a6 K H b ys->ys[i]? = some y)/\H'=upd H t (.tup [x,y]),
  fun i H=>∃ xs ys,a6 K H a xs/\a6 K H b ys/\min xs.length ys.length=i⟩
theorem mS {a:Addr}{K:Frag}{X:Cx}{pins:List (Addr×Obj)}{σ:St}{H:Hp}{s:Shared}{xs:List V}{b:Addr}{o:Obj}(I:Inv X pins σ H s)(hq:a6 X.K H a xs)(e:s.heap.get? b=some o)(hc:o.cls≠.type "list"):a≠b:=by
 rintro rfl;obtain⟨its,_,p,_⟩:=I.list hq;obtain⟨o',e',c',_⟩:=p.isList;rw[e]at e';cases e';exact hc c'
theorem Inv.Ll {tk:Nat}{h':Heap}{wr:List Addr}{T:Addr}{xs:List V}{vals:List Value}(I:Inv X pins σ H s)(hw:∀ b∈wr,qt X pins H b)(hT:s.heap.objs.size<=T)(ht:h'.IsTuple T vals.toArray)(rv:Vals xs vals)(hz:xs.length<=sizeLine)
  (kk:∀ b o,b ∉ wr->s.heap.get? b=some o->h'.get? b=some o) (there:∀ b∈wr,∃ o,h'.get? b=some o):Inv X pins σ (upd H T (.tup xs)) { s with heap:=h',toks:=tk }:=by
 have VD:H T=none:=I.hok.fresh hT;have nT:∀ b o,s.heap.get? b=some o->b≠T:=fun b o e=>Nat.ne_of_lt (Nat.lt_of_lt_of_le (Heap.lt_size e) hT);refine I.step (g':=s.gens) (d':=s.drawn) (ch:=wr) (fun b hb=>?_) (fun b o _ _ hc e _=>kk b o hc e) (fun b o _ _ hc e _=>⟨o.slots,kk b o hc e⟩) (fun b o _ e n=>by rw[au (nT b o e)];exact n)
  (fun b o hc e=>⟨o,kk b o hc e⟩) (fun b ys e=>by rw[au (aQ e VD)];exact e) (fun b o u e=>by rw[au (aQ e VD)];exact e) (fun b ps e=>⟨#[],by rw[au (aQ e VD),e];simp⟩) (fun m hm=>?_) (fun b u e=>?_) I.bare
 ·obtain⟨_,f1,_,f3,f4,f5⟩:=hw b hb;exact⟨f3,f1,f4,f5⟩
 ·obtain⟨o,es,ep,ho,r⟩:=hm;exact⟨o,es,ep,kk _ o (fun z=>(hw _ z).2.1 rfl) ho,r⟩
 ·by_cases hb:b=T
  ·subst hb;rw[aj]at e;cases e;exact⟨hz,vals,rv,ht⟩
  ·rw[au hb]at e;refine(I.hok b u e).stay (fun c v hc q=>kk c v (fun z=>?_) q) (fun c q=>by rw[au (aQ q VD)];exact q) fun c ys q=>by rw[au (aQ q VD)];exact q
   have hn:=(hw c z).1;rcases hc with hc|hc
   ·rw[hc,e]at hn;cases hn
   ·rw[hc]at hn;cases hn
theorem Inv.mT {tk:Nat}{h':Heap}{wr:List Addr}(I:Inv X pins σ H s)(hw:∀ b∈wr,qt X pins H b)(kk:∀ b o,b ∉ wr->s.heap.get? b=some o->h'.get? b=some o):Inv X pins σ H { s with heap:=h',toks:=tk }:=by
 refine I.step (g':=s.gens) (d':=s.drawn) (ch:=wr) (fun b hb=>?_) (fun b o _ _ hc e _=>kk b o hc e) (fun b o _ _ hc e _=>⟨o.slots,kk b o hc e⟩) (fun b o _ e n=>n)
  (fun b o hc e=>⟨o,kk b o hc e⟩) (fun b ys e=>e) (fun b o u e=>e) (fun b ps e=>⟨#[],by rw[e];simp⟩) (fun m hm=>?_) (fun b u e=>?_) I.bare
 ·obtain⟨_,f1,_,f3,f4,f5⟩:=hw b hb;exact⟨f3,f1,f4,f5⟩
 ·obtain⟨o,es,ep,ho,r⟩:=hm;exact⟨o,es,ep,kk _ o (fun z=>(hw _ z).2.1 rfl) ho,r⟩
 ·refine(I.hok b u e).stay (fun c v hc q=>kk c v (fun z=>?_) q) (fun c q=>q) fun c ys q=>q;have hn:=(hw c z).1;rcases hc with hc|hc
  ·rw[hc,e]at hn;cases hn
  ·rw[hc]at hn;cases hn
end
end L2
set_option maxHeartbeats 4000000
namespace L2
open PySem PySem.Spec PyProof.Rows PySem.SeqAt
section
variable {X:Cx}
theorem ay {k:Nat}{A:Around}(hr:kW k A):A.units+64<cLine:=hr.units
theorem jj:bootBuiltins "len"=some (.builtin "len"):=by lk
theorem YL:bootBuiltins "min"=some (.builtin "min"):=by lk
theorem YM:bootBuiltins "max"=some (.builtin "max"):=by lk
theorem YN:bootBuiltins "zip"=some (.type "zip"):=by lk
theorem eQ:bootBuiltins "isinstance"=some (.builtin "isinstance"):=by lk
theorem BQ:bootBuiltins "int"=some (.type "int"):=by lk
theorem VE:bootBuiltins "bool"=some (.type "bool"):=by lk
theorem YO:bootBuiltins "str"=some (.type "str"):=by lk
theorem HA:bootBuiltins "list"=some (.type "list"):=by lk
theorem BR:bootBuiltins "tuple"=some (.type "tuple"):=by lk
theorem VF:bootBuiltins "dict"=some (.type "dict"):=by lk
end
end L2
namespace L2
open PySem PySem.Spec PyProof.Rows
end L2
namespace L2
open PySem
theorem sY {K:Frag}{H:Hp}{a l:Addr}{o:HO}{xs:List V}(h:a6 K H a xs)(hn:H l=none):a6 K (upd H l o) a xs:=by
 have ne:∀{u},H a=some u->a≠l:=fun e=>aQ e hn;rcases h with (h|⟨u,h⟩)|h
 ·exact .inl (.inl (by rw[au (ne h)];exact h))
 ·exact .inl (.inr ⟨u,by rw[au (ne h)];exact h⟩)
 ·exact .inr h
theorem az.tup {K:Frag}{H H':Hp}{a:Addr}{xs:List V}(e:az H H')(h:dc K H a xs):dc K H' a xs:=by
 rcases h with (h|⟨o,h⟩)|h
 ·exact .inl (.inl (e _ _ h))
 ·exact .inl (.inr ⟨o,e _ _ h⟩)
 ·exact .inr h
theorem az.upd {H:Hp}{l:Addr}{o:HO}(hn:H l=none):az H (upd H l o):=fun b u e=>by
 rw[au (aQ e hn)];exact e
end L2
namespace L2
theorem aU {X:Cx}{b:List PySem.Stmt}{t:TS}{D:Ends}{σ:St}{H:Hp}(h:Lc X b t)(q:t D σ H):∃ t,Lc X b t/\t D σ H:=⟨t,h,q⟩
theorem oI (i j:Int):decide (V.int i=V.int j)=decide (i=j):=by
 by_cases h:i=j
 ·subst h;simp
 ·rw[decide_eq_false h];exact decide_eq_false fun e=>h (V.int.inj e)
end L2
namespace L2
open PySem
end L2
namespace L2
open PySem
end L2
set_option maxHeartbeats 4000000
namespace L2
open PySem PySem.Spec PyProof.Rows
section
variable {X:Cx} {tg:Expr}
theorem GD {pins:List (Addr×Obj)}{σ:St}{H:Hp}{s:Shared}{a:Addr}{xs:List V}{i:Nat}{y:V}(I:Inv X pins σ H s)(hq:a6 X.K H a xs)(hy:xs[i]? = some y):∀ ys,a6 X.K H a ys->ys[i]? = some y:=fun ys h=>by
 rw[I.Ld h hq];exact hy
end
end L2
set_option maxHeartbeats 4000000
namespace L2
open PySem PySem.Spec PyProof.Rows
structure MX (z TI TO i1 i2:Addr):Prop where
 TIz:TI≠z
 TOz:TO≠z
 i1z:i1≠z
 i2z:i2≠z
 TITO:TI≠TO
 TIi1:TI≠i1
 TIi2:TI≠i2
 TOi1:TO≠i1
 TOi2:TO≠i2
 i12:i1≠i2
section
variable {X:Cx}
def Xs (z TI TO i1 i2 a b:Addr)(i:Nat)(h:Heap):Prop:=IsZip h z TI TO .none/\IsPair h TI (.ref i1) (.ref i2)/\(∃ x y,IsPair h TO x y)/\h.IsListIter i1 a i/\h.IsListIter i2 b i
theorem GF {pins:List (Addr×Obj)}{σ:St}{H:Hp}{s:Shared}{z TI TO i1 i2 a b:Addr}{i:Nat}{xs ys:List V}(I:Inv X pins σ H s)(O:MX z TI TO i1 i2)(st:Xs z TI TO i1 i2 a b i s.heap)(ha:a6 X.K H a xs)(hb:a6 X.K H b ys) :
  ZipApart z TI TO i1 i2 a b:=by
 obtain⟨hz,hTI,⟨x,y,hTO⟩,⟨o1,e1,c1,_⟩,⟨o2,e2,c2,_⟩⟩:=st;have nz:∀{c:Addr} {zs:List V},a6 X.K H c zs->c≠z:=fun h=>mS (K:=X.K) I h hz (by intro q;injection q with q;exact absurd q (by decide));have nT:∀{c:Addr} {zs:List V},a6 X.K H c zs->c≠TO:=fun h=>mS (K:=X.K) I h hTO (by intro q;injection q with q;exact absurd q (by decide));have n1:∀{c:Addr} {zs:List V},a6 X.K H c zs->c≠i1:=fun h=>mS (K:=X.K) I h e1 (by rw[c1];intro q;injection q with q;exact absurd q (by decide));have n2:∀{c:Addr} {zs:List V},a6 X.K H c zs->c≠i2:=fun h=>mS (K:=X.K) I h e2 (by rw[c2];intro q;injection q with q;exact absurd q (by decide));exact⟨O.TIz,O.TOz,O.i1z,O.i2z,O.TITO,O.TIi1,O.TIi2,O.TOi1,O.TOi2,O.i12,nz ha,nT ha,n1 ha,n2 ha,nz hb,nT hb,n1 hb,n2 hb⟩
theorem SX {P:Program}{w:World}{K:Frag}{es:List Expr}{k:Nat}{tp:Pos}{z TI TO i1 i2:Addr}(a b:Addr)(O:MX z TI TO i1 i2) :
  Turn P w K (.Tuple es k tp) (Itz K a b) [z,TI,TO,i1,i2] z (Xs z TI TO i1 i2 a b) where
 mem:=by simp
 obj:=fun i h st c hc=>by
  obtain⟨hz,hTI,⟨x,y,hTO⟩,⟨o1,e1,_,d1⟩,⟨o2,e2,_,d2⟩⟩:=st;have hc':c=z\/c=TI\/c=TO\/c=i1\/c=i2:=by simpa using hc
  rcases hc' with rfl|rfl|rfl|rfl|rfl
  ·exact⟨_,hz,fun v q=>by
    have q':Data.fields _=Data.cell v:=q;cases q'⟩
  ·exact⟨_,hTI,fun v q=>by
    have q':Data.seq _ _=Data.cell v:=q;cases q'⟩
  ·exact⟨_,hTO,fun v q=>by
    have q':Data.seq _ _=Data.cell v:=q;cases q'⟩
  ·exact⟨o1,e1,fun v q=>by rw[d1]at q;cases q⟩
  ·exact⟨o2,e2,fun v q=>by rw[d2]at q;cases q⟩
 keep:=fun i h h' st kp=>by
  obtain⟨hz,hTI,⟨x,y,hTO⟩,h1,h2⟩:=st;exact⟨kp z (by simp) _ hz,kp TI (by simp) _ hTI,⟨x,y,kp TO (by simp) _ hTO⟩,h1.at fun o q=>kp i1 (by simp) o q,h2.at fun o q=>kp i2 (by simp) o q⟩
 item:=by
  intro X hP hw hK hc i pins s σ H E I hf st hg;subst hP hw hK;obtain⟨xs,ys,x,y,hq,hq2,hx,hy⟩:=hg;have D:=GF I O st hq hq2;obtain⟨its,rv,p,_⟩:=I.list hq;obtain⟨its2,rv2,p2,_⟩:=I.list hq2;obtain⟨u,hu,ru⟩:=rv.get hx;obtain⟨u2,hu2,ru2⟩:=rv2.get hy;have h1:i<its.length:=(List.getElem?_eq_some_iff.mp hu).1;have h2:i<its2.length:=(List.getElem?_eq_some_iff.mp hu2).1;have W:=WalksT.zip2 (prog:=X.prog) (w:=X.w) (I.ok.hd hc) z TI TO i1 i2 a b D its.toArray its2.toArray;obtain⟨hz,hTI,hTO,g1,g2⟩:=st;refine W.item i s _ _ (by simp;omega) ⟨hz,hTI,hTO,g1,g2,p.isList,p2.isList⟩ fun T vals h' tk hv hT ht mid kk=>?_;refine⟨_,rfl,?_⟩;obtain⟨x',y',hx',hy',rfl⟩:=hv;have ex:x'=u:=by
   have:its[i]? = some x':=by simpa using hx'
   rw[hu]at this;exact(Option.some.inj this).symm
  have ey:y'=u2:=by
   have:its2[i]? = some y':=by simpa using hy'
   rw[hu2]at this;exact(Option.some.inj this).symm
  subst ex ey;have sub:∀ c∈[z,TO,i1,i2],c∈[z,TI,TO,i1,i2]:=fun c hc=>by
   have:c=z\/c=TO\/c=i1\/c=i2:=by simpa using hc
   simp;rcases this with r|r|r|r <;> simp[r]
  have fw:∀ c∈[z,TO,i1,i2],qt X pins H c:=fun c hc=>hf c (sub c hc);have I1:Inv X pins σ (upd H T (.tup [x,y])) { s with heap:=h',toks:=tk }:=by
   refine I.Ll (vals:=[x',y']) fw hT (by simpa using ht) (.cons ru (.cons ru2 .nil)) (by show 2<=sizeLine;decide) kk fun c hc=>?_;obtain⟨m1,_,⟨_,_,m2⟩,⟨o1,m3,_⟩,⟨o2,m4,_⟩,_⟩:=mid;have:c=z\/c=TO\/c=i1\/c=i2:=by simpa using hc
   rcases this with rfl|rfl|rfl|rfl
   ·exact⟨_,m1⟩
   ·exact⟨_,m2⟩
   ·exact⟨_,m3⟩
   ·exact⟨_,m4⟩
  have VD:H T=none:=I.hok.fresh hT;have neT:∀ c∈[z,TI,TO,i1,i2],c≠T:=fun c hc q=>by
   subst q;have:c=TI\/c∈[z,TO,i1,i2]:=by
    have:c=z\/c=TI\/c=TO\/c=i1\/c=i2:=by simpa using hc
    simp;rcases this with r|r|r|r|r <;> simp[r]
   rcases this with r|r
   ·subst r;exact absurd (Nat.lt_of_lt_of_le (Heap.lt_size hTI) hT) (Nat.lt_irrefl _)
   ·exact W.apart i c _ mid r
  refine W.go es k tp i T _ _ _ mid fun h'' st'' adn=>?_;have hf2:∀ c∈[z,TI,TO,i1,i2],qt X pins (upd H T (.tup [x,y])) c:=fun c hc=>by
   obtain⟨f0,fr⟩:=hf c hc;exact⟨by rw[au (neT c hc)];exact f0,fr⟩
  obtain⟨s1,s2,s3,s4,s5,_⟩:=st'';refine⟨.ref T,upd H T (.tup [x,y]),I1.mT (tk:=tk) (fun c hc=>hf2 c (sub c hc)) adn,rfl,⟨x,y,T,rfl,VD,GD I hq hx,GD I hq2 hy,rfl⟩,⟨s1,s2,s3,s4,s5⟩,fun c hc=>(hf2 c hc).1⟩
 done:=by
  intro X hP hw hK hc i pins s σ H E I hf st hg;subst hP hw hK;obtain⟨xs,ys,hq,hq2,hx⟩:=hg;have D:=GF I O st hq hq2;obtain⟨its,rv,p,_⟩:=I.list hq;obtain⟨its2,rv2,p2,_⟩:=I.list hq2;have W:=WalksT.zip2 (prog:=X.prog) (w:=X.w) (I.ok.hd hc) z TI TO i1 i2 a b D its.toArray its2.toArray;obtain⟨hz,hTI,hTO,g1,g2⟩:=st;have e:min its.toArray.size its2.toArray.size=i:=by
   rw[size_toArray,size_toArray,<-rv.length,<-rv2.length];exact hx
  refine W.done s _ _ (by rw[e];exact⟨hz,hTI,hTO,g1,g2,p.isList,p2.isList⟩) fun h' tk kk=>?_;refine⟨rfl,I.mT (tk:=tk) (wr:=[z,TO,i1,i2]) (fun c hc=>hf c ?_) kk⟩;have:c=z\/c=TO\/c=i1\/c=i2:=by simpa using hc
  simp;rcases this with r|r|r|r <;> simp[r]
 self:=fun _ i s _ _ st h=>by
  obtain⟨hz,_⟩:=st;exact wpAny_pyIter_zip hz h
inductive Xu (K:Frag)(R:(It->Hp->Prop))(x:V)(y:V)(H2:Hp):Prop
 |mk (a:_) (b:_) (qw:x=.ref a) (qx:y=.ref b) (AL:(∃ xs,a6 K H2 a xs)/\(∃ ys,a6 K H2 b ys)/\R (Itz K a b) H2):Xu K R x y H2
def ado (K:Frag)(tl tm:TE):TI:=fun σ H R=>tl σ H fun x H1=>tm σ H1 fun y H2=>Xu K R x y H2
theorem YR {l m:Expr}{tl tm:TE}(hl:PE X l tl)(hm:PE X m tm)(hs:starEach [l,m] X.env=[(false,eval l X.env),(false,eval m X.env)])(hs2:starEach [m] X.env=[(false,eval m X.env)])(pos:Pos)(pins:List (Addr×Obj))(s:Shared)(σ:St)(H:Hp){Q:V->V->Hp->Prop}(I:Inv X pins σ H s)(h:tl σ H fun x H1=>tm σ H1 fun y H2=>Q x y H2) :
  wpAny (model X.prog X.w) X.A (spliced (backTo pos (starEach [l,m] X.env))) (fun us s1=>∃ x y u v H1,Inv X pins σ H1 s1/\us=[u,v]/\RelV x u/\RelV y v/\Q x y H1) X.xe s:=by
 have he:PE X l (fun σ' H' Q'=>σ'=σ/\H'=H/\∀ x H1,(tm σ H1 fun y H2=>Q x y H2)->Q' x H1):=by
  intro pins s σ' H' Q' I' hw;obtain⟨rfl,rfl,k⟩:=hw;exact cI (hl pins s σ' H' _ I' h) fun u s1 ⟨v,H1,I1,r,q⟩=>⟨v,H1,I1,r,k v H1 q⟩
 have hf:PE X m (fun σ' H' Q'=>∃ x,σ'=σ/\(tm σ H' fun y H2=>Q x y H2)/\∀ y H2,Q x y H2->Q' y H2):=by
  intro pins s σ' H' Q' I' hw;obtain⟨x,rfl,hh,k⟩:=hw;exact cI (hm pins s σ' H' _ I' hh) fun u s1 ⟨v,H1,I1,r,q⟩=>⟨v,H1,I1,r,k v H1 q⟩
 have main:=aa he (aa hf ao hs2) (by rw[hs,hs2]) pos pins s σ H (fun vs H2=>∃ x y,vs=[x,y]/\Q x y H2) I ⟨rfl,rfl,fun x H1 q=>⟨x,rfl,q,fun y H2 q2=>⟨x,y,rfl,q2⟩⟩⟩;refine cI main fun us s1 ⟨vs,H1,I1,r,x,y,e,q⟩=>?_;subst e;obtain⟨u,v,rfl,r1,r2⟩:=r.two;exact⟨x,y,u,v,H1,I1,rfl,r1,r2,q⟩
theorem YS {l m:Expr}{tl tm:TE}{p pos tp:Pos}{es:List Expr}{k:Nat}(hg:Gl X "zip")(hz:X.mg "zip"=none)(hl:PE X l tl)(hm:PE X m tm)(hs:starEach [l,m] X.env=[(false,eval l X.env),(false,eval m X.env)]:=by rfl)(hs2:starEach [m] X.env=[(false,eval m X.env)]:=by rfl) :
  PI X (.Tuple es k tp) (.Call (.Name "zip" p) [l,m] [] pos) (ado X.K tl tm):=by
 intro pins s σ H R I h;refine Call_ (vB I hg hz YN (PyProof.Rows.callWith_type1 (cI (YR hl hm hs hs2 pos pins s σ H I h) fun us s1 ⟨x,y,u,v,H1,I1,e1,r1,r2,q1⟩=>?_) (by rw[hs,hs2]) (by rw[hs2];rfl)));obtain⟨a,b,rfl,rfl,⟨xs,hq⟩,⟨ys,hq2⟩,q⟩:=q1;subst e1;cases r1;cases r2;obtain⟨its,rv,pl,_⟩:=I1.list hq;obtain⟨its2,rv2,pl2,_⟩:=I1.list hq2;refine call_zip_2 pl.isList pl2.isList fun h' z1 z2 z3 z4 z5 hsz kk=>?_;refine wpAny_pyIter_zip z1 ?_;have O:MX (s1.heap.objs.size+4) (s1.heap.objs.size+2) (s1.heap.objs.size+3) s1.heap.objs.size (s1.heap.objs.size+1):=by
  constructor <;> exact(by intro q;have q':(_:Nat)=_:=q;omega)
 refine⟨_,[s1.heap.objs.size+4,s1.heap.objs.size+2,s1.heap.objs.size+3,s1.heap.objs.size,s1.heap.objs.size+1],_,_,H1,rfl,I1.kept (t':=s1.toks) kk,SX a b O,⟨z1,z2,⟨_,_,z3⟩,z4,z5⟩,fun c hc=>?_,q⟩;have hc':s1.heap.objs.size<=c:=by
  have:c=s1.heap.objs.size+4\/c=s1.heap.objs.size+2\/c=s1.heap.objs.size+3\/c=s1.heap.objs.size\/c=s1.heap.objs.size+1:=by simpa using hc
  rcases this with r|r|r|r|r <;> (rw[r];first|exact Nat.le_add_right _ _|exact Nat.le_refl _)
 exact I1.Qp hc' (I1.hok.fresh hc')
end
end L2
set_option maxHeartbeats 4000000
namespace L2
open PySem
abbrev Pt (J:It)(g:TG)(tc:TT)(te:TE)(D:Addr)(R:Hp->Prop)(σ:St)(H:Hp):Prop:=∃ W:Nat->Nat->List V->St->Hp->Prop,(∃ m,W 0 m [] σ H)/\∀ i m ys σ H,W i m ys σ H ->
  (J.stop i H/\R H)\/(J.go i H/\∀ x H',J.Vd i H x H'->g x σ H' fun σ2 H2=>tc σ2 H2 fun ok H3 =>
   if ok=true then te σ2 H3 fun y H4=>H4 D=some (.lst ys)/\ys.length<sizeLine/\∃ m',m'<m/\W (i+1) m' (ys++[y]) σ2 (upd H4 D (.lst (ys++[y])))
   else ∃ m',m'<m/\W (i+1) m' ys σ2 H3)
abbrev GG (g:TG)(tc:TT)(te:TE)(D:Addr)(ys:List V)(x:V)(σ:St)(H:Hp)(N:List V->St->Hp->Prop):Prop :=
 g x σ H fun σ2 H2=>tc σ2 H2 fun ok H3=>if ok=true then te σ2 H3 fun y H4=>H4 D=some (.lst ys)/\ys.length<sizeLine/\N (ys++[y]) σ2 (upd H4 D (.lst (ys++[y]))) else N ys σ2 H3
theorem MY {lo:Int}{n:Nat}{g:TG}{tc:TT}{te:TE}{D:Addr}{R:Hp->Prop}{σ:St}{H:Hp}(Pv:Nat->List V->St->Hp->Prop)(h0:Pv 0 [] σ H)
  (hs:∀ i ys σ H,i<n->Pv i ys σ H->∀ N:List V->St->Hp->Prop,(∀ ys σ H,Pv (i+1) ys σ H->N ys σ H)->GG g tc te D ys (.int (lo+i)) σ H N) (hd:∀ ys σ H,Pv n ys σ H->R H):Pt (Xc lo n) g tc te D R σ H:=by
 refine⟨fun i m ys σ H=>m=n-i/\i<=n/\Pv i ys σ H,⟨n,by simp,Nat.zero_le _,h0⟩,?_⟩;rintro i m ys σ H ⟨rfl,hi,p⟩
 by_cases hlt:i<n
 ·refine .inr ⟨hlt,fun x H' y=>?_⟩;obtain⟨e,y⟩:=y;subst e y;exact hs i ys σ _ hlt p (fun ys' σ' H'=>∃ m',m'<n-i/\m'=n-(i+1)/\i+1<=n/\Pv (i+1) ys' σ' H') fun ys' σ' H' q=>⟨n-(i+1),by omega,rfl,hlt,q⟩
 ·have e:i=n:=by omega
  subst e;exact .inl ⟨Nat.le_refl _,hd ys σ H p⟩
theorem QB {K:Frag}{a:Addr}{xs:List V}{g:TG}{tc:TT}{te:TE}{D:Addr}{R:Hp->Prop}{σ:St}{H:Hp}(Pv:Nat->List V->St->Hp->Prop)(h0:Pv 0 [] σ H)(hl:∀ i ys σ H,Pv i ys σ H->a6 K H a xs)
  (hs:∀ i ys x σ H,xs[i]? = some x->Pv i ys σ H->∀ N:List V->St->Hp->Prop,(∀ ys σ H,Pv (i+1) ys σ H->N ys σ H)->GG g tc te D ys x σ H N) (hd:∀ ys σ H,Pv xs.length ys σ H->R H):Pt (ZG K a) g tc te D R σ H:=by
 refine⟨fun i m ys σ H=>m=xs.length-i/\i<=xs.length/\Pv i ys σ H,⟨xs.length,by simp,Nat.zero_le _,h0⟩,?_⟩;rintro i m ys σ H ⟨rfl,hi,p⟩;have q:=hl i ys σ H p
 by_cases hlt:i<xs.length
 ·refine .inr ⟨⟨xs,xs[i],q,by simp[hlt]⟩,fun x H' y=>?_⟩;obtain⟨e,y⟩:=y;subst e;exact hs i ys x σ _ (y xs q) p (fun ys' σ' H'=>∃ m',m'<xs.length-i/\m'=xs.length-(i+1)/\i+1<=xs.length/\Pv (i+1) ys' σ' H') fun ys' σ' H' q=>⟨xs.length-(i+1),by omega,rfl,hlt,q⟩
 ·have e:i=xs.length:=by omega
  subst e;exact .inl ⟨⟨xs,q,Nat.le_refl _⟩,hd ys σ H p⟩
theorem VG {K:Frag}{a b:Addr}{xs ys:List V}{g:TG}{tb:TS}{D:Ends}{σ:St}{H:Hp}(Pv:Nat->St->Hp->Prop)(he:xs.length=ys.length)(h0:Pv 0 σ H)(hl:∀ i σ H,Pv i σ H->a6 K H a xs/\a6 K H b ys)
  (hs:∀ i x y t σ H,xs[i]? = some x->ys[i]? = some y->Pv i σ H->H t=none->g (.ref t) σ (upd H t (.tup [x,y])) fun σ2 H2=>tb { D with nx:=Pv (i+1),ct:=Pv (i+1),bk:=D.nx } σ2 H2) (hd:∀ σ H,Pv xs.length σ H->D.nx σ H) :
  ∃ W:Nat->Nat->St->Hp->Prop,(∃ m,W 0 m σ H)/\∀ i m σ H,W i m σ H ->
   ((Itz K a b).stop i H/\D.nx σ H)\/((Itz K a b).go i H/\∃ N:St->Hp->Prop,(∀ σ' H',N σ' H'->∃ m',m'<m/\W (i+1) m' σ' H')/\∀ x H',(Itz K a b).Vd i H x H'->g x σ H' fun σ2 H2=>tb { D with nx:=N,ct:=N,bk:=D.nx } σ2 H2):=by
 refine⟨fun i m σ H=>m=xs.length-i/\i<=xs.length/\Pv i σ H,⟨xs.length,by simp,Nat.zero_le _,h0⟩,?_⟩;rintro i m σ H ⟨rfl,hi,p⟩;obtain⟨q,q2⟩:=hl i σ H p
 by_cases hlt:i<xs.length
 ·have hlt2:i<ys.length:=by omega
  refine .inr ⟨⟨xs,ys,xs[i],ys[i],q,q2,by simp[hlt],by simp[hlt2]⟩,Pv (i+1),fun σ' H' p'=>⟨xs.length-(i+1),by omega,rfl,hlt,p'⟩,fun x H' y=>?_⟩;obtain⟨x0,y0,t,rfl,hn,hx,hy,rfl⟩:=y;exact hs i x0 y0 t σ H (hx xs q) (hy ys q2) p hn
 ·have e:i=xs.length:=by omega
  subst e;exact .inl ⟨⟨xs,ys,q,q2,by omega⟩,hd σ H p⟩
end L2
namespace L2
open PySem
theorem qK {j:Nat}{te:TE}{D:Addr}{ys:List V}{x:V}{σ:St}{H:Hp}{N:List V->St->Hp->Prop}
  (h:te (σ.set j (some x)) H fun y H4=>H4 D=some (.lst ys)/\ys.length<sizeLine/\N (ys++[y]) (σ.set j (some x)) (upd H4 D (.lst (ys++[y])))):GG (Le j) YI te D ys x σ H N:=by
 unfold GG Le YI;exact(if_pos (rfl:true=true)).mpr h
end L2
set_option maxHeartbeats 4000000
namespace L2
open PySem PySem.Spec PyProof.Rows
open Sem (wp)
section
variable {prog:Program} {w:World} {A:Around} {E:Value->Shared->Prop} {s:Shared}
end
end L2
set_option maxHeartbeats 4000000
namespace L2
open PySem PySem.Spec PyProof.Rows
section
variable {X:Cx} {pins:List (Addr×Obj)} {σ:St} {H:Hp} {s:Shared}
end
end L2
set_option maxHeartbeats 4000000
namespace L2
open PySem PySem.Spec PyProof.Rows
structure HB (K:Frag)(x qual:Str)(st:Stmt)(f:Addr)(fd:FuncData)(dV:Value):Prop where
 ex:∃(oc:Value)(od:Option Addr)(kV doc pm:Value)(an:Option Addr)(cdv ct:Value)(osl:Array (Option Value)),
  fd=fnOf x qual (ak st) (ai st) (ae st) dV kV doc pm an cdv ct/\K.lookup f=some ⟨oc,od,.func fd,osl⟩/\codeIn K cdv qual=true
 kp:keepIn K (.ref f)=true
section
variable {P:Program} {w:World} {K:Frag} {mg:Str->Option Value} {base:Heap}
theorem HB.ok {x qual:Str}{st:Stmt}{f:Addr}{fd:FuncData}{dV:Value}{N ps:List Str}{k:Nat}{sp:Sp}(F:HB K x qual st f fd dV)(S:aF N ps (ae st))(len:∀ vs H Q E,sp vs H Q E->vs.length=ps.length)
  (hbody:∀(cdv:Value)(A:Around)(outer:List Env)(s:Shared)(H:Hp)(vs:List V)(Q:VK)(E:XK),kW k (A.deeper (envOfC qual (ae st) s.heap.objs.size f cdv))->sp vs H Q E ->
   ∃ t,Lc (Lf ji P w K mg base N qual (ae st) f cdv A outer s H E).Xa (ai st) t/\t { nx:=fun _ H'=>Q .non H',rt:=Q } (start N vs) H):cw P w K mg base ji (k+1) f fd ps sp:=by
 obtain⟨oc,od,kV,doc,pm,an,cdv,ct,osl,rfl,lk,hcd⟩:=F.ex;refine SH lk hcd S len fun A outer s H vs Q E hr hsp=>?_;obtain⟨t,h,q⟩:=hbody cdv A outer s H vs Q E hr hsp;exact⟨t,h.Xa,q⟩
theorem HB.binds {x qual:Str}{st:Stmt}{f:Addr}{fd:FuncData}{T:Addr}{o:Obj}{items:Array Value}{n:Nat}{ps:List Str}{ds:List Value}(F:HB K x qual st f fd (.ref T))(lk:K.lookup T=some o)(hs:o.data=.seq items n)
  (h:∀(kV doc pm:Value)(an:Option Addr)(cdv ct:Value)(us:List Value),(us++ds).length=ps.length->∃ k,bindArgs (fnOf x qual (ak st) (ai st) (ae st) (.ref T) kV doc pm an cdv ct) ⟨us,[]⟩=seqItems? (.ref T) >>= k/\k (some items)=pure (ps.zip (us++ds))):Binds K fd ps ds:=by
 obtain⟨oc,od,kV,doc,pm,an,cdv,ct,osl,rfl,lkf,hcd⟩:=F.ex;intro s us KI hl;obtain⟨k,h1,h2⟩:=h kV doc pm an cdv ct us hl;exact BindsTo.of_defaults rfl (KI _ _ lk) hs h1 h2
theorem Pu {x qual:Str}{st:Stmt}{f:Addr}{oc:Value}{od an:Option Addr}{osl:Array (Option Value)}{dV kV doc pm cdv ct:Value}(l:K.lookup f=some ⟨oc,od,.func (fnOf x qual (ak st) (ai st) (ae st) dV kV doc pm an cdv ct),osl⟩)
  (c:codeIn K cdv qual=true) (k:keepIn K (.ref f)=true):HB K x qual st f (fnOf x qual (ak st) (ai st) (ae st) dV kV doc pm an cdv ct) dV:=⟨⟨oc,od,kV,doc,pm,an,cdv,ct,osl,rfl,l,c⟩,k⟩
end
inductive MZ (w:World):List DictEntry->List (Str×V)->Prop
 |nil:MZ w [] []
 |cons {x:Str} {t:Tok} {u:Value} {v:V} {es:List DictEntry} {kvs:List (Str×V)}:RelV v u->MZ w es kvs->MZ w (⟨PyData.keyHash w.params x,.str x t,u⟩::es) ((x,v)::kvs)
structure KD (K:Frag)(w:World)(a:Addr)(kvs:List (Str×V)):Prop where
 sys:(a==sysModules)=false
 ok:∃ es n,K.lookup a=some ⟨.type "dict",none,.dict es n,#[]⟩/\MZ w es.toList kvs/\(kvs.map (·.1)).Nodup
theorem MZ.vs (P:Program){w:World}:∀{es:List DictEntry} {kvs:List (Str×V)},MZ w es kvs->∃ vs:List (Key×Value),Pairs (aZ P w) es vs/\vs.map (·.1)=kvs.map (fun p=>(Sum.inr p.1:Key)) /\
  (∀ e∈es,∃ k,(aZ P w).is k e.key=true/\e.hash=(aZ P w).hash k)/\∀ x,oa (kvs.lookup x) (valueAt vs (Sum.inr x))
 |_,_,.nil=>⟨[],.nil,rfl,fun e h=>by simp at h,fun x=>True.intro⟩
 |_,_,.cons (x:=x) (t:=t) (u:=u) (v:=v) r q=>by
  obtain⟨vs,h1,h2,h3,h4⟩:=MZ.vs P q;refine⟨(Sum.inr x,u)::vs,.cons (i5 P w x t) rfl h1,by rw[map_cons,map_cons,h2],fun e he=>?_,fun y=>?_⟩
  ·rcases List.mem_cons.mp he with rfl|he
   ·exact⟨Sum.inr x,i5 P w x t,rfl⟩
   ·exact h3 e he
  ·by_cases hy:y=x
   ·subst hy;unfold valueAt;simp only [List.lookup_cons,List.find?_cons];simp;exact r
   ·unfold valueAt;have h5:=h4 y;unfold valueAt at h5;have e1:(y==x)=false:=by simpa using hy
    have e2:decide ((Sum.inr x:Key)=Sum.inr y)=false:=decide_eq_false fun e=>hy (Sum.inr.inj e).symm;simp only [List.lookup_cons,e1,List.find?_cons,e2];exact h5
theorem GH:∀{l:List Str},l.Nodup->(l.map (fun p=>(Sum.inr p:Key))).Nodup
 |[],_=>.nil
 |x::l,h=>by
  rw[map_cons,List.nodup_cons];obtain⟨h1,h2⟩:=List.nodup_cons.mp h;refine⟨fun z=>?_,GH h2⟩;obtain⟨y,hy,e⟩:=mem_map.mp z;cases e;exact h1 hy
theorem KD.dict (P:Program){K:Frag}{w:World}{a:Addr}{kvs:List (Str×V)}{h:Heap}(d:KD K w a kvs)(hi:K.In h):∃ vs,h.DictOf (aZ P w) a vs/\∀ x,oa (kvs.lookup x) (valueAt vs (Sum.inr x)):=by
 obtain⟨es,n,lk,ok,nd⟩:=d.ok;obtain⟨vs,h1,h2,h3,h4⟩:=ok.vs P;refine⟨vs,⟨_,es,n,hi _ _ lk,⟨rfl,rfl,rfl⟩,rfl,fun e he=>h3 e (by simpa using he),h1,?_⟩,h4⟩;rw[h2];have:=GH nd;rw[List.map_map]at this;exact this
theorem oa.aaj {o:Option V}{u:Option Value}{d:V}{d':Value}(r:oa o u)(rd:RelV d d'):RelV (o.getD d) (u.getD d'):=by
 cases o with
 |none=>cases u with
  |none=>exact rd
  |some _=>exact False.elim r
 |some v=>cases u with
  |none=>exact False.elim r
  |some _=>exact r
section
variable {X:Cx}
theorem aak:Vf X (fun x y H Q=>∃ a z kvs r,x=.ref a/\y=.str z/\KD X.K X.w a kvs/\kvs.lookup z=some r/\Q r H):=by
 intro value slice pins s σ H x y v u Q I rx ry h hs;obtain⟨a,z,kvs,r,rfl,rfl,d,l,q⟩:=h;cases rx;obtain⟨t,rfl⟩:=ry;obtain⟨vs,dd,rel⟩:=d.dict X.prog I.EZ;have hr:=rel z;rw[l]at hr;cases hv:valueAt vs (Sum.inr z) with
 |none=>rw[hv]at hr;exact False.elim hr
 |some rv =>
  rw[hv]at hr;exact subscriptTail_builtinR (x:=rv) dd.typeIs PySem.F.slot_dict_getitem.lookup
   (wpAny_getItem_of (knd:=aZ X.prog X.w) (k:=Sum.inr z) (i5 _ _ z t) dd.mapOf hv ⟨rfl,⟨r,H,I.tok _,hr,q⟩⟩) hs
end
end L2
set_option maxHeartbeats 4000000
namespace L2
open PySem PySem.Spec PyProof.Rows
def aal (t:TE):TE:=fun σ H Q=>∃ R:V->Hp->Prop,t σ H R/\∀ v H',R v H'->Q v H'
def aam (t:TT):TT:=fun σ H Q=>∃ R:Bool->Hp->Prop,t σ H R/\∀ v H',R v H'->Q v H'
def aan (t:TS):TS:=fun D σ H=>∃ R:St->Hp->Prop,t { D with nx:=R } σ H/\∀ σ' H',R σ' H'->D.nx σ' H'
section
variable {X:Cx}
theorem gy {e:Expr}{t:TE}(h:PE X e t):PE X e (aal t):=by
 intro pins s σ H Q I ⟨R,hR,hQ⟩;exact cI (h pins s σ H R I hR) fun u s1 ⟨v,H1,I1,r,q⟩=>⟨v,H1,I1,r,hQ v H1 q⟩
theorem bK {e:Expr}{t:TT}(h:PT X e t):PT X e (aam t):=by
 intro pins s σ H Q I ⟨R,hR,hQ⟩;exact cI (h pins s σ H R I hR) fun u s1 ⟨H1,I1,q⟩=>⟨H1,I1,hQ u H1 q⟩
theorem mU {st:Stmt}{t:TS}(h:PS X st t):PS X st (aan t):=by
 intro pins s σ H D I ⟨R,hR,hQ⟩;refine cI (h pins s σ H _ I hR) fun f s1 q=>?_;cases f with
 |next=>exact let ⟨σ',H',I',q'⟩:=q;⟨σ',H',I',hQ _ _ q'⟩
 |brk=>exact q
 |cont=>exact q
 |ret u=>exact q
end
theorem yD {t:TE}{σ:St}{H:Hp}{Q:VK}(v:V)(h:t σ H fun x H1=>x=v/\H1=H)(q:Q v H):∃ R:V->Hp->Prop,t σ H R/\∀ v H',R v H'->Q v H':=⟨_,h,by rintro _ _ ⟨rfl,rfl⟩;exact q⟩
theorem i6 {t:TT}{σ:St}{H:Hp}{Q:Bool->Hp->Prop}(b:Bool)(h:t σ H fun x H1=>x=b/\H1=H)(q:Q b H):∃ R:Bool->Hp->Prop,t σ H R/\∀ v H',R v H'->Q v H':=⟨_,h,by rintro _ _ ⟨rfl,rfl⟩;exact q⟩
theorem M0 {t:TS}{σ:St}{H:Hp}{D:Ends}(σ':St)(H':Hp)(h:t { D with nx:=fun σ1 H1=>σ1=σ'/\H1=H' } σ H)(q:D.nx σ' H'):∃ R:St->Hp->Prop,t { D with nx:=R } σ H/\∀ σ' H',R σ' H'->D.nx σ' H' :=
 ⟨_,h,by rintro _ _ ⟨rfl,rfl⟩;exact q⟩
theorem i7 {x v:V}{H:Hp}(e:x=v):x=v/\H=H:=⟨e,rfl⟩
theorem de {x v:Bool}{H:Hp}(e:x=v):x=v/\H=H:=⟨e,rfl⟩
end L2
set_option maxHeartbeats 4000000
namespace L2
open PySem PySem.Spec PyProof.Rows
abbrev Cx.names (X:Cx)(N:List Str):Cx:={ X with N:=N }
section
variable {X:Cx} {pins:List (Addr×Obj)} {σ:St} {H:Hp} {s:Shared}
end
end L2
set_option maxHeartbeats 4000000
namespace L2
open PySem PySem.Spec PyProof.Rows
section
variable {X:Cx} {tg iter elt:Expr} {ifs:List Expr} {scope:Scope} {pos:Pos} {cn:List Str} {wi:TI} {g:Bk->TG} {tc:Bk->TT} {te:Bk->TE}
theorem M3 {i:Nat}{x:Str}{pos' spos:Pos}(hN:X.N.Nodup)(hix:X.N[i]? = some x)(hx:X.env.scope.names.lookup x=some .local)(hcalm:X.calm=true)(F:fR X.env.scope X.N scope)(hi:PI X tg iter wi)
  (hg:∀ b,PG (bY X cn scope b) tg (g b)) (ht:∀ b,PF (bY X cn scope b) ifs (tc b)) (he:∀ b,PE (bY X cn scope b) elt (te b))
  (hsw:swapsWith (.ListComp elt [⟨tg,iter,ifs,0⟩] scope pos) (some (.Name x pos')) spos.line X.env=pure true:=by rfl)
  (hs:∀ x,foldedSetIterable iter X.env x=pure x:=by intro _;rfl):PS X (.Assign [.Name x pos'] (.ListComp elt [⟨tg,iter,ifs,0⟩] scope pos) spos) (Yn (SS cn.length wi g tc te) (Le i)):=by
 intro pins s σ H D I h;rw[exec_Assign_Name_used _ _ _ _ hsw];refine wpAny_bind (wpAny_standAt (wpAny_bind ?_));rw[arm_evalThenUse_ListComp];refine wpAny_bind ?_;have hcl:closureFor scope X.env=pure (eW X.env scope.names []):=Pp fun p hp e=>I.ok.has p.1 (F.free p hp e);refine wpAny_comprehension_free (use:=some (assign (.Name x pos') X.env)) rfl hs hcl F.kind F.loc (cI (hi pins s σ H _ I h) fun xv s₁ h₁=>cI h₁ fun itv s₂ h₂=>?_);obtain⟨it,fp,tn,J,H2,rfl,I2,T,st,f2,R⟩:=h₂;refine Lk (TH:=fun _=>True) (QQ:=fun D' H'=>D.nx (σ.set i (some (.ref D'))) H') (RR:=fun acc C=>compPost (model X.prog X.w) X.A X.xe (some (assign (.Name x pos') X.env)) _ acc C) hcalm F (fun b _=>hg b) (fun b _=>ht b) (fun b _=>he b) (fun _ _=>trivial) I2 T st f2 R ?_ ?_
 ·intro C D' σ' H' s' hC I' q;obtain⟨m,hm,_⟩:=I'.loc;have hCn:H' C=none:=I'.free;have fC:qt X pins H' C:=I2.Qp hC hCn;have I3:Inv X pins σ H' s':=I2.Pr f2 hC I' ⟨rfl,fun _ _=>rfl⟩;show wpAny (model X.prog X.w) X.A (assign (.Name x pos') X.env (.ref D')) _ X.xe s';refine wpAny_assign_Name (Gu I3 hN hix (.inl hx) (v:=.ref D') rfl (fun s'' I4 ⟨a,sa,ha⟩=>?_) (.inr hx));have hne:C≠a:=by
   rcases ha with e|e
   ·rw[e];exact fC.2.1
   ·exact fun z=>fC.2.2.2.2.1 _ _ e z.symm
  obtain⟨o,es,ep,ho,r⟩:=hm;refine⟨m,⟨o,es,ep,(sa.2 C hne).trans ho,r⟩,fun h' sb=>?_⟩;refine wpAny_pure (wpAny_pure ⟨_,H',?_,q⟩);exact I4.mT (tk:=s''.toks) (wr:=[C]) (fun b hb=>by
   have:b=C:=by simpa using hb
   rw[this];exact fC) fun b o hb e=>(sb.2 b (fun z=>hb (by simp[z]))).trans e
 ·intro C D' e s' z;exact z
end
end L2
set_option maxHeartbeats 4000000
namespace L2
open PySem PySem.Spec PyProof.Rows PySem.SeqAt
section
variable {X:Cx}
inductive Xv (K:Frag)(neg:Bool)(x:V)(y:V)(H:Hp)(Q:VK):Prop
 |mk (a:_) (c:_) (xs:_) (qw:x=.ref a) (qx:y=.ref c) (AL:a6 K H a xs) (MI:a6 K H c []) (Ve:Q (.bl (if neg then !xs.isEmpty else xs.isEmpty)) H):Xv K neg x y H Q
def aao (K:Frag)(neg:Bool):R2:=fun x y H Q=>Xv K neg x y H Q
theorem SY {pins:List (Addr×Obj)}{σ:St}{H:Hp}{s:Shared}{a c:Addr}{xs:List V}(hu:X.A.units+64<cLine)(I:Inv X pins σ H s)(ha:a6 X.K H a xs)(hc:a6 X.K H c []):RcAt X.A s (.ref a) (.ref c) xs.isEmpty/\RcNeAt X.A s (.ref a) (.ref c) (!xs.isEmpty):=by
 obtain⟨its,r,p,_⟩:=I.list ha;obtain⟨its',r',p',_⟩:=I.list hc;have e1:=r.length;have e2:=r'.length;simp at e2;cases xs with
 |nil =>
  simp at e1;have z1:its=[]:=by simpa using e1.symm
  have z2:its'=[]:=by simpa using e2.symm
  subst z1 z2;constructor
  ·have:=RcAt.lists (A:=X.A) (e:=fun _=>true) p.isList p'.isList rfl (by omega) (fun j h1 _=>absurd h1 (by simp))
   simpa using this
  ·have:=RcNeAt.lists (A:=X.A) (e:=fun _=>true) p.isList p'.isList rfl (by omega) (fun j h1 _=>absurd h1 (by simp))
   simpa using this
 |cons x t =>
  have hne:(its.toArray.size != its'.toArray.size)=true:=by
   simp at e1;have z2:its'=[]:=by simpa using e2.symm
   subst z2;have:its.length≠0:=by omega
   simpa using this
  exact⟨RcAt.lists_lengths p.isList p'.isList hne (by omega),RcNeAt.lists_lengths p.isList p'.isList hne (by omega)⟩
theorem S0 (hu:X.A.units+64<cLine):ox X (compareOp .Eq) (aao X.K false):=by
 intro pins s σ H x y v u Q I r1 r2 h;obtain⟨a,c,xs,rfl,rfl,ha,hc,q⟩:=h;cases r1;cases r2;exact(SY hu I ha hc).1 X.prog X.w X.xe _ ⟨.bl _,H,I,rfl,q⟩
theorem YT (hu:X.A.units+64<cLine):ox X (compareOp .NotEq) (aao X.K true):=by
 intro pins s σ H x y v u Q I r1 r2 h;obtain⟨a,c,xs,rfl,rfl,ha,hc,q⟩:=h;cases r1;cases r2;exact(SY hu I ha hc).2 X.prog X.w X.xe _ ⟨.bl _,H,I,rfl,q⟩
end
end L2
set_option maxHeartbeats 4000000
namespace L2
open PySem PySem.Spec PyProof.Rows
end L2
set_option maxHeartbeats 4000000
namespace L2
open PySem PySem.Spec PyProof.Rows
abbrev XSt:=St->Value->Hp->Prop
section
variable {X:Cx} {pins:List (Addr×Obj)} {σ:St} {H H':Hp} {s s':Shared}
end
section
variable {P:Program} {w:World} {K:Frag} {mg:Str->Option Value} {base:Heap}
end
section
variable {X:Cx} {W:Value->Shared->Prop} {XS:XSt} {k:Nat} {f C:Addr} {fd:FuncData} {ps:List Str} {sp:Sp} {MO:List V} {ds:List Value} {x m:Str} {p pos apos:Pos} {e o:Expr} {es:List Expr} {ta:TE} {t:TA}
end
section
variable {X:Cx} {pins Sn:List (Addr×Obj)} {σ:St} {H H':Hp} {s:Shared}
end
end L2
set_option maxHeartbeats 4000000
namespace L2
open PySem PySem.Spec PyProof.Rows
section
variable {prog:Program} {w:World} {A:Around} {E:Value->Shared->Prop} {h:Heap} {g:Array GenState} {d:Drawn} {t:Nat} {os:OsState} {a:Addr} {o:Obj} {vs:Array Value} {K:Frag}
 {nm q:Str} {C N:Addr} {bs bm:List Value} {hdct:Bool} {sn:List Str} {sub:List Value} {ab:Bool} {col:Option Bool} {dd:Option Addr} {k0 k1 k2 k3 k5:Option Value} {newId:String}
end
section
variable {X:Cx}
end
end L2
set_option maxHeartbeats 4000000
namespace L2
open PySem PySem.Spec PyProof.Rows
section
variable {P:Program} {w:World} {K:Frag} {mg:Str->Option Value} {base:Heap}
end
section
variable {X:Cx} {tg iter elt:Expr} {ifs:List Expr} {scope:Scope} {pos:Pos} {cn:List Str} {wi:TI} {g:Bk->TG} {tc:Bk->TT} {te:Bk->TE} {TH:Bk->Prop}
end
end L2
set_option maxHeartbeats 4000000
namespace L2
open PySem PySem.Spec PyProof.Rows
end L2
namespace L2
open PySem PySem.Spec PyProof.Rows
section
variable {X:Cx}
end
end L2
namespace L2
open PySem PySem.Spec PyProof.Rows
section
variable {κ:Type} [DecidableEq κ]
def vF (kvs:List (κ×V))(k:κ):Option V:=(kvs.find? fun kv=>decide (kv.1=k)).map (·.2)
def putK (kvs:List (κ×V))(k:κ)(v:V):List (κ×V) :=
 if(kvs.any fun kv=>decide (kv.1=k))=true then kvs.map (fun kv=>if kv.1=k then(kv.1,v) else kv) else kvs++[(k,v)]
theorem sZ {p:κ×V}{r:List (κ×V)}{k:κ}(e:p.1=k):vF (p::r) k=some p.2:=by simp[vF,List.find?_cons,e]
theorem tf {p:κ×V}{r:List (κ×V)}{k:κ}(e:¬ p.1=k):vF (p::r) k=vF r k:=by simp[vF,List.find?_cons,e]
theorem tj (k:κ):∀ kvs:List (κ×V),(kvs.any fun kv=>decide (kv.1=k))=(vF kvs k).isSome
 |[]=>rfl
 |p::r=>by
  rw[List.any_cons]
  by_cases e:p.1=k
  ·simp only [sZ e,decide_eq_true e,Bool.true_or,Option.isSome_some]
  ·rw[tf e,decide_eq_false e,Bool.false_or];exact tj k r
theorem oJ (kvs:List (κ×V))(k:κ)(v:V):(putK kvs k v).length<=kvs.length+1:=by
 unfold putK;split
 ·rw[length_map];omega
 ·rw[length_append,length_cons,List.length_nil];omega
theorem oa.vG {o:Option V}{u:Option Value}(r:oa o u):o.isSome=u.isSome:=by
 cases o with
 |none=>cases u with
  |none=>rfl
  |some _=>exact(show False from r).elim
 |some _=>cases u with
  |none=>exact(show False from r).elim
  |some _=>rfl
theorem KV.val {kvs:List (κ×V)}{vs:List (κ×Value)}(r:KV kvs vs)(k:κ):oa (vF kvs k) (valueAt vs k):=by
 unfold KV at r
 induction r with
 |nil=>exact True.intro
 | @cons p q ps qs h t ih =>
  obtain⟨h1,h2⟩:=h
  by_cases e:p.1=k
  ·have e':q.1=k:=h1.symm.trans e;have b:valueAt (q::qs) k=some q.2:=by simp[valueAt,List.find?_cons,e']
   rw[sZ e,b];exact h2
  ·have e':¬ q.1=k:=fun z=>e (h1.trans z);have b:valueAt (q::qs) k=valueAt qs k:=by simp[valueAt,List.find?_cons,e']
   rw[tf e,b];exact ih
theorem KV.any {kvs:List (κ×V)}{vs:List (κ×Value)}(r:KV kvs vs)(k:κ):(kvs.any fun kv=>decide (kv.1=k))=vs.any fun kv=>decide (kv.1=k):=by
 unfold KV at r
 induction r with
 |nil=>rfl
 |cons h t ih=>rw[List.any_cons,List.any_cons,ih,h.1]
theorem KV.repl {kvs:List (κ×V)}{vs:List (κ×Value)}(r:KV kvs vs)(k:κ){y:V}{u:Value}(ry:RelV y u) :
  KV (kvs.map fun kv=>if kv.1=k then(kv.1,y) else kv) (vs.map fun kv=>if kv.1=k then(kv.1,u) else kv):=by
 unfold KV at r ⊢
 induction r with
 |nil=>exact .nil
 | @cons p q ps qs h t ih =>
  rw[map_cons,map_cons];refine .cons ?_ ih;obtain⟨h1,h2⟩:=h
  by_cases e:p.1=k
  ·rw[if_pos e,if_pos (h1.symm.trans e)];exact⟨h1,ry⟩
  ·rw[if_neg e,if_neg (fun z=>e (h1.trans z))];exact⟨h1,h2⟩
theorem KV.put {kvs:List (κ×V)}{vs:List (κ×Value)}(r:KV kvs vs)(k:κ){y:V}{u:Value}(ry:RelV y u):KV (putK kvs k y) (stored vs k u):=by
 unfold putK stored;rw[r.any k]
 by_cases e:(vs.any fun kv=>decide (kv.1=k))=true
 ·rw[if_pos e,if_pos e];exact r.repl k ry
 ·rw[if_neg e,if_neg e];exact Paired.snoc r ⟨rfl,ry⟩
theorem KV.keys {kvs:List (κ×V)}{vs:List (κ×Value)}(r:KV kvs vs):kvs.map (·.1)=vs.map (·.1):=by
 unfold KV at r
 induction r with
 |nil=>rfl
 |cons h t ih=>rw[map_cons,map_cons,ih,h.1]
theorem KV.length {kvs:List (κ×V)}{vs:List (κ×Value)}(r:KV kvs vs):kvs.length=vs.length:=Paired.length r
end
theorem Lm {P:Program}{w:World}{k:Key}{u:Value}(r:RelV (kV k) u):(aZ P w).is k u=true:=by
 cases k with
 |inl i=>obtain⟨t,e⟩:=(show ∃ t,u=Value.int i t from r);subst e;exact yr P w i t
 |inr x=>obtain⟨t,e⟩:=(show ∃ t,u=Value.str x t from r);subst e;exact i5 P w x t
theorem GI {P:Program}{w:World}:∀{ks:List Key} {us:List Value},Vals (ks.map kV) us->ItemsAre (aZ P w) ks us
 |[],_,r=>by rw[List.map_nil]at r;cases r;exact .nil
 |k::ks,_,r=>by
  rw[map_cons]at r;cases r with
  |cons h t=>exact .cons (Lm h) (GI t)
abbrev KT (H:Hp):List (List Key×V)->List (List Key×Addr×Value)->Prop:=Paired fun p q=>p.1=q.1/\H q.2.1=some (.tup (p.1.map kV))/\RelV p.2 q.2.2
theorem KT.val {H:Hp}{kvs:List (List Key×V)}{xs:List (List Key×Addr×Value)}(r:KT H kvs xs)(k:List Key):oa (vF kvs k) ((atKey xs k).map (·.2)):=by
 induction r with
 |nil=>exact True.intro
 | @cons p q ps qs h t ih =>
  obtain⟨h1,_,h2⟩:=h
  by_cases e:p.1=k
  ·have e':q.1=k:=h1.symm.trans e;have b:atKey (q::qs) k=some q.2:=by simp[atKey,List.find?_cons,e']
   rw[sZ e,b];exact h2
  ·have e':¬ q.1=k:=fun z=>e (h1.trans z);have b:atKey (q::qs) k=atKey qs k:=by simp[atKey,List.find?_cons,e']
   rw[tf e,b];exact ih
theorem KT.repl {H:Hp}{kvs:List (List Key×V)}{xs:List (List Key×Addr×Value)}(r:KT H kvs xs)(k:List Key){y:V}{u:Value}(ry:RelV y u) :
  KT H (kvs.map fun kv=>if kv.1=k then(kv.1,y) else kv) (xs.map (putAt k u)):=by
 induction r with
 |nil=>exact .nil
 | @cons p q ps qs h t ih =>
  rw[map_cons,map_cons];refine .cons ?_ ih;obtain⟨h1,h2,h3⟩:=h;unfold putAt
  by_cases e:p.1=k
  ·rw[if_pos e,if_pos (h1.symm.trans e)];exact⟨h1,h2,ry⟩
  ·rw[if_neg e,if_neg (fun z=>e (h1.trans z))];exact⟨h1,h2,h3⟩
theorem KT.put {H:Hp}{kvs:List (List Key×V)}{xs:List (List Key×Addr×Value)}(r:KT H kvs xs)(k:List Key){b:Addr}{y:V}{u:Value}(hb:H b=some (.tup (k.map kV)))(ry:RelV y u) :
  KT H (putK kvs k y) (storedH xs k b u):=by
 have e:(kvs.any fun kv=>decide (kv.1=k))=(atKey xs k).isSome:=by
  rw[tj,(r.val k).vG,Option.isSome_map]
 unfold putK storedH;rw[e]
 by_cases q:(atKey xs k).isSome=true
 ·rw[if_pos q,if_pos q];exact r.repl k ry
 ·rw[if_neg q,if_neg q];exact Paired.snoc r ⟨rfl,hb,ry⟩
theorem KT.keeps {H H':Hp}{kvs:List (List Key×V)}{xs:List (List Key×Addr×Value)}(r:KT H kvs xs)(ht:∀ b ys,H b=some (.tup ys)->H' b=some (.tup ys)):KT H' kvs xs :=
 Paired.Yg r fun _ _ z=>⟨z.1,ht _ _ z.2.1,z.2.2⟩
section
variable {P:Program} {w:World} {H:Hp} {h:Heap} {a:Addr}
theorem Xw {u:HO}(ok:qv P w H h)(e:Rd H a u):cB P w H h a u:=e.ok ok
theorem GJ {kvs:List (Key×V)}(ok:qv P w H h)(e:Rd H a (.dK kvs)):kvs.length<=sizeLine/\(a==sysModules)=false/\∃ vs,KV kvs vs/\h.DictOf (aZ P w) a vs :=
 show cB P w H h a (.dK kvs) from Xw ok e
theorem S4 {kvs:List (Key×V)}(ok:qv P w H h)(e:H a=some (.dK kvs)):kvs.length<=sizeLine/\(a==sysModules)=false/\∃ vs,KV kvs vs/\h.DictOf (aZ P w) a vs:=GJ ok (.inl e)
theorem HE {ks:List Key}(ok:qv P w H h)(e:H a=some (.tup (ks.map kV))):(tupleKind (aZ P w)).is h ks a:=by
 obtain⟨_,its,r,o,h1,h2,n,h3⟩:=(show cB P w H h a (.tup (ks.map kV)) from ok a _ e);exact⟨o,its.toArray,n,h1,h2,h3,by simpa using GI r⟩
theorem Pw {kvs:List (List Key×V)}(ok:qv P w H h)(e:Rd H a (.dT kvs)):kvs.length<=sizeLine/\(a==sysModules)=false /\
  ∃ xs,KT H kvs xs/\h.DictOfH (tupleKind (aZ P w)) a xs:=by
 obtain⟨z,y,xs,r,o,es,ep,h1,h2,h3,h4,h5⟩:=(show cB P w H h a (.dT kvs) from Xw ok e);refine⟨z,y,xs,r,o,es,ep,h1,h2,h3,h4,fun x hx=>?_,h5⟩;have all:∀{l:List (List Key×V)} {m:List (List Key×Addr×Value)},KT H l m->∀ x∈m,(tupleKind (aZ P w)).is h x.1 x.2.1:=by
  intro l m q
  induction q with
  |nil=>intro x hx;exact nomatch hx
  | @cons p q ps qs hq t ih =>
   intro x hx;rcases List.mem_cons.mp hx with e|hx
   ·subst e;exact HE ok (by rw[<-hq.1];exact hq.2.1)
   ·exact ih x hx
 exact all r x hx
theorem aaq {kvs:List (List Key×V)}(ok:qv P w H h)(e:H a=some (.dT kvs)):kvs.length<=sizeLine/\(a==sysModules)=false /\
  ∃ xs,KT H kvs xs/\h.DictOfH (tupleKind (aZ P w)) a xs:=Pw ok (.inl e)
end
def BS (H:Hp)(a:Addr)(y:V)(r:Option V):Prop :=
 (∃ kvs k,Rd H a (.dK kvs)/\y=kV k/\r=vF kvs k)\/∃ kvs k b,Rd H a (.dT kvs)/\y=.ref b/\H b=some (.tup (k.map kV))/\r=vF kvs k
def QC (H:Hp)(a:Addr)(y v:V)(H':Hp):Prop :=
 (∃ kvs k,H a=some (.dK kvs)/\y=kV k/\kvs.length<sizeLine/\H'=upd H a (.dK (putK kvs k v))) \/
 ∃ kvs k b,H a=some (.dT kvs)/\y=.ref b/\H b=some (.tup (k.map kV))/\kvs.length<sizeLine/\H'=upd H a (.dT (putK kvs k v))
theorem BS.k {H:Hp}{a:Addr}{kvs:List (Key×V)}{k:Key}(e:H a=some (.dK kvs)):BS H a (kV k) (vF kvs k):=.inl ⟨kvs,k,.inl e,rfl,rfl⟩
theorem QC.k {H:Hp}{a:Addr}{kvs:List (Key×V)}{k:Key}{v:V}(e:H a=some (.dK kvs))(hl:kvs.length<sizeLine):QC H a (kV k) v (upd H a (.dK (putK kvs k v))):=.inl ⟨kvs,k,e,rfl,hl,rfl⟩
section
variable {X:Cx} {pins:List (Addr×Obj)} {σ:St} {H:Hp} {s:Shared} {a:Addr} {y v:V} {u r:Value} {o:Option V} {A:Around} {E:Value->Shared->Prop}
theorem Inv.big (I:Inv X pins σ H s):sysModules<s.heap.objs.size:=by
 have h:mainGlobals<s.heap.objs.size:=(I.mod.glob.keeps I.bk).lt;exact Nat.lt_trans (by decide) h
theorem QD {Q:Value->Shared->Prop}(hu:A.units+1<cLine)(I:Inv X pins σ H s)(g:BS H a y (some v))(ry:RelV y u)(h:∀ w' s',Inv X pins σ H s'->RelV v w'->Q w' s') :
  wpAny (model X.prog X.w) A (getItem (.ref a) u) Q E s:=by
 rcases g with ⟨kvs,k,e,ey,l⟩|⟨kvs,k,b,e,ey,eb,l⟩
 ·subst ey;obtain⟨z,hd,vs,rel,dd⟩:=GJ I.hok e;obtain⟨w',hw,Sr⟩:=oa.some_of (v:=v) (o:=valueAt vs k) (by rw[l];exact rel.val k);exact wpAny_getItem_of (Lm ry) dd.mapOf hw (h w' _ (I.tok _) Sr)
 ·subst ey;cases (show u=Value.ref b from ry);obtain⟨z,hd,xs,rel,dd⟩:=Pw I.hok e;obtain⟨w',hw,Sr⟩:=oa.some_of (v:=v) (o:=(atKey xs k).map (·.2)) (by rw[l];exact rel.val k);obtain⟨p,hp,hp2⟩:=Option.map_eq_some_iff.mp hw;refine wpAny_getItem_heap (tupleKind_room_in1 hu) (HE I.hok eb) dd hp ?_;rw[hp2];exact h w' _ (I.tok _) Sr
theorem VI {Q:Value->Shared->Prop}(hu:A.units+1<cLine)(I:Inv X pins σ H s)(g:BS H a y o)(ry:RelV y u)(h:∀ s',Inv X pins σ H s'->Q (.bool (!o.isSome)) s') :
  wpAny (model X.prog X.w) A (compareOp .NotIn u (.ref a)) Q E s:=by
 rcases g with ⟨kvs,k,e,ey,l⟩|⟨kvs,k,b,e,ey,eb,l⟩
 ·subst ey;obtain⟨z,hd,vs,rel,dd⟩:=GJ I.hok e;refine wpAny_notIn_of (Lm ry) hd dd.mapOf ?_;rw[<-(rel.val k).vG,<-l];exact h _ (I.tok _)
 ·subst ey;cases (show u=Value.ref b from ry);obtain⟨z,hd,xs,rel,dd⟩:=Pw I.hok e;refine wpAny_notIn_heap (tupleKind_room_in1 hu) (HE I.hok eb) hd dd ?_;have q:=(rel.val k).vG;rw[Option.isSome_map]at q;rw[<-q,<-l];exact h _ (I.tok _)
theorem HF {h':Heap}{t':Nat}{ob:HO}(I:Inv X pins σ H s)(mu:ZO (H a))(hs:Heap.SameBut a s.heap h')(he:∃ q,h'.get? a=some q)(new:cB X.prog X.w (upd H a ob) h' a ob) :
  Inv X pins σ (upd H a ob) { s with heap:=h',toks:=t' } :=
 I.write (x:=a) (e:=a) mu (.inl rfl) (fun b q hb z=>(hs.2 b hb).trans z) he new
theorem M4 {P:Program}{w:World}{H':Hp}{h':Heap}{kvs:List (Key×V)}{vs:List (Key×Value)}(z:kvs.length<=sizeLine)(hd:(a==sysModules)=false)(rel:KV kvs vs)(dd:h'.DictOf (aZ P w) a vs) :
  cB P w H' h' a (.dK kvs):=⟨z,hd,vs,rel,dd⟩
theorem QE {H':Hp}{Q:Unit->Shared->Prop}(hu:A.units+1<cLine)(I:Inv X pins σ H s)(g:QC H a y v H')(ry:RelV y u)(rv:RelV v r)(h:∀ s',Inv X pins σ H' s'->Q () s') :
  wpAny (model X.prog X.w) A (setItem (.ref a) u r) Q E s:=by
 rcases g with ⟨kvs,k,e,ey,l,eH⟩|⟨kvs,k,b,e,ey,eb,l,eH⟩
 ·subst ey eH;obtain⟨z,hd,vs,rel,dd⟩:=S4 I.hok e;have hz:vs.length<=sizeLine:=by rw[<-rel.length];exact z
  have hl:(putK kvs k v).length<=sizeLine:=by have:=oJ kvs k v;omega
  refine wpAny_setItem_pairs (hsz:=hz) (Lm ry) dd fun h' VJ hs=>h _ ?_;have he:∃ q,h'.get? a=some q:=let ⟨q,_,_,hq,_⟩:=VJ;⟨q,hq⟩;exact HF I (by rw[e];exact True.intro) hs he (M4 hl hd (rel.put k rv) VJ)
 ·subst ey eH;cases (show u=Value.ref b from ry);obtain⟨z,hd,xs,rel,dd⟩:=aaq I.hok e;have hz:xs.length<=sizeLine:=by rw[<-Paired.length rel];exact z
  have hl:(putK kvs k v).length<=sizeLine:=by have:=oJ kvs k v;omega
  refine wpAny_setItem_heap (hsz:=hz) (tupleKind_room_in1 hu) (HE I.hok eb) dd fun h' VJ hs=>h _ ?_;obtain⟨q,es,ep,hq,h2,h3,h4,_,h5⟩:=VJ;refine HF I (by rw[e];exact True.intro) hs ⟨q,hq⟩ ⟨hl,hd,_,(rel.put k eb rv).keeps fun c ys ec=>?_,q,es,ep,hq,h2,h3,h4,h5⟩;rw[au (Pb ec e (fun z=>nomatch z))];exact ec
end
section
variable {X:Cx} {pins:List (Addr×Obj)} {σ:St} {H:Hp} {s:Shared} {a:Addr} {kvs:List (Key×V)} {k:Key} {u:Value} {A:Around} {E:Value->Shared->Prop}
end
def aar (i:Expr):Prop:=∀ ov iv,subscripted i false ov iv=operate [ov,iv] (getItem ov iv)
theorem VL {prog:Program}{w:World}{A:Around}{E:Value->Shared->Prop}{s:Shared}{env:Env}{value slice:Expr}{pos:Pos}{T id:String}{Q:Value->Shared->Prop}
  (hl:typeLookup (.type T) "__getitem__"=pure (some (.builtin id))) (hs:aar slice)
  (h:wpAny (model prog w) A (eval value env) (fun o s₁=>wpAny (model prog w) A (eval slice env) (fun i s₂=>s₂.TypeIs o T/\wpAny (model prog w) A (getItem o i) Q E s₂) E s₁) E s) :
  wpAny (model prog w) A (eval (.Subscript value slice pos) env) Q E s:=by
 refine Subscript_ (wpAny_mono h (fun o s₁ h₁=>wpAny_mono h₁ (fun i s₂ h₂=>?_) fun _ _ x=>x) fun _ _ x=>x);obtain⟨hT,h₂⟩:=h₂;unfold subscriptTail;refine wpAny_bind ?_;rw[getitemInPython_of_ne hT.not_modules];refine wpAny_bind (wpAny_specialOf hT hl ?_);have fin:wpAny (model prog w) A (subscripted slice false o i) (fun r s₃=>wpAny (model prog w) A (letTemporaryGo value o r >>= fun _=>pure r) Q E s₃) E s₂:=by
  rw[hs o i];exact wpAny_operating (wpAny_mono h₂ (fun r s₃ h₃=>wpAny_bind (wpAny_letTemporaryGo (wpAny_pure h₃))) fun _ _ x=>x)
 first
  |exact wpAny_pure (wpAny_bind fin)
  |exact wpAny_bind (wpAny_pure (wpAny_bind fin))
  |exact wpAny_bind fin
theorem Ln {X:Cx}{pins:List (Addr×Obj)}{σ:St}{H:Hp}{s:Shared}{a:Addr}{y:V}{o:Option V}(I:Inv X pins σ H s)(g:BS H a y o):s.TypeIs (.ref a) "dict":=by
 rcases g with ⟨kvs,k,e,_,_⟩|⟨kvs,k,b,e,_,_,_⟩
 ·obtain⟨_,_,vs,_,dd⟩:=GJ I.hok e;exact dd.typeIs
 ·obtain⟨_,_,xs,_,dd⟩:=Pw I.hok e;exact dd.typeIs
def aas (td ty:TE):TE:=fun σ H Q=>td σ H fun x H1=>ty σ H1 fun y H2=>∃ a v,x=.ref a/\BS H2 a y (some v)/\Q v H2
def VM (ty td:TE):TE:=fun σ H Q=>ty σ H fun y H1=>td σ H1 fun x H2=>∃ a o,x=.ref a/\BS H2 a y o/\Q (.bl (!o.isSome)) H2
def aat (td ty tv:TE):TS:=fun D σ H=>tv σ H fun v H1=>td σ H1 fun x H2=>ty σ H2 fun y H3=>∃ a H4,x=.ref a/\QC H3 a y v H4/\D.nx σ H4
section
variable {X:Cx} {o i e value:Expr} {pos pos' tpos:Pos} {td ty tv:TE}
theorem Px (hu:X.A.units+1<cLine)(ho:PE X o td)(hi:PE X i ty)(hs:aar i):PE X (.Subscript o i pos) (aas td ty):=by
 intro pins s σ H Q I h;refine VL PySem.F.slot_dict_getitem.lookup hs (cI (ho pins s σ H _ I h) fun u s1 ⟨x,H1,I1,rx,q1⟩=>cI (hi pins s1 σ H1 _ I1 q1) fun iv s2 ⟨y,H2,I2,ry,a,v,ex,g,q2⟩=>?_);subst ex;obtain rfl:u=Value.ref a:=rx;exact⟨Ln I2 g,QD hu I2 g ry fun w' s3 I3 Sr=>⟨v,H2,I3,Sr,q2⟩⟩
theorem QF (hu:X.A.units+1<cLine)(hi:PE X i ty)(ho:PE X o td):PC X .NotIn i o (VM ty td):=by
 intro pins s σ H Q I h;refine cI (hi pins s σ H _ I h) fun iv s1 ⟨y,H1,I1,ry,q1⟩=>cI (ho pins s1 σ H1 _ I1 q1) fun u s2 ⟨x,H2,I2,rx,a,ov,ex,g,q2⟩=>?_;subst ex;obtain rfl:u=Value.ref a:=rx;exact VI hu I2 g ry fun s3 I3=>⟨.bl (!ov.isSome),H2,I3,rfl,q2⟩
theorem VN (hu:X.A.units+1<cLine)(ho:PE X o td)(hi:PE X i ty)(hv:PE X value tv)(hs:swapsWith value (some (.Subscript o i pos')) pos.line X.env=pure false) :
  PS X (.Assign [.Subscript o i pos'] value pos) (aat td ty tv):=by
 intro pins s σ H D I h;refine wpAny_Assign_Subscript (cI (hv pins s σ H _ I h) fun r s1 ⟨v,H1,I1,rv,q1⟩=>cI (ho pins s1 σ H1 _ I1 q1) fun u s2 ⟨x,H2,I2,rx,q2⟩=>cI (hi pins s2 σ H2 _ I2 q2) fun iv s3 ⟨y,H3,I3,ry,a,H4,ex,g,q3⟩=>?_) hs;subst ex;obtain rfl:u=Value.ref a:=rx;exact QE hu I3 g ry rv fun s4 I4=>⟨σ,H4,I4,q3⟩
end
theorem Lo {P:Program}{w:World}{H:Hp}(h:Heap)(hb:sysModules<h.objs.size):cB P w H (h.push { cls:=.type "dict",data:=.dict #[] }) h.objs.size (.dK []) :=
 ⟨Nat.zero_le _,beq_eq_false_iff_ne.mpr (Ne.symm (Nat.ne_of_lt hb)),[],.nil,Heap.DictOf.new h⟩
def YU:TE:=fun _ H Q=>∀ p,H p=none->Q (.ref p) (upd H p (.dK []))
section
variable {X:Cx} {pos:Pos}
theorem S8:PE X (.Dict [] [] pos) YU:=fun pins s σ H Q I h =>
 wpAny_Dict_empty ⟨.ref s.heap.objs.size,_,I.laid (a:=s.heap.objs.size) (o:=.dK []) (t':=s.toks) (fun _ _ q=>Heap.get?_push_of_some _ q) (Nat.le_refl _) (Lo s.heap I.big),rfl,h _ (I.hok.fresh (Nat.le_refl _))⟩
end
def M5:List (TE×TE)->St->Hp->(List (V×V)->Hp->Prop)->Prop
 |[],_,H,Q=>Q [] H
 |(tk,tv)::r,σ,H,Q=>tk σ H fun x H1=>tv σ H1 fun y H2=>M5 r σ H2 fun ps H3=>Q ((x,y)::ps) H3
abbrev VV:List (V×V)->List (Value×Value)->Prop:=Paired fun p q=>RelV p.1 q.1/\RelV p.2 q.2
def PDs (X:Cx)(pos:Pos)(keys:List (Option Expr))(values:List Expr)(VO:List (TE×TE)):Prop :=
 ∀(pins:List (Addr×Obj)) (s:Shared) (σ:St) (H:Hp) (Q:List (V×V)->Hp->Prop),Inv X pins σ H s->M5 VO σ H Q ->
  wpAny (model X.prog X.w) X.A (evalPairs (pairTrees keys values X.env pos)) (fun vs s'=>∃ ps H',Inv X pins σ H' s'/\VV ps vs/\Q ps H') X.xe s
theorem VP {X:Cx}{pos:Pos}:PDs X pos [] [] []:=fun pins s σ H Q I h=>pairTrees_nil_walk ⟨[],H,I,.nil,h⟩
theorem S9 {X:Cx}{pos:Pos}{k v:Expr}{ks:List (Option Expr)}{vs:List Expr}{tk tv:TE}{VO:List (TE×TE)}(hk:PE X k tk)(hv:PE X v tv)(hr:PDs X pos ks vs VO) :
  PDs X pos (some k::ks) (v::vs) ((tk,tv)::VO):=fun pins s σ H Q I h =>
 pairTrees_cons_walk (cI (hk pins s σ H _ I h) fun u s1 ⟨x,H1,I1,rx,q1⟩=>cI (hv pins s1 σ H1 _ I1 q1) fun w2 s2 ⟨y,H2,I2,ry,q2⟩ =>
  cI (hr pins s2 σ H2 _ I2 q2) fun ws s3 ⟨ps,H3,I3,rel,q3⟩=>⟨(x,y)::ps,H3,I3,.cons ⟨rx,ry⟩ rel,q3⟩)
def BU (kvs more:List (Key×V)):List (Key×V):=more.foldl (fun acc kv=>putK acc kv.1 kv.2) kvs
theorem KV.merge:∀{more:List (Key×V)} {rs:List (Key×Value)} {kvs:List (Key×V)} {vs:List (Key×Value)},KV more rs->KV kvs vs->KV (BU kvs more) (merged vs rs):=by
 intro more rs kvs vs r;unfold KV at r
 induction r generalizing kvs vs with
 |nil=>intro q;exact q
 | @cons p q ps qs h t ih =>
  intro r0;have e:KV (putK kvs p.1 p.2) (stored vs q.1 q.2):=by
   have:=r0.put p.1 h.2;rw[<-h.1];exact this
  exact ih e
theorem qB:∀(more kvs:List (Key×V)),(BU kvs more).length<=kvs.length+more.length
 |[],kvs=>by show kvs.length<=kvs.length+0;omega
 |p::r,kvs=>by
  have h1:=qB r (putK kvs p.1 p.2);have h2:=oJ kvs p.1 p.2;show(BU (putK kvs p.1 p.2) r).length<=_;rw[length_cons];omega
theorem BV {P:Program}{w:World}:∀{kvs:List (Key×V)} {ws:List (Value×Value)},VV (kvs.map fun kv=>(kV kv.1,kv.2)) ws->∃ rs,Carries (aZ P w) ws rs/\KV kvs rs
 |[],_,r=>by rw[List.map_nil]at r;cases r;exact⟨[],True.intro,.nil⟩
 |p::kvs,_,r=>by
  rw[map_cons]at r;cases r with
  | @cons a b as bs h t =>
   obtain⟨rs,c,q⟩:=BV (P:=P) (w:=w) t;obtain⟨b1,b2⟩:=b;exact⟨(p.1,b2)::rs,⟨Lm h.1,rfl,c⟩,.cons ⟨rfl,h.2⟩ q⟩
def aau (VO:List (TE×TE)):TE:=fun σ H Q=>∀ p,H p=none->M5 VO σ (upd H p (.dK [])) fun ps H2=>H2 p=some (.dK [])/\∃ kvs:List (Key×V),ps=kvs.map (fun kv=>(kV kv.1,kv.2))/\kvs.length<=15/\Q (.ref p) (upd H2 p (.dK (BU [] kvs)))
theorem VQ {X:Cx}{pos:Pos}{keys:List (Option Expr)}{values:List Expr}{VO:List (TE×TE)}(h:PDs X pos keys values VO)(hall:keys.all (·.isSome)=true)(hl:keys.length=values.length)(h0:keys≠[])
  (h15:keys.length<=15):PE X (.Dict keys values pos) (aau VO):=by
 intro pins s σ H Q I q;have hn:=I.hok.fresh (Nat.le_refl s.heap.objs.size);have I1:=I.laid (a:=s.heap.objs.size) (o:=.dK []) (h':=s.heap.push { cls:=.type "dict",data:=.dict #[] }) (t':=s.toks) (fun _ _ q=>Heap.get?_push_of_some _ q) (Nat.le_refl _) (Lo s.heap I.big);refine wpAny_Dict_walk (knd:=aZ X.prog X.w) hall hl h0 h15 (cI (h pins _ σ _ _ I1 (q _ hn)) fun ws s2 ⟨ps,H2,I2,rel,e,kvs,ep,lk,q2⟩=>?_);subst ep;obtain⟨rs,c,rk⟩:=BV (P:=X.prog) (w:=X.w) rel;obtain⟨z,hd,vs0,r0,dd⟩:=S4 I2.hok e;cases r0;refine⟨rs,c,dd,fun h' VJ hs=>⟨.ref s.heap.objs.size,_,?_,rfl,q2⟩⟩;have hz:(BU [] kvs).length<=sizeLine:=by
  have h1:=qB kvs [];rw[List.length_nil]at h1;rw[sizeLine_eq];omega
 have he:∃ q,h'.get? s.heap.objs.size=some q:=let ⟨q,_,_,hq,_⟩:=VJ;⟨q,hq⟩;exact HF I2 (by rw[e];exact True.intro) hs he (M4 hz hd (rk.merge .nil) VJ)
section
variable {X:Cx} {pins:List (Addr×Obj)} {σ:St} {H:Hp} {s:Shared} {a:Addr} {y d:V} {u r:Value} {o:Option V} {A:Around} {E:Value->Shared->Prop}
end
section
variable {X:Cx} {o e f:Expr} {apos cpos:Pos} {td ty tx:TE}
end
section
variable {X:Cx} {pins:List (Addr×Obj)} {σ:St} {H:Hp} {s:Shared} {a:Addr} {kvs:List (Key×V)} {A:Around} {E:Value->Shared->Prop}
theorem Ta {Q:Value->Shared->Prop}(I:Inv X pins σ H s)(e:Rd H a (.dK kvs))(h:∀ p s',H p=none->Inv X pins σ (upd H p (.dK kvs)) s'->Q (.ref p) s'):wpAny (model X.prog X.w) A (call (.type "dict") [.ref a]) Q E s:=by
 obtain⟨z,hd,vs,rel,dd⟩:=GJ I.hok e;refine kt_call_dict hd dd (by rw[<-rel.length];exact z) fun h' VJ hs=>?_;refine h _ _ (I.hok.fresh (Nat.le_refl _)) (I.laid (a:=s.heap.objs.size) (o:=.dK kvs) (t':=s.toks) (fun b q hq=>?_) (Nat.le_refl _) (M4 z (beq_eq_false_iff_ne.mpr (Ne.symm (Nat.ne_of_lt I.big))) rel VJ));exact(hs.2 b (Nat.ne_of_lt (Heap.lt_size hq))).trans (Heap.get?_push_of_some _ hq)
end
section
variable {X:Cx} {pins:List (Addr×Obj)} {σ:St} {H:Hp} {s:Shared} {a:Addr} {y:V} {u:Value} {A:Around} {E:Value->Shared->Prop}
end
end L2
namespace L2
open PySem PySem.Spec PyProof.Rows
section
variable {X:Cx}
end
section
variable {κ:Type} [DecidableEq κ]
end
end L2
set_option maxHeartbeats 4000000
namespace L2
open PySem PySem.Spec PyProof.Rows
theorem Xx {P:Program}{w:World}{k:Key}{u:Value}(h:(aZ P w).is k u=true):RelV (kV k) u:=by
 rcases cD (show BG k u=true from h) with ⟨i,t,rfl,rfl⟩|⟨x,t,rfl,rfl⟩
 ·exact⟨t,rfl⟩
 ·exact⟨t,rfl⟩
theorem Xy:∀{xs:List V} {us:List Value},xs.length=us.length->(∀(i:Nat)(x:V)(u:Value),xs[i]? = some x->us[i]? = some u->RelV x u)->Vals xs us
 |[],[],_,_=>.nil
 |x::xs,u::us,hl,h=>.cons (h 0 x u rfl rfl) (Xy (by simpa using hl) fun i y v e1 e2=>h (i+1) y v (by simpa using e1) (by simpa using e2))
 |[],_::_,hl,_=>by simp at hl
 |_::_,[],hl,_=>by simp at hl
section
variable {X:Cx}
theorem M6:ig X (.type "list") (fun xs H Q=>X.calm=true/\∃ p kvs,xs=[.ref p]/\Rd H p (.dK kvs)/\∀ l,H l=none->Q (.ref l) (upd H l (.lst (kvs.map fun kv=>kV kv.1)))):=by
 intro pins s σ H xs us Q I r h;obtain⟨hc,p,kvs,rfl,hp,q⟩:=h;obtain⟨u,rfl,rx⟩:=vals1 r;cases rx;obtain⟨z,hd,vs,rel,dd⟩:=GJ I.hok hp;obtain⟨ep,da⟩:=dd.dictAt;have hl:=rel.length;refine PySem.W.kdl_call (PySem.W.kdl_dict (knd:=aZ X.prog X.w) (kvs:=vs) (ep:=ep) hd) (I.ok.hd hc) da (by omega) fun h' tk acc' c' kp e it=>?_;refine⟨.ref s.heap.objs.size,_,I.laid (t':=tk) kp (Nat.le_refl _) (show cB X.prog X.w _ h' _ (.lst (kvs.map fun kv=>kV kv.1)) from⟨by rw[length_map];exact z,acc'.toList,c',?_,by rw[Array.toArray_toList];exact e⟩),rfl,q _ (I.hok.fresh (Nat.le_refl _))⟩;have hk:=rel.keys;have h1:acc'.toList.length=vs.length:=by rw[Array.length_toList];exact it.1
 refine Xy (by rw[length_map,h1,hl]) fun i x u e1 e2=>?_;obtain⟨k,y,e3,e4⟩:=it.2 i u (by rw[<-Array.getElem?_toList];exact e2);have e5:(kvs.map (·.1))[i]? = some k:=by rw[hk,getElem?_map,e3];rfl
 have e6:(kvs.map fun kv=>kV kv.1)[i]? = some (kV k):=by
  rw[getElem?_map]at e5 ⊢;cases e7:kvs[i]? with
  |none=>rw[e7]at e5;cases e5
  |some w=>rw[e7]at e5;cases e5;rfl
 rw[e6]at e1;cases e1;exact Xx e4
theorem M7:ig X (.type "dict") (fun xs H Q=>∃ p kvs,xs=[.ref p]/\Rd H p (.dK kvs)/\∀ l,H l=none->Q (.ref l) (upd H l (.dK kvs))):=by
 intro pins s σ H xs us Q I r h;obtain⟨p,kvs,rfl,hp,q⟩:=h;obtain⟨u,rfl,rx⟩:=vals1 r;cases rx;exact Ta I hp fun l s' hl I'=>⟨.ref l,_,I',rfl,q l hl⟩
end
section
variable {P:Program} {w:World} {K:Frag} {mg:Str->Option Value} {base:Heap}
end
end L2
set_option maxHeartbeats 4000000
namespace L2
open PySem PySem.Spec PyProof.Rows
section
variable {prog:Program} {w:World} {A:Around} {E:Value->Shared->Prop} {s:Shared}
end
section
variable {X:Cx}
end
end L2
set_option maxHeartbeats 4000000
def Hd.th (P:PySem.Params)(x:PySem.Str)(n:Int):Int:=PySem.reduceHash (PySem.Builtin.Tuple.tupleHashOf [PySem.PyData.keyHash P x,PySem.hashInt n])
namespace L2
open PySem PySem.Spec PyProof.Rows
inductive M8 (K:Frag)(w:World):List DictEntry->List ((Str×Int)×V)->Prop
 |nil:M8 K w [] []
 |cons {x:Str} {n:Int} {b:Addr} {ob:Option Addr} {ta tb:Tok} {nb:Nat} {sb:Array (Option Value)} {u:Value} {v:V} {es:List DictEntry} {kvs:List ((Str×Int)×V)}:K.lookup b=some ⟨.type "tuple",ob,.seq #[.str x ta,.int n tb] nb,sb⟩->RelV v u->M8 K w es kvs->M8 K w (⟨Hd.th w.params x n,.ref b,u⟩::es) (((x,n),v)::kvs)
structure KP (K:Frag)(w:World)(a:Addr)(kvs:List ((Str×Int)×V)):Prop where
 sys:(a==sysModules)=false
 ok:∃ es n,K.lookup a=some ⟨.type "dict",none,.dict es n,#[]⟩/\M8 K w es.toList kvs/\(kvs.map (·.1)).Nodup
abbrev kp (x:Str)(n:Int):List Key:=[Sum.inr x,Sum.inl n]
theorem Py {P:Program}{w:World}{h:Heap}{a:Addr}{x:Str}{n:Int}{ta tb:Tok}(t:IsTup h a #[.str x ta,.int n tb]):(tupleKind (aZ P w)).is h (kp x n) a:=by
 obtain⟨o,e,c,m,d⟩:=t;exact⟨o,_,m,e,c,d,.cons (i5 P w x ta) (.cons (yr P w n tb) .nil)⟩
theorem M8.xs (P:Program){K:Frag}{w:World}{h:Heap}(hi:K.In h):∀{es:List DictEntry} {kvs:List ((Str×Int)×V)},M8 K w es kvs->∃ xs:List (List Key×Addr×Value),es=xs.map (entryOfKey (tupleKind (aZ P w)))/\xs.map (·.1)=kvs.map (fun p=>kp p.1.1 p.1.2) /\
  (∀ x∈xs,(tupleKind (aZ P w)).is h x.1 x.2.1)/\∀ x n,oa (kvs.lookup (x,n)) ((atKey xs (kp x n)).map (·.2))
 |_,_,.nil=>⟨[],rfl,rfl,(fun e z=>nomatch z),fun x n=>True.intro⟩
 |_,_,.cons (x:=x) (n:=n) (b:=b) (u:=u) (v:=v) lb r q=>by
  obtain⟨xs,h1,h2,h3,h4⟩:=M8.xs P hi q;refine⟨(kp x n,b,u)::xs,by rw[map_cons,<-h1];rfl,by rw[map_cons,map_cons,h2],fun e he=>?_,fun y m=>?_⟩
  ·rcases List.mem_cons.mp he with rfl|he
   ·exact Py ⟨_,hi _ _ lb,rfl,_,rfl⟩
   ·exact h3 e he
  ·by_cases hy:(y,m)=(x,n)
   ·cases hy;unfold atKey;simp only [List.lookup_cons,List.find?_cons];simp;exact r
   ·unfold atKey;have h5:=h4 y m;unfold atKey at h5;have e1:((y,m)==(x,n))=false:=by simpa using hy
    have e2:decide (kp x n=kp y m)=false:=decide_eq_false fun e=>hy (by
     injection e with e1 e2
     injection e2 with e2 _
     cases e1;cases e2;rfl)
    simp only [List.lookup_cons,e1,List.find?_cons,e2];exact h5
theorem Lp:∀{l:List (Str×Int)},l.Nodup->(l.map (fun p=>kp p.1 p.2)).Nodup
 |[],_=>.nil
 |x::l,h=>by
  rw[map_cons,List.nodup_cons];obtain⟨h1,h2⟩:=List.nodup_cons.mp h;refine⟨fun z=>?_,Lp h2⟩;obtain⟨y,hy,e⟩:=mem_map.mp z
  injection e with e1 e2
  injection e2 with e2 _
  obtain⟨a,b⟩:=x;obtain⟨c,d⟩:=y;cases e1;cases e2;exact h1 hy
theorem KP.dict (P:Program){K:Frag}{w:World}{a:Addr}{kvs:List ((Str×Int)×V)}{h:Heap}(d:KP K w a kvs)(hi:K.In h):∃ xs,h.DictOfH (tupleKind (aZ P w)) a xs/\∀ x n,oa (kvs.lookup (x,n)) ((atKey xs (kp x n)).map (·.2)):=by
 obtain⟨es,n,lk,ok,nd⟩:=d.ok;obtain⟨xs,h1,h2,h3,h4⟩:=ok.xs P hi;refine⟨xs,⟨_,es,n,hi _ _ lk,⟨rfl,rfl,rfl⟩,rfl,h1,h3,?_⟩,h4⟩;rw[h2];have:=Lp nd;rw[List.map_map]at this;exact this
section
variable {X:Cx}
def YV (K:Frag)(w:World)(td ty:TE):TE:=fun σ H Q=>td σ H fun x H1=>∃ a kvs,x=.ref a/\KP K w a kvs/\ty σ H1 fun y H2=>∃ p k n,y=.ref p/\H2 p=some (.tup [.str k,.int n])/\Q ((kvs.lookup (k,n)).getD .non) H2
theorem Lq {o e:Expr}{apos cpos:Pos}{td ty:TE}(hu:X.A.units+1<cLine)(ho:PE X o td)(he:PE X e ty)
  (base:attributeBase o "get" X.env (eval o X.env)=eval o X.env:=by rfl)
  (few:((backTo cpos (starEach [e] X.env)).all (fun x=>!x.1)&&(backToKw cpos (keywordEach [] X.env)).all (fun x=>x.1.isSome)
   && decide (([e]:List Expr).length+([]:List Keyword).length+(if([]:List Keyword).isEmpty then 0 else 1)<30))=true:=by rfl)
  (line:(apos.endLine==cpos.line)=true:=by rfl) (trees:backTo cpos (starEach [e] X.env)=[(false,eval e X.env)]:=by rfl) :
  PE X (.Call (.Attribute o "get" apos) [e] [] cpos) (YV X.K X.w td ty):=by
 intro pins s σ H Q I h;refine wpAny_Call_method base few line PySem.F.plainAttrs_dict slot_dict_get PySem.F.type_dict_get (cI (ho pins s σ H _ I h) fun u s1 ⟨x,H1,I1,rx,a,kvs,ex,d,q1⟩=>?_);subst ex;obtain rfl:u=Value.ref a:=rx;obtain⟨xs,dd,rel⟩:=d.dict X.prog I1.EZ;refine⟨dd.typeIs,fun b q=>?_,?_⟩
 ·cases q;obtain⟨ob,_,_,h1,h2,_⟩:=dd;exact⟨ob,h1,h2.2.1⟩
 rw[trees];refine Calls.callWith_builtin rfl (Calls.evalArgs_plain (Calls.spliced_cons (cI (he pins s1 σ H1 _ I1 q1) fun iv s2 ⟨y,H2,I2,ry,p,k,n,ek,hp,q2⟩=>Calls.spliced_nil ?_)));subst ek;obtain rfl:iv=Value.ref p:=ry;obtain⟨xs3,dd3,ads⟩:=d.dict X.prog I2.EZ;obtain⟨_,its,vs,tp⟩:=I2.hok _ _ hp;rcases vs with _|⟨⟨ta,rfl⟩,_|⟨⟨tb,rfl⟩,_|_⟩⟩
 exact call_meetsIn slot_dict_get dd3.typeIs PySem.F.entry_dict_get (PySem.F.args_dict_get_2 _ _) (meetsH_dict_get (tupleKind (aZ X.prog X.w)) a p d.sys) ⟨hu,kp k n,xs3,Py tp,dd3,_,H2,I2.tok _,oa.aaj (d:=V.non) (ads k n) rfl,q2⟩
end
end L2
set_option maxHeartbeats 4000000
namespace Hd
open PySem PySem.W
section
variable {p:Program} {w:World} {n₀:Nat} {ann:Option Value} {q:Pos} {c:Code}
theorem Tb {b:Nat}:∀{n m:Nat} {s s1:Shared} {t t1:Thread} {r:Option (Shared×Thread)},segGo treeTable p w n₀ ann b n s t=some (s1,t1)->segGo treeTable p w n₀ ann b m s1 t1=r->segGo treeTable p w n₀ ann b (n+m) s t=r
 |0,m,s,s1,t,t1,r,h,k=>by
  cases h;rw[Nat.zero_add];exact k
 |n+1,m,s,s1,t,t1,r,h,k=>by
  rw[Nat.add_right_comm];unfold segGo at h ⊢;split at h
  ·cases h
  ·split at h
   ·cases h
   ·split at h
    ·exact Tb h k
    ·cases h
def Go (p:Program)(w:World)(n₀:Nat)(ann:Option Value)(m:Nat)(s:Shared)(t:Thread)(s':Shared)(t':Thread):Prop:=∃ n,n<=m/\segGo treeTable p w n₀ ann 1 n s t=some (s',t')
theorem Go.trans {m m':Nat}{s s1 s2:Shared}{t t1 t2:Thread}(h:Go p w n₀ ann m s t s1 t1)(h':Go p w n₀ ann m' s1 t1 s2 t2):Go p w n₀ ann (m+m') s t s2 t2:=by
 obtain⟨n,l,e⟩:=h;obtain⟨n',l',e'⟩:=h';exact⟨n+n',Nat.add_le_add l l',Tb e e'⟩
def RT {α:Type}(p:Program)(w:World)(n₀:Nat)(ann:Option Value)(q:Pos)(c:Code)(m:Nat)(x:Sem α)(s s':Shared)(a:α):Prop :=
 ∀(K:α->Sem Fin)(H:Value->Sem Fin)(gd:Bool->Bool)(lv:List Value->List Value)(pos:Pos),∃ pos',Go p w n₀ ann m s ⟨x.wrap K H gd lv,c,pos,[topFrame q]⟩ s' ⟨K a,c,pos',[topFrame q]⟩
def Xz {α:Type}(p:Program)(w:World)(n₀:Nat)(ann:Option Value)(q:Pos)(c:Code)(m:Nat)(x:Sem α)(s s':Shared)(a:α)(p':Pos):Prop :=
 ∀(K:α->Sem Fin)(H:Value->Sem Fin)(gd:Bool->Bool)(lv:List Value->List Value)(pos:Pos),Go p w n₀ ann m s ⟨x.wrap K H gd lv,c,pos,[topFrame q]⟩ s' ⟨K a,c,p',[topFrame q]⟩
variable {α β:Type} {x:Sem α} {f:α->Sem β} {s s1 s2:Shared} {a:α} {b:β} {m m':Nat} {p':Pos}
theorem GK (x:Sem α)(f:α->Sem β)(K:β->Sem Fin)(H gd lv):(x >>= f).wrap K H gd lv=x.wrap (fun a=>(f a).wrap K H gd lv) H gd lv:=by
 rw[Sem.bind_eq_wrap',Sem.wrap_wrap];rfl
theorem RT.bind (h:RT p w n₀ ann q c m x s s1 a)(h':RT p w n₀ ann q c m' (f a) s1 s2 b):RT p w n₀ ann q c (m+m') (x >>= f) s s2 b:=fun K H gd lv pos=>by
 rw[GK];obtain⟨p1,g⟩:=h (fun a=>(f a).wrap K H gd lv) H gd lv pos;obtain⟨p2,g'⟩:=h' K H gd lv p1;exact⟨p2,g.trans g'⟩
theorem RT.XA (h:RT p w n₀ ann q c m x s s1 a)(h':Xz p w n₀ ann q c m' (f a) s1 s2 b p'):Xz p w n₀ ann q c (m+m') (x >>= f) s s2 b p':=fun K H gd lv pos=>by
 rw[GK];obtain⟨p1,g⟩:=h (fun a=>(f a).wrap K H gd lv) H gd lv pos;exact g.trans (h' K H gd lv p1)
theorem RT.hold (vs:List Value)(h:RT p w n₀ ann q c m x s s1 a):RT p w n₀ ann q c m (holding vs x) s s1 a:=by
 unfold holding;split
 ·exact h
 ·intro K H gd lv pos;rw[Sem.keep_eq_wrap,Sem.wrap_wrap];exact h _ _ _ _ _
theorem RT.pure:RT p w n₀ ann q c 0 (Pure.pure a:Sem α) s s a:=fun K H gd lv pos=>⟨pos,0,Nat.le_refl _,rfl⟩
theorem RT.more (h:RT p w n₀ ann q c m x s s1 a)(l:m<=m'):RT p w n₀ ann q c m' x s s1 a:=fun K H gd lv pos=>by
 obtain⟨p1,n,l1,e⟩:=h K H gd lv pos;exact⟨p1,n,Nat.le_trans l1 l,e⟩
theorem Lr:∀(k n:Nat) {s:Shared} {t:Thread} {r},segRun treeTable p w n₀ ann 1 n s t=some r->segRun treeTable p w n₀ ann 1 (n+k) s t=some r
 |k,0,s,t,r,h=>by cases h
 |k,n+1,s,t,r,h=>by
  rw[Nat.add_right_comm];unfold segRun at h ⊢;split at h
  ·exact h
  ·split at h
   ·cases h
   ·split at h
    ·exact Lr k n h
    ·cases h
theorem Xz.piece {st:Stmt}{env:Env}{pos:Pos}(h:Xz p w n₀ ann q c m (exec st env) s s1 .next p'):segRun treeTable p w n₀ ann 1 (m+1) s (pieceOf st env c pos [topFrame q])=some (.next,s1,c,p'):=by
 obtain⟨n,l,e⟩:=h doneF deadEnd id id pos;have z:segRun treeTable p w n₀ ann 1 (n+1) s (pieceOf st env c pos [topFrame q])=some (.next,s1,c,p'):=seg_go e rfl;have:=Lr (m-n) _ z
 rwa [show n+1+(m-n)=m+1 by omega]at this
end
section
variable {p:Program} {w:World} {n₀:Nat} {ann:Option Value} {q:Pos} {c:Code} {s:Shared}
theorem bL (i:Int):RT p w n₀ ann q c 1 (pyHashByItsType.reduced i) s s (reduceHash i):=by
 unfold pyHashByItsType.reduced reduceHash;split
 ·exact RT.pure.more (Nat.zero_le _)
 ·intro K H gd lv pos;exact⟨pos,1,Nat.le_refl _,rfl⟩
variable {α β:Type} {x y:Sem α} {s':Shared} {a:α} {m e:Nat}
theorem RT.Vh {b:Bool}(hb:b=false)(h:RT p w n₀ ann q c m y s s' a):RT p w n₀ ann q c m (if b=true then x else y) s s' a:=by
 subst hb;exact h
theorem RT.ift {b:Bool}(hb:b=true)(h:RT p w n₀ ann q c m x s s' a):RT p w n₀ ann q c m (if b=true then x else y) s s' a:=by
 subst hb;exact h
theorem RT.ifc {b:Bool}(h:RT p w n₀ ann q c m x s s' a)(h':RT p w n₀ ann q c m y s s' a):RT p w n₀ ann q c m (if b=true then x else y) s s' a:=by
 cases b
 ·exact h'
 ·exact h
theorem M9 {β γ:Type}{f:γ->β->Sem (ForInStep β)}{r:β}:∀{l:List γ},(∀ i∈l,RT p w n₀ ann q c e (f i r) s s (.yield r))->RT p w n₀ ann q c (l.length * e) (forIn l r f) s s r
 |[],_=>by
  rw[List.forIn_nil,List.length_nil,Nat.zero_mul];exact RT.pure
 |i::l,h=>by
  rw[List.forIn_cons,length_cons,Nat.succ_mul,Nat.add_comm];exact RT.bind (h i (mem_cons_self ..)) (M9 fun j hj=>h j (mem_cons_of_mem _ hj))
theorem VR {key:Value}{l:List Value}(hk:RT p w n₀ ann q c e (eqIsQuiet 8 key) s s true)(h:∀ v∈l,RT p w n₀ ann q c e (eqIsQuiet 8 v) s s true):RT p w n₀ ann q c (e+(l.length * e+0)) (tableMayTell key l) s s false:=by
 unfold tableMayTell;dsimp only;cases hl:l.isEmpty with
 |true=>exact RT.ift rfl (RT.pure.more (Nat.zero_le _))
 |false =>
  refine RT.Vh rfl ?_;refine RT.bind hk ?_;refine RT.Vh rfl ?_;refine RT.bind (M9 fun v hv=>?_) ?_
  ·exact RT.bind (m':=0) (h v hv) (RT.Vh rfl RT.pure)
  ·exact RT.pure
theorem YW {key:Value}{l:List Value}(h:∀ v∈l,(v==key)=false):(l == [key])=false:=by
 cases l with
 |nil=>rfl
 |cons v l=>rw[List.cons_beq_cons,h v (mem_cons_self ..)];rfl
theorem GL {es:Array DictEntry}{ps:List Nat}{v:Value}(h:v∈ps.filterMap fun i=>Option.map (fun x=>x.key) es[i]?):v∈es.toList.map (·.key):=by
 obtain⟨i,_,e⟩:=List.mem_filterMap.mp h;obtain⟨z,e1,rfl⟩:=Option.map_eq_some_iff.mp e;exact mem_map.mpr ⟨z,by simpa using Array.mem_of_getElem? e1,rfl⟩
theorem QG {n:Nat}{g:Nat->Option Int}{h:Int}{i:Nat}(hi:i∈placesWithHash n g h):i<n:=mem_range.mp (List.mem_filter.mp hi).1
theorem places_len {n:Nat}{g:Nat->Option Int}{h:Int}:(placesWithHash n g h).length<=n:=by
 have:=List.length_filter_le (fun i=>g i==some h) (List.range n);rw[List.length_range]at this;exact this
theorem eY {d a n:Nat}{h:Int}{es:Array DictEntry}{e1 e2 e3:Nat}(hes:RT p w n₀ ann q c e1 (dictEntries d (keyPart (.ref a))) s s es)(hany:(es.any fun e=>e.key == .ref a&&e.hash != h)=false)
  (hne:∀ v∈es.toList.map (·.key),(v == .ref a)=false) (hq:RT p w n₀ ann q c e2 (eqIsQuiet 8 (.ref a)) s s true) (hqs:∀ v∈es.toList.map (·.key),RT p w n₀ ann q c e2 (eqIsQuiet 8 v) s s true)
  (hep:RT p w n₀ ann q c 1 (dictEpoch d (keyPart (.ref a))) s s n) (heq:∀ v∈es.toList.map (·.key),RT p w n₀ ann q c e3 (eqBool v (.ref a)) s s false):RT p w n₀ ann q c (e1+((e2+(es.size * e2+0))+(es.size * (1+(e3+(1+(1+0))))+0))) (dictFind d (.ref a) h) s s none:=by
 unfold dictFind;refine RT.hold _ ?_;refine RT.bind hes ?_;dsimp only;generalize hp:placesWithHash _ _ _=places;have pl:∀ i∈places,i<es.size:=fun i hi=>QG (hp ▸ hi);have pn:places.length<=es.size:=by rw[<-hp];exact places_len
 clear hp;refine RT.Vh (by rw[List.all_cons];rfl) ?_;refine RT.Vh hany ?_;refine RT.Vh (YW fun v hv=>hne v (GL hv)) ?_;refine RT.bind ((VR hq fun v hv=>hqs v (GL hv)).more ?_) ?_
 ·have l1:(places.filterMap fun i=>Option.map (fun x=>x.key) es[i]?).length<=es.size:=Nat.le_trans (List.length_filterMap_le _ _) pn;have:=Nat.mul_le_mul_right e2 l1;omega
 refine RT.Vh rfl ?_;refine RT.bind ((M9 fun i hi=>?_).more (Nat.mul_le_mul_right _ pn)) RT.pure;have hi:=pl i hi;rw[Array.getElem?_eq_getElem hi];dsimp only;have hv:(es[i]'hi).key∈es.toList.map (·.key):=mem_map.mpr ⟨_,by simp,rfl⟩;generalize es[i]'hi=en at hv;refine RT.ifc ?_ (RT.pure.more (Nat.zero_le _));refine RT.bind hep ?_;refine RT.bind (heq _ hv) ?_;refine RT.bind hep ?_;refine RT.Vh (by simp) ?_;refine RT.Vh rfl ?_;refine RT.bind (m:=1) (a:=()) (s1:=s) (fun K H gd lv pos=>⟨pos,1,Nat.le_refl _,rfl⟩) ?_;exact RT.Vh rfl RT.pure
theorem gA {d a:Nat}{h:Int}{v:Value}{s1 s2:Shared}{e1 e2 e3:Nat}(hh:RT p w n₀ ann q c e1 (pyHash (.ref a)) s s1 h)(hf:RT p w n₀ ann q c e2 (dictFind d (.ref a) h) s1 s1 none)
  (hu:RT p w n₀ ann q c e3 (updateDictKeys d (fun es=>es.push ⟨h,.ref a,v⟩) (keyPart (.ref a))) s1 s2 ()):RT p w n₀ ann q c (e1+(e2+(1+e3))) (dictSet d (.ref a) v) s s2 ():=by
 unfold dictSet dictSetHashed;refine RT.hold _ ?_;refine RT.bind hh ?_;refine RT.hold _ ?_;refine RT.bind hf ?_;exact RT.bind (m:=1) (a:=()) (s1:=s1) (fun K H gd lv pos=>⟨pos,1,Nat.le_refl _,rfl⟩) hu
inductive Puts (p:Program)(w:World)(n₀:Nat)(ann:Option Value)(q:Pos)(c:Code)(d:Nat):Nat->Shared->List (Value×Value)->Shared->Prop
 |nil {s:Shared}:Puts p w n₀ ann q c d 0 s [] s
 |cons {s s1 s2:Shared} {k v:Value} {l:List (Value×Value)} {m m':Nat}:RT p w n₀ ann q c m (dictSet d k v) s s1 ()->Puts p w n₀ ann q c d m' s1 l s2->Puts p w n₀ ann q c d (m+m') s ((k,v)::l) s2
theorem Puts.for {d:Nat}{l:List (Value×Value)}{f:Value×Value->PUnit->Sem (ForInStep PUnit)}(hf:∀ k v,f (k,v) ⟨⟩=dictSet d k v >>= fun _=>pure (.yield ⟨⟩))(h:Puts p w n₀ ann q c d m s l s'):RT p w n₀ ann q c m (forIn l PUnit.unit f) s s' ⟨⟩:=by
 induction h with
 |nil=>rw[List.forIn_nil];exact RT.pure
 |cons a b ih =>
  rw[List.forIn_cons,hf];exact RT.bind (RT.bind (m':=0) a RT.pure) ih
theorem aS {α:Type}{P:α->Prop}:∀ v∈([]:List α),P v:=fun _ z=>nomatch z
theorem af {α:Type}{P:α->Prop}{a:α}{l:List α}(h:P a)(t:∀ v∈l,P v):∀ v∈a::l,P v:=fun v hv=>by
 rcases List.mem_cons.mp hv with rfl|hv
 ·exact h
 ·exact t v hv
theorem YX {pairs:List (Sem Value×Sem Value)}{vs:List (Value×Value)}{d e1:Nat}{s1 s2 s3:Shared}(hl:pairs.length<=15)(ha:RT p w n₀ ann q c 1 (alloc { cls:=.type "dict",data:=.dict #[] }) s s1 d)(he:RT p w n₀ ann q c e1 (evalPairs pairs) s1 s2 vs)
  (hc:Puts p w n₀ ann q c d m s2 vs s3):RT p w n₀ ann q c (1+((e1+(m+0))+0)) (subDict pairs) s s3 d:=by
 unfold subDict;refine RT.bind ha ?_;dsimp only;refine RT.bind (a:=()) (RT.hold _ ?_) RT.pure;rw[if_pos hl];refine RT.bind he ?_;refine RT.hold _ ?_;refine RT.bind (Puts.for (fun k v=>rfl) hc) RT.pure
theorem Tc {x:Str}{px dp pos p':Pos}{ks:List (Option Expr)}{us:List Expr}{env:Env}{vs:List (Value×Value)}{d e1 e2:Nat}{s1 s2 s3 s4:Shared}(hall:ks.all (·.isSome)=true)(hlen:ks.length=us.length)(h0:(pairTrees ks us env dp).length<=15)(hn:pairTrees ks us env dp≠[])
  (ha:RT p w n₀ ann q c 1 (alloc { cls:=.type "dict",data:=.dict #[] }) s s1 d) (he:RT p w n₀ ann q c e1 (evalPairs (pairTrees ks us env dp)) s1 s2 vs) (hc:Puts p w n₀ ann q c d m s2 vs s3)
  (hb:Xz p w n₀ ann q c e2 (do standAt px;bindName env x (.ref d);pure Flow.next) s3 s4 .next p') :
  Xz p w n₀ ann q c (1+((1+((1+((e1+(m+0))+0))+0))+e2)) (exec (.Assign [.Name x px] (.Dict ks us dp) pos) env) s s4 .next p':=by
 rw[exec_Assign_Name env x px _ pos rfl];have at_:∀(ps:Pos)(z:Shared),RT p w n₀ ann q c 1 (standAt ps) z z ():=fun ps z K H gd lv pos=>⟨_,1,Nat.le_refl _,rfl⟩;refine RT.XA (at_ pos s) (RT.XA (RT.bind (at_ dp s) ?_) hb);rw[zip_pairTrees ks us env dp hall hlen,dictDisplay_pairs _ hn (by omega)];exact RT.bind (YX h0 ha he hc) RT.pure
end
abbrev rw:String:="special-get-raises"
theorem fO {P:World->Prop}(h:∀(w:World)(b:Bool),P (w.withFollow rw b))(w:World):P w:=byRow2 (rw) (fun w=>h w false) (fun w=>h w true) w
theorem GN {α:Type}{l:List α}(h:l.isEmpty=false):l≠[]:=fun z=>by subst z;cases h
abbrev stt (H:Params->Heap)(d:Drawn)(k:Nat)(w:World)(os:OsState):Shared:=⟨H w.params,#[],d,k,os⟩
end Hd
set_option maxHeartbeats 4000000
namespace L2
open PySem PySem.Spec PyProof.Rows PySem.SeqAt
section
variable {X:Cx}
end
end L2
set_option maxHeartbeats 4000000
namespace L2
open PySem PySem.Spec PyProof.Rows
section
variable {X:Cx} {pins:List (Addr×Obj)} {σ:St} {H:Hp} {s:Shared}
theorem Inv.Td {a:Addr}{u u':HO}(I:Inv X pins σ H s)(e:H a=some u)(h1:∀ y,u≠.own y)(h2:∀ xs,u≠.tup xs)(h3:∀ ps,u≠.AK ps)(h4:∀ o v,X.H₀ a≠some (.jC o v))(new:cB X.prog X.w (upd H a u') s.heap a u'):Inv X pins σ (upd H a u') s:=by
 refine⟨I.ok,I.os,I.bare,⟨I.base.keep,I.base.slot,fun b ob eb n hx=>?_,I.base.there,fun b xs q=>?_,fun b ob v q=>?_,fun b ps q=>?_⟩,I.loc,I.cell,?_,fun x c ec=>?_,fun p hp=>?_,fun b v eb=>?_,I.len⟩
 ·have:=I.base.free b ob eb n hx;rw[au (fun z=>by rw[z,e]at this;cases this)];exact this
 ·have:=I.base.tups b xs q;rw[au (fun z=>by rw[z,e]at this;exact h2 _ (Option.some.inj this))];exact this
 ·have:=I.base.yB b ob v q;rw[au (fun z=>by rw[z]at q;exact h4 ob v q)];exact this
 ·obtain⟨m,this⟩:=I.base.BH b ps q;exact⟨m,by rw[au (fun z=>by rw[z,e]at this;exact h3 _ (Option.some.inj this))];exact this⟩
 ·have:=I.free;rw[au (fun z=>by rw[z,e]at this;cases this)];exact this
 ·have:=I.oy x c ec;rw[au (fun z=>by rw[z,e]at this;cases this)];exact this
 ·obtain⟨q1,q2,q3⟩:=I.pin p hp;exact⟨q1,by rw[au (fun z=>by rw[z,e]at q2;cases q2)];exact q2,q3⟩
 ·by_cases hb:b=a
  ·subst hb;rw[aj]at eb;cases eb;exact new
  ·rw[au hb]at eb;refine(I.hok b v eb).stay (fun _ _ _ q=>q) (fun c q=>?_) fun c xs q=>?_
   ·rw[au (fun z=>by rw[z,e]at q;exact h1 _ (Option.some.inj q))];exact q
   ·rw[au (fun z=>by rw[z,e]at q;exact h2 _ (Option.some.inj q))];exact q
theorem Inv.Na {a:Addr}{o:Obj}{kvs:List (Key×V)}(I:Inv X pins σ H s)(e:H a=some (.jC o (.dK kvs)))(h:∀ o v,X.H₀ a≠some (.jC o v)):Inv X pins σ (upd H a (.dK kvs)) s :=
 I.Td e (fun _ z=>nomatch z) (fun _ z=>nomatch z) (fun _ z=>nomatch z) h (I.hok a _ e).2
theorem Inv.freeze {a:Addr}{o:Obj}{kvs:List (Key×V)}(I:Inv X pins σ H s)(e:H a=some (.dK kvs))(ho:s.heap.get? a=some o):Inv X pins σ (upd H a (.jC o (.dK kvs))) s :=
 I.Td e (fun _ z=>nomatch z) (fun _ z=>nomatch z) (fun _ z=>nomatch z) (fun o v z=>by rw[I.base.yB a o v z]at e;cases e) ⟨ho,I.hok a _ e⟩
end
def ZI (d:Addr)(o:Obj)(kvs:List (Key×V)):It :=
 ⟨fun i H=>H d=some (.jC o (.dK kvs))/\∃ kv,kvs[i]? = some kv,
  fun i H x H'=>∃ kv t,kvs[i]? = some kv/\x=.ref t/\H t=none/\H'=upd H t (.tup [kV kv.1,kv.2]),
  fun i H=>H d=some (.jC o (.dK kvs))/\kvs.length<=i⟩
theorem adt:∀{kvs:List (Key×V)} {vs:List (Key×Value)},KV kvs vs->∀{i:Nat} {kv:Key×V},kvs[i]? = some kv->∃ u,vs[i]? = some (kv.1,u)/\RelV kv.2 u:=by
 intro kvs vs r;unfold KV at r
 induction r with
 |nil=>intro i kv h;simp at h
 | @cons p q ps qs h0 _ ih =>
  intro i kv h;cases i with
  |zero =>
   have e:p=kv:=by simpa using h
   subst e;exact⟨q.2,by rw[h0.1];rfl,h0.2⟩
  |succ i=>exact ih (by simpa using h)
theorem BW:entryFor table "dict_itemiterator.__iter__" = some Builtin.«dict_keyiterator.__iter__»:=entryFor_alias (id':="dict_keyiterator.__iter__") (by kernel_rfl) rfl (by lk) (by kernel_rfl)
theorem Nb {P:Program}{w:World}{K:Frag}{es:List Expr}{k:Nat}{tp:Pos}(d it:Addr)(o:Obj)(kvs:List (Key×V))(ep:Nat)(he:∃ dt,o.data=.dict dt ep) :
  Turn P w K (.Tuple es k tp) (ZI d o kvs) [it] it (fun i h=>∃ a b,IsItemIter h it d i kvs.length ep a b) where
 mem:=by simp
 obj:=fun i h st b hb=>by
  obtain⟨a,c,e⟩:=st;have:b=it:=by simpa using hb
  subst this;exact⟨_,e,fun v z=>by
   have z':Data.fields _=Data.cell v:=z;cases z'⟩
 keep:=fun i h h' st kp=>by
  obtain⟨a,c,e⟩:=st;exact⟨a,c,kp it (by simp) _ e⟩
 item:=by
  intro X hP hw hK hc i pins s σ H E I hf st hg;subst hP hw hK;obtain⟨hd,kv,hkv⟩:=hg;obtain⟨a,c,hit⟩:=st;obtain⟨ho,z,hsm,vs,rel,dd⟩:=(show cB X.prog X.w H s.heap d (.jC o (.dK kvs)) from I.hok d _ hd);obtain⟨ep',da⟩:=dd.dictAt;obtain⟨dt,hdt⟩:=he;have eep:ep'=ep:=by
   obtain⟨o',es',q1,q2,q3,_⟩:=da;rw[ho]at q1;cases q1;rw[hdt]at q3;cases q3;rfl
  subst eep;have hl:=rel.length;obtain⟨u,hu,ru⟩:=adt rel hkv;rw[hl]at hit;refine wpAny_pyNext_items_item hit da hu fun key h' hkey hout htup hsz kk=>?_;refine⟨_,rfl,wpAny_letOwnedTupleGo_items hout fun h'' XB hs''=>?_⟩;have fit:=hf it (by simp);have VD:H s.heap.objs.size=none:=I.hok.fresh (Nat.le_refl _);have hne:it≠s.heap.objs.size:=Nat.ne_of_lt (Heap.lt_size hit);have I1:Inv X pins σ (upd H s.heap.objs.size (.tup [kV kv.1,kv.2])) { s with heap:=h'',toks:=s.toks }:=by
   refine I.Ll (wr:=[it]) (vals:=[key,u]) (fun b hb=>by rw[mem_singleton.mp hb];exact fit) (Nat.le_refl _) ?_ (.cons (Xx hkey) (.cons ru .nil)) (by show 2<=sizeLine;decide) (fun b ob hb e=>?_) fun b hb=>?_
   ·exact⟨_,(hs''.2 _ (Ne.symm hne)).trans htup,rfl,_,rfl⟩
   ·have hb':b≠it:=fun z=>hb (by simp[z]);exact(hs''.2 b hb').trans (kk b ob hb' e)
   ·rw[mem_singleton.mp hb];exact⟨_,XB⟩
  refine⟨.ref s.heap.objs.size,_,I1,rfl,⟨kv,_,hkv,rfl,VD,rfl⟩,⟨key,u,by rw[hl];exact XB⟩,fun b hb=>?_⟩;rw[mem_singleton.mp hb,au hne];exact fit.1
 done:=by
  intro X hP hw hK hc i pins s σ H E I hf st hg;subst hP hw hK;obtain⟨hd,hi⟩:=hg;obtain⟨a,c,hit⟩:=st;obtain⟨ho,z,hsm,vs,rel,dd⟩:=(show cB X.prog X.w H s.heap d (.jC o (.dK kvs)) from I.hok d _ hd);obtain⟨ep',da⟩:=dd.dictAt;obtain⟨dt,hdt⟩:=he;have eep:ep'=ep:=by
   obtain⟨o',es',q1,q2,q3,_⟩:=da;rw[ho]at q1;cases q1;rw[hdt]at q3;cases q3;rfl
  subst eep;have hl:=rel.length;rw[hl]at hit hi;refine wpAny_pyNext_items_end (I.ok.hd hc) hit da (List.getElem?_eq_none hi) fun h' hx'=>?_;exact⟨rfl,I.mT (tk:=s.toks) hf fun b ob hb q=>hx' b ob (fun z=>hb (by simp[z])) q⟩
 self:=fun A i s Q E st h=>by
  obtain⟨a,c,hit⟩:=st;refine wpAny_pyIter_slot ⟨_,hit,rfl⟩ PySem.F.slot_dict_itemiterator_iter (wpAny_call_entry PySem.F.slot_dict_itemiterator_iter ⟨_,hit,rfl⟩ BW ?_ (PySem.F.args_dict_itemiterator_iter_1 _));show wpAny _ _ (ret (.ref it)) _ _ s;exact wpAny_pure ⟨_,rfl,"dict_itemiterator",_,⟨_,hit,rfl⟩,PySem.F.slot_dict_itemiterator_next.lookup,h⟩
section
variable {X:Cx}
inductive Pz (R:(It->Hp->Prop))(x:V)(H1:Hp):Prop
 |mk (d:_) (kvs:_) (qw:x=.ref d) (qx:H1 d=some (.dK kvs)) (AL:∀ o,R (ZI d o kvs) (upd H1 d (.jC o (.dK kvs)))):Pz R x H1
def YY (td:TE):TI:=fun σ H R=>td σ H fun x H1=>Pz R x H1
theorem BX {o:Expr}{td:TE}{apos cpos tp:Pos}{es:List Expr}{k:Nat}(ho:PE X o td)(hbase:attributeBase o "items" X.env (eval o X.env)=eval o X.env:=by rfl)(hline:(apos.endLine==cpos.line)=true:=by rfl) :
  PI X (.Tuple es k tp) (.Call (.Attribute o "items" apos) [] [] cpos) (YY td):=by
 intro pins s σ H R I h;refine wpAny_Call_method0_late hbase hline (cI (ho pins s σ H _ I h) fun v s1 ⟨x,H1,I1,r1,d,kvs,ex,hd,q⟩=>?_);subst ex;cases r1;obtain⟨z,hsm,vs,rel,dd⟩:=S4 I1.hok hd;refine⟨"dict","dict.items",PySem.F.plainAttrs_dict,PySem.F.slot_dict_items,PySem.F.type_dict_items,dd.typeIs,dd.mapOf.noDict,Calls.callWith_builtin rfl (PySem.evalArgs_none ?_)⟩;refine call_meetsIn PySem.F.slot_dict_items dd.typeIs PySem.F.entry_dict_items (PySem.F.args_dict_items_1 _) (meets_dict_items (aZ X.prog X.w) d hsm) ⟨⟨vs,dd⟩,?_⟩;obtain⟨ep,da⟩:=dd.dictAt;have up:∀(p:Obj) b ob,s1.heap.get? b=some ob->(s1.heap.push p).get? b=some ob:=fun p b ob e=>Heap.get?_push_of_some _ e;refine wpAny_pyIter_items (v:=s1.heap.objs.size) (d:=d) ⟨_,Heap.get?_push_size _ rfl,rfl,rfl⟩ (da.at' fun ob e=>up _ _ _ e) ?_;obtain⟨od,des,hod,hc,hdt,_⟩:=id da;have I2:Inv X pins σ H1 { s1 with heap:=(s1.heap.push { cls:=.type "dict_items",data:=.fields #[.ref d] }).push { cls:=.type "dict_itemiterator",data:=.fields #[.none,.bool false,.ref d,.int 0 0,.int vs.length 0,.int ep 0,.none,.none] } } :=
  I1.kept (t':=s1.toks) fun b ob e=>Heap.get?_push_of_some _ (Heap.get?_push_of_some _ e)
 have I3:=I2.freeze hd (Heap.get?_push_of_some _ (Heap.get?_push_of_some _ hod));have hsz:(s1.heap.push { cls:=.type "dict_items",data:=.fields #[.ref d] }).objs.size=s1.heap.objs.size+1:=Heap.size_push ..;refine⟨_,[(s1.heap.push { cls:=.type "dict_items",data:=.fields #[.ref d] }).objs.size],_,_,_,rfl,I3,Nb d _ od kvs ep ⟨des,hdt⟩,⟨.none,.none,?_⟩,fun b hb=>?_,q od⟩
 ·rw[rel.length];exact Heap.get?_push_size _ rfl
 ·have e:b=(s1.heap.push { cls:=.type "dict_items",data:=.fields #[.ref d] }).objs.size:=by simpa using hb
  subst e;have hb1:s1.heap.objs.size<=(s1.heap.push { cls:=.type "dict_items",data:=.fields #[.ref d] }).objs.size:=by rw[hsz];exact Nat.le_succ _
  have hn:=I1.hok.fresh hb1;exact I1.Qp hb1 (by rw[au (fun z=>by rw[z,hd]at hn;cases hn)];exact hn)
def Ls (X:Cx)(R:Hp->Prop)(H:Hp):Prop:=∃ d o kvs,H d=some (.jC o (.dK kvs))/\(∀ o v,X.H₀ d≠some (.jC o v))/\R (upd H d (.dK kvs))
def YZ (X:Cx)(te:TE):TE:=fun σ H Q=>te σ H fun v H1=>Ls X (Q v) H1
theorem VS {e:Expr}{te:TE}(h:PE X e te):PE X e (YZ X te):=by
 intro pins s σ H Q I q;refine cI (h pins s σ H _ I q) fun u s1 ⟨v,H1,I1,r,d,o,kvs,e1,e2,z⟩=>?_;exact⟨v,_,I1.Na e1 e2,r,z⟩
def Ends.Na (X:Cx)(D:Ends):Ends:={ nx:=fun σ=>Ls X (D.nx σ),rt:=fun v=>Ls X (D.rt v),bk:=fun σ=>Ls X (D.bk σ),ct:=fun σ=>Ls X (D.ct σ) }
def aax (X:Cx)(t:TS):TS:=fun D σ H=>t (D.Na X) σ H
theorem PB {st:Stmt}{t:TS}(h:PS X st t):PS X st (aax X t):=by
 intro pins s σ H D I q;refine wpAny_mono (h pins s σ H _ I q) (fun f s1 z=>?_) fun _ _ z=>z;cases f with
 |next=>obtain⟨σ1,H1,I1,d,o,kvs,e1,e2,w⟩:=z;exact⟨σ1,_,I1.Na e1 e2,w⟩
 |brk=>obtain⟨σ1,H1,I1,d,o,kvs,e1,e2,w⟩:=z;exact⟨σ1,_,I1.Na e1 e2,w⟩
 |cont=>obtain⟨σ1,H1,I1,d,o,kvs,e1,e2,w⟩:=z;exact⟨σ1,_,I1.Na e1 e2,w⟩
 |ret u=>obtain⟨v,σ1,H1,I1,r,d,o,kvs,e1,e2,w⟩:=z;exact⟨v,σ1,_,I1.Na e1 e2,r,w⟩
end
theorem QH {d:Addr}{o:Obj}{kvs:List (Key×V)}{g:TG}{tb:TS}{D:Ends}{σ:St}{H:Hp}(Pv:Nat->St->Hp->Prop)(h0:Pv 0 σ H)(hl:∀ i σ H,Pv i σ H->H d=some (.jC o (.dK kvs)))
  (hs:∀ i kv t σ H,kvs[i]? = some kv->Pv i σ H->H t=none->g (.ref t) σ (upd H t (.tup [kV kv.1,kv.2])) fun σ2 H2=>tb { D with nx:=Pv (i+1),ct:=Pv (i+1),bk:=D.nx } σ2 H2) (hd:∀ σ H,Pv kvs.length σ H->D.nx σ H) :
  ∃ W:Nat->Nat->St->Hp->Prop,(∃ m,W 0 m σ H)/\∀ i m σ H,W i m σ H ->
   ((ZI d o kvs).stop i H/\D.nx σ H)\/((ZI d o kvs).go i H/\∃ N:St->Hp->Prop,(∀ σ' H',N σ' H'->∃ m',m'<m/\W (i+1) m' σ' H')/\∀ x H',(ZI d o kvs).Vd i H x H'->g x σ H' fun σ2 H2=>tb { D with nx:=N,ct:=N,bk:=D.nx } σ2 H2):=by
 refine⟨fun i m σ H=>m=kvs.length-i/\i<=kvs.length/\Pv i σ H,⟨kvs.length,by simp,Nat.zero_le _,h0⟩,?_⟩;rintro i m σ H ⟨rfl,hi,p⟩;have q:=hl i σ H p;rcases Nat.lt_or_ge i kvs.length with hlt|hge
 ·refine .inr ⟨⟨q,kvs[i],getElem?_eq_getElem hlt⟩,Pv (i+1),fun σ' H' p'=>⟨_,Nat.sub_lt_sub_left hlt (Nat.lt_succ_self i),rfl,hlt,p'⟩,fun x H' y=>?_⟩;obtain⟨kv,t,e1,rfl,hn,rfl⟩:=y;exact hs i kv t σ H e1 p hn
 ·obtain rfl:i=kvs.length:=Nat.le_antisymm hi hge;exact .inl ⟨⟨q,hge⟩,hd σ H p⟩
theorem BY {d:Addr}{o:Obj}{kvs:List (Key×V)}{g:TG}{tc:TT}{te:TE}{D:Addr}{R:Hp->Prop}{σ:St}{H:Hp}(Pv:Nat->List V->St->Hp->Prop)(h0:Pv 0 [] σ H)(hl:∀ i ys σ H,Pv i ys σ H->H d=some (.jC o (.dK kvs)))
  (hs:∀ i ys kv t σ H,kvs[i]? = some kv->Pv i ys σ H->H t=none->∀ N:List V->St->Hp->Prop,(∀ ys σ H,Pv (i+1) ys σ H->N ys σ H)->GG g tc te D ys (.ref t) σ (upd H t (.tup [kV kv.1,kv.2])) N) (hd:∀ ys σ H,Pv kvs.length ys σ H->R H):Pt (ZI d o kvs) g tc te D R σ H:=by
 refine⟨fun i m ys σ H=>m=kvs.length-i/\i<=kvs.length/\Pv i ys σ H,⟨kvs.length,by simp,Nat.zero_le _,h0⟩,?_⟩;rintro i m ys σ H ⟨rfl,hi,p⟩;have q:=hl i ys σ H p;rcases Nat.lt_or_ge i kvs.length with hlt|hge
 ·refine .inr ⟨⟨q,kvs[i],getElem?_eq_getElem hlt⟩,fun x H' y=>?_⟩;obtain⟨kv,t,e1,rfl,hn,rfl⟩:=y;exact hs i ys kv t σ H e1 p hn (fun ys' σ' H'=>∃ m',m'<kvs.length-i/\m'=kvs.length-(i+1)/\i+1<=kvs.length/\Pv (i+1) ys' σ' H') fun ys' σ' H' z=>⟨_,Nat.sub_lt_sub_left hlt (Nat.lt_succ_self i),rfl,hlt,z⟩
 ·obtain rfl:i=kvs.length:=Nat.le_antisymm hi hge;exact .inl ⟨⟨q,hge⟩,hd ys σ H p⟩
theorem Te {K:Frag}{a:Addr}{xs:List V}{g:TG}{tc:TT}{te:TE}{D:Addr}{R:Hp->Prop}{σ:St}{H:Hp}(Pv:Nat->List V->St->Hp->Prop)(h0:Pv 0 [] σ H)(hl:∀ i ys σ H,Pv i ys σ H->dc K H a xs)
  (hs:∀ i ys x σ H,xs[i]? = some x->Pv i ys σ H->∀ N:List V->St->Hp->Prop,(∀ ys σ H,Pv (i+1) ys σ H->N ys σ H)->GG g tc te D ys x σ H N) (hd:∀ ys σ H,Pv xs.length ys σ H->R H):Pt (ZH K a) g tc te D R σ H:=by
 refine⟨fun i m ys σ H=>m=xs.length-i/\i<=xs.length/\Pv i ys σ H,⟨xs.length,by simp,Nat.zero_le _,h0⟩,?_⟩;rintro i m ys σ H ⟨rfl,hi,p⟩;have q:=hl i ys σ H p;rcases Nat.lt_or_ge i xs.length with hlt|hge
 ·refine .inr ⟨⟨xs,xs[i],q,getElem?_eq_getElem hlt⟩,fun x H' y=>?_⟩;obtain⟨rfl,e1⟩:=y;exact hs i ys x σ _ (e1 xs q) p (fun ys' σ' H'=>∃ m',m'<xs.length-i/\m'=xs.length-(i+1)/\i+1<=xs.length/\Pv (i+1) ys' σ' H') fun ys' σ' H' z=>⟨_,Nat.sub_lt_sub_left hlt (Nat.lt_succ_self i),rfl,hlt,z⟩
 ·obtain rfl:i=xs.length:=Nat.le_antisymm hi hge;exact .inl ⟨⟨xs,q,hge⟩,hd ys σ H p⟩
theorem XC {X:Cx}{es:List Expr}{t:TA}(h:PA X es t):∀ cs:List (Int×Pos),PA X ((cs.map fun c=>Expr.Constant (.int c.1) 0 c.2)++es) (fun σ H Q=>t σ H fun vs H'=>Q ((cs.map fun c=>V.int c.1)++vs) H')
 |[]=>h
 |c::cs=>aa ah (XC h cs)
def setIn (s:Stmt)(k:Nat)(f:Stmt->Stmt):Stmt:=match s with
 |.For t i b o p=>.For t i (b.take k++f (b.getD k (.Pass ⟨0,0,0,0⟩))::b.drop (k+1)) o p
 |s=>s
def VT (v:List Expr)(n:Nat)(s:Stmt):Stmt:=match s with
 |.Assign ts (.Subscript (.List es lp) i sp) ap=>.Assign ts (.Subscript (.List (v++es.drop n) lp) i sp) ap
 |s=>s
end L2
set_option maxHeartbeats 4000000
namespace L2
open PySem PySem.Spec PyProof.Rows
theorem HB.okL {P:Program}{w:World}{K:Frag}{mg:Str->Option Value}{base:Heap}{x qual:Str}{st:Stmt}{f:Addr}{fd:FuncData}{dV:Value}{N ps:List Str}{k:Nat}{sp:Sp}(F:HB K x qual st f fd dV)(S:aF N ps (ae st))(len:∀ vs H Q E,sp vs H Q E->vs.length=ps.length)
  (hbody:∀(cdv:Value)(A:Around)(outer:List Env)(s:Shared)(H:Hp)(vs:List V)(Q:VK)(E:XK),cdv=fd.code->kW k (A.deeper (envOfC qual (ae st) s.heap.objs.size f cdv))->sp vs H Q E ->
   ∃ t,Lc (Lf ji P w K mg base N qual (ae st) f cdv A outer s H E).Xa (ai st) t/\t { nx:=fun _ H'=>Q .non H',rt:=Q } (start N vs) H):cw P w K mg base ji (k+1) f fd ps sp:=by
 obtain⟨oc,od,kV,doc,pm,an,cdv,ct,osl,rfl,lk,hcd⟩:=F.ex;refine SH lk hcd S len fun A outer s H vs Q E hr hsp=>?_;obtain⟨t,h,q⟩:=hbody cdv A outer s H vs Q E rfl hr hsp;exact⟨t,h.Xa,q⟩
section
variable {prog:Program} {w:World} {A:Around} {E:Value->Shared->Prop} {s:Shared}
theorem Tf {env:Env}{x:Str}{p1 p2 p3:Pos}{j:Nat}{t:Addr}{its:Array Value}{k:Int}{tk:Tok}{m:Str->Option Value}{Q:Value->Shared->Prop}
  (hk:env.scope.kind=.function) (hl:env.kindOf x=some .local) (hn:s.heap.Ns env.locals m) (hm:m x=some (.ref t)) (ht:IsTup s.heap t its) (h0:its[0]? = some (.int k tk)) (hd:(x==("__debug__":Str))=false)
  (h:∀ tk',Q (.int k tk) { s with toks:=tk' }):wpAny (model prog w) A (eval (.Subscript (.Name x p1) (.Constant (.int 0) j p2) p3) env) Q E s:=by
 refine Subscript_ (wpAny_Name (wpAny_loadName_local hk hl hn hm (wpAny_Constant_int ?_)) hd);have hs:0<its.size:=by
  rcases Nat.lt_or_ge 0 its.size with z|z
  ·exact z
  ·rw[Array.getElem?_eq_none z]at h0;cases h0
 exact subscriptTail_builtinR (x:=.int k tk) (IsTup.typeIs (s:={ s with toks:=s.toks+1 }) ht) slot_tuple_getitem.lookup
  (getItem_tuple (j:=0) (Q:=fun r s'=>r=.int k tk/\Q r s') ht (by decide) (by decide) (by unfold seqIndex?;simp[hs]) h0 ⟨rfl,h _⟩)
def jE (x:Str)(pa:Pos):Arguments:={ posonlyargs:=[],args:=[{ arg:=x,annotation:=none,pos:=pa }],vararg:=none,kwonlyargs:=[],kw_defaults:=[],kwarg:=none,defaults:=[] }
def lO (x:Str):Scope:={ kind:=.function,names:=[(x,.local)],isGenerator:=false,isCoroutine:=false }
def mV (x:Str)(p1 p2 p3:Pos):Expr:=.Subscript (.Name x p1) (.Constant (.int 0) 0 p2) p3
theorem Tg {x:Str}{pa p1 p2 p3:Pos}{name qual:Str}{pm ctv:Value}{f c' t:Addr}{its:Array Value}{k:Int}{tk:Tok}{Q:Value->Shared->Prop}(hd:(x==("__debug__":Str))=false)
  (hbind:∀(name qual:Str)(pm cv ctv v:Value),bindArgs (kla_fn name qual (jE x pa) (mV x p1 p2 p3) (lO x) [] pm cv ctv) ⟨[v],[]⟩=pure [(x,v)])
  (hf:s.heap.get? f=some (kla_obj name qual (jE x pa) (mV x p1 p2 p3) (lO x) [] pm c' ctv)) (hrec:s.heap.CodeRec (.ref c') qual) (hroom:A.depth<recursionLimit) (hlim:s.heap.NoLimit) (ht:IsTup s.heap t its) (h0:its[0]? = some (.int k tk))
  (h:∀ h' tk',(∀ b o,s.heap.get? b=some o->h'.get? b=some o)->Q (.int k tk) { s with heap:=h',toks:=tk' }):wpAny (model prog w) A (call (.ref f) [.ref t]) Q E s:=by
 refine wpAny_call (PySem.W.kla_callFunE (body:=mV x p1 p2 p3) hroom hf rfl rfl rfl rfl hrec ?_);rw[hbind];refine wpAny_pure (wpAny_newFunctionEnv ?_ ?_ (fun h₁ hns hsb=>⟨hlim.fresh _ hsb,?_⟩) rfl)
 ·intro y hy;rw[mem_singleton.mp hy];exact fun z=>nomatch z
 ·intro y hy;rw[mem_singleton.mp hy];show List.lookup x [(x,NameKind.local)]=_;simp[List.lookup]
 have old:∀ b o,s.heap.get? b=some o->h₁.get? b=some o:=fun b o e=>hsb.extBut b o (Nat.ne_of_lt (Heap.lt_size e)) (Heap.get?_push_of_some _ e);refine PySem.W.kla_codeExpr ?_;refine Tf (t:=t) (its:=its) (k:=k) (tk:=tk) rfl ?_ hns ?_ ?_ h0 hd fun tk'=>h h₁ tk' old
 ·show List.lookup x [(x,NameKind.local)]=_;simp[List.lookup]
 ·simp[List.lookup]
 ·obtain⟨o,e,r⟩:=ht;exact⟨o,old _ _ e,r⟩
end
theorem Y0 {h:Heap}{a:Addr}{m m':Str->Option Value}(x:h.Ns a m)(y:h.Ns a m'):m=m':=by
 obtain⟨o,es,ep,e1,e2,_,e3⟩:=x;obtain⟨o',es',ep',f1,f2,_,f3⟩:=y;rw[e1]at f1;cases f1;rw[e2]at f2;cases f2
 funext n
 rw[<-e3,<-f3]
def BZ (c:Addr)(q:Str):HO:=.ext fun h=>h.CodeRec (.ref c) q
theorem Th {P:Program}{w:World}{H:Hp}{h:Heap}{c:Addr}{q:Str}(x:h.CodeRec (.ref c) q):cB P w H h c (BZ c q):=by
 refine⟨x,?_,fun h1 h2 y k=>?_⟩
 ·obtain⟨c',o,vs,t,e,e1,_⟩:=x;cases e;exact⟨o,e1⟩
 ·obtain⟨c',o,vs,t,e,e1,r⟩:=y;cases e;exact⟨c,o,vs,t,rfl,k o e1,r⟩
def PD (P:Addr)(lp:Pos)(q:Str)(H:Hp):Prop:=∃(ps:Array Value)(c:Addr),H P=some (.AK ps)/\TriplesOk ps.toList/\codeAmong lp ps.toList=some (.ref c)/\H c=some (BZ c q)
def Ti (P:Addr)(lp:Pos)(H:Hp):Prop:=∃ ps:Array Value,H P=some (.AK ps)/\TriplesOk ps.toList/\codeAmong lp ps.toList=none
def Lu (K:Frag)(mg:Str->Option Value)(cv:Value)(P:Addr):Prop:=∃ c:Addr,cv=.ref c/\(∀ h:Heap,K.In h->CodeHd h c P)/\∃(bm:Addr)(ob:Obj),mg "__builtins__"=some (.ref bm)/\bm≠builtinsNs/\K.lookup bm=some ob/\ob.cls=.type "module"/\ob.dict=some builtinsNs/\ob.data=.plain
section
variable {X:Cx} {pins:List (Addr×Obj)} {σ:St} {H:Hp} {s:Shared} {E:Value->Shared->Prop} {P:Addr} {lp:Pos} {params:Arguments} {body:Expr} {scope:Scope} {Q:Value->Shared->Prop}
theorem Tj (I:Inv X pins σ H s)(hK:Lu X.K X.mg X.env.code P)(hL:PD P lp (X.env.qual ++ "<lambda>") H\/Ti P lp H)(hdef:defaultsOf params X.env=([],[]))(hfree:∀ x∈scope.names,x.2≠.free)
  (h:∀(f c':Addr)(ps ps':Array Value)(ctv pm:Value)(h':Heap)(tk:Nat),H P=some (.AK ps)->(∃ more,ps'=ps++more)->(∀ b o,b≠P->s.heap.get? b=some o->h'.get? b=some o)->h'.get? P=some (tabObj ps')->TriplesOk ps'.toList->codeAmong lp ps'.toList=some (.ref c') ->
   h'.CodeRec (.ref c') (X.env.qual ++ "<lambda>")->(H c'=some (BZ c' (X.env.qual ++ "<lambda>"))\/s.heap.objs.size<=c')->h'.get? f=some (kla_obj "<lambda>" (X.env.qual ++ "<lambda>") params body scope [] pm c' ctv) ->
   Q (.ref f) { s with heap:=h',toks:=tk }):wpAny (model X.prog X.w) X.A (eval (.Lambda params body scope lp) X.env) Q E s:=by
 obtain⟨c,hc,hC,bm,ob,b1,b2,b3,b4,b5,b6⟩:=hK;refine PySem.W.kla_eval hdef ?_;have hg:s.heap.Ns mainGlobals X.mg:=I.mod.glob.keeps I.bk;have C:=hC _ I.EZ;have hcl:=closureFor_none (env:=X.env) hfree;have nP:∀{b:Addr} {o:Obj},X.base.get? b=some o->H P≠none->b≠P:=fun {b o} e n z=>n (z ▸ (I.bs b o e).2);have hbm:=I.mod.kin _ _ b3;have hgm:bm≠mainGlobals:=fun z=>by
  obtain⟨o,es,ep,e,d,_⟩:=I.mod.glob;rw[z,e]at hbm;cases hbm;rw[d]at b6;cases b6
 rcases hL with ⟨ps,c',h1,h2,h3,h4⟩|⟨ps,h1,h2,h3⟩
 ·have hP:s.heap.get? P=some (tabObj ps):=I.hok P _ h1;have hrec:s.heap.CodeRec (.ref c') (X.env.qual ++ "<lambda>"):=(I.hok c' _ h4).1;refine PySem.W.kla_makeFunctionHit (mg:=X.mg) hcl I.ok.glob hg hc C hP h2 h3 ⟨bm,ob,b1,b2,hgm,nP hbm (by rw[h1];exact Option.some_ne_none _),I.bk _ _ hbm,b4,b5,b6⟩ fun ctv h' tk hk hsz=>?_;refine h _ c' ps ps ctv _ _ tk h1 ⟨#[],by simp⟩ (fun b o _ e=>Heap.get?_push_of_some _ (hk b o e)) (Heap.get?_push_of_some _ (hk _ _ hP)) h2 h3 ?_ (.inl h4) (Heap.get?_push_size _ rfl);obtain⟨d,o,vs,t,e,e1,r⟩:=hrec;exact⟨d,o,vs,t,e,Heap.get?_push_of_some _ (hk _ _ e1),r⟩
 ·have hP:s.heap.get? P=some (tabObj ps):=I.hok P _ h1;have gP:mainGlobals≠P:=by
   obtain⟨o,es,ep,e,d,_⟩:=I.mod.glob;exact nP e (by rw[h1];exact Option.some_ne_none _)
  refine PySem.W.kla_makeFunction (mg:=X.mg) hcl I.ok.glob hg hc C hP h2 h3 gP ⟨bm,ob,b1,b2,hgm,nP hbm (by rw[h1];exact Option.some_ne_none _),I.bk _ _ hbm,b4,b5,b6⟩ fun c' ctv h' tk hx hge hlt hrec htb=>?_;have hl:(ps ++ #[rawInt lp.line,rawInt lp.col,Value.ref c']).toList=ps.toList++[rawInt lp.line,rawInt lp.col,.ref c']:=by simp
  refine h _ c' ps _ ctv _ _ tk h1 ⟨_,rfl⟩ (fun b o n e=>Heap.get?_push_of_some _ (hx b o n e)) (Heap.get?_push_of_some _ htb) (by rw[hl];exact TriplesOk_snoc _ _ _ _ h2) (by rw[hl];exact codeAmong_snoc _ h2 h3) ?_ (.inr hge) (Heap.get?_push_size _ rfl);obtain⟨d,o,vs,t,e,e1,r⟩:=hrec;exact⟨d,o,vs,t,e,Heap.get?_push_of_some _ e1,r⟩
end
section
open Att
variable {X:Cx} {P:Addr} {lp:Pos}
def VU (P:Addr)(lp:Pos)(q:Str)(te:TA):TE:=fun σ H Q=>te σ H fun xs H1=>∃(a:Addr)(vs:List V)(kf:Nat->Int),xs=[.ref a]/\H1 a=some (.lst vs)/\0<vs.length/\(PD P lp q H1\/Ti P lp H1) /\
 (∀ i v,vs[i]? = some v->∃(p:Addr)(r:List V),v=.ref p/\H1 p=some (.tup (.int (kf i)::r))) /\
 ∀ i v H',vs[i]? = some v->(∀ j,j<vs.length->kf i<=kf j/\(j<i->kf i<kf j))->(∀ b o,H1 b=some o->b≠P->H' b=some o)->(∀ b,H' b=none->H1 b=none)->PD P lp q H'->Q v H'
theorem QI {e:Expr}{te:TA}{x:Str}{pa p1 p2 p3 p kp pos:Pos}{k:Nat}(hr:kW k X.A)(hg:Gl X "min")(hm:X.mg "min"=none)(hK:Lu X.K X.mg X.env.code P)(he:PA X [e] te)
  (hd:(x==("__debug__":Str))=false) (hbind:∀(name qual:Str)(pm cv ctv v:Value),bindArgs (kla_fn name qual (jE x pa) (mV x p1 p2 p3) (lO x) [] pm cv ctv) ⟨[v],[]⟩=pure [(x,v)])
  (h1:starEach [e] X.env=(false,eval e X.env)::starEach [] X.env:=by rfl) (h2:(backTo pos (starEach [e] X.env)).any (·.1)=false:=by rfl)
  (h3:(backToKw pos (keywordEach [⟨some "key",.Lambda (jE x pa) (mV x p1 p2 p3) (lO x) lp,kp⟩] X.env)).all (·.1.isSome)=true:=by rfl) (h4:(backToKw pos (keywordEach [⟨some "key",.Lambda (jE x pa) (mV x p1 p2 p3) (lO x) lp,kp⟩] X.env)).any (·.1.isNone)=false:=by rfl) :
  PE X (.Call (.Name "min" p) [e] [⟨some "key",.Lambda (jE x pa) (mV x p1 p2 p3) (lO x) lp,kp⟩] pos) (VU P lp (X.env.qual ++ "<lambda>") te):=by
 intro pins s σ H Q I h;refine wpAny_Call_Name_kw (vB I hg hm boot_min (callWith_builtin_kwB h2 h4 (evalArgs_kw2 h3 (cI (he pos pins s σ H _ I h) fun us s1 ⟨vs0,H1,I1,r1,a,vs,kf,e1,ha,hne,hL,htup,q⟩=>kwAll_cons ?_) h1)) (by decide) (by decide));subst e1;obtain⟨u,rfl,rfl⟩:=r1.one;refine Tj I1 hK hL rfl (fun y hy=>?_) fun f c' ps ps' ctv pm h' tk hPs hmore old hP' htr hca hrec hc' hf=>kwAll_nil ?_
 ·rw[mem_singleton.mp hy];exact fun z=>nomatch z
 show wpAny (model X.prog X.w) X.A (call (.builtin "min") [.ref a] [(Str.ofString "key",.ref f)]) (EP X pins σ Q) X.xe { s1 with heap:=h',toks:=tk };obtain⟨m,hn,hl⟩:=id I1.loc;have hLn:H1 X.env.locals=none:=I1.free;have LP:X.env.locals≠P:=fun z=>by rw[z,hPs]at hLn;cases hLn
 have hn':h'.Ns X.env.locals m:=by
  obtain⟨o,es,ep,e,r⟩:=hn;exact⟨o,es,ep,old _ _ LP e,r⟩
 have Vl:∀{b u},H1 b=some u->b≠X.env.locals:=fun {b u} e z=>by rw[z,hLn]at e;cases e
 have N0:News (vE h') X.env.locals h' (ledger h' X.env.locals X.env.locals):=fun⟨b,o⟩ hp=>by
  obtain⟨n1,_,e⟩:=BO.mp hp;exact⟨e,n1,BN _ _⟩
 have XD:∀{h'':Heap} {own:List (Addr×Obj)},News (vE h') X.env.locals h'' (ledger h' X.env.locals X.env.locals++own)->∀ b o,b≠X.env.locals->h'.get? b=some o->h''.get? b=some o:=fun {h'' own} N b o n e=>(N (b,o) (mem_append_left _ (BO.mpr ⟨n,n,e⟩))).1;have Tn:∀{h'':Heap},News (vE h') X.env.locals h'' (ledger h' X.env.locals X.env.locals)->∀ b o,b≠X.env.locals->h'.get? b=some o->h''.get? b=some o:=fun {h''} N=>XD (own:=[]) (by rw[append_nil];exact N);obtain⟨hz,its,nn,rv,hit⟩:=I1.hok a _ ha;have aP:a≠P:=fun z=>by rw[z,hPs]at ha;cases ha
 have hlen:=rv.length;have fP:f≠X.env.locals:=fun z=>by
  obtain⟨o,es,ep,e,d,_⟩:=hn';rw[<-z,hf]at e;cases e;cases d
 have cP:c'≠X.env.locals:=fun z=>by
  obtain⟨o,es,ep,e,d,_⟩:=hn';obtain⟨c2,o2,vs2,t2,e2,g2,d2,_⟩:=hrec;cases e2;rw[z,e]at g2;cases g2;rw[d]at d2;cases d2
 have aay:∀{g:Heap},(∀ b o,b≠X.env.locals->h'.get? b=some o->g.get? b=some o)->g.NoLimit:=fun {g} k=>I1.mod.nolimit.keeps fun b o e=>by
  have e1:=I1.bs b o e;refine k b o (fun z=>?_) (old b o (fun z=>?_) e1.1)
  ·exact absurd (Nat.lt_of_lt_of_le (Heap.lt_size e) (Nat.le_trans I1.ok.Vc I1.ok.above)) (by rw[z];exact Nat.lt_irrefl _)
  ·rw[z,hPs]at e1;cases e1.2
 refine kmk_min (s:={ s1 with heap:=h',toks:=tk }) (vs:=its) kf hr.hd (YG hn') N0 (fun g F N=>?_) (by rw[<-hlen];exact hne) (fun i v hv g tk2 own F N=>?_) fun i v g tk2 hv hbest F N=>?_
 ·exact⟨_,Tn N _ _ (Vl ha) (old _ _ aP hit),rfl,_,rfl⟩
 ·obtain⟨y,hy,ry⟩:∃ y,vs[i]? = some y/\RelV y v:=by
   have hi:i<vs.length:=by rw[hlen];exact(List.getElem?_eq_some_iff.mp hv).1
   obtain⟨u,hu,ru⟩:=rv.get (getElem?_eq_getElem hi);rw[hv]at hu;cases hu;exact⟨_,getElem?_eq_getElem hi,ru⟩
  obtain⟨t,r,rfl,ht⟩:=htup i y hy;obtain rfl:v=.ref t:=ry;obtain⟨_,aaz,tr,to,te1,te2⟩:=I1.hok t _ ht;have tP:t≠P:=fun z=>by rw[z,hPs]at ht;cases ht
  obtain⟨z,zr,hzc,rz⟩:∃ z zr,aaz=z::zr/\RelV (.int (kf i)) z:=by
   cases tr with
   |cons h _=>exact⟨_,_,rfl,h⟩
  obtain⟨tz,rfl⟩:=rz;have kp:=XD N;refine Tg (s:={ s1 with heap:=g,toks:=tk2 }) (t:=t) (its:=aaz.toArray) (k:=kf i) (tk:=tz) hd hbind (kp _ _ fP hf) ?_ ?_ (aay kp) ⟨to,kp _ _ (Vl ht) (old _ _ tP te1),te2⟩ (by rw[hzc];rfl) fun g2 tk3 k2=>?_
  ·obtain⟨d,o,vs2,t2,e,e1,r2⟩:=hrec;cases e;exact⟨_,o,vs2,t2,rfl,kp _ _ cP e1,r2⟩
  ·have:=hr.dp;show X.A.depth<recursionLimit;omega
  ·exact⟨g2,tk3,tz,rfl,rfl,⟨F.ns.keeps k2,fun b o e=>k2 b o (F.keep b o e),F.above⟩,fun p hp=>⟨k2 _ _ (N p hp).1,(N p hp).2⟩⟩
 ·obtain⟨y,hy,ry⟩:∃ y,vs[i]? = some y/\RelV y v:=by
   have hi:i<vs.length:=by rw[hlen];exact(List.getElem?_eq_some_iff.mp hv).1
   obtain⟨u,hu,ru⟩:=rv.get (getElem?_eq_getElem hi);rw[hv]at hu;cases hu;exact⟨_,getElem?_eq_getElem hi,ru⟩
  have kp:=Tn N;have all:∀ b o,b≠P->b≠X.env.locals->s1.heap.get? b=some o->g.get? b=some o:=fun b o n1 n2 e=>kp b o n2 (old b o n1 e);have hc2:∀{b u},H1 b=some u->(∀ q,u≠BZ c' q)->b≠c':=fun {b u} e n z=>by
   rcases hc' with w1|w1
   ·rw[z,w1]at e;exact n _ (Option.some.inj e).symm
   ·rw[z,I1.hok.fresh w1]at e;cases e
  have cPt:c'≠P:=fun z=>by
   rcases hc' with w1|w1
   ·rw[z,hPs]at w1;cases w1
   ·have:=I1.hok.fresh w1;rw[z,hPs]at this;cases this
  obtain⟨more,rfl⟩:=hmore;have hHP:upd (upd H1 P (.AK (ps++more))) c' (BZ c' (X.env.qual ++ "<lambda>")) P=some (.AK (ps++more)):=by rw[au (Ne.symm cPt),aj]
  have GO:∀ b u,H1 b=some u->b≠P->upd (upd H1 P (.AK (ps++more))) c' (BZ c' (X.env.qual ++ "<lambda>")) b=some u:=fun b u e n=>by
   by_cases hb:b=c'
   ·subst hb;rcases hc' with w1|w1
    ·rw[w1]at e;rw[aj];exact e
    ·rw[I1.hok.fresh w1]at e;cases e
   ·rw[au hb,au n];exact e
  refine⟨y,upd (upd H1 P (.AK (ps++more))) c' (BZ c' (X.env.qual ++ "<lambda>")),?_,ry,q i y _ hy (fun j hj=>hbest j (by rw[<-hlen];exact hj)) GO (fun b hb=>?_) ⟨_,c',hHP,htr,hca,aj⟩⟩
  ·refine Inv.step (s:=s1) (h':=g) (t':=tk2) I1 (g':=s1.gens) (d':=s1.drawn) (ch:=[]) (fun _ z=>nomatch z) (fun b o n _ _ e z=>all b o (fun w1=>by rw[w1,hPs]at z;cases z) n e) (fun b o n _ _ e z=>⟨o.slots,all b o (fun w1=>by rw[w1,hPs]at z;cases z) n e⟩) (fun b o _ e z=>?_) (fun b o _ e=>?_)
    (fun b xs e=>GO b _ e fun w1=>by rw[w1,hPs]at e;cases e) (fun b o u e=>GO b _ e fun w1=>by rw[w1,hPs]at e;cases e) (fun b qs e=>?_) (fun m' hm'=>?_) (fun b u e=>?_) I1.bare
   ·rw[au,au]
    ·exact z
    ·intro w1;rw[w1,hPs]at z;cases z
    ·intro w1;rcases hc' with w2|w2
     ·rw[w1,w2]at z;cases z
     ·exact absurd (Nat.lt_of_lt_of_le (Heap.lt_size e) (w1 ▸ w2)) (Nat.lt_irrefl _)
   ·by_cases b1:b=P
    ·rw[b1];exact⟨_,kp _ _ (Ne.symm LP) hP'⟩
    ·by_cases b2:b=X.env.locals
     ·obtain⟨o',es,ep,e',_⟩:=F.ns;rw[b2];exact⟨o',e'⟩
     ·exact⟨o,all b o b1 b2 e⟩
   ·by_cases b1:b=P
    ·subst b1;rw[hPs]at e;cases e;exact⟨more,hHP⟩
    ·exact⟨#[],by rw[GO b _ e b1];simp⟩
   ·rw[<-Y0 hn hm'];exact F.ns
   ·by_cases b1:b=c'
    ·subst b1;rw[aj]at e;cases e;obtain⟨d,o,vs2,t2,e0,e1,r2⟩:=hrec;cases e0;exact Th ⟨_,o,vs2,t2,rfl,kp _ _ cP e1,r2⟩
    ·rw[au b1]at e
     by_cases b2:b=P
     ·subst b2;rw[aj]at e;cases e;exact kp _ _ (Ne.symm LP) hP'
     ·rw[au b2]at e;refine(I1.hok b u e).stay (fun d o hd' e'=>all d o ?_ ?_ e') (fun d e'=>GO d _ e' ?_) fun d xs e'=>GO d _ e' ?_
      ·rcases hd' with rfl|hd'
       ·exact b2
       ·intro w1;rw[w1,hPs]at hd';cases hd'
      ·rcases hd' with rfl|hd'
       ·exact Vl e
       ·exact Vl hd'
      ·intro w1;rw[w1,hPs]at e';cases e'
      ·intro w1;rw[w1,hPs]at e';cases e'
  ·by_cases b1:b=c'
   ·rw[b1,aj]at hb;cases hb
   ·rw[au b1]at hb
    by_cases b2:b=P
    ·rw[b2,aj]at hb;cases hb
    ·rw[au b2]at hb;exact hb
end
def PH (P:Addr)(ps:Array Value)(H:Hp):Prop:=H P=some (.AK ps)/\∀ b,b≠P->H b=none\/∃ o xs,H b=some (.jC o (.lst xs))
theorem QJ {P:Program}{w:World}{K:Frag}{mg mb:Str->Option Value}{CX:SG}{k:Nat}{fa a T:Addr}{ps:Array Value}{fd:FuncData}{x:Str}{sp:Sp}{s₁:Shared}{vs:List Value}{ns:List Int}
  (KX:K.In s₁.heap) (hKT:K.lookup T=none) (hT:s₁.heap.get? T=some (tabObj ps)) (hct:isCodeTable s₁.heap T)
  (hns:s₁.heap.Ns mainGlobals mg) (hb:s₁.heap.Ns builtinsNs mb) (hbb:∀ x:Str,x ≠ "__name__"->mb x=bootBuiltins x) (hlim:s₁.heap.NoLimit) (hg:s₁.gens = #[])
  (ha:s₁.heap.get? a=some { cls:=.type "list",data:=.seq vs.toArray }) (hi:IntsAre vs ns) (hl:ns.length<=sizeLine) (hr:kW k callerA)
  (F:∀ base:Heap,K.In base->base.Ns mainGlobals mg->cw P w K mg base CX k fa fd [x] sp) (hbind:∀(s:Shared)(u:Value),BindsTo s fd ⟨[u],[]⟩ [(x,u)])
  (hsp:∀ H:Hp,PH T ps H->a6 K H a (ns.map V.int)->sp [.ref a] H (fun v _=>v=.bl true) fun _ _ _=>False)
  (hCX:∀ H e s',CX [] H s₁ (fun _ _ _=>False) e s'->False) :
  codeAny (model P w) callerA (.call (.ref fa) ⟨[.ref a],[]⟩) (fun r s'=>r=.ok (.ret (.bool true))/\OldK s₁.heap s'.heap/\s'.os=s₁.os/\AllBare s'.gens) s₁:=by
 have rv:=Gz hi;have lenV:=hi.length;have aT:a≠T:=fun z=>by rw[z,hT]at ha;cases ha
 have core:∀ H:Hp,PH T ps H->a6 K H a (ns.map V.int)->qv P w H s₁.heap->(∀ b,H b≠none->b=a\/b=T)->(H a≠none->K.lookup a=none) ->
   codeAny (model P w) callerA (.call (.ref fa) ⟨[.ref a],[]⟩) (fun r s'=>r=.ok (.ret (.bool true))/\OldK s₁.heap s'.heap/\s'.os=s₁.os/\AllBare s'.gens) s₁:=by
  intro H hO hS hok hA hK;have PJ:∀{b:Addr} {o:Obj},s₁.heap.get? b=some o->H b=none->(Hn s₁.heap H).get? b=some o:=fun e n=>Sk e n;have Z9:∀{b:Addr} {o:Obj} {es:Array DictEntry} {ep:Nat},s₁.heap.get? b=some o->o.data=.dict es ep->H b=none:=fun {b o es ep} e d=>by
   cases q:H b with
   |none=>rfl
   |some u =>
    rcases hA b (by rw[q];simp) with e'|e'
    ·subst e';rw[ha]at e;cases e;have d':Data.seq vs.toArray _=Data.dict es ep:=d;cases d'
    ·subst e';rw[hT]at e;cases e;have d':Data.fields ps=Data.dict es ep:=d;cases d'
  have nsK:∀{b:Addr} {m:Str->Option Value},s₁.heap.Ns b m->(Hn s₁.heap H).Ns b m:=fun {b m} ⟨o,es,ep,e,d,r⟩=>⟨o,es,ep,PJ e (Z9 e d),d,r⟩;have hKb:K.In (Hn s₁.heap H):=fun b o e=>PJ (KX b o e) (by
   cases q:H b with
   |none=>rfl
   |some u =>
    rcases hA b (by rw[q];simp) with e'|e'
    ·subst e';rw[hK (by rw[q];simp)]at e;cases e
    ·subst e';rw[hKT]at e;cases e)
  have hM:Mod K mg (Hn s₁.heap H):=⟨hKb,nsK hns,⟨mb,nsK hb,hbb⟩,let ⟨mc,h1,h2⟩:=hlim;⟨mc,nsK h1,h2⟩⟩;have e0:Vs P w K mg (Hn s₁.heap H) callerA [] s₁ H:=⟨rfl,hM,fun b o e=>Vm e,Nat.le_of_eq (Qm _ _),trivial,fun b hb=>absurd (show b∈([]:List Addr) from hb) (by simp),hok,.of_eq hg⟩;refine codeAny_mono ((F _ hKb (nsK hns)).run callerA [] s₁ H ⟨[.ref a],[]⟩ [.ref a] [.ref a] _ _ hr e0 (hbind s₁ (.ref a)) (.cons rfl .nil) (hsp H hO hS)) fun r s' h=>?_;cases r with
  |error e=>exact(hCX H e s' h).elim
  |ok fl =>
   cases fl with
   |next=>exact False.elim h
   |brk=>exact False.elim h
   |cont=>exact False.elim h
   |ret u =>
    obtain⟨v,H',os,bare,un,hok',r',q⟩:=h;have q':v=.bl true:=q;subst q';obtain rfl:u=Value.bool true:=r';refine⟨rfl,⟨fun b o e=>?_,fun b o e=>un.there b o e (by simp)⟩,os,bare⟩;cases q:H b with
    |none=>exact .inl (un.keep b o e q (by intro z;exact absurd (show b∈([]:List Addr) from z) (by simp)) (by simp))
    |some u =>
     by_cases bT:b=T
     ·subst bT;obtain⟨more,hm⟩:=un.BH _ _ hO.1;have e2:s'.heap.get? b=some { cls:=.none,data:=.fields (ps++more) }:=hok' _ _ hm;rw[hT]at e;cases e;exact .inr (.inl ⟨hct,rfl,ps,more,rfl,e2⟩)
     ·rcases hO.2 b bT with z|⟨ob,xs,z⟩
      ·rw[q]at z;cases z
      ·have z2:=un.yB b ob _ z;obtain⟨e1,_⟩:=hok b _ z;obtain⟨e2,_⟩:=hok' b _ z2;rw[e]at e1;cases e1;exact .inl e2
 have tOk:∀{H:Hp},cB P w H s₁.heap T (.AK ps):=hT;cases hk:K.lookup a with
 |some o =>
  have e:=KX a o hk;rw[ha]at e;cases e;refine core (upd (fun _=>none) T (.AK ps)) ⟨aj,fun b n=>.inl (by rw[au n])⟩ (.inr ⟨_,vs.toArray,_,hk,rfl,rfl,rfl,by rw[size_toArray,lenV];exact hl,by simpa using rv⟩) (fun b u z=>?_) (fun b z=>?_) fun z=>absurd (by rw[au aT]) z
  ·by_cases hb:b=T
   ·subst hb;rw[aj]at z;cases z;exact tOk
   ·rw[au hb]at z;cases z
  ·by_cases hb:b=T
   ·exact .inr hb
   ·exact absurd (by rw[au hb]) z
 |none =>
  have fz:upd (upd (fun _=>none) T (.AK ps)) a (.jC { cls:=.type "list",data:=.seq vs.toArray } (.lst (ns.map V.int))) a=some (.jC { cls:=.type "list",data:=.seq vs.toArray } (.lst (ns.map V.int))):=aj;refine core (upd (upd (fun _=>none) T (.AK ps)) a (.jC { cls:=.type "list",data:=.seq vs.toArray } (.lst (ns.map V.int)))) ⟨by rw[au (Ne.symm aT),aj],fun b n=>?_⟩ (.inl (.inr ⟨{ cls:=.type "list",data:=.seq vs.toArray },fz⟩)) (fun b u z=>?_) (fun b z=>?_) fun _=>hk
  ·by_cases hb:b=a
   ·exact .inr ⟨_,_,by rw[hb];exact fz⟩
   ·exact .inl (by rw[au hb,au n])
  ·by_cases hb:b=a
   ·subst hb;rw[aj]at z;cases z;exact⟨ha,by rw[length_map];exact hl,vs,_,rv,ha⟩
   ·rw[au hb]at z
    by_cases hb2:b=T
    ·subst hb2;rw[aj]at z;cases z;exact tOk
    ·rw[au hb2]at z;cases z
  ·by_cases hb:b=a
   ·exact .inl hb
   ·by_cases hb2:b=T
    ·exact .inr hb2
    ·exact absurd (by rw[au hb,au hb2]) z
theorem To {l:OpenLaw}{n k:Nat}{q:Program}{loose:List Str}{XP:(Str->Option Value)->Heap->Prop}{YP:World->Heap->Prop}{d:DefRec}{K K':Params->Frag}{CX:World->SG}{sp:World->Sp}{x:Str}{T:Addr}{ps:Array Value}
  (hn:l.most=some n) (hn2:n<=sizeLine) (hdf:d.params.defaults=[]) (hr:kW k callerA)
  (hY:∀(w:World)(h:Heap),YP w h->(K' w.params).In h) (hKK:∀(p:Params) a o,(K p).lookup a=some o->(K' p).lookup a=some o) (hT:∀ p:Params,(K' p).lookup T=some (tabObj ps)) (hKT:∀ p:Params,(K p).lookup T=none)
  (F:∀(w:World)(mg:Str->Option Value)(fa:Addr)(h:Heap),(K w.params).In h->h.Ns mainGlobals mg->mg d.name=some (.ref fa) ->
   ∃ fd:FuncData,(∀(s:Shared)(u:Value),BindsTo s fd ⟨[u],[]⟩ [(x,u)])/\(∃ cv,Lu (K w.params) mg cv T) /\
    ∀ base:Heap,(K w.params).In base->base.Ns mainGlobals mg->cw l.prog w (K w.params) mg base (CX w) k fa fd [x] (sp w))
  (hsp:∀(w:World)(H:Hp)(a:Addr)(ns:List Int),ns.length<=n->PH T ps H->a6 (K w.params) H a (ns.map V.int)->sp w [.ref a] H (fun v _=>v=.bl true) fun _ _ _=>False)
  (hCX:∀(w:World)(H:Hp)(s:Shared)(e:Value)(s':Shared),CX w [] H s (fun _ _ _=>False) e s'->False) :
  WalkO q loose XP YP l.row.toRowW d [] (fun f vs=>PySem.call f vs):=by
 refine Att.Lj hn hdf fun w s₀ s₁ mg mb fa o pm cd doc a vs ns G Y ho hd hcd hmg hobj hints hlen hg=>?_;have KX':=hY w _ Y;have KX:(K w.params).In s₁.heap:=fun a o e=>KX' a o (hKK _ a o e);obtain⟨fd,hb,⟨cv,c,_,hC,_⟩,hF⟩:=F w mg fa _ KX G.T.g hmg;obtain⟨oc,vc,_,_,_,_,_,_,_,c1,c2,c3,c4,_⟩:=hC _ KX;exact QJ KX (hKT _) (KX' _ _ (hT _)) ⟨c,oc,vc,c1,c2,c3,c4⟩ G.T.g G.T.b G.T.builtins G.T.nolimit hg hobj hints (Nat.le_trans hlen hn2) hr hF hb (fun H hO hS=>hsp w H a ns hlen hO hS) fun H e s'=>hCX w H s₁ e s'
theorem Tp {X:Cx}:ig X (.builtin "isinstance") (fun xs H Q=>∃ p ys T b,xs=[.ref p,.ty T]/\dc X.K H p ys/\kitOne X.K (.type "tuple") (.type T)=some b/\Q (.bl b) H):=by
 intro pins s σ H xs us Q I r h;obtain⟨p,ys,T,b,rfl,hs,e,q⟩:=h;obtain⟨u,v,rfl,r1,r2⟩:=r.two;cases r2;cases (show u=Value.ref p from r1);obtain⟨its,_,⟨o,h1,h2,_⟩,_⟩:=I.tuple hs;exact kia_one kitx_tuple I.EZ ⟨o,h1,h2⟩ e (fun z=>nomatch z) fun tk=>⟨.bl b,H,I.tok _,rfl,q⟩
end L2
set_option maxHeartbeats 1000000
namespace jU
open PySem L2
inductive Kd where
 |G|D|R|s|d|r|dot|three|two
 deriving DecidableEq,Repr
def Kd.str:Kd->Str
 |.G=>"G" | .D=>"D" | .R=>"R" | .s=>"s" | .d=>"d" | .r=>"r" | .dot=>"." | .three=>"3" | .two=>"2"
def Kd.cp:Kd->Nat
 |.G=>71|.D=>68|.R=>82|.s=>115|.d=>100|.r=>114|.dot=>46|.three=>51|.two=>50
def Kd.great:Kd->Bool
 |.G=>true|.D=>true|.R=>true|_=>false
def Kd.small:Kd->Bool
 |.s=>true|.d=>true|.r=>true|_=>false
def Kd.parting:Kd->Bool
 |.dot=>true|.three=>true|.two=>true|_=>false
def Kd.meas:Kd->Bool
 |.three=>true|.two=>true|_=>false
def Kd.e9:Kd->Bool
 |.G=>true|.D=>true|.s=>true|.d=>true|_=>false
abbrev Sg:=Kd×Int
def Nc (x y:Str):Bool:=!(Builtin.Str.occurrences y x 0 y.length 1).isEmpty
theorem aaB (k:Kd):k.str=⟨#[k.cp]⟩:=by cases k <;> decide +kernel
theorem str_inj {a b:Kd}:a.str=b.str ↔ a=b:=by
 constructor
 ·revert a b
  have:∀ a b:Kd,a.str=b.str->a=b:=by
   intro a b;cases a <;> cases b <;> first|(intro _;rfl)|(intro h;exact absurd h (by lk))
  exact fun {a b}=>this a b
 ·exact fun h=>by rw[h]
theorem adx (a b:Str):decide (V.str a=V.str b)=decide (a=b):=by
 by_cases h:a=b
 ·rw[h];simp
 ·rw[decide_eq_false h];exact decide_eq_false fun e=>h (V.str.inj e)
theorem QK (a b:Kd):decide (V.str a.str=V.str b.str)=decide (a=b):=by
 rw[adx];exact decide_eq_decide.mpr str_inj
theorem k_G (k:Kd):decide (V.str k.str=V.str "G")=decide (k=.G):=QK k .G
theorem k_D (k:Kd):decide (V.str k.str=V.str "D")=decide (k=.D):=QK k .D
theorem k_s (k:Kd):decide (V.str k.str=V.str "s")=decide (k=.s):=QK k .s
theorem Tq (k:Kd):decide (V.str k.str=V.str ".")=decide (k=.dot):=QK k .dot
theorem PK (k:Kd):decide (V.str k.str=V.str "3")=decide (k=.three):=QK k .three
theorem XE (k:Kd):decide (V.str k.str=V.str "2")=decide (k=.two):=QK k .two
def QL (H:Hp)(v:V)(s:Sg):Prop:=∃ p,v=.ref p/\H p=some (.tup [.str s.1.str,.int s.2])
theorem QL.same {H H':Hp}{v:V}{s:Sg}(e:az H H')(h:QL H v s):QL H' v s:=by
 obtain⟨p,rfl,q⟩:=h;exact⟨p,rfl,e _ _ q⟩
abbrev QM (H:Hp):List V->List Sg->Prop:=Paired (QL H)
theorem QM.same {H H':Hp}(e:az H H'):∀{xs:List V} {ss:List Sg},QM H xs ss->QM H' xs ss
 |_,_,.nil=>.nil
 |_,_,.cons a b=>.cons (a.same e) (QM.same e b)
theorem qu {α β:Type}{F:α->β->Prop}:∀{xs:List α} {ys:List β} {i:Nat} {x:α},Paired F xs ys->xs[i]? = some x->∃ y,ys[i]? = some y/\F x y
 |_,_,_,_,.nil,e=>by simp at e
 |_,_,0,_,.cons r _,e=>by simp at e;subst e;exact⟨_,rfl,r⟩
 |_,_,i+1,x,.cons _ t,e=>by
  obtain⟨u,h1,h2⟩:=qu (i:=i) (x:=x) t (by simpa using e);exact⟨u,by simpa using h1,h2⟩
theorem XF {α β:Type}{F:α->β->Prop}:∀{xs:List α} {ys:List β} {i:Nat} {y:β},Paired F xs ys->ys[i]? = some y->∃ x,xs[i]? = some x/\F x y
 |_,_,_,_,.nil,e=>by simp at e
 |_,_,0,_,.cons r _,e=>by simp at e;subst e;exact⟨_,rfl,r⟩
 |_,_,i+1,x,.cons _ t,e=>by
  obtain⟨u,h1,h2⟩:=XF (i:=i) t (by simpa using e);exact⟨u,by simpa using h1,h2⟩
theorem ef {α β:Type}{F:α->β->Prop}{xs:List α}{ys:List β}(h:Paired F xs ys):xs.length=ys.length:=Paired.length h
theorem lP {α β:Type}{F:α->β->Prop}:∀{xs:List α} {ys:List β} {x:α} {y:β},Paired F xs ys->F x y->Paired F (xs++[x]) (ys++[y])
 |_,_,_,_,.nil,h=>.cons h .nil
 |_,_,_,_,.cons a b,h=>.cons a (lP b h)
theorem aaC {α β:Type}{F:α->β->Prop}:∀{xs:List α} {ys:List β} {xs':List α} {ys':List β},Paired F xs ys->Paired F xs' ys'->Paired F (xs++xs') (ys++ys')
 |_,_,_,_,.nil,h=>h
 |_,_,_,_,.cons a b,h=>.cons a (aaC b h)
theorem XG {α β:Type}{F:α->β->Prop}:∀{xs:List α} {ys:List β} (n:Nat),Paired F xs ys->Paired F (xs.drop n) (ys.drop n)
 |_,_,0,h=>h
 |_,_,n+1,.nil=>.nil
 |_,_,n+1,.cons a b=>XG n b
theorem Ts {α β:Type}{F:α->β->Prop}:∀{xs:List α} {ys:List β} (n:Nat),Paired F xs ys->Paired F (xs.take n) (ys.take n)
 |_,_,0,h=>.nil
 |_,_,n+1,.nil=>.nil
 |_,_,n+1,.cons a b=>.cons a (Ts n b)
theorem bU {α β:Type}{F G:α->β->Prop}(h:∀ x y,F x y->G x y):∀{xs:List α} {ys:List β},Paired F xs ys->Paired G xs ys
 |_,_,.nil=>.nil
 |_,_,.cons a b=>.cons (h _ _ a) (bU h b)
theorem gB {H0 H:Hp}{l:Addr}{o:HO}(s:az H0 H)(hl:H0 l=none):az H0 (upd H l o):=fun b u e=>by
 rw[au (aQ e hl)];exact s b u e
theorem XH {H:Hp}{D:Addr}{o:HO}{zs:List V}{v:V}{s:Sg}(hD:H D=some (.lst zs))(h:QL H v s):QL (upd H D o) v s:=by
 obtain⟨p,e,q⟩:=h;exact⟨p,e,by rw[au (Pb q hD (by intro z;cases z))];exact q⟩
theorem Y1 {H:Hp}{D:Addr}{o:HO}{zs:List V}{xs:List V}{ss:List Sg}(hD:H D=some (.lst zs))(h:QM H xs ss):QM (upd H D o) xs ss:=bU (fun _ _ q=>XH hD q) h
theorem Tt {ms:List Int}{i:Nat}{x:V}(h:(ms.map V.int)[i]? = some x):∃ z,ms[i]? = some z/\x=V.int z:=by
 rw[getElem?_map]at h;cases e:ms[i]? with
 |none=>rw[e]at h;cases h
 |some z=>rw[e]at h;exact⟨z,rfl,(Option.some.inj h).symm⟩
section
variable {K:Frag} {H:Hp} {p:Addr} {Q:VK}
theorem ix0 {a b:V}(h:H p=some (.tup [a,b]))(q:Q a H):E2 K (.ref p) (.int 0) H Q\/E3 K (.ref p) (.int 0) H Q\/E4 (.ref p) (.int 0) H Q:=.inr (.inl ⟨p,_,0,a,rfl,rfl,dc.of h,rfl,q⟩)
theorem ix1 {a b:V}(h:H p=some (.tup [a,b]))(q:Q b H):E2 K (.ref p) (.int 1) H Q\/E3 K (.ref p) (.int 1) H Q\/E4 (.ref p) (.int 1) H Q:=.inr (.inl ⟨p,_,1,b,rfl,rfl,dc.of h,rfl,q⟩)
theorem Y2 {xs:List V}{i:Int}{n:Nat}{v:V}(h:a6 K H p xs)(hn:i=n)(e:xs[n]? = some v)(q:Q v H):E2 K (.ref p) (.int i) H Q\/E3 K (.ref p) (.int i) H Q\/E4 (.ref p) (.int i) H Q:=.inl ⟨p,xs,i,v,rfl,rfl,h,by rw[hn];exact Ht e,q⟩
theorem adz {ns:List Int}{i:Int}{n:Nat}{z:Int}(h:a6 K H p (ns.map V.int))(hn:i=n)(e:ns[n]? = some z)(q:Q (.int z) H):E2 K (.ref p) (.int i) H Q\/E3 K (.ref p) (.int i) H Q\/E4 (.ref p) (.int i) H Q :=
 Y2 h hn (by rw[getElem?_map,e];rfl) q
end
set_option maxHeartbeats 1000000
def nm (m:Int):Kd->Int
 |.three=>3
 |.two=>2
 |_=>m
def Ms (m:Int):Prop:=m=3\/m=2
theorem Ms.nm {m:Int}(h:Ms m)(k:Kd):Ms (nm m k):=by
 cases k <;> first|exact h|exact .inl rfl|exact .inr rfl
def pw:Kd->Int->Int
 |.G,m=>if m=2 then 2 else 3
 |.R,m=>if m=2 then 2 else 3
 |.D,_=>2
 |.s,_=>1
 |.d,_=>1
 |.r,_=>1
 |_,_=>0
def bw (m:Int)(k:Kd)(n:Option Kd):Int:=if m=2/\k=.G/\n=some .dot then 3 else pw k m
def aH (m:Int):List Kd->List Int
 |[]=>[]
 |k::t=>bw (nm m k) k t.head? :: aH (nm m k) t
theorem cH (m:Int)(ks:List Kd):(aH m ks).length=ks.length:=by
 induction ks generalizing m with
 |nil=>rfl
 |cons k t ih=>simp[aH,ih]
def inR (m:Int)(k:Kd):Bool:=decide (m≠2)&&k.small
def cT (m:Int):List Kd->List Bool
 |[]=>[]
 |k::t=>inR (nm m k) k::cT (nm m k) t
theorem oK (m:Int)(ks:List Kd):(cT m ks).length=ks.length:=by
 induction ks generalizing m with
 |nil=>rfl
 |cons k t ih=>simp[cT,ih]
def aO (at' first:Nat):List Bool->List (Nat×Nat)
 |[]=>if first<at' then [(first,at')] else []
 |true::t=>aO (at'+1) first t
 |false::t=>(if first<at' then [(first,at')] else [])++aO (at'+1) (at'+1) t
def bc (m:Int)(ks:List Kd):List (Nat×Nat):=aO 0 0 (cT m ks)
def Sf (ks:List Kd)(i:Int):Option Kd:=if 0<=i then ks[i.toNat]? else none
theorem VW (ks:List Kd)(n:Nat):Sf ks (n:Int)=ks[n]?:=by
 unfold Sf;rw[if_pos (by omega)];rfl
def eh:Option Kd->Bool
 |some k=>k.great
 |none=>false
def bE (ks:List Kd)(f:List Int)(a:Nat):Bool:=decide (Sf ks ((a:Int)-1)=some .G)&&decide (f.getD (a-1) 0=3)
def bS (ks:List Kd)(z:Nat):Bool:=decide (ks[z]? = some .G) && !eh ks[z+1]?
def iY (ks:List Kd)(f:List Int)(a z:Nat):Bool×List Int:=if bE ks f a then(true,f.set (a-1) 2) else if bS ks z then(true,f.set z 2) else(false,f)
def iZ (ks:List Kd)(f:List Int)(a z:Nat):Bool×List Int:=if eh ks[z]? && decide (ks[z-1]? = some .s) then(true,f.set (z-1) 2) else if bE ks f a&&bS ks z then(true,(f.set (a-1) 2).set z 2) else(false,f)
def settle (ks:List Kd)(f:List Int)(a z:Nat):Bool×List Int:=if(z-a) % 3=1 then iY ks f a z else if(z-a) % 3=2 then iZ ks f a z else(true,f)
theorem mW (ks:List Kd)(f:List Int)(a z:Nat):(settle ks f a z).2.length=f.length:=by
 unfold settle iY iZ
 repeat' split
 all_goals simp
abbrev Tu:=List Int×List (Nat×Nat)
def iz (ks:List Kd)(c:Tu)(p:Nat×Nat):Tu:=((settle ks c.1 p.1 p.2).2,if(settle ks c.1 p.1 p.2).1 then c.2 else c.2++[p])
def fb (m:Int)(ks:List Kd):Tu:=(bc m ks).foldl (iz ks) (aH m ks,[])
theorem Tv (ks:List Kd)(rs:List (Nat×Nat))(c:Tu):(rs.foldl (iz ks) c).1.length=c.1.length:=by
 induction rs generalizing c with
 |nil=>rfl
 |cons p t ih=>rw[List.foldl_cons,ih];exact mW ..
theorem QN (m:Int)(ks:List Kd):(fb m ks).1.length=ks.length:=by
 unfold fb;rw[Tv,cH]
theorem jV:∀(bs:List Bool)(at' first:Nat),first<=at'->∀ p∈aO at' first bs,first<=p.1/\p.1<p.2/\p.2<=at'+bs.length
 |[],at',first,h,p,hp=>by
  unfold aO at hp;split at hp
  ·have:p=(first,at'):=by simpa using hp
   subst this;exact⟨Nat.le_refl _,by assumption,by simp⟩
  ·cases hp
 |true::t,at',first,h,p,hp=>by
  have:=jV t (at'+1) first (by omega) p hp
  simp only [length_cons];omega
 |false::t,at',first,h,p,hp=>by
  unfold aO at hp;simp only [length_cons];rcases mem_append.mp hp with hp|hp
  ·split at hp
   ·have:p=(first,at'):=by simpa using hp
    subst this;exact⟨Nat.le_refl _,by assumption,by simp⟩
   ·cases hp
  ·have:=jV t (at'+1) (at'+1) (Nat.le_refl _) p hp;omega
theorem bM (m:Int)(ks:List Kd):∀ p∈bc m ks,p.1<p.2/\p.2<=ks.length:=by
 intro p hp;have:=jV (cT m ks) 0 0 (Nat.le_refl _) p hp;rw[oK]at this;omega
theorem oM:∀(bs:List Bool)(at' first:Nat),(aO at' first bs).length<=bs.length+1
 |[],at',first=>by unfold aO;split <;> simp
 |true::t,at',first=>by
  unfold aO;have:=oM t (at'+1) first
  simp only [length_cons];omega
 |false::t,at',first=>by
  unfold aO;have:=oM t (at'+1) (at'+1);simp only [length_cons,length_append];split <;> simp <;> omega
def QO (H:Hp)(v:V)(q:Nat×Nat):Prop:=∃ p,v=.ref p/\H p=some (.tup [.int (q.1:Int),.int (q.2:Int)])
abbrev XI (H:Hp):List V->List (Nat×Nat)->Prop:=Paired (QO H)
theorem QO.same {H H':Hp}{v:V}{q:Nat×Nat}(e:az H H')(h:QO H v q):QO H' v q:=by
 obtain⟨p,rfl,z⟩:=h;exact⟨p,rfl,e _ _ z⟩
theorem HG {H H':Hp}(e:az H H'){xs:List V}{qs:List (Nat×Nat)}(h:XI H xs qs):XI H' xs qs:=bU (fun _ _ z=>z.same e) h
theorem XJ {H:Hp}{D:Addr}{o:HO}{zs:List V}{v:V}{q:Nat×Nat}(hD:H D=some (.lst zs))(h:QO H v q):QO (upd H D o) v q:=by
 obtain⟨p,e,z⟩:=h;exact⟨p,e,by rw[au (Pb z hD (by intro z;cases z))];exact z⟩
theorem Nd {H:Hp}{D:Addr}{o:HO}{zs:List V}{xs:List V}{qs:List (Nat×Nat)}(hD:H D=some (.lst zs))(h:XI H xs qs):XI (upd H D o) xs qs:=bU (fun _ _ q=>XJ hD q) h
theorem Tw {H:Hp}{a:Addr}{o:HO}(h:H a=some o):upd H a o=H:=by
 funext b
 unfold upd;split
 ·rename_i e;rw[e,h]
 ·rfl
theorem vH {ks:List Kd}{f:List Int}{a:Nat}(h:bE ks f a=true):1<=a/\a-1<ks.length:=by
 unfold bE at h;have h1:=of_decide_eq_true (Bool.and_eq_true_iff.mp h).1;unfold Sf at h1;split at h1
 ·have:=(List.getElem?_eq_some_iff.mp h1).1;omega
 ·cases h1
theorem Nf {ks:List Kd}{z:Nat}(h:bS ks z=true):z<ks.length:=by
 unfold bS at h;have h1:=of_decide_eq_true (Bool.and_eq_true_iff.mp h).1;exact(List.getElem?_eq_some_iff.mp h1).1
theorem HH {n:Nat}{i:Int}{j:Nat}(e:i=j)(h:j<n):Vu n i=some j:=by
 unfold Vu;subst e;rw[if_pos (by omega),if_pos (by omega)];rfl
theorem qd {α:Type}{l:List α}{i:Nat}{x:α}(h:l[i]? = some x):l.drop i=x::l.drop (i+1):=by
 obtain⟨hi,e⟩:=List.getElem?_eq_some_iff.mp h;rw[List.drop_eq_getElem_cons hi,e]
theorem vI {α β:Type}{l:List α}{f:α->β}{i:Nat}{x:α}(h:l[i]? = some x):(l.map f)[i]? = some (f x):=by rw[getElem?_map,h];rfl
abbrev b8 (ss:List Sg):List Kd:=ss.map Prod.fst
theorem HI {fs:List Int}{j:Nat}{v:Int}:(fs.map V.int).set j (V.int v)=(fs.set j v).map V.int:=by rw[List.map_set]
theorem big {n:Nat}(h:n<=1000):n<=sizeLine:=Nat.le_of_lt (cf h)
theorem head_drop {α:Type}(l:List α)(i:Nat):(l.drop i).head? = l[i]?:=by
 rw[List.head?_drop]
def fV (m:Int):List Kd->List Bool
 |[]=>[]
 |k::t=>decide (nm m k=3)::fV (nm m k) t
theorem Ng (m:Int)(ks:List Kd):(fV m ks).length=ks.length:=by
 induction ks generalizing m with
 |nil=>rfl
 |cons k t ih=>simp[fV,ih]
def lead:List Bool->Nat
 |true::t=>lead t+1
 |_=>0
theorem PL:∀ bs:List Bool,lead bs<=bs.length
 |[]=>Nat.le_refl _
 |true::t=>by simp only [lead,length_cons];have:=PL t;omega
 |false::t=>Nat.zero_le _
theorem B0:∀(bs:List Bool)(at' first:Nat),first<at'+lead bs\/lead bs=0->first<=at'->aO at' first bs=(if first<at'+lead bs then [(first,at'+lead bs)] else [])++aO (at'+lead bs) (at'+lead bs) (bs.drop (lead bs))
 |[],at',first,_,h=>by
  show(if first<at' then [(first,at')] else [])=(if first<at' then [(first,at')] else [])++aO at' at' [];rw[show aO at' at' []=[] by unfold aO;rw[if_neg (Nat.lt_irrefl _)],append_nil]
 |true::t,at',first,h0,h=>by
  have ih:=B0 t (at'+1) first (.inl (by omega)) (by omega)
  have e:at'+1+lead t=at'+(lead t+1):=by omega
  rw[e]at ih;simp only [aO,lead,List.drop_succ_cons];exact ih
 |false::t,at',first,_,h=>by
  show(if first<at' then [(first,at')] else [])++aO (at'+1) (at'+1) t=(if first<at' then [(first,at')] else [])++((if at'<at' then [(at',at')] else [])++aO (at'+1) (at'+1) t);rw[if_neg (Nat.lt_irrefl at'),nil_append]
theorem PM {m:Int}(h:Ms m):∀(ks:List Kd)(i:Nat)(k:Kd),ks[i]? = some k->∃ b,(fV m ks)[i]? = some b/\(cT m ks)[i]? = some (k.small&&b)
 |[],i,k,e=>by simp at e
 |c::t,0,k,e=>by
  have:c=k:=by simpa using e
  subst this;refine⟨decide (nm m c=3),rfl,?_⟩;simp only [cT,List.getElem?_cons_zero,inR];have hm:=h.nm c;rcases hm with e|e <;> rw[e] <;> cases c <;> rfl
 |c::t,i+1,k,e=>by
  obtain⟨b,h1,h2⟩:=PM (h.nm c) t i k (by simpa using e);exact⟨b,by simpa [fV] using h1,by simpa [cT] using h2⟩
theorem PN:∀(bs:List Bool)(j:Nat),j<=lead bs->(j<lead bs ↔ bs[j]? = some true)
 |[],j,h=>by simp[lead]
 |true::t,0,h=>by simp[lead]
 |true::t,j+1,h=>by
  have:=PN t j (by simp only [lead]at h;omega);simp only [lead,List.getElem?_cons_succ];rw[<-this];omega
 |false::t,j,h=>by
  have:j=0:=by simp only [lead]at h;omega
  subst this;simp[lead]
theorem Y3 {m:Int}{ks:List Kd}{low j:Nat}:((cT m ks).drop low)[j]? = (cT m ks)[low+j]?:=by rw[List.getElem?_drop]
set_option maxHeartbeats 1000000
theorem XM (xs:List V)(n:Nat):E1 xs none (some (n:Int))=xs.take n:=by
 unfold E1;have e:HT.iw xs.length xs.length (some (n:Int))=min n xs.length:=HT.Pl xs.length xs.length n;rw[HT.Lh,e,Nat.sub_zero,List.drop_zero];rcases Nat.le_total n xs.length with h|h
 ·rw[Nat.min_eq_left h]
 ·rw[Nat.min_eq_right h,take_length,List.take_of_length_le h]
theorem VX (xs:List V)(n:Nat)(h:n<=xs.length):E1 xs (some (n:Int)) none=xs.drop n:=by
 unfold E1;have e:HT.iw xs.length 0 (some (n:Int))=min n xs.length:=HT.Pl xs.length 0 n;rw[HT.Lh,e,Nat.min_eq_left h];exact List.take_of_length_le (by rw[length_drop];omega)
def PrI (H:Hp)(v:V)(q:Int×Int):Prop:=∃ p,v=.ref p/\H p=some (.tup [.int q.1,.int q.2])
abbrev tu (H:Hp):List V->List (Int×Int)->Prop:=Paired (PrI H)
theorem oN {H H':Hp}(e:az H H'){xs:List V}{qs:List (Int×Int)}(h:tu H xs qs):tu H' xs qs:=bU (fun _ _ ⟨p,a,z⟩=>⟨p,a,e _ _ z⟩) h
theorem Nh {H:Hp}{D:Addr}{o:HO}{zs:List V}{v:V}{q:Int×Int}(hD:H D=some (.lst zs))(h:PrI H v q):PrI (upd H D o) v q:=by
 obtain⟨p,e,z⟩:=h;exact⟨p,e,by rw[au (Pb z hD (by intro z;cases z))];exact z⟩
theorem PQ {H:Hp}{D:Addr}{o:HO}{zs:List V}{xs:List V}{qs:List (Int×Int)}(hD:H D=some (.lst zs))(h:tu H xs qs):tu (upd H D o) xs qs:=bU (fun _ _ q=>Nh hD q) h
set_option maxHeartbeats 1000000
abbrev iA:=Option Int×Option Int×Option Int
def mO:Option Int->V
 |none=>.non
 |some n=>.int n
def costOf (c:iA):Kd->Option Int
 |.dot=>c.1
 |.D=>c.2.1
 |.d=>c.2.1
 |.three=>c.2.2
 |.two=>c.2.2
 |_=>some 0
def jk (c:iA):Int->List Kd->Option Int
 |n,[]=>some n
 |n,k::t=>match costOf c k with
  |none=>none
  |some m=>jk c (n+m) t
end jU
set_option maxHeartbeats 4000000
namespace L2
open PySem PySem.Spec PyProof.Rows PySem.SeqAt
section
variable {X:Cx}
end
end L2
set_option maxHeartbeats 1000000
namespace jU
open PySem L2 PyProof.Rows
theorem VY {n:Nat}(h:n<=1000):n<=sizeLine:=Nat.le_of_lt (cf h)
def ST:List Str:=["2-","2G","2g","3h0-","3h0o","3h0s","3h1o","3h1s","3h2S","3h2o","3h2s","3n0-","3n0o","3n0s","3n1o","3n1s","3n2S","3n2o","3n2s","3t0-","3w0-","3w0o","3w0s","3w1o","3w1s","3w2S","3w2o","3w2s"]
def qe (l c:Nat):Bool:=if decide (c=48)=true then decide (l≠104) else(decide (c=49)&&decide (l=104))
def E7 (z:Str):Bool:=z.cps.toList.head? == some 50
def fQ (z:Str):Bool:=if E7 z=true then decide (z ≠ "2G") else qe (z.cps.toList.getD 1 0) (z.cps.toList.getD 2 0)
theorem HJ (p:Str->Bool)(h:ST.all p=true){z:Str}(hz:z∈ST):p z=true:=all_eq_true.mp h z hz
theorem XN {z:Str}(hz:z∈ST):inV (.str z) [.str "2-",.str "2g",.str "2G"]=E7 z:=of_decide_eq_true (HJ (fun z=>decide (inV (.str z) [.str "2-",.str "2g",.str "2G"]=E7 z)) (by lk) hz)
theorem PR {z:Str}(hz:z∈ST):z.length<=4:=of_decide_eq_true (HJ (fun z=>decide (z.length<=4)) (by lk) hz)
theorem Lv {z:Str}(hz:z∈ST)(h:¬ E7 z=true):∃ l c t,z.cps.toList=[51,l,c,t]:=by
 have:=HJ (fun z=>E7 z||decide (z.cps.toList=[51,z.cps.toList.getD 1 0,z.cps.toList.getD 2 0,z.cps.toList.getD 3 0])) (by lk) hz;rw[Bool.eq_false_iff.mpr h,Bool.false_or]at this;exact⟨_,_,_,of_decide_eq_true this⟩
theorem qf (c n:Nat){s:Str}(h:s=⟨#[n]⟩):decide (V.str ⟨#[c]⟩=V.str s)=decide (c=n):=by
 subst h
 by_cases e:c=n
 ·subst e;simp
 ·rw[decide_eq_false e,decide_eq_false];intro z;apply e;have:=V.str.inj z;have:=congrArg (fun s:Str=>s.cps.toList) this
  simpa using this
theorem Y4 (c n:Nat){s:Str}(h:s=⟨#[n]⟩):(!decide (V.str ⟨#[c]⟩=V.str s))=decide (c≠n):=by
 rw[qf c n h];simp
theorem Y5 (z s:Str):(!decide (V.str z=V.str s))=decide (z≠s):=by
 by_cases e:z=s
 ·subst e;simp
 ·have:V.str z≠V.str s:=fun q=>e (V.str.inj q);simp[e,this]
def RN:List Str:=["0s","0o","1s","1o","2s","2S","2o"]
def f3 (l r:Str):Str:=Str.empty ++ "3" ++ l++r
def blk (l:Str):List Str:=f3 l "0-" :: RN.map (f3 l)
def g3 (l r:Str):Str:="3" ++ l++r
theorem VZ {xs:List Str}{i:Nat}{x:V}(h:(xs.map V.str)[i]? = some x):∃ z,xs[i]? = some z/\x=.str z:=by
 rw[getElem?_map]at h;cases e:xs[i]? with
 |none=>rw[e]at h;cases h
 |some z=>rw[e]at h;cases h;exact⟨z,rfl,rfl⟩
end jU
set_option maxHeartbeats 1000000
namespace jU
open PySem L2 PyProof.Rows
theorem E8 (a b:Str):decide (V.str a=V.str b)=decide (a=b):=by
 by_cases h:a=b
 ·rw[h,decide_eq_true rfl,decide_eq_true rfl]
 ·rw[decide_eq_false h,decide_eq_false (fun z=>h (V.str.inj z))]
theorem intD (a b:Int):decide (V.int a=V.int b)=decide (a=b):=by
 by_cases h:a=b
 ·rw[h,decide_eq_true rfl,decide_eq_true rfl]
 ·rw[decide_eq_false h,decide_eq_false (fun z=>h (V.int.inj z))]
def TW:List ((Str×Int)×V):=[(("s",1),V.str "2-"),(("d",1),V.str "2-"),(("r",1),V.str "2-"),(("D",2),V.str "2-"),(("R",2),V.str "2-"),(("G",2),V.str "2g"),(("G",3),V.str "2G"),((".",0),V.str "2-"),(("2",0),V.str "2-"),(("3",0),V.str "3n0-")]
def GS:List ((Str×Int)×V):=[(("G",3),V.str "3w0-"),(("G",2),V.str "3h0-"),(("D",2),V.str "3n0-"),(("R",3),V.str "3n0-")]
def chr (z:Str)(i:Nat):Str:=⟨#[z.cps.toList.getD i 0]⟩
def V0 (z:Str):Bool:=qe (z.cps.toList.getD 1 0) (z.cps.toList.getD 2 0)
def twS (z k:Str)(n:Int):V:=if(decide (z = "2G") && !decide (k = "."))=true then .non else if(decide (z = "2g")&&decide (k = "."))=true then .non else(TW.lookup (k,n)).getD .non
def rnZ (z:Str):Bool:=inV (.str z) [.str "3n1s",.str "3n1o",.str "3h2o"]
def bgZ (z:Str):Bool:=inV (.str z) [.str "3n2S",.str "3w2S"]
def grS (z k:Str)(n:Int):V:=if decide (z = "3t0-")=true then .non else if(rnZ z&&(decide (k = "G")&&decide (n=2)))=true then .str "3t0-" else if(V0 z||bgZ z)=true then(GS.lookup (k,n)).getD .non else .non
def ptS (z k:Str)(n:Int):V:=if(!decide (n=0) || !V0 z)=true then .non else if decide (k = "2")=true then .str "2-" else .str "3n0-"
def XO (k c:Str)(n:Int):V:=if decide (n=1)=true then(if decide (k = "s")=true then .str "s" else .str "o") else if(decide (n=2)&&(decide (k = "s")&&decide (c = "2")))=true then .str "S" else .non
theorem QP (k c:Str)(n:Int):XO k c n=.non\/XO k c n=.str "s"\/XO k c n=.str "o"\/XO k c n=.str "S":=by
 unfold XO
 repeat' split
 all_goals simp
def Y6 (c:Nat):Str:=if c=48 then "1" else if c=49 then "2" else "0"
theorem V1 (c:Nat):(Y6 c).length=1:=by
 unfold Y6
 repeat' split
 all_goals decide +kernel
theorem Tx (a b:Str):(a++b).length=a.length+b.length:=by
 show(a.cps++b.cps).size=_;rw[Array.size_append];rfl
theorem Lw (s:Str)(h:s = "s"\/s = "o"\/s = "S"\/s = "3"\/s = "n"):s.length=1:=by
 rcases h with rfl|rfl|rfl|rfl|rfl <;> decide +kernel
def lfZ (z:Str):Str:=if decide (z.cps.toList.getD 1 0=116)=true then "n" else chr z 1
theorem V2 (z:Str):(lfZ z).length=1:=by
 unfold lfZ;split
 ·exact Lw _ (.inr (.inr (.inr (.inr rfl))))
 ·rfl
def smS (z k:Str)(n:Int):V:=if decide (z.cps.toList.getD 3 0=83)=true then .non else match XO k (Y6 (z.cps.toList.getD 2 0)) n with
 |.str l=>.str ("3" ++ lfZ z++Y6 (z.cps.toList.getD 2 0)++l)
 |_=>.non
def jF (z:Str)(k:Kd)(n:Int):V:=if E7 z=true then twS z k.str n else if k.small=true then smS z k.str n else if k.parting=true then ptS z k.str n else grS z k.str n
theorem adI {z:Str}(hz:z∈ST){l c e:Nat}(h:z.cps.toList=[51,l,c,e]):c=48\/c=49\/c=50:=by
 have:=of_decide_eq_true (HJ (fun z=>decide (E7 z=true\/z.cps.toList.getD 2 0=48\/z.cps.toList.getD 2 0=49\/z.cps.toList.getD 2 0=50)) (by lk) hz);unfold E7 at this;rw[h]at this;rcases this with z|z
 ·exact absurd z (by simp)
 ·exact z
def Y7:List Kd:=[.G,.D,.R,.s,.d,.r,.dot,.three,.two]
theorem Lx (k:Kd):k∈Y7:=by cases k <;> decide
end jU
set_option maxHeartbeats 1000000
namespace jU
open PySem L2 PyProof.Rows
section
variable {K:Frag} {H H':Hp} {p:Addr} {Q:VK}
theorem HK {a b:V}(h:dc K H p [a,b])(q:Q a H):E2 K (.ref p) (.int 0) H Q\/E3 K (.ref p) (.int 0) H Q\/E4 (.ref p) (.int 0) H Q:=.inr (.inl ⟨p,_,0,a,rfl,rfl,h,rfl,q⟩)
end
def isD:HO->Bool
 |.dK _=>true
 |.jC _ (.dK _)=>true
 |_=>false
def Kn (H H':Hp):Prop:=∀ b o,H b=some o->isD o=false->H' b=some o
theorem Kn.trans {H H1 H2:Hp}(a:Kn H H1)(b:Kn H1 H2):Kn H H2:=fun c o e n=>b c o (a c o e n) n
theorem _root_.L2.az.kn {H H':Hp}(s:az H H'):Kn H H':=fun b o e _=>s b o e
theorem Kn.put {H:Hp}{d:Addr}{o u:HO}(e:H d=some o)(h:isD o=true):Kn H (upd H d u):=fun b v eb n=>by
 rw[au (fun z=>by rw[z,e]at eb;cases eb;rw[h]at n;cases n)];exact eb
theorem Kn.of {H H':Hp}{d:Addr}{kvs:List (Key×V)}(e:H d=some (.dK kvs))(h:∀ b o,b≠d->H b=some o->H' b=some o):Kn H H':=fun b o eb n=>h b o (fun z=>by rw[z,e]at eb;cases eb;cases n) eb
theorem Kn.tup {K:Frag}{H H':Hp}{p:Addr}{xs:List V}(k:Kn H H')(h:dc K H p xs):dc K H' p xs:=by
 rcases h with (h|⟨o,h⟩)|h
 ·exact .inl (.inl (k _ _ h rfl))
 ·exact .inl (.inr ⟨o,k _ _ h rfl⟩)
 ·exact .inr h
def qC (K:Frag)(H:Hp)(y:V)(s:Sg):Prop:=∃ p,y=.ref p/\dc K H p [.str s.1.str,.int s.2]
theorem qC.kn {K:Frag}{H H':Hp}(k:Kn H H'){y:V}{s:Sg}(h:qC K H y s):qC K H' y s:=by
 obtain⟨p,e,q⟩:=h;exact⟨p,e,k.tup q⟩
theorem qC.tw {K:Frag}{H H':Hp}(k:Kn H H'){ys:List V}{ss:List Sg}(h:Paired (qC K H) ys ss):Paired (qC K H') ys ss:=bU (fun _ _ q=>qC.kn k q) h
theorem qC.write {K:Frag}{H:Hp}{l:Addr}{xs:List V}{o:HO}(hl:H l=some (.lst xs)){y:V}{s:Sg}(h:qC K H y s):qC K (upd H l o) y s:=by
 obtain⟨q,e,h2⟩:=h;refine⟨q,e,?_⟩;rcases h2 with (h|⟨o,h⟩)|h
 ·exact .inl (.inl (by rw[au (fun z=>by rw[z,hl]at h;cases h)];exact h))
 ·exact .inl (.inr ⟨o,by rw[au (fun z=>by rw[z,hl]at h;cases h)];exact h⟩)
 ·exact .inr h
def XQ (z:Str)(k:Kd)(n:Int):Option Str:=match jF z k n with
 |.str y=>some y
 |_=>none
def adJ (p:Int->Bool):Bool:=(List.range 10).all fun m=>p (m:Nat)
theorem Y8:(ST.all fun z=>Y7.all fun k=>adJ fun c=>match jF z k c with|.str y=>decide (y∈ST)|.non=>true|_=>false)=true:=by lk
theorem XR {z:Str}(hz:z∈ST)(k:Kd){n:Int}(h0:0<=n)(h9:n<=9):(jF z k n=.non/\XQ z k n=none)\/∃ y∈ST,jF z k n=.str y/\XQ z k n=some y:=by
 have h1:=all_eq_true.mp (all_eq_true.mp (all_eq_true.mp Y8 z hz) k (Lx k)) n.toNat (mem_range.mpr (by omega));rw[Int.toNat_of_nonneg h0]at h1;dsimp only at h1;unfold XQ;cases e:jF z k n with
 |non=>exact .inl ⟨rfl,rfl⟩
 |str y=>rw[e]at h1;exact .inr ⟨y,of_decide_eq_true h1,rfl,rfl⟩
 |_=>rw[e]at h1;cases h1
abbrev Mv:=Sg×Int×Str
def Ly (c:iA)(z:Str)(n:Int)(s:Sg):Option Mv:=match costOf c s.1,XQ z s.1 n with
 |some m,some y=>some (s,m,y)
 |_,_=>none
def bZ (c:iA)(z:Str)(n:Int)(ss:List Sg):List Mv:=ss.filterMap (Ly c z n)
theorem B1 {c:iA}{z:Str}(hz:z∈ST){n:Int}(h0:0<=n)(h9:n<=9){ss:List Sg}{m:Mv}(hm:m∈bZ c z n ss):m.2.2∈ST:=by
 obtain⟨s,hs,e⟩:=List.mem_filterMap.mp hm;unfold Ly at e;rcases XR hz s.1 h0 h9 with ⟨_,e2⟩|⟨y,hy,_,e2⟩
 ·rw[e2]at e;cases h:costOf c s.1 <;> rw[h]at e <;> cases e
 ·rw[e2]at e;cases h:costOf c s.1 with
  |none=>rw[h]at e;cases e
  |some k=>rw[h]at e;cases e;exact hy
theorem QR (c:iA)(z:Str)(n:Int)(ss:List Sg):(bZ c z n ss).length<=ss.length:=List.length_filterMap_le ..
theorem Ni {c:iA}{z:Str}{n:Int}{ss:List Sg}{i:Nat}{s:Sg}(h:ss[i]? = some s):bZ c z n (ss.take (i+1))=bZ c z n (ss.take i)++(match Ly c z n s with|some m=>[m]|none=>[]):=by
 unfold bZ;rw[take_succ,h,List.filterMap_append]
 congr 1
 show List.filterMap (Ly c z n) [s]=_;rw[List.filterMap_cons];cases Ly c z n s <;> rfl
def Lz (K:Frag)(H:Hp)(y:V)(m:Mv):Prop:=∃ p q,y=.ref p/\H p=some (.tup [.ref q,.int m.2.1,.str m.2.2])/\dc K H q [.str m.1.1.str,.int m.1.2]
theorem Lz.kn {K:Frag}{H H':Hp}(k:Kn H H'){y:V}{m:Mv}(h:Lz K H y m):Lz K H' y m:=by
 obtain⟨p,q,e,h1,h2⟩:=h;exact⟨p,q,e,k _ _ h1 rfl,k.tup h2⟩
theorem Lz.write {K:Frag}{H:Hp}{l:Addr}{xs:List V}{o:HO}(hl:H l=some (.lst xs)){y:V}{m:Mv}(h:Lz K H y m):Lz K (upd H l o) y m:=by
 obtain⟨p,q,e,h1,h2⟩:=h;refine⟨p,q,e,by rw[au (fun z=>by rw[z,hl]at h1;cases h1)];exact h1,?_⟩;rcases h2 with (h|⟨o,h⟩)|h
 ·exact .inl (.inl (by rw[au (fun z=>by rw[z,hl]at h;cases h)];exact h))
 ·exact .inl (.inr ⟨o,by rw[au (fun z=>by rw[z,hl]at h;cases h)];exact h⟩)
 ·exact .inr h
abbrev Wy:=Str×Int×List Sg
def oO:List Wy->Str->Option (Int×List Sg)
 |[],_=>none
 |w::t,z=>if w.1=z then some w.2 else oO t z
def Nj (ws:List Wy)(z:Str)(c:Int)(ln:List Sg):List Wy:=ws.map fun w=>if w.1=z then(z,c,ln) else w
def Tz (ws:List Wy)(z:Str)(c:Int)(ln:List Sg):List Wy:=match oO ws z with
 |none=>ws++[(z,c,ln)]
 |some _=>Nj ws z c ln
def la (ws:List Wy)(z:Str)(c:Int)(ln:List Sg):List Wy:=match oO ws z with
 |none=>ws++[(z,c,ln)]
 |some q=>if c<q.1 then Nj ws z c ln else ws
def ij (k:Int)(ln:List Sg)(ms:List Mv)(acc:List Wy):List Wy:=ms.foldl (fun acc m=>la acc m.2.2 (k+m.2.1) (ln++[m.1])) acc
def oP:List Sg:=[(.dot,0),(.three,0),(.two,0)]
def lg (c:iA)(zs:List Str)(acc:List Wy):List Wy:=zs.foldl (fun acc z=>match oO acc z with|some q=>ij q.1 q.2 (bZ c z 0 oP) acc|none=>acc) acc
def HL (c:iA)(ws:List Wy):Nat->List Wy
 |0=>ws
 |i+1=>lg c ((HL c ws i).map (·.1)) (HL c ws i)
def withPart (c:iA)(ws:List Wy):List Wy:=HL c ws 2
def gC (t:Int):List Sg:=if t = -1 then [(.R,0),(.r,0)] else [(.G,t),(.D,t),(.s,t),(.d,t)]
def oQ (c:iA)(ws:List Wy)(q:Int×Int):List Wy:=ws.foldl (fun acc w=>ij w.2.1 w.2.2 (bZ c w.1 q.2 (gC q.1)) acc) []
def vJ (ws:List Wy):List (Str×Int):=ws.map fun w=>(w.1,w.2.1)
structure fW (B:Nat)(ws:List Wy):Prop where
 nd:(ws.map (·.1)).Nodup
 st:∀ w∈ws,w.1∈ST
 ln:∀ w∈ws,w.2.2.length<=B
theorem fW.mono {B B':Nat}{ws:List Wy}(h:fW B ws)(hb:B<=B'):fW B' ws:=⟨h.nd,h.st,fun w hw=>Nat.le_trans (h.ln w hw) hb⟩
theorem TB {α:Type}[DecidableEq α]:∀(l L:List α),l.Nodup->(∀ x∈l,x∈L)->l.length<=L.length
 |[],_,_,_=>Nat.zero_le _
 |x::t,L,nd,h=>by
  have hx:=h x mem_cons_self;have h1:=TB t (L.erase x) (List.nodup_cons.mp nd).2 fun y hy=>by
   have hne:y≠x:=fun z=>(List.nodup_cons.mp nd).1 (z ▸ hy);exact(List.mem_erase_of_ne hne).mpr (h y (mem_cons_of_mem _ hy))
  have h2:=List.length_erase_of_mem hx;have h3:0<L.length:=List.length_pos_of_mem hx;rw[length_cons];omega
theorem fW.len {B:Nat}{ws:List Wy}(h:fW B ws):ws.length<=28:=by
 have:=TB (ws.map (·.1)) ST h.nd fun x hx=>by
  obtain⟨w,hw,rfl⟩:=mem_map.mp hx;exact h.st w hw
 rwa [length_map]at this
theorem vK:∀{ws:List Wy} {z:Str},oO ws z=none->z ∉ ws.map (·.1)
 |[],_,_=>by simp
 |w::t,z,h=>by
  unfold oO at h;split at h
  ·cases h
  ·next hne =>
   intro hm;rcases List.mem_cons.mp hm with e|e
   ·exact hne e.symm
   ·exact vK h e
theorem tD:∀{ws:List Wy} {z:Str} {q:Int×List Sg},oO ws z=some q->(z,q)∈ws
 |w::t,z,q,h=>by
  unfold oO at h;split at h
  ·next e=>cases h;subst e;exact mem_cons_self
  ·exact mem_cons_of_mem _ (tD h)
theorem QS {ws:List Wy}{z:Str}(h:z∈ws.map (·.1)):∃ q,oO ws z=some q:=by
 cases e:oO ws z with
 |none=>exact absurd h (vK e)
 |some q=>exact⟨q,rfl⟩
theorem GP (ws:List Wy)(z:Str)(c:Int)(ln:List Sg):(Nj ws z c ln).map (·.1)=ws.map (·.1):=by
 unfold Nj;rw[List.map_map];refine List.map_congr_left fun w _=>?_;show(if w.1=z then(z,c,ln) else w).1=w.1;split
 ·next e=>exact e.symm
 ·rfl
theorem TC {B:Nat}{ws:List Wy}(h:fW B ws){z:Str}(hz:z∈ST){c:Int}{ln:List Sg}(hl:ln.length<=B):fW B (la ws z c ln):=by
 unfold la;split
 ·next e =>
  refine⟨?_,fun w hw=>?_,fun w hw=>?_⟩
  ·rw[map_append];refine List.nodup_append.mpr ⟨h.nd,by simp,fun a ha b hb=>?_⟩;have:b=z:=by simpa using hb
   subst this;exact fun e2=>vK e (e2 ▸ ha)
  ·rcases mem_append.mp hw with q|q
   ·exact h.st w q
   ·rw[mem_singleton.mp q];exact hz
  ·rcases mem_append.mp hw with q|q
   ·exact h.ln w q
   ·rw[mem_singleton.mp q];exact hl
 ·split
  ·refine⟨by rw[GP];exact h.nd,fun w hw=>?_,fun w hw=>?_⟩
   all_goals
    obtain⟨v,hv,rfl⟩:=mem_map.mp hw;split
   ·exact hz
   ·exact h.st v hv
   ·exact hl
   ·exact h.ln v hv
  ·exact h
theorem Nk (ws:List Wy)(z:Str)(c:Int)(ln:List Sg){x:Str}(h:x∈ws.map (·.1)):x∈(la ws z c ln).map (·.1):=by
 unfold la;split
 ·rw[map_append];exact mem_append_left _ h
 ·split
  ·rw[GP];exact h
  ·exact h
theorem oR {B:Nat}{k:Int}{ln:List Sg}(hl:ln.length+1<=B):∀{ms:List Mv} {acc:List Wy},(∀ m∈ms,m.2.2∈ST)->fW B acc->fW B (ij k ln ms acc)
 |[],_,_,h=>h
 |m::t,acc,hm,h=>oR hl (ms:=t) (fun x hx=>hm x (mem_cons_of_mem _ hx)) (TC h (hm m mem_cons_self) (by rw[length_append];exact hl))
theorem B2 (k:Int)(ln:List Sg):∀(ms:List Mv)(acc:List Wy) {x:Str},x∈acc.map (·.1)->x∈(ij k ln ms acc).map (·.1)
 |[],_,_,h=>h
 |m::t,acc,_,h=>B2 k ln t _ (Nk _ _ _ _ h)
def gj (K:Frag)(A:Addr->Prop)(H:Hp)(kv:Key×V)(w:Wy):Prop:=kv.1=Sum.inr w.1/\∃ t l ys,kv.2=.ref t/\A l/\H t=some (.tup [.int w.2.1,.ref l])/\H l=some (.lst ys)/\Paired (qC K H) ys w.2.2
theorem gj.kn {K:Frag}{A:Addr->Prop}{H H':Hp}(k:Kn H H'){kv:Key×V}{w:Wy}(h:gj K A H kv w):gj K A H' kv w:=by
 obtain⟨e,t,l,ys,e2,a,h1,h2,h3⟩:=h;exact⟨e,t,l,ys,e2,a,k _ _ h1 rfl,k _ _ h2 rfl,qC.tw k h3⟩
theorem gj.tw {K:Frag}{A:Addr->Prop}{H H':Hp}(k:Kn H H'){kvs:List (Key×V)}{ws:List Wy}(h:Paired (gj K A H) kvs ws):Paired (gj K A H') kvs ws:=bU (fun _ _ q=>gj.kn k q) h
theorem gj.write {K:Frag}{A:Addr->Prop}{H:Hp}{d:Addr}{xs:List V}{o:HO}(hd:H d=some (.lst xs))(hA:¬ A d){kv:Key×V}{w:Wy}(h:gj K A H kv w):gj K A (upd H d o) kv w:=by
 obtain⟨e,t,l,ys,e2,a,h1,h2,h3⟩:=h;exact⟨e,t,l,ys,e2,a,by rw[au (fun z=>by rw[z,hd]at h1;cases h1)];exact h1,by rw[au (fun z=>hA (by rw[<-z];exact a))];exact h2,bU (fun _ _ q=>qC.write hd q) h3⟩
theorem gj.away {K:Frag}{A:Addr->Prop}{H:Hp}{p:Addr}(hp:H p=none){kv:Key×V}{w:Wy}(h:gj K A H kv w):gj K (· ≠ p) H kv w:=by
 obtain⟨e,t,l,ys,e2,a,h1,h2,h3⟩:=h;exact⟨e,t,l,ys,e2,aQ h2 hp,h1,h2,h3⟩
theorem gj.val {K:Frag}{A:Addr->Prop}{H:Hp}{kvs:List (Key×V)}{ws:List Wy}(h:Paired (gj K A H) kvs ws)(z:Str):(oO ws z=none/\vF kvs (Sum.inr z)=none)\/∃ q v,oO ws z=some q/\vF kvs (Sum.inr z)=some v/\gj K A H (Sum.inr z,v) (z,q):=by
 induction h with
 |nil=>exact .inl ⟨rfl,rfl⟩
 | @cons kv w kvs ws h0 _ ih =>
  unfold oO
  by_cases e:w.1=z
  ·refine .inr ⟨w.2,kv.2,if_pos e,?_,?_⟩
   ·exact sZ (by rw[h0.1,e])
   ·subst e;obtain⟨e1,r⟩:=h0;exact⟨rfl,r⟩
  ·rw[if_neg e,tf (fun q=>e (Sum.inr.inj (h0.1.symm.trans q)))];exact ih
theorem gj.put {K:Frag}{A:Addr->Prop}{H:Hp}{kvs:List (Key×V)}{ws:List Wy}(h:Paired (gj K A H) kvs ws){z:Str}{v:V}{c:Int}{ln:List Sg}(hv:gj K A H (Sum.inr z,v) (z,c,ln)):Paired (gj K A H) (putK kvs (Sum.inr z) v) (Tz ws z c ln):=by
 unfold putK Tz;rcases gj.val h z with ⟨e1,e2⟩|⟨q,u,e1,e2,_⟩
 ·rw[tj,e2,if_neg (by decide),e1];exact lP h hv
 ·rw[tj,e2,if_pos (show(some u).isSome=true from rfl),e1];clear e1 e2;show Paired _ _ (Nj ws z c ln);unfold Nj
  induction h with
  |nil=>exact .nil
  | @cons kv w kvs ws h0 _ ih =>
   refine .cons ?_ ih;show gj K A H (if kv.1=Sum.inr z then(kv.1,v) else kv) (if w.1=z then(z,c,ln) else w)
   by_cases e:w.1=z
   ·rw[if_pos e,if_pos (by rw[h0.1,e]),h0.1,e];exact hv
   ·rw[if_neg e,if_neg (fun q=>e (Sum.inr.inj (h0.1.symm.trans q)))];exact h0
def oS (c:iA)(acc:List Wy)(z:Str):List Wy:=match oO acc z with
 |some q=>ij q.1 q.2 (bZ c z 0 oP) acc
 |none=>acc
theorem B3 (c:iA)(z:Str)(t:List Str)(acc:List Wy):lg c (z::t) acc=lg c t (oS c acc z):=rfl
theorem Nl (c:iA)(zs:List Str)(z:Str)(acc:List Wy):lg c (zs++[z]) acc=oS c (lg c zs acc) z:=by
 unfold lg;rw[List.foldl_append];rfl
theorem B4 {c:iA}{z:Str}(hz:z∈ST){m:Mv}(hm:m∈bZ c z 0 oP):m.2.2∈ST:=B1 hz (by decide) (by decide) hm
theorem TF {B:Nat}{c:iA}{acc:List Wy}(h:fW B acc){z:Str}(hz:z∈ST):fW (B+1) (oS c acc z):=by
 unfold oS;cases e:oO acc z with
 |none=>exact h.mono (Nat.le_succ _)
 |some q =>
  have:=h.ln _ (tD e);exact oR (by show q.2.length+1<=_;have:q.2.length<=B:=this;omega) (fun m hm=>B4 hz hm) (h.mono (Nat.le_succ _))
theorem B5 {c:iA}:∀{zs:List Str} {acc:List Wy} {B:Nat},(∀ z∈zs,z∈ST)->fW B acc->fW (B+zs.length) (lg c zs acc)
 |[],_,_,_,h=>h
 |z::t,acc,B,hz,h=>by
  rw[B3];exact(B5 (zs:=t) (fun x hx=>hz x (mem_cons_of_mem _ hx)) (TF h (hz z mem_cons_self))).mono (by rw[length_cons];omega)
theorem Nm (c:iA)(acc:List Wy)(z:Str){x:Str}(h:x∈acc.map (·.1)):x∈(oS c acc z).map (·.1):=by
 unfold oS;cases oO acc z with
 |none=>exact h
 |some q=>exact B2 _ _ _ _ h
theorem B6 (c:iA):∀(zs:List Str)(acc:List Wy) {x:Str},x∈acc.map (·.1)->x∈(lg c zs acc).map (·.1)
 |[],_,_,h=>h
 |z::t,acc,_,h=>B6 c t _ (Nm c acc z h)
theorem HM {c:iA}{ws:List Wy}{B:Nat}(h:fW B ws):∀ i,fW (B+28 * i) (HL c ws i)
 |0=>h
 |i+1=>by
  have h1:=HM (c:=c) h i;have h2:=B5 (c:=c) (zs:=(HL c ws i).map (·.1)) (fun z hz=>by
   obtain⟨w,hw,rfl⟩:=mem_map.mp hz;exact h1.st w hw) h1
  exact h2.mono (by rw[length_map];have:=h1.len;omega)
theorem Y9 {K:Frag}{A:Addr->Prop}{H:Hp}{kvs:List (Key×V)}{ws:List Wy}(h:Paired (gj K A H) kvs ws):(kvs.map fun kv=>kV kv.1)=(ws.map (·.1)).map V.str:=by
 induction h with
 |nil=>rfl
 |cons h0 _ ih =>
  rw[map_cons,map_cons,map_cons,ih,h0.1];rfl
def gD (c:iA)(q:Int×Int)(ws:List Wy)(acc:List Wy):List Wy:=ws.foldl (fun acc w=>ij w.2.1 w.2.2 (bZ c w.1 q.2 (gC q.1)) acc) acc
theorem E9 (c:iA)(q:Int×Int)(ws:List Wy)(w:Wy)(acc:List Wy):gD c q (ws++[w]) acc=ij w.2.1 w.2.2 (bZ c w.1 q.2 (gC q.1)) (gD c q ws acc):=by
 unfold gD;rw[List.foldl_append];rfl
theorem fW.nil (B:Nat):fW B []:=⟨.nil,fun _ h=>(nomatch h),fun _ h=>(nomatch h)⟩
theorem oT {B:Nat}{c:iA}{q:Int×Int}(h0:0<=q.2)(h9:q.2<=9):∀{ws acc:List Wy},(∀ w∈ws,w.1∈ST)->(∀ w∈ws,w.2.2.length<=B)->fW (B+1) acc->fW (B+1) (gD c q ws acc)
 |[],_,_,_,h=>h
 |w::t,acc,hs,hl,h=>oT h0 h9 (ws:=t) (fun x hx=>hs x (mem_cons_of_mem _ hx)) (fun x hx=>hl x (mem_cons_of_mem _ hx))
   (oR (by have:=hl w mem_cons_self;omega) (fun m hm=>B1 (hs w mem_cons_self) h0 h9 hm) h)
theorem yu {B:Nat}{c:iA}{q:Int×Int}(h0:0<=q.2)(h9:q.2<=9){ws:List Wy}(h:fW B ws):fW (B+1) (oQ c ws q):=oT h0 h9 h.st h.ln (fW.nil _)
theorem yv {B:Nat}{c:iA}{ws:List Wy}(h:fW B ws):fW (B+56) (withPart c ws):=HM h 2
def Nn (H:Hp)(y:V)(q:Str×Int):Prop:=∃ p,y=.ref p/\H p=some (.tup [.str q.1,.int q.2])
theorem Nn.kn {H H':Hp}(k:Kn H H'){y:V}{q:Str×Int}(h:Nn H y q):Nn H' y q:=by
 obtain⟨p,e,h1⟩:=h;exact⟨p,e,k _ _ h1 rfl⟩
theorem Nn.write {H:Hp}{l:Addr}{xs:List V}{o:HO}(hl:H l=some (.lst xs)){y:V}{q:Str×Int}(h:Nn H y q):Nn (upd H l o) y q:=by
 obtain⟨p,e,h1⟩:=h;exact⟨p,e,by rw[au (fun z=>by rw[z,hl]at h1;cases h1)];exact h1⟩
def LA (pp:Addr)(H:Hp)(y:V)(cs:List (Str×Int)):Prop:=∃ l xs,y=.ref l/\l≠pp/\H l=some (.lst xs)/\Paired (Nn H) xs cs
theorem LA.kn {pp:Addr}{H H':Hp}(k:Kn H H'){y:V}{q:List (Str×Int)}(h:LA pp H y q):LA pp H' y q:=by
 obtain⟨l,xs,e,ne,h1,h2⟩:=h;exact⟨l,xs,e,ne,k _ _ h1 rfl,bU (fun _ _ q=>Nn.kn k q) h2⟩
theorem LA.write {pp:Addr}{H:Hp}{zs:List V}{o:HO}(hp:H pp=some (.lst zs)){y:V}{q:List (Str×Int)}(h:LA pp H y q):LA pp (upd H pp o) y q:=by
 obtain⟨l,xs,e,ne,h1,h2⟩:=h;exact⟨l,xs,e,ne,by rw[au ne];exact h1,bU (fun _ _ q=>Nn.write hp q) h2⟩
def MJ (b:Int):Str:=if b=3 then "3n0-" else "2-"
theorem TJ (b:Int):MJ b∈ST:=by
 unfold MJ;split <;> decide +kernel
def XT (c:iA)(b:Int):List Wy:=withPart c [(MJ b,0,[])]
def ik (c:iA)(b:Int)(qs:List (Int×Int)):List Wy:=qs.foldl (fun ws q=>withPart c (oQ c ws q)) (XT c b)
theorem qL (c:iA)(b:Int)(qs:List (Int×Int))(q:Int×Int):ik c b (qs++[q])=withPart c (oQ c (ik c b qs) q):=by
 unfold ik;rw[List.foldl_append];rfl
def HN (c:iA)(b:Int)(qs:List (Int×Int))(i:Nat):List (List (Str×Int)):=(List.range (i+1)).map fun j=>vJ (ik c b (qs.take j))
theorem QT (c:iA)(b:Int)(qs:List (Int×Int))(i:Nat):HN c b qs (i+1)=HN c b qs i++[vJ (ik c b (qs.take (i+1)))]:=by
 unfold HN;rw[List.range_succ,map_append];rfl
def B7 (c:iA)(b:Int)(qs:List (Int×Int)):List Wy:=(ik c b qs).filter fun w=>fQ w.1
def XU (qs:List (Int×Int)):Prop:=∀ q∈qs,0<=q.2/\q.2<=9
theorem TK (c:iA)(b:Int):fW 56 (XT c b):=yv (B:=0) ⟨by simp,fun w hw=>by rw[mem_singleton.mp hw];exact TJ b,fun w hw=>by rw[mem_singleton.mp hw];exact Nat.le_refl _⟩
theorem lQ {c:iA}{b:Int}{qs:List (Int×Int)}(hq:XU qs):∀ i,fW (56+57 * i) (ik c b (qs.take i))
 |0=>TK c b
 |i+1=>by
  have h1:=lQ (c:=c) (b:=b) hq i;cases e:qs[i]? with
  |none=>rw[take_succ,e];exact(show fW _ (ik c b (qs.take i++[])) by rw[append_nil];exact h1.mono (by omega))
  |some q =>
   have hm:=hq q (mem_of_getElem? e);rw[take_succ,e];show fW _ (ik c b (qs.take i++[q]));rw[qL];exact(yv (yu hm.1 hm.2 h1)).mono (by omega)
def ZJ (K:Frag)(H:Hp)(y:V)(w:Wy):Prop:=∃ t l ys,y=.ref t/\H t=some (.tup [.int w.2.1,.ref l])/\H l=some (.lst ys)/\Paired (qC K H) ys w.2.2
theorem ZJ.kn {K:Frag}{H H':Hp}(k:Kn H H'){y:V}{w:Wy}(h:ZJ K H y w):ZJ K H' y w:=by
 obtain⟨t,l,ys,e2,h1,h2,h3⟩:=h;exact⟨t,l,ys,e2,k _ _ h1 rfl,k _ _ h2 rfl,qC.tw k h3⟩
theorem TL {ws:List Wy}{i:Nat}{w:Wy}(h:ws[i]? = some w):(ws.take (i+1)).filter (fun w=>fQ w.1)=(ws.take i).filter (fun w=>fQ w.1)++(if fQ w.1=true then [w] else []):=by
 rw[take_succ,h,List.filter_append]
 congr 1
 show List.filter _ [w]=_;rw[List.filter_cons];rfl
set_option maxHeartbeats 1000000
def fd (ks:List Kd)(rs:List (Nat×Nat))(f:List Int):List Int:=rs.foldl (fun f q=>(settle ks f q.1 q.2).2) f
theorem PU (ks:List Kd):∀(rs:List (Nat×Nat)) (c:Tu),(rs.foldl (iz ks) c).1=fd ks rs c.1
 |[],_=>rfl
 |r::t,c=>by rw[List.foldl_cons,PU ks t];rfl
def rd (m:Int)(ks:List Kd):List Int:=(fb m ks).1
theorem tE (m:Int)(ks:List Kd):rd m ks=fd ks (bc m ks) (aH m ks):=PU ks _ _
def shift (n:Nat)(rs:List (Nat×Nat)):List (Nat×Nat):=rs.map fun q=>(q.1+n,q.2+n)
theorem lh (n m:Nat)(rs:List (Nat×Nat)):shift n (shift m rs)=shift (m+n) rs:=by
 unfold shift;rw[List.map_map]
 congr 1
 funext q
 simp only [Function.comp,Nat.add_assoc]
theorem shF (bs:List Bool)(n a f:Nat):aO (a+n) (f+n) bs=shift n (aO a f bs):=by
 induction bs generalizing a f with
 |nil =>
  unfold aO
  by_cases h:f<a
  ·rw[if_pos h,if_pos (by omega)];rfl
  ·rw[if_neg h,if_neg (by omega)];rfl
 |cons b t ih =>
  cases b with
  |true =>
   simp only [aO];rw[<-ih (a+1) f,Nat.add_right_comm]
  |false =>
   simp only [aO];rw[show a+n+1=a+1+n by omega,ih (a+1) (a+1)];unfold shift;rw[map_append]
   congr 1
   by_cases h:f<a
   ·rw[if_pos h,if_pos (by omega)];rfl
   ·rw[if_neg h,if_neg (by omega)];rfl
theorem GQ (A B:List Kd)(f g:List Int)(hf:f.length=A.length)(hg:g.length=B.length){a z:Nat}(haz:a<z)(hz:z<=B.length)(h0:a=0->bE (A++B) (f++g) A.length=false) :
  (settle (A++B) (f++g) (a+A.length) (z+A.length)).2=f++(settle B g a z).2:=by
 have ix:∀ j,(A++B)[j+A.length]? = B[j]?:=fun j=>by
  rw[getElem?_append_right (by omega),Nat.add_sub_cancel]
 have hl:bE (A++B) (f++g) (a+A.length)=bE B g a:=by
  by_cases e0:a=0
  ·have:=h0 e0;subst e0;rw[Nat.zero_add,this];rfl
  ·unfold bE Sf;rw[if_pos (by omega),if_pos (by omega)];have e1:(((a+A.length:Nat):Int)-1).toNat=(a-1)+A.length:=by omega
   have e2:(((a:Nat):Int)-1).toNat=a-1:=by omega
   rw[e1,e2,ix]
   congr 2
   rw[List.getD_eq_getElem?_getD,List.getD_eq_getElem?_getD,getElem?_append_right (by omega)];have e3:a+A.length-1-f.length=a-1:=by omega
   rw[e3]
 have hr:bS (A++B) (z+A.length)=bS B z:=by
  unfold bS;rw[ix,show z+A.length+1=(z+1)+A.length by omega,ix]
 have st:∀(h:List Int)(j:Nat),(f++h).set (j+A.length) 2=f++h.set j 2:=fun h j=>by
  rw[List.set_append_right _ _ (by omega)]
  congr 2
  omega
 have ed:z+A.length-(a+A.length)=z-a:=by omega
 have ez:z+A.length-1=(z-1)+A.length:=by omega
 have hlp:bE B g a=true->a+A.length-1=(a-1)+A.length:=fun h=>by have:=vH h;omega
 unfold settle iY iZ;rw[hl,hr,ed,ez,ix,ix];split
 ·split
  ·rename_i h;rw[hlp h,st]
  ·split
   ·rw[st]
   ·rfl
 ·split
  ·split
   ·rw[st]
   ·split
    ·rename_i h
     obtain⟨h1,h2⟩:=Bool.and_eq_true_iff.mp h;rw[hlp h1,st,st]
    ·rfl
  ·rfl
theorem GR (A B:List Kd)(f:List Int)(hf:f.length=A.length):∀(rs:List (Nat×Nat)) (g:List Int),g.length=B.length->(∀ q∈rs,q.1<q.2/\q.2<=B.length/\(q.1=0->∀ g',bE (A++B) (f++g') A.length=false)) ->
  fd (A++B) (shift A.length rs) (f++g)=f++fd B rs g
 |[],_,_,_=>rfl
 |r::t,g,hg,h=>by
  obtain⟨h1,h2,h3⟩:=h r mem_cons_self;show fd (A++B) (shift A.length t) (settle (A++B) (f++g) (r.1+A.length) (r.2+A.length)).2=f++fd B t (settle B g r.1 r.2).2;rw[GQ A B f g hf hg h1 h2 fun e=>h3 e g];exact GR A B f hf t _ (by rw[mW];exact hg) fun q hq=>h q (mem_cons_of_mem _ hq)
def ones (n:Nat):List Int:=List.replicate n 1
def fc (r:List Kd):Prop:=∀ k∈r,k.small=true
def Cut (B:List Kd):Prop:=∀ k t,B=k::t->k.small=false
theorem LB {k:Kd}(h:k.small=true)(m:Int):nm m k=m:=by cases k <;> first|rfl|cases h
theorem qM:∀(r:List Kd),fc r->∀ B,cT 3 (r++B)=List.replicate r.length true++cT 3 B
 |[],_,B=>rfl
 |k::t,h,B=>by
  have hk:=h k mem_cons_self;show inR (nm 3 k) k::cT (nm 3 k) (t++B)=_;rw[LB hk,qM t (fun x hx=>h x (mem_cons_of_mem _ hx)) B];have:inR 3 k=true:=by unfold inR;rw[hk];rfl
  rw[this];rfl
theorem i8:∀(r:List Kd),fc r->∀ B,aH 3 (r++B)=ones r.length++aH 3 B
 |[],_,B=>rfl
 |k::t,h,B=>by
  have hk:=h k mem_cons_self;show bw (nm 3 k) k (t++B).head? :: aH (nm 3 k) (t++B)=_;rw[LB hk,i8 t (fun x hx=>h x (mem_cons_of_mem _ hx)) B];have:bw 3 k (t++B).head? = 1:=by
   unfold bw;rw[if_neg (by rintro⟨z,_⟩;cases z)];cases k <;> first|rfl|cases hk
  rw[this];rfl
theorem qN:∀(c a f:Nat)(bs:List Bool),aO a f (List.replicate c true++bs)=aO (a+c) f bs
 |0,a,f,bs=>rfl
 |c+1,a,f,bs=>by
  show aO (a+1) f (List.replicate c true++bs)=_;rw[qN c (a+1) f bs]
  congr 1
  omega
theorem GU {B:List Kd}(h:Cut B)(a f:Nat):aO a f (cT 3 B)=(if f<a then [(f,a)] else [])++shift a (bc 3 B):=by
 cases B with
 |nil =>
  show(if f<a then [(f,a)] else [])=_++shift a (aO 0 0 []);simp[aO,shift]
 |cons k t =>
  have hk:=h k t rfl;have e:inR (nm 3 k) k=false:=by unfold inR;rw[hk,Bool.and_false]
  show aO a f (inR (nm 3 k) k::cT (nm 3 k) t)=_++shift a (aO 0 0 (inR (nm 3 k) k::cT (nm 3 k) t));rw[e];simp only [aO];rw[if_neg (Nat.lt_irrefl 0),nil_append,<-shF]
  congr 2 <;> omega
theorem TM {r B:List Kd}(hr:fc r)(h:Cut B):bc 3 (r++B)=(if 0<r.length then [(0,r.length)] else [])++shift r.length (bc 3 B):=by
 show aO 0 0 (cT 3 (r++B))=_;rw[qM r hr,qN,Nat.zero_add,GU h]
theorem PV {r B:List Kd}(hr:fc r)(h:Cut B):bc 3 (.G::r++B)=(if 0<r.length then [(1,r.length+1)] else [])++shift (r.length+1) (bc 3 B):=by
 show aO 0 0 (cT 3 (.G::(r++B)))=_;show aO 0 0 (false::cT 3 (r++B))=_;simp only [aO];rw[if_neg (Nat.lt_irrefl 0),nil_append,qM r hr,qN,GU h];rw[show 0+1+r.length=r.length+1 by omega]
 by_cases c:0<r.length
 ·rw[if_pos c,if_pos (by omega)]
 ·rw[if_neg c,if_neg (by omega)]
theorem HP (B:List Kd):bc 3 (.G::B)=shift 1 (bc 3 B):=by
 show aO 0 0 (false::cT 3 B)=_;simp only [aO];rw[if_neg (Nat.lt_irrefl 0),nil_append];exact shF _ 1 0 0
theorem vL (B:List Kd):aH 3 (.G::B)=3::aH 3 B:=by
 show bw 3 .G B.head? :: aH 3 B=_;unfold bw;rw[if_neg (by rintro⟨z,_⟩;cases z)];rfl
def dh (B:List Kd):Bool:=decide (B[0]? = some .G) && !eh B[1]?
def dbl (r B:List Kd):Bool:=eh B[0]? && decide (r.getLast? = some .s)
def dW (r B:List Kd):List Int:=if r.length % 3=2/\dbl r B=true then ones (r.length-1)++[2] else ones r.length
theorem B8 {r B:List Kd}(h:0<r.length):(r++B)[r.length-1]? = r.getLast?:=by
 rw[List.getElem?_append_left (by omega),List.getLast?_eq_getElem?]
theorem aB (n:Nat):(ones n).length=n:=List.length_replicate
theorem tG (n:Nat)(h:0<n):(ones n).set (n-1) 2=ones (n-1)++[2]:=by
 obtain⟨k,rfl⟩:∃ k,n=k+1:=⟨n-1,by omega⟩;show(ones (k+1)).set k 2=ones k++[2];unfold ones
 induction k with
 |zero=>rfl
 |succ k ih =>
  show(1:Int)::(List.replicate (k+1) (1:Int)).set k 2=1::(List.replicate k 1++[2]);rw[ih (by omega)]
theorem noG {r:List Kd}(hr:fc r){B:List Kd}{f:List Int}(h:0<r.length)(P:List Kd):bE (P++r++B) f (P++r).length=false:=by
 unfold bE;rw[length_append];have e1:(((P.length+r.length:Nat):Int)-1).toNat=(r.length-1)+P.length:=by omega
 have:Sf (P++r++B) (((P.length+r.length:Nat):Int)-1)≠some .G:=by
  unfold Sf;rw[if_pos (by omega),e1,List.append_assoc,getElem?_append_right (by omega),Nat.add_sub_cancel,B8 h];intro e;have:=hr _ (List.mem_of_getLast? e);cases this
 rw[decide_eq_false this];rfl
theorem adK {r B:List Kd}(hr:fc r)(hB:Cut B)(hc:0<r.length):rd 3 (r++B)=dW r B++(if r.length % 3=1/\dh B=true then 2::rd 3 B.tail else rd 3 B):=by
 have hin:∀ q∈bc 3 B,q.1<q.2/\q.2<=B.length:=bM 3 B;have l0:bE (r++B) (ones r.length++aH 3 B) 0=false:=rfl;have rz:bS (r++B) r.length=dh B:=by
  unfold bS dh;rw[getElem?_append_right (Nat.le_refl _),getElem?_append_right (by omega),Nat.sub_self,Nat.add_sub_cancel_left]
 have gz:(r++B)[r.length]? = B[0]?:=by rw[getElem?_append_right (Nat.le_refl _),Nat.sub_self]
 have hd:(eh (r++B)[r.length]? && decide ((r++B)[r.length-1]? = some .s))=dbl r B:=by rw[gz,B8 hc];rfl
 rw[tE,TM hr hB,if_pos hc,i8 r hr];show fd (r++B) (shift r.length (bc 3 B)) (settle (r++B) (ones r.length++aH 3 B) 0 r.length).2=_;have plain:∀ f:List Int,f.length=r.length->fd (r++B) (shift r.length (bc 3 B)) (f++aH 3 B)=f++rd 3 B:=fun f hf=>by
  rw[GR r B f hf (bc 3 B) (aH 3 B) (cH 3 B) fun q hq=>⟨(hin q hq).1,(hin q hq).2,fun _ g'=>noG hr hc []⟩,tE]
 unfold settle iY iZ;rw[l0,rz,hd,Nat.sub_zero]
 by_cases c1:r.length % 3=1
 ·have e:dW r B=ones r.length:=by unfold dW;rw[if_neg (by omega)]
  rw[if_pos c1,if_neg Bool.false_ne_true,e]
  by_cases hb:dh B=true
  ·rw[if_pos hb,if_pos ⟨c1,hb⟩];obtain⟨t,rfl⟩:∃ t,B=.G::t:=by
    have:=of_decide_eq_true (Bool.and_eq_true_iff.mp hb).1;cases B with
    |nil=>cases this
    |cons k t=>exact⟨t,by simp at this;rw[this]⟩
   rw[vL,HP,lh];dsimp only;have eL:(ones r.length++(3::aH 3 t)).set r.length 2=(ones r.length++[2])++aH 3 t:=by
    rw[List.set_append_right _ _ (by rw[aB];exact Nat.le_refl _),aB,Nat.sub_self,List.append_assoc];rfl
   rw[eL];have eK:r ++ .G::t=(r++[.G])++t:=by simp
   have eS:1+r.length=(r++[Kd.G]).length:=by simp;omega
   rw[eK,eS,GR (r++[Kd.G]) t (ones r.length++[2]) (by rw[length_append,length_append,aB];rfl) (bc 3 t) (aH 3 t) (cH 3 t) fun q hq=>⟨(bM 3 t q hq).1,(bM 3 t q hq).2,fun _ g'=>?_⟩,<-tE,List.append_assoc]
   ·rfl
   ·unfold bE;have:((ones r.length++[2])++g').getD ((r++[Kd.G]).length-1) 0=2:=by
     rw[List.getD_eq_getElem?_getD,List.append_assoc,getElem?_append_right (by rw[aB];simp),aB];simp
    rw[this];simp
  ·rw[if_neg hb,if_neg (fun z=>hb z.2)];exact plain _ (aB _)
 ·rw[if_neg c1,if_neg (fun z:r.length % 3=1/\_=>c1 z.1)]
  by_cases c2:r.length % 3=2
  ·rw[if_pos c2]
   by_cases hb:dbl r B=true
   ·have e:dW r B=ones (r.length-1)++[2]:=by unfold dW;rw[if_pos ⟨c2,hb⟩]
    rw[if_pos hb,e];dsimp only;rw[List.set_append_left _ _ (by rw[aB];omega),tG _ hc];exact plain _ (by rw[length_append,aB];simp;omega)
   ·have e:dW r B=ones r.length:=by unfold dW;rw[if_neg (fun z=>hb z.2)]
    rw[if_neg hb,Bool.false_and,if_neg Bool.false_ne_true,e];exact plain _ (aB _)
  ·have e:dW r B=ones r.length:=by unfold dW;rw[if_neg (fun z=>c2 z.1)]
   rw[if_neg c2,e];exact plain _ (aB _)
theorem TN {r B:List Kd}(hr:fc r)(hB:Cut B)(hc:0<r.length):rd 3 (.G::r++B) =
  if r.length % 3=1 then 2::(ones r.length++rd 3 B)
  else if r.length % 3=2/\dbl r B=false/\dh B=true then 2::(ones r.length++2::rd 3 B.tail)
  else 3::(dW r B++rd 3 B):=by
 have hin:∀ q∈bc 3 B,q.1<q.2/\q.2<=B.length:=bM 3 B;have kG:(.G::r++B:List Kd)=.G::(r++B):=rfl;have bG:aH 3 (.G::r++B)=(3::ones r.length)++aH 3 B:=by rw[kG,vL,i8 r hr];rfl
 have l0:bE (.G::r++B) ((3::ones r.length)++aH 3 B) 1=true:=rfl;have rz:bS (.G::r++B) (r.length+1)=dh B:=by
  unfold bS dh;rw[kG,List.getElem?_cons_succ,List.getElem?_cons_succ,getElem?_append_right (Nat.le_refl _),getElem?_append_right (by omega),Nat.sub_self,Nat.add_sub_cancel_left]
 have hd:(eh (.G::r++B:List Kd)[r.length+1]? && decide ((.G::r++B:List Kd)[r.length+1-1]? = some .s))=dbl r B:=by
  have e1:(.G::r++B:List Kd)[r.length+1]? = B[0]?:=by rw[kG,List.getElem?_cons_succ,getElem?_append_right (Nat.le_refl _),Nat.sub_self]
  have e2:(.G::r++B:List Kd)[r.length+1-1]? = r.getLast?:=by
   rw[Nat.add_sub_cancel,kG];obtain⟨k,hk⟩:∃ k,r.length=k+1:=⟨r.length-1,by omega⟩;have:=B8 (B:=B) hc;rw[hk,Nat.add_sub_cancel]at this;rw[hk,List.getElem?_cons_succ,this]
  rw[e1,e2];rfl
 rw[tE,PV hr hB,if_pos hc,bG];show fd (.G::r++B) (shift (r.length+1) (bc 3 B)) (settle (.G::r++B) ((3::ones r.length)++aH 3 B) 1 (r.length+1)).2=_;have plain:∀ f:List Int,f.length=r.length+1->fd (.G::r++B) (shift (r.length+1) (bc 3 B)) (f++aH 3 B)=f++rd 3 B:=fun f hf=>by
  have:=GR (.G::r) B f hf (bc 3 B) (aH 3 B) (cH 3 B) fun q hq=>⟨(hin q hq).1,(hin q hq).2,fun _ g'=>noG hr hc [.G]⟩;rw[length_cons]at this;rw[this,tE]
 unfold settle iY iZ;rw[l0,rz,hd,show r.length+1-1=r.length by omega]
 by_cases c1:r.length % 3=1
 ·rw[if_pos c1,if_pos rfl,if_pos c1];exact plain (2::ones r.length) (by rw[length_cons,aB])
 ·rw[if_neg c1,if_neg c1]
  by_cases c2:r.length % 3=2
  ·rw[if_pos c2]
   by_cases hb:dbl r B=true
   ·have e:dW r B=ones (r.length-1)++[2]:=by unfold dW;rw[if_pos ⟨c2,hb⟩]
    rw[if_pos hb,if_neg (fun z=>by rw[hb]at z;cases z.2.1),e];dsimp only;have eS:((3::ones r.length)++aH 3 B).set r.length 2=(3::(ones (r.length-1)++[2]))++aH 3 B:=by
     rw[List.set_append_left _ _ (by rw[length_cons,aB];omega)]
     congr 1
     rw[show(3::ones r.length).set r.length 2=3::(ones r.length).set (r.length-1) 2 by
      obtain⟨k,hk⟩:∃ k,r.length=k+1:=⟨r.length-1,by omega⟩;rw[hk];rfl,tG _ hc]
    rw[eS];exact plain _ (by rw[length_cons,length_append,aB];simp;omega)
   ·have hb':dbl r B=false:=Bool.eq_false_iff.mpr hb;have e:dW r B=ones r.length:=by unfold dW;rw[if_neg (fun z=>hb z.2)]
    rw[if_neg hb,Bool.true_and,e]
    by_cases hR:dh B=true
    ·rw[if_pos hR,if_pos ⟨c2,hb',hR⟩];obtain⟨t,rfl⟩:∃ t,B=.G::t:=by
      have:=of_decide_eq_true (Bool.and_eq_true_iff.mp hR).1;cases B with
      |nil=>cases this
      |cons k t=>exact⟨t,by simp at this;rw[this]⟩
     rw[vL,HP,lh];dsimp only;have eL:((((3::ones r.length)++(3::aH 3 t)).set (1-1) 2).set (r.length+1) 2)=(2::(ones r.length++[2]))++aH 3 t:=by
      show((2::ones r.length)++(3::aH 3 t)).set (r.length+1) 2=_;rw[List.set_append_right _ _ (by rw[length_cons,aB];exact Nat.le_refl _),length_cons,aB,Nat.sub_self];show(2::ones r.length)++(2::aH 3 t)=_;simp
     rw[eL];have eK:(.G::r ++ .G::t:List Kd)=(.G::(r++[.G]))++t:=by simp
     have eS:1+(r.length+1)=(.G::(r++[Kd.G])).length:=by simp;omega
     rw[eK,eS,GR (Kd.G::(r++[Kd.G])) t (2::(ones r.length++[2])) (by simp[aB]) (bc 3 t) (aH 3 t) (cH 3 t) fun q hq=>⟨(bM 3 t q hq).1,(bM 3 t q hq).2,fun _ g'=>?_⟩,<-tE]
     ·simp
     ·unfold bE;have:((2::(ones r.length++[2]))++g').getD ((Kd.G::(r++[Kd.G])).length-1) 0=2:=by
       rw[List.getD_eq_getElem?_getD];show((2::(ones r.length++[2]))++g')[(r++[Kd.G]).length+1-1]?.getD 0=2;rw[Nat.add_sub_cancel,length_append];show(2::((ones r.length++[2])++g'))[r.length+1]?.getD 0=2;rw[List.getElem?_cons_succ,List.append_assoc,getElem?_append_right (by rw[aB];exact Nat.le_refl _),aB,Nat.sub_self];rfl
      rw[this];simp
    ·rw[if_neg hR,if_neg (fun z=>hR z.2.2)];exact plain (3::ones r.length) (by rw[length_cons,aB])
  ·rw[if_neg c2,if_neg (fun z:r.length % 3=2/\_=>c2 z.1)];have e:dW r B=ones r.length:=by unfold dW;rw[if_neg (fun z=>c2 z.1)]
   rw[e];exact plain (3::ones r.length) (by rw[length_cons,aB])
theorem HQ {m:Int}{k:Kd}{B:List Kd}(hM:Ms m)(hk:m=2\/k.small=false)(hG:m=3->k=.G->Cut B):rd m (k::B)=bw (nm m k) k B.head? :: rd (nm m k) B:=by
 have e:inR (nm m k) k=false:=by
  unfold inR;rcases hk with h|h
  ·subst h;cases k <;> rfl
  ·rw[h,Bool.and_false]
 have er:bc m (k::B)=shift 1 (bc (nm m k) B):=by
  show aO 0 0 (inR (nm m k) k::cT (nm m k) B)=_;rw[e];simp only [aO];rw[if_neg (Nat.lt_irrefl 0),nil_append];exact shF _ 1 0 0
 rw[tE,er];show fd ([k]++B) (shift [k].length (bc (nm m k) B)) ([bw (nm m k) k B.head?]++aH (nm m k) B)=_;rw[GR [k] B [bw (nm m k) k B.head?] rfl (bc (nm m k) B) (aH (nm m k) B) (cH _ B) fun q hq=>⟨(bM _ B q hq).1,(bM _ B q hq).2,fun h0 g'=>?_⟩,<-tE]
 ·rfl
 ·cases hkG:decide (k=.G) with
  |false =>
   have:k≠.G:=of_decide_eq_false hkG;unfold bE;rw[show Sf ([k]++B) (([k].length:Int)-1)=some k from rfl,decide_eq_false (fun z=>this (Option.some.inj z))];rfl
  |true =>
   have ek:=of_decide_eq_true hkG;subst ek
   by_cases hm:m=3
   ·subst hm;have hC:=hG rfl rfl
    exfalso
    cases B with
    |nil =>
     have:=(bM _ [] q hq);simp at this;omega
    |cons c t =>
     have hc:=hC c t rfl;have hq2:q∈aO 0 0 (inR (nm 3 c) c::cT (nm 3 c) t):=hq;have ec:inR (nm 3 c) c=false:=by unfold inR;rw[hc,Bool.and_false]
     rw[ec]at hq2;simp only [aO]at hq2;rw[if_neg (Nat.lt_irrefl 0),nil_append]at hq2;have:=jV _ 1 1 (Nat.le_refl _) q hq2;omega
   ·rcases hM with h|h
    ·exact absurd h hm
    ·subst h;unfold bE;have:([bw (nm 2 .G) .G B.head?]++g').getD ([Kd.G].length-1) 0=bw 2 .G B.head?:=rfl;rw[this]
     by_cases Np:B.head? = some .dot
     ·exfalso
      cases B with
      |nil=>cases Np
      |cons c t =>
       have:c=.dot:=Option.some.inj Np;subst this;have hq2:q∈aO 0 0 (false::cT 2 t):=hq;simp only [aO]at hq2;rw[if_neg (Nat.lt_irrefl 0),nil_append]at hq2;have:=jV _ 1 1 (Nat.le_refl _) q hq2;omega
     ·have:bw 2 .G B.head? = 2:=by
       unfold bw;rw[if_neg (fun z=>Np z.2.2)];rfl
      rw[this];simp
end jU
set_option maxHeartbeats 1000000
namespace jU
open PySem L2 PyProof.Rows
def LC (ks:List Kd):List (Nat×Nat)->List Int->Bool
 |[],_=>true
 |p::rs,f=>(settle ks f p.1 p.2).1&&LC ks rs (settle ks f p.1 p.2).2
def lA (m:Int)(ks:List Kd):Bool:=LC ks (bc m ks) (aH m ks)
theorem LD (ks:List Kd):∀(rs:List (Nat×Nat)) (c:Tu),(rs.foldl (iz ks) c).2=[] ↔ c.2=[]/\LC ks rs c.1=true
 |[],c=>by simp[LC]
 |p::rs,c=>by
  rw[List.foldl_cons,LD ks rs];show(if(settle ks c.1 p.1 p.2).1 then c.2 else c.2++[p])=[]/\LC ks rs (settle ks c.1 p.1 p.2).2=true ↔ c.2=[]/\((settle ks c.1 p.1 p.2).1&&LC ks rs (settle ks c.1 p.1 p.2).2)=true;cases h:(settle ks c.1 p.1 p.2).1 with
  |true=>simp
  |false=>simp
theorem TQ (m:Int)(ks:List Kd):(fb m ks).2=[] ↔ lA m ks=true:=by
 unfold fb lA;rw[LD];simp
theorem Nq (A B:List Kd)(f g:List Int)(hf:f.length=A.length)(hg:g.length=B.length){a z:Nat}(haz:a<z)(hz:z<=B.length)(h0:a=0->bE (A++B) (f++g) A.length=false) :
  (settle (A++B) (f++g) (a+A.length) (z+A.length)).1=(settle B g a z).1:=by
 have ix:∀ j,(A++B)[j+A.length]? = B[j]?:=fun j=>by
  rw[getElem?_append_right (by omega),Nat.add_sub_cancel]
 have hl:bE (A++B) (f++g) (a+A.length)=bE B g a:=by
  by_cases e0:a=0
  ·have:=h0 e0;subst e0;rw[Nat.zero_add,this];rfl
  ·unfold bE Sf;rw[if_pos (by omega),if_pos (by omega)];have e1:(((a+A.length:Nat):Int)-1).toNat=(a-1)+A.length:=by omega
   have e2:(((a:Nat):Int)-1).toNat=a-1:=by omega
   rw[e1,e2,ix]
   congr 2
   rw[List.getD_eq_getElem?_getD,List.getD_eq_getElem?_getD,getElem?_append_right (by omega)];have e3:a+A.length-1-f.length=a-1:=by omega
   rw[e3]
 have hr:bS (A++B) (z+A.length)=bS B z:=by
  unfold bS;rw[ix,show z+A.length+1=(z+1)+A.length by omega,ix]
 have st:∀(h:List Int)(j:Nat),(f++h).set (j+A.length) 2=f++h.set j 2:=fun h j=>by
  rw[List.set_append_right _ _ (by omega)]
  congr 2
  omega
 have ed:z+A.length-(a+A.length)=z-a:=by omega
 have ez:z+A.length-1=(z-1)+A.length:=by omega
 have hlp:bE B g a=true->a+A.length-1=(a-1)+A.length:=fun h=>by have:=vH h;omega
 unfold settle iY iZ;rw[hl,hr,ed,ez,ix,ix]
 repeat' split
 all_goals rfl
theorem vM (A B:List Kd)(f:List Int)(hf:f.length=A.length):∀(rs:List (Nat×Nat)) (g:List Int),g.length=B.length->(∀ q∈rs,q.1<q.2/\q.2<=B.length/\(q.1=0->∀ g',bE (A++B) (f++g') A.length=false)) ->
  LC (A++B) (shift A.length rs) (f++g)=LC B rs g
 |[],_,_,_=>rfl
 |r::t,g,hg,h=>by
  obtain⟨h1,h2,h3⟩:=h r mem_cons_self;show((settle (A++B) (f++g) (r.1+A.length) (r.2+A.length)).1&&LC (A++B) (shift A.length t) (settle (A++B) (f++g) (r.1+A.length) (r.2+A.length)).2)=((settle B g r.1 r.2).1&&LC B t (settle B g r.1 r.2).2);rw[GQ A B f g hf hg h1 h2 fun e=>h3 e g,Nq A B f g hf hg h1 h2 fun e=>h3 e g];rw[vM A B f hf t _ (by rw[mW];exact hg) fun q hq=>h q (mem_cons_of_mem _ hq)]
theorem Za {r B:List Kd}(hr:fc r)(hB:Cut B)(hc:0<r.length):lA 3 (r++B)=if r.length % 3=1 then(dh B&&lA 3 B.tail) else if r.length % 3=2 then(dbl r B&&lA 3 B) else lA 3 B:=by
 have hin:∀ q∈bc 3 B,q.1<q.2/\q.2<=B.length:=bM 3 B;have l0:bE (r++B) (ones r.length++aH 3 B) 0=false:=rfl;have rz:bS (r++B) r.length=dh B:=by
  unfold bS dh;rw[getElem?_append_right (Nat.le_refl _),getElem?_append_right (by omega),Nat.sub_self,Nat.add_sub_cancel_left]
 have gz:(r++B)[r.length]? = B[0]?:=by rw[getElem?_append_right (Nat.le_refl _),Nat.sub_self]
 have hd:(eh (r++B)[r.length]? && decide ((r++B)[r.length-1]? = some .s))=dbl r B:=by rw[gz,B8 hc];rfl
 unfold lA;rw[TM hr hB,if_pos hc,i8 r hr];show((settle (r++B) (ones r.length++aH 3 B) 0 r.length).1&&LC (r++B) (shift r.length (bc 3 B)) (settle (r++B) (ones r.length++aH 3 B) 0 r.length).2)=_;have plain:∀ f:List Int,f.length=r.length->LC (r++B) (shift r.length (bc 3 B)) (f++aH 3 B)=LC B (bc 3 B) (aH 3 B):=fun f hf=>vM r B f hf (bc 3 B) (aH 3 B) (cH 3 B) fun q hq=>⟨(hin q hq).1,(hin q hq).2,fun _ g'=>noG hr hc []⟩;unfold settle iY iZ;rw[l0,rz,hd,Nat.sub_zero]
 by_cases c1:r.length % 3=1
 ·rw[if_pos c1,if_neg Bool.false_ne_true,if_pos c1]
  by_cases hb:dh B=true
  ·rw[if_pos hb,hb];obtain⟨t,rfl⟩:∃ t,B=.G::t:=by
    have:=of_decide_eq_true (Bool.and_eq_true_iff.mp hb).1;cases B with
    |nil=>cases this
    |cons k t=>exact⟨t,by simp at this;rw[this]⟩
   rw[vL,HP,lh];dsimp only;have eL:(ones r.length++(3::aH 3 t)).set r.length 2=(ones r.length++[2])++aH 3 t:=by
    rw[List.set_append_right _ _ (by rw[aB];exact Nat.le_refl _),aB,Nat.sub_self,List.append_assoc];rfl
   rw[eL];have eK:r ++ .G::t=(r++[.G])++t:=by simp
   have eS:1+r.length=(r++[Kd.G]).length:=by simp;omega
   rw[eK,eS,vM (r++[Kd.G]) t (ones r.length++[2]) (by rw[length_append,length_append,aB];rfl) (bc 3 t) (aH 3 t) (cH 3 t) fun q hq=>⟨(bM 3 t q hq).1,(bM 3 t q hq).2,fun _ g'=>?_⟩]
   ·rfl
   ·unfold bE;have:((ones r.length++[2])++g').getD ((r++[Kd.G]).length-1) 0=2:=by
     rw[List.getD_eq_getElem?_getD,List.append_assoc,getElem?_append_right (by rw[aB];simp),aB];simp
    rw[this];simp
  ·rw[if_neg hb,Bool.eq_false_iff.mpr hb];rfl
 ·rw[if_neg c1,if_neg c1]
  by_cases c2:r.length % 3=2
  ·rw[if_pos c2,if_pos c2]
   by_cases hb:dbl r B=true
   ·rw[if_pos hb,hb];dsimp only;rw[List.set_append_left _ _ (by rw[aB];omega),tG _ hc];rw[plain _ (by rw[length_append,aB];simp;omega)]
   ·rw[if_neg hb,Bool.false_and,if_neg Bool.false_ne_true,Bool.eq_false_iff.mpr hb];rfl
  ·rw[if_neg c2,if_neg c2];rw[plain _ (aB _)];rfl
theorem PX {r B:List Kd}(hr:fc r)(hB:Cut B)(hc:0<r.length):lA 3 (.G::r++B)=if r.length % 3=2 then(if dbl r B=true then lA 3 B else(dh B&&lA 3 B.tail)) else lA 3 B:=by
 have hin:∀ q∈bc 3 B,q.1<q.2/\q.2<=B.length:=bM 3 B;have kG:(.G::r++B:List Kd)=.G::(r++B):=rfl;have bG:aH 3 (.G::r++B)=(3::ones r.length)++aH 3 B:=by rw[kG,vL,i8 r hr];rfl
 have l0:bE (.G::r++B) ((3::ones r.length)++aH 3 B) 1=true:=rfl;have rz:bS (.G::r++B) (r.length+1)=dh B:=by
  unfold bS dh;rw[kG,List.getElem?_cons_succ,List.getElem?_cons_succ,getElem?_append_right (Nat.le_refl _),getElem?_append_right (by omega),Nat.sub_self,Nat.add_sub_cancel_left]
 have hd:(eh (.G::r++B:List Kd)[r.length+1]? && decide ((.G::r++B:List Kd)[r.length+1-1]? = some .s))=dbl r B:=by
  have e1:(.G::r++B:List Kd)[r.length+1]? = B[0]?:=by rw[kG,List.getElem?_cons_succ,getElem?_append_right (Nat.le_refl _),Nat.sub_self]
  have e2:(.G::r++B:List Kd)[r.length+1-1]? = r.getLast?:=by
   rw[Nat.add_sub_cancel,kG];obtain⟨k,hk⟩:∃ k,r.length=k+1:=⟨r.length-1,by omega⟩;have:=B8 (B:=B) hc;rw[hk,Nat.add_sub_cancel]at this;rw[hk,List.getElem?_cons_succ,this]
  rw[e1,e2];rfl
 unfold lA;rw[PV hr hB,if_pos hc,bG];show((settle (.G::r++B) ((3::ones r.length)++aH 3 B) 1 (r.length+1)).1&&LC (.G::r++B) (shift (r.length+1) (bc 3 B)) (settle (.G::r++B) ((3::ones r.length)++aH 3 B) 1 (r.length+1)).2)=_;have plain:∀ f:List Int,f.length=r.length+1->LC (.G::r++B) (shift (r.length+1) (bc 3 B)) (f++aH 3 B)=LC B (bc 3 B) (aH 3 B):=fun f hf=>by
  have:=vM (.G::r) B f hf (bc 3 B) (aH 3 B) (cH 3 B) fun q hq=>⟨(hin q hq).1,(hin q hq).2,fun _ g'=>noG hr hc [.G]⟩;rw[length_cons]at this;rw[this]
 unfold settle iY iZ;rw[l0,rz,hd,show r.length+1-1=r.length by omega]
 by_cases c1:r.length % 3=1
 ·rw[if_pos c1,if_pos rfl,if_neg (by omega)];exact plain (2::ones r.length) (by rw[length_cons,aB])
 ·rw[if_neg c1]
  by_cases c2:r.length % 3=2
  ·rw[if_pos c2,if_pos c2]
   by_cases hb:dbl r B=true
   ·rw[if_pos hb,if_pos hb];dsimp only;have eS:((3::ones r.length)++aH 3 B).set r.length 2=(3::(ones (r.length-1)++[2]))++aH 3 B:=by
     rw[List.set_append_left _ _ (by rw[length_cons,aB];omega)]
     congr 1
     rw[show(3::ones r.length).set r.length 2=3::(ones r.length).set (r.length-1) 2 by
      obtain⟨k,hk⟩:∃ k,r.length=k+1:=⟨r.length-1,by omega⟩;rw[hk];rfl,tG _ hc]
    rw[eS];rw[plain _ (by rw[length_cons,length_append,aB];simp;omega)];rfl
   ·rw[if_neg hb,Bool.true_and,if_neg hb]
    by_cases hR:dh B=true
    ·rw[if_pos hR,hR];obtain⟨t,rfl⟩:∃ t,B=.G::t:=by
      have:=of_decide_eq_true (Bool.and_eq_true_iff.mp hR).1;cases B with
      |nil=>cases this
      |cons k t=>exact⟨t,by simp at this;rw[this]⟩
     rw[vL,HP,lh];dsimp only;have eL:((((3::ones r.length)++(3::aH 3 t)).set (1-1) 2).set (r.length+1) 2)=(2::(ones r.length++[2]))++aH 3 t:=by
      show((2::ones r.length)++(3::aH 3 t)).set (r.length+1) 2=_;rw[List.set_append_right _ _ (by rw[length_cons,aB];exact Nat.le_refl _),length_cons,aB,Nat.sub_self];show(2::ones r.length)++(2::aH 3 t)=_;simp
     rw[eL];have eK:(.G::r ++ .G::t:List Kd)=(.G::(r++[.G]))++t:=by simp
     have eS:1+(r.length+1)=(.G::(r++[Kd.G])).length:=by simp;omega
     rw[eK,eS,vM (Kd.G::(r++[Kd.G])) t (2::(ones r.length++[2])) (by simp[aB]) (bc 3 t) (aH 3 t) (cH 3 t) fun q hq=>⟨(bM 3 t q hq).1,(bM 3 t q hq).2,fun _ g'=>?_⟩]
     ·rfl
     ·unfold bE;have:((2::(ones r.length++[2]))++g').getD ((Kd.G::(r++[Kd.G])).length-1) 0=2:=by
       rw[List.getD_eq_getElem?_getD];show((2::(ones r.length++[2]))++g')[(r++[Kd.G]).length+1-1]?.getD 0=2;rw[Nat.add_sub_cancel,length_append];show(2::((ones r.length++[2])++g'))[r.length+1]?.getD 0=2;rw[List.getElem?_cons_succ,List.append_assoc,getElem?_append_right (by rw[aB];exact Nat.le_refl _),aB,Nat.sub_self];rfl
      rw[this];simp
    ·rw[if_neg hR,Bool.eq_false_iff.mpr hR];rfl
  ·rw[if_neg c2,if_neg c2];rw[plain (3::ones r.length) (by rw[length_cons,aB])];rfl
theorem B9 {m:Int}{k:Kd}{B:List Kd}(hM:Ms m)(hk:m=2\/k.small=false)(hG:m=3->k=.G->Cut B):lA m (k::B)=lA (nm m k) B:=by
 have e:inR (nm m k) k=false:=by
  unfold inR;rcases hk with h|h
  ·subst h;cases k <;> rfl
  ·rw[h,Bool.and_false]
 have er:bc m (k::B)=shift 1 (bc (nm m k) B):=by
  show aO 0 0 (inR (nm m k) k::cT (nm m k) B)=_;rw[e];simp only [aO];rw[if_neg (Nat.lt_irrefl 0),nil_append];exact shF _ 1 0 0
 unfold lA;rw[er];show LC ([k]++B) (shift [k].length (bc (nm m k) B)) ([bw (nm m k) k B.head?]++aH (nm m k) B)=_;rw[vM [k] B [bw (nm m k) k B.head?] rfl (bc (nm m k) B) (aH (nm m k) B) (cH _ B) fun q hq=>⟨(bM _ B q hq).1,(bM _ B q hq).2,fun h0 g'=>?_⟩];cases hkG:decide (k=.G) with
 |false =>
  have:k≠.G:=of_decide_eq_false hkG;unfold bE;rw[show Sf ([k]++B) (([k].length:Int)-1)=some k from rfl,decide_eq_false (fun z=>this (Option.some.inj z))];rfl
 |true =>
  have ek:=of_decide_eq_true hkG;subst ek
  by_cases hm:m=3
  ·subst hm;have hC:=hG rfl rfl
   exfalso
   cases B with
   |nil =>
    have:=(bM _ [] q hq);simp at this;omega
   |cons c t =>
    have hc:=hC c t rfl;have hq2:q∈aO 0 0 (inR (nm 3 c) c::cT (nm 3 c) t):=hq;have ec:inR (nm 3 c) c=false:=by unfold inR;rw[hc,Bool.and_false]
    rw[ec]at hq2;simp only [aO]at hq2;rw[if_neg (Nat.lt_irrefl 0),nil_append]at hq2;have:=jV _ 1 1 (Nat.le_refl _) q hq2;omega
  ·rcases hM with h|h
   ·exact absurd h hm
   ·subst h;unfold bE;have:([bw (nm 2 .G) .G B.head?]++g').getD ([Kd.G].length-1) 0=bw 2 .G B.head?:=rfl;rw[this]
    by_cases Np:B.head? = some .dot
    ·exfalso
     cases B with
     |nil=>cases Np
     |cons c t =>
      have:c=.dot:=Option.some.inj Np;subst this;have hq2:q∈aO 0 0 (false::cT 2 t):=hq;simp only [aO]at hq2;rw[if_neg (Nat.lt_irrefl 0),nil_append]at hq2;have:=jV _ 1 1 (Nat.le_refl _) q hq2;omega
    ·have:bw 2 .G B.head? = 2:=by
      unfold bw;rw[if_neg (fun z=>Np z.2.2)];rfl
     rw[this];simp
end jU
set_option maxHeartbeats 1000000
namespace jU
open PySem L2 PyProof.Rows
def acc:Str->List Kd->List Int->Bool
 |z,[],[]=>fQ z
 |z,k::ks,c::cs=>match jF z k c with
  |.str y=>acc y ks cs
  |_=>false
 |_,_,_=>false
def Cl (cs:List Int):Prop:=∀ c∈cs,0<=c/\c<=9
theorem aaH {P:Int->Prop}(h:∀ m:Nat,m<10->P m){c:Int}(hc:0<=c/\c<=9):P c:=by
 have:=h c.toNat (by omega)
 rwa [Int.toNat_of_nonneg hc.1]at this
def tens (p:Int->Bool):Bool:=(List.range 10).all fun m=>p (m:Nat)
theorem V3 {p:Int->Bool}(h:tens p=true){c:Int}(hc:0<=c/\c<=9):p c=true :=
 aaH (P:=fun c=>p c=true) (fun m hm=>all_eq_true.mp h m (mem_range.mpr hm)) hc
def lR (p:Kd->Int->Bool):Bool:=Y7.all fun k=>tens (p k)
theorem fS {p:Kd->Int->Bool}(h:lR p=true)(k:Kd){c:Int}(hc:0<=c/\c<=9):p k c=true:=V3 (all_eq_true.mp h k (Lx k)) hc
def mk3 (l c e:Nat):Str:=⟨#[51,l,c,e]⟩
def opens:List Str:=[mk3 110 48 111,mk3 110 48 115,mk3 119 48 111,mk3 119 48 115,mk3 119 48 45,mk3 104 49 111,mk3 104 49 115]
theorem TR {z:Str}(hz:z∈opens){k:Kd}(hk:k.small=false){c:Int}(hc:0<=c/\c<=9):jF z k c=jF "3n0-" k c:=by
 have h:(opens.all fun z=>lR fun k c=>k.small||decide (jF z k c=jF "3n0-" k c))=true:=by lk
 have:=fS (all_eq_true.mp h z hz) k hc;rw[hk,Bool.false_or]at this;exact of_decide_eq_true this
theorem V4 {z:Str}(hz:z∈opens):fQ z=true:=all_eq_true.mp (by lk:(opens.all fQ)=true) z hz
def qO:List Str:=[mk3 110 50 83,mk3 119 50 83]
theorem V5 {z:Str}(hz:z∈qO){k:Kd}(hk:k.small=false){c:Int}(hc:0<=c/\c<=9):jF z k c=if k.great=true then jF "3n0-" k c else .non:=by
 have h:(qO.all fun z=>lR fun k c=>k.small||decide (jF z k c=if k.great=true then jF "3n0-" k c else .non))=true:=by lk
 have:=fS (all_eq_true.mp h z hz) k hc;rw[hk,Bool.false_or]at this;exact of_decide_eq_true this
def rights:List Str:=[mk3 110 49 111,mk3 110 49 115,mk3 104 50 111]
theorem V6 {z:Str}(hz:z∈rights){k:Kd}(hk:k.small=false){c:Int}(hc:0<=c/\c<=9):jF z k c=if k=.G/\c=2 then .str "3t0-" else .non:=by
 have h:(rights.all fun z=>lR fun k c=>k.small||decide (jF z k c=if k=.G/\c=2 then .str "3t0-" else .non))=true:=by lk
 have:=fS (all_eq_true.mp h z hz) k hc;rw[hk,Bool.false_or]at this;exact of_decide_eq_true this
def nones:List Str:=[mk3 110 50 111,mk3 110 50 115,mk3 119 49 111,mk3 119 49 115,mk3 119 50 111,mk3 119 50 115,mk3 104 48 45,mk3 104 48 111,mk3 104 48 115,mk3 104 50 115,mk3 104 50 83]
theorem Zb {z:Str}(hz:z∈nones){k:Kd}(hk:k.small=false){c:Int}(hc:0<=c/\c<=9):jF z k c=.non:=by
 have h:(nones.all fun z=>lR fun k c=>k.small||decide (jF z k c=.non))=true:=by lk
 have:=fS (all_eq_true.mp h z hz) k hc;rw[hk,Bool.false_or]at this;exact of_decide_eq_true this
theorem f_shut {z:Str}(hz:z∈qO++rights++nones):fQ z=false:=by
 have:=all_eq_true.mp (by lk:((qO++rights++nones).all fun z=>!fQ z)=true) z hz
 simpa using this
def Si (k:Kd):Nat:=if k=.s then 115 else 111
theorem aaI {l c e:Nat}(hl:l=110\/l=119\/l=104)(hcc:c<3)(he:e=45\/e=111\/e=115){k:Kd}(hk:k.small=true){n:Int}(hn:0<=n/\n<=9) :
  jF (mk3 l (48+c) e) k n=if n=1 then .str (mk3 l (48+(c+1) % 3) (Si k)) else if n=2/\k=.s/\c=1 then .str (mk3 l 50 83) else .non:=by
 have h:([110,119,104].all fun l=>[0,1,2].all fun c=>[45,111,115].all fun e=>lR fun k n=>!k.small||decide (jF (mk3 l (48+c) e) k n=if n=1 then .str (mk3 l (48+(c+1) % 3) (Si k)) else if n=2/\k=.s/\c=1 then .str (mk3 l 50 83) else .non))=true:=by lk
 have h1:=all_eq_true.mp (all_eq_true.mp (all_eq_true.mp h l (by rcases hl with rfl|rfl|rfl <;> simp)) c (by rcases c with _|_|_|c <;> simp;omega)) e (by rcases he with rfl|rfl|rfl <;> simp);have:=fS h1 k hn;rw[hk]at this;exact of_decide_eq_true this
theorem f_t {k:Kd}(hk:k.small=true){n:Int}(hn:0<=n/\n<=9):jF "3t0-" k n=jF "3n0-" k n:=by
 have h:(lR fun k n=>!k.small||decide (jF "3t0-" k n=jF "3n0-" k n))=true:=by lk
 have:=fS h k hn;rw[hk]at this;exact of_decide_eq_true this
theorem f_S {l:Nat}(hl:l=110\/l=119\/l=104){k:Kd}(hk:k.small=true){n:Int}(hn:0<=n/\n<=9):jF (mk3 l 50 83) k n=.non:=by
 have h:([110,119,104].all fun l=>lR fun k n=>!k.small||decide (jF (mk3 l 50 83) k n=.non))=true:=by lk
 have:=fS (all_eq_true.mp h l (by rcases hl with rfl|rfl|rfl <;> simp)) k hn;rw[hk]at this;exact of_decide_eq_true this
def ZK (e:Nat):List Kd->Nat
 |[]=>e
 |k::r=>ZK (Si k) r
theorem qg (n:Nat):ones (n+1)=1::ones n:=rfl
theorem bg (z:Str)(k:Kd)(ks:List Kd)(c:Int)(cs:List Int):acc z (k::ks) (c::cs)=match jF z k c with
  |.str y=>acc y ks cs
  |_=>false:=rfl
theorem Zc (k:Kd):Si k=45\/Si k=111\/Si k=115:=by
 unfold Si;split
 ·exact .inr (.inr rfl)
 ·exact .inr (.inl rfl)
theorem AN {l:Nat}(hl:l=110\/l=119\/l=104){B:List Kd}:∀(r:List Kd)(c e:Nat)(cs:List Int),c<3->(e=45\/e=111\/e=115)->fc r->Cl cs->cs.length=r.length+B.length ->
  (acc (mk3 l (48+c) e) (r++B) cs=true ↔ (cs.take r.length=ones r.length/\acc (mk3 l (48+(c+r.length) % 3) (ZK e r)) B (cs.drop r.length)=true) \/
   (0<r.length/\(c+r.length) % 3=2/\r.getLast? = some .s/\cs.take r.length=ones (r.length-1)++[2]/\acc (mk3 l 50 83) B (cs.drop r.length)=true))
 |[],c,e,cs,hc,he,_,_,_=>by
  have:c % 3=c:=by omega
  simp[ones,ZK,this]
 |k::r,c,e,[],hc,he,hs,hcl,hlen=>by simp at hlen;omega
 |k::r,c,e,n::cs,hc,he,hs,hcl,hlen=>by
  have hk:=hs k mem_cons_self;have hr:fc r:=fun x hx=>hs x (mem_cons_of_mem _ hx);have hn:=hcl n mem_cons_self;have hcs:Cl cs:=fun x hx=>hcl x (mem_cons_of_mem _ hx);have hlen':cs.length=r.length+B.length:=by simp at hlen;omega
  have ih:=AN hl r ((c+1) % 3) (Si k) cs (by omega) (Zc k) hr hcs hlen';have em:((c+1) % 3+r.length) % 3=(c+(r.length+1)) % 3:=by omega
  rw[List.cons_append,bg,aaI hl hc he hk hn,length_cons,List.take_succ_cons,List.drop_succ_cons,qg,Nat.add_sub_cancel]
  by_cases n1:n=1
  ·subst n1;rw[if_pos rfl];show acc _ (r++B) cs=true ↔ _;rw[ih,em];show _ ↔ (1::cs.take r.length=1::ones r.length/\acc (mk3 l (48+(c+(r.length+1)) % 3) (ZK (Si k) r)) B (cs.drop r.length)=true)\/_;refine or_congr ?_ ?_
   ·simp
   ·cases r with
    |nil=>simp[ones]
    |cons k2 r2 =>
     rw[List.getLast?_cons_cons,length_cons,Nat.add_sub_cancel,qg];simp
  ·rw[if_neg n1]
   by_cases n2:n=2/\k=.s/\c=1
   ·rw[if_pos n2];obtain⟨rfl,rfl,rfl⟩:=n2;show acc _ (r++B) cs=true ↔ _;cases r with
    |nil=>simp[ones]
    |cons k2 r2 =>
     cases cs with
     |nil=>simp at hlen';omega
     |cons n2 cs2 =>
      rw[List.cons_append,bg,f_S hl (hr k2 mem_cons_self) (hcs n2 mem_cons_self),length_cons,qg];simp
   ·rw[if_neg n2];show false=true ↔ _;cases r with
    |nil =>
     simp[ones];refine⟨fun z=>absurd z n1,fun z e1 e2=>absurd ⟨e2,e1,by omega⟩ n2⟩
    |cons k2 r2 =>
     rw[length_cons,qg];simp;refine⟨fun z=>absurd z n1,fun _ _ z=>absurd z n1⟩
theorem tH:∀(r:List Kd)(e:Nat),r≠[]->ZK e r=if r.getLast? = some .s then 115 else 111
 |[],_,h=>absurd rfl h
 |[k],e,_=>by
  show Si k=_;unfold Si;simp
 |k::k2::r,e,_=>by
  show ZK (Si k) (k2::r)=_;rw[tH (k2::r) _ (by simp),List.getLast?_cons_cons]
def w2 (k:Kd):Int:=bw (nm 2 k) k none
def w3 (k:Kd):Int:=bw (nm 3 k) k none
theorem f2 (k:Kd){n:Int}(hn:0<=n/\n<=9):jF "2-" k n=if k=.G then(if n=2 then .str "2g" else if n=3 then .str "2G" else .non) else if n=w2 k then .str (if k=.three then "3n0-" else "2-") else .non:=by
 have h:(lR fun k n=>decide (jF "2-" k n=if k=.G then(if n=2 then .str "2g" else if n=3 then .str "2G" else .non) else if n=w2 k then .str (if k=.three then "3n0-" else "2-") else .non))=true:=by lk
 exact of_decide_eq_true (fS h k hn)
theorem f2g (k:Kd){n:Int}(hn:0<=n/\n<=9):jF "2g" k n=if k=.dot then .non else jF "2-" k n:=by
 have h:(lR fun k n=>decide (jF "2g" k n=if k=.dot then .non else jF "2-" k n))=true:=by lk
 exact of_decide_eq_true (fS h k hn)
theorem f2G (k:Kd){n:Int}(hn:0<=n/\n<=9):jF "2G" k n=if k=.dot then jF "2-" k n else .non:=by
 have h:(lR fun k n=>decide (jF "2G" k n=if k=.dot then jF "2-" k n else .non))=true:=by lk
 exact of_decide_eq_true (fS h k hn)
theorem f3n {k:Kd}(hk:k.small=false){n:Int}(hn:0<=n/\n<=9):jF "3n0-" k n=if k=.G then(if n=3 then .str "3w0-" else if n=2 then .str "3h0-" else .non) else if n=w3 k then .str (if k=.two then "2-" else "3n0-") else .non:=by
 have h:(lR fun k n=>k.small||decide (jF "3n0-" k n=if k=.G then(if n=3 then .str "3w0-" else if n=2 then .str "3h0-" else .non) else if n=w3 k then .str (if k=.two then "2-" else "3n0-") else .non))=true:=by lk
 have:=fS h k hn;rw[hk,Bool.false_or]at this;exact of_decide_eq_true this
theorem f3t {k:Kd}(hk:k.small=false){n:Int}(hn:0<=n/\n<=9):jF "3t0-" k n=if k.great=true then .non else jF "3n0-" k n:=by
 have h:(lR fun k n=>k.small||decide (jF "3t0-" k n=if k.great=true then .non else jF "3n0-" k n))=true:=by lk
 have:=fS h k hn;rw[hk,Bool.false_or]at this;exact of_decide_eq_true this
theorem z3n:("3n0-":Str)=mk3 110 48 45:=by lk
theorem z3w:("3w0-":Str)=mk3 119 48 45:=by lk
theorem z3h:("3h0-":Str)=mk3 104 48 45:=by lk
def P2 (ks:List Kd)(cs:List Int):Prop:=cs=rd 2 ks/\lA 2 ks=true
def P3 (ks:List Kd)(cs:List Int):Prop:=cs=rd 3 ks/\lA 3 ks=true
structure All (ks:List Kd):Prop where
 two:∀ cs:List Int,cs.length=ks.length->Cl cs->(acc "2-" ks cs=true ↔ P2 ks cs)
 g:∀ cs:List Int,cs.length=ks.length->Cl cs->(acc "2g" ks cs=true ↔ ks.head? ≠ some .dot/\P2 ks cs)
 G:∀ cs:List Int,cs.length=ks.length->Cl cs->(acc "2G" ks cs=true ↔ ks.head? = some .dot/\P2 ks cs)
 n:∀ cs:List Int,cs.length=ks.length->Cl cs->(acc "3n0-" ks cs=true ↔ P3 ks cs)
 w:∀ cs:List Int,cs.length=ks.length->Cl cs->(acc "3w0-" ks cs=true ↔ P3 (.G::ks) (3::cs))
 h:∀ cs:List Int,cs.length=ks.length->Cl cs->(acc "3h0-" ks cs=true ↔ P3 (.G::ks) (2::cs))
 t:∀ cs:List Int,cs.length=ks.length->Cl cs->(acc "3t0-" ks cs=true ↔ eh ks.head? = false/\P3 ks cs)
theorem TU {k:Kd}{ks:List Kd}(ih:All ks){n:Int}{cs:List Int}(hl:cs.length=ks.length)(hn:0<=n/\n<=9)(hc:Cl cs):acc "2-" (k::ks) (n::cs)=true ↔ P2 (k::ks) (n::cs):=by
 unfold P2;rw[bg,f2 k hn,HQ (.inr rfl) (.inl rfl) (fun z=>by cases z),B9 (.inr rfl) (.inl rfl) (fun z=>by cases z)]
 by_cases hG:k=.G
 ·subst hG;rw[if_pos rfl];show _ ↔ n::cs=bw 2 .G ks.head? :: rd 2 ks/\lA 2 ks=true;have eb:bw 2 .G ks.head? = if ks.head? = some .dot then 3 else 2:=by
   unfold bw
   by_cases hd:ks.head? = some .dot
   ·rw[if_pos ⟨rfl,rfl,hd⟩,if_pos hd]
   ·rw[if_neg (fun z=>hd z.2.2),if_neg hd];rfl
  rw[eb]
  by_cases n2:n=2
  ·subst n2;rw[if_pos rfl];show acc "2g" ks cs=true ↔ _;rw[ih.g cs hl hc];unfold P2
   by_cases hd:ks.head? = some .dot
   ·simp[hd]
   ·simp[hd]
  ·rw[if_neg n2]
   by_cases n3:n=3
   ·subst n3;rw[if_pos rfl];show acc "2G" ks cs=true ↔ _;rw[ih.G cs hl hc];unfold P2
    by_cases hd:ks.head? = some .dot
    ·simp[hd]
    ·simp[hd]
   ·rw[if_neg n3];show false=true ↔ _
    by_cases hd:ks.head? = some .dot
    ·simp[hd,n3]
    ·simp[hd,n2]
 ·rw[if_neg hG];have eb:bw (nm 2 k) k ks.head? = w2 k:=by
   unfold w2 bw;rw[if_neg (fun z=>hG z.2.1),if_neg (fun z=>hG z.2.1)]
  rw[eb]
  by_cases e:n=w2 k
  ·rw[if_pos e,<-e]
   by_cases h3:k=.three
   ·subst h3;rw[if_pos rfl];show acc "3n0-" ks cs=true ↔ _;rw[ih.n cs hl hc];unfold P3;simp[nm]
   ·rw[if_neg h3];show acc "2-" ks cs=true ↔ _;rw[ih.two cs hl hc];unfold P2;have:nm 2 k=2:=by cases k <;> first|rfl|exact absurd rfl h3
    simp[this]
  ·rw[if_neg e];show false=true ↔ _;simp[e]
theorem Zd {k:Kd}{ks:List Kd}(hk:k.small=false)(ih:All ks){n:Int}{cs:List Int}(hl:cs.length=ks.length)(hn:0<=n/\n<=9)(hc:Cl cs)(hG2:k=.G->∀ x y,rd 3 (.G::ks)=x::y->x=2\/x=3):acc "3n0-" (k::ks) (n::cs)=true ↔ P3 (k::ks) (n::cs):=by
 rw[bg,f3n hk hn]
 by_cases hG:k=.G
 ·subst hG;rw[if_pos rfl]
  by_cases n3:n=3
  ·subst n3;rw[if_pos rfl];exact ih.w cs hl hc
  ·rw[if_neg n3]
   by_cases n2:n=2
   ·subst n2;rw[if_pos rfl];exact ih.h cs hl hc
   ·rw[if_neg n2];show false=true ↔ _;refine⟨fun z=>(nomatch z),fun⟨z,_⟩=>?_⟩;rcases hG2 rfl n cs z.symm with z|z
    ·exact absurd z n2
    ·exact absurd z n3
 ·rw[if_neg hG];unfold P3;rw[HQ (.inl rfl) (.inr hk) (fun _ z=>absurd z hG),B9 (.inl rfl) (.inr hk) (fun _ z=>absurd z hG)];have eb:bw (nm 3 k) k ks.head? = w3 k:=by
   unfold w3 bw;rw[if_neg (fun z=>hG z.2.1),if_neg (fun z=>hG z.2.1)]
  rw[eb]
  by_cases e:n=w3 k
  ·rw[if_pos e,<-e]
   by_cases h3:k=.two
   ·subst h3;rw[if_pos rfl];show acc "2-" ks cs=true ↔ _;rw[ih.two cs hl hc];unfold P2;simp[nm]
   ·rw[if_neg h3];show acc "3n0-" ks cs=true ↔ _;rw[ih.n cs hl hc];unfold P3;have:nm 3 k=3:=by cases k <;> first|rfl|exact absurd rfl h3
    simp[this]
  ·rw[if_neg e];show false=true ↔ _;simp[e]
theorem acc_open {z:Str}(hz:z∈opens){B:List Kd}(hB:Cut B)(ih:All B){cs:List Int}(hl:cs.length=B.length)(hc:Cl cs):acc z B cs=true ↔ P3 B cs:=by
 cases B with
 |nil =>
  cases cs with
  |cons _ _=>simp at hl
  |nil=>exact⟨fun _=>⟨rfl,rfl⟩,fun _=>V4 hz⟩
 |cons k t =>
  cases cs with
  |nil=>simp at hl
  |cons n cs =>
   rw[<-ih.n (n::cs) hl hc,bg,bg,TR hz (hB k t rfl) (hc n mem_cons_self)]
theorem GV {z:Str}(hz:z∈qO){B:List Kd}(hB:Cut B)(ih:All B){cs:List Int}(hl:cs.length=B.length)(hc:Cl cs):acc z B cs=true ↔ eh B[0]? = true/\P3 B cs:=by
 cases B with
 |nil =>
  cases cs with
  |cons _ _=>simp at hl
  |nil =>
   have:fQ z=false:=f_shut (mem_append_left _ (mem_append_left _ hz));show fQ z=true ↔ _;rw[this];simp[eh]
 |cons k t =>
  cases cs with
  |nil=>simp at hl
  |cons n cs =>
   rw[<-ih.n (n::cs) hl hc,bg,bg,V5 hz (hB k t rfl) (hc n mem_cons_self)];show _ ↔ k.great=true/\_
   by_cases hg:k.great=true
   ·rw[if_pos hg];simp[hg]
   ·rw[if_neg hg];simp[hg]
theorem vN {z:Str}(hz:z∈rights){B:List Kd}(hB:Cut B)(ih:∀ t,t.length<B.length->All t){cs:List Int}(hl:cs.length=B.length)(hc:Cl cs):acc z B cs=true ↔ dh B=true/\cs=2::rd 3 B.tail/\lA 3 B.tail=true:=by
 cases B with
 |nil =>
  cases cs with
  |cons _ _=>simp at hl
  |nil =>
   have:fQ z=false:=f_shut (mem_append_left _ (mem_append_right _ hz));show fQ z=true ↔ _;rw[this];simp
 |cons k t =>
  cases cs with
  |nil=>simp at hl
  |cons n cs =>
   have hl':cs.length=t.length:=by simpa using hl
   have hc':Cl cs:=fun x hx=>hc x (mem_cons_of_mem _ hx);rw[bg,V6 hz (hB k t rfl) (hc n mem_cons_self)]
   by_cases e:k=.G/\n=2
   ·obtain⟨rfl,rfl⟩:=e;rw[if_pos ⟨rfl,rfl⟩];show acc "3t0-" t cs=true ↔ _;rw[(ih t (by simp)).t cs hl' hc'];unfold P3 dh;show _ ↔ (decide ((some Kd.G)=some .G) && !eh (Kd.G::t)[1]?)=true/\_;have:(Kd.G::t)[1]? = t.head?:=by cases t <;> rfl
    rw[this];simp
   ·rw[if_neg e];show false=true ↔ _;refine⟨fun z=>(nomatch z),fun⟨h1,h2,_⟩=>absurd ⟨?_,?_⟩ e⟩
    ·have:=of_decide_eq_true (Bool.and_eq_true_iff.mp h1).1
     simpa using this
    ·injection h2
theorem i9 {z:Str}(hz:z∈nones){B:List Kd}(hB:Cut B){cs:List Int}(hl:cs.length=B.length)(hc:Cl cs):¬ acc z B cs=true:=by
 cases B with
 |nil =>
  cases cs with
  |cons _ _=>simp at hl
  |nil =>
   have:fQ z=false:=f_shut (mem_append_right _ hz);show ¬ fQ z=true;rw[this];simp
 |cons k t =>
  cases cs with
  |nil=>simp at hl
  |cons n cs =>
   rw[bg,Zb hz (hB k t rfl) (hc n mem_cons_self)];simp
theorem parts {cs:List Int}{n:Nat}{x y:List Int}(hx:x.length=n)(hn:n<=cs.length):cs=x++y ↔ cs.take n=x/\cs.drop n=y:=by
 constructor
 ·rintro rfl;exact⟨by rw[<-hx,List.take_left],by rw[<-hx,List.drop_left]⟩
 ·rintro⟨rfl,rfl⟩;exact(List.take_append_drop n cs).symm
theorem span (ks:List Kd):∃ r B,ks=r++B/\fc r/\Cut B:=by
 induction ks with
 |nil=>exact⟨[],[],rfl,fun _ z=>(nomatch z),fun _ _ z=>(nomatch z)⟩
 |cons k t ih =>
  obtain⟨r,B,rfl,h1,h2⟩:=ih
  by_cases hk:k.small=true
  ·exact⟨k::r,B,rfl,fun x hx=>by rcases List.mem_cons.mp hx with rfl|hx;exact hk;exact h1 x hx,h2⟩
  ·exact⟨[],k::(r++B),rfl,fun _ z=>(nomatch z),fun x y z=>by injection z with z _;rw[<-z];exact Bool.eq_false_iff.mpr hk⟩
theorem TV (t:List Kd){x:Int}{y:List Int}(e:rd 3 (.G::t)=x::y):x=2\/x=3:=by
 obtain⟨r,B,rfl,hr,hB⟩:=span t
 by_cases hc:0<r.length
 ·rw[<-List.cons_append,TN hr hB hc]at e;split at e
  ·injection e with e _;exact .inl e.symm
  ·split at e
   ·injection e with e _;exact .inl e.symm
   ·injection e with e _;exact .inr e.symm
 ·have:r=[]:=List.length_eq_zero_iff.mp (by omega);subst this;rw[nil_append,HQ (k:=.G) (.inl rfl) (.inr rfl) (fun _ _=>hB)]at e
  injection e with e _
  exact .inr e.symm
section
variable {r B:List Kd} (hr:fc r) (hB:Cut B) (hc:0<r.length) (Vi:All B) (XW:∀ t,t.length<B.length->All t) {cs:List Int} (hl:cs.length=r.length+B.length) (hcl:Cl cs)
include hr hB hc Vi XW hl hcl
theorem aaJ:acc (mk3 110 48 45) (r++B) cs=true ↔ P3 (r++B) cs:=by
 have hD:(cs.drop r.length).length=B.length:=by rw[length_drop];omega
 have LF:Cl (cs.drop r.length):=fun x hx=>hcl x (List.mem_of_mem_drop hx);have hrn:r≠[]:=fun z=>by rw[z]at hc;cases hc
 have h:=AN (.inl rfl) (B:=B) r 0 45 cs (by decide) (.inl rfl) hr hcl hl;rw[Nat.zero_add,tH r 45 hrn]at h;have ht:(if r.getLast? = some Kd.s then 115 else 111)=111\/(if r.getLast? = some Kd.s then 115 else 111)=115:=by split <;> simp
 generalize (if r.getLast? = some Kd.s then 115 else 111)=tl at h ht;unfold P3;rw[adK hr hB hc,Za hr hB hc];refine h.trans ?_;have l0:r.length<=cs.length:=by omega
 rcases (by omega:r.length % 3=0\/r.length % 3=1\/r.length % 3=2) with m|m|m
 ·rw[m,if_neg (fun z:(0=1/\_)=>absurd z.1 (by decide)),if_neg (by decide),if_neg (by decide)];have eO:dW r B=ones r.length:=by unfold dW;rw[if_neg (by omega)]
  rw[eO,parts (aB _) l0,acc_open (z:=mk3 110 48 tl) (by rcases ht with rfl|rfl <;> simp[opens]) hB Vi hD LF];unfold P3;simp;exact⟨fun⟨a,b,c⟩=>⟨⟨a,b⟩,c⟩,fun⟨⟨a,b⟩,c⟩=>⟨a,b,c⟩⟩
 ·rw[m,if_pos rfl];have eO:dW r B=ones r.length:=by unfold dW;rw[if_neg (by omega)]
  rw[eO,vN (z:=mk3 110 49 tl) (by rcases ht with rfl|rfl <;> simp[rights]) hB XW hD LF]
  by_cases hR:dh B=true
  ·rw[if_pos ⟨rfl,hR⟩,parts (aB _) l0,hR];simp;exact⟨fun⟨a,b,c⟩=>⟨⟨a,b⟩,c⟩,fun⟨⟨a,b⟩,c⟩=>⟨a,b,c⟩⟩
  ·rw[if_neg (fun z=>hR z.2)];simp[hR]
 ·rw[m,if_neg (fun z:(2=1/\_)=>absurd z.1 (by decide)),if_neg (by decide),if_pos rfl];have nz:¬ acc (mk3 110 (48+2) tl) B (cs.drop r.length)=true:=i9 (z:=mk3 110 50 tl) (by rcases ht with rfl|rfl <;> simp[nones]) hB hD LF;rw[GV (z:=mk3 110 50 83) (by simp[qO]) hB Vi hD LF];unfold P3
  by_cases hd:dbl r B=true
  ·have eO:dW r B=ones (r.length-1)++[2]:=by unfold dW;rw[if_pos ⟨m,hd⟩]
   rw[eO,parts (by rw[length_append,aB];simp;omega) l0,hd];obtain⟨d1,d2⟩:=Bool.and_eq_true_iff.mp hd;have d2:=of_decide_eq_true d2;constructor
   ·rintro(⟨_,z⟩|⟨_,_,_,a,_,b,c⟩)
    ·exact absurd z nz
    ·exact⟨⟨a,b⟩,c⟩
   ·rintro⟨⟨a,b⟩,c⟩;exact .inr ⟨hc,rfl,d2,a,d1,b,c⟩
  ·rw[Bool.eq_false_iff.mpr hd];constructor
   ·rintro(⟨_,z⟩|⟨_,_,a,_,b,_⟩)
    ·exact absurd z nz
    ·exact absurd (Bool.and_eq_true_iff.mpr ⟨b,decide_eq_true a⟩) hd
   ·rintro⟨_,z⟩;cases z
theorem aaK:acc (mk3 119 48 45) (r++B) cs=true ↔ P3 (.G::r++B) (3::cs):=by
 have hD:(cs.drop r.length).length=B.length:=by rw[length_drop];omega
 have LF:Cl (cs.drop r.length):=fun x hx=>hcl x (List.mem_of_mem_drop hx);have hrn:r≠[]:=fun z=>by rw[z]at hc;cases hc
 have h:=AN (.inr (.inl rfl)) (B:=B) r 0 45 cs (by decide) (.inl rfl) hr hcl hl;rw[Nat.zero_add,tH r 45 hrn]at h;have ht:(if r.getLast? = some Kd.s then 115 else 111)=111\/(if r.getLast? = some Kd.s then 115 else 111)=115:=by split <;> simp
 generalize (if r.getLast? = some Kd.s then 115 else 111)=tl at h ht;unfold P3;rw[TN hr hB hc,PX hr hB hc];refine h.trans ?_;have l0:r.length<=cs.length:=by omega
 rcases (by omega:r.length % 3=0\/r.length % 3=1\/r.length % 3=2) with m|m|m
 ·rw[m,if_neg (by decide),if_neg (fun z:(0=2/\_)=>absurd z.1 (by decide)),if_neg (by decide)];have eO:dW r B=ones r.length:=by unfold dW;rw[if_neg (by omega)]
  rw[eO,List.cons.injEq,parts (aB _) l0,acc_open (z:=mk3 119 48 tl) (by rcases ht with rfl|rfl <;> simp[opens]) hB Vi hD LF];unfold P3;simp;exact⟨fun⟨a,b,c⟩=>⟨⟨a,b⟩,c⟩,fun⟨⟨a,b⟩,c⟩=>⟨a,b,c⟩⟩
 ·rw[m,if_pos rfl];have nz:¬ acc (mk3 119 (48+1) tl) B (cs.drop r.length)=true:=i9 (z:=mk3 119 49 tl) (by rcases ht with rfl|rfl <;> simp[nones]) hB hD LF;constructor
  ·rintro(⟨_,z⟩|⟨_,z,_⟩)
   ·exact absurd z nz
   ·cases z
  ·rintro⟨z,_⟩
   injection z with z _
   cases z
 ·rw[m,if_neg (by decide),if_pos rfl];have nz:¬ acc (mk3 119 (48+2) tl) B (cs.drop r.length)=true:=i9 (z:=mk3 119 50 tl) (by rcases ht with rfl|rfl <;> simp[nones]) hB hD LF;rw[GV (z:=mk3 119 50 83) (by simp[qO]) hB Vi hD LF];unfold P3
  by_cases hd:dbl r B=true
  ·have eO:dW r B=ones (r.length-1)++[2]:=by unfold dW;rw[if_pos ⟨m,hd⟩]
   rw[if_neg (fun z=>by rw[hd]at z;cases z.2.1),if_pos hd,eO,List.cons.injEq,parts (by rw[length_append,aB];simp;omega) l0];obtain⟨d1,d2⟩:=Bool.and_eq_true_iff.mp hd;have d2:=of_decide_eq_true d2;constructor
   ·rintro(⟨_,z⟩|⟨_,_,_,a,_,b,c⟩)
    ·exact absurd z nz
    ·exact⟨⟨rfl,a,b⟩,c⟩
   ·rintro⟨⟨_,a,b⟩,c⟩;exact .inr ⟨hc,rfl,d2,a,d1,b,c⟩
  ·rw[if_neg hd];constructor
   ·rintro(⟨_,z⟩|⟨_,_,a,_,b,_⟩)
    ·exact absurd z nz
    ·exact absurd (Bool.and_eq_true_iff.mpr ⟨b,decide_eq_true a⟩) hd
   ·rintro⟨z,y⟩;obtain⟨y1,y2⟩:=Bool.and_eq_true_iff.mp y;rw[if_pos ⟨rfl,Bool.eq_false_iff.mpr hd,y1⟩]at z
    injection z with z _
    cases z
theorem aaL:acc (mk3 104 48 45) (r++B) cs=true ↔ P3 (.G::r++B) (2::cs):=by
 have hD:(cs.drop r.length).length=B.length:=by rw[length_drop];omega
 have LF:Cl (cs.drop r.length):=fun x hx=>hcl x (List.mem_of_mem_drop hx);have hrn:r≠[]:=fun z=>by rw[z]at hc;cases hc
 have h:=AN (.inr (.inr rfl)) (B:=B) r 0 45 cs (by decide) (.inl rfl) hr hcl hl;rw[Nat.zero_add,tH r 45 hrn]at h;have ht:(if r.getLast? = some Kd.s then 115 else 111)=111\/(if r.getLast? = some Kd.s then 115 else 111)=115:=by split <;> simp
 have hts:r.getLast? = some Kd.s->(if r.getLast? = some Kd.s then 115 else 111)=115:=fun z=>if_pos z;have hto:¬ r.getLast? = some Kd.s->(if r.getLast? = some Kd.s then 115 else 111)=111:=fun z=>if_neg z;generalize (if r.getLast? = some Kd.s then 115 else 111)=tl at h ht hts hto;unfold P3;rw[TN hr hB hc,PX hr hB hc];refine h.trans ?_;have l0:r.length<=cs.length:=by omega
 have n83:¬ acc (mk3 104 50 83) B (cs.drop r.length)=true:=i9 (by simp[nones]) hB hD LF;rcases (by omega:r.length % 3=0\/r.length % 3=1\/r.length % 3=2) with m|m|m
 ·rw[m,if_neg (by decide),if_neg (fun z:(0=2/\_)=>absurd z.1 (by decide)),if_neg (by decide)];have nz:¬ acc (mk3 104 (48+0) tl) B (cs.drop r.length)=true:=i9 (z:=mk3 104 48 tl) (by rcases ht with rfl|rfl <;> simp[nones]) hB hD LF;constructor
  ·rintro(⟨_,z⟩|⟨_,z,_⟩)
   ·exact absurd z nz
   ·cases z
  ·rintro⟨z,_⟩
   injection z with z _
   cases z
 ·rw[m,if_pos rfl,if_neg (by decide),List.cons.injEq,parts (aB _) l0,acc_open (z:=mk3 104 49 tl) (by rcases ht with rfl|rfl <;> simp[opens]) hB Vi hD LF];unfold P3;simp;exact⟨fun⟨a,b,c⟩=>⟨⟨a,b⟩,c⟩,fun⟨⟨a,b⟩,c⟩=>⟨a,b,c⟩⟩
 ·rw[m,if_neg (by decide),if_pos rfl]
  by_cases hd:dbl r B=true
  ·rw[if_neg (fun z=>by rw[hd]at z;cases z.2.1)];have d2:=of_decide_eq_true (Bool.and_eq_true_iff.mp hd).2;have et:=hts d2;subst et;have nz:¬ acc (mk3 104 (48+2) 115) B (cs.drop r.length)=true:=i9 (z:=mk3 104 50 115) (by simp[nones]) hB hD LF;constructor
   ·rintro(⟨_,z⟩|⟨_,_,_,_,z⟩)
    ·exact absurd z nz
    ·exact absurd z n83
   ·rintro⟨z,_⟩
    injection z with z _
    cases z
  ·rw[if_neg hd]
   by_cases hR:dh B=true
   ·have XX:¬ r.getLast? = some Kd.s:=fun z=>hd (Bool.and_eq_true_iff.mpr ⟨by
     have:=of_decide_eq_true (Bool.and_eq_true_iff.mp hR).1;rw[this];rfl,decide_eq_true z⟩)
    have et:=hto XX;subst et;rw[if_pos ⟨rfl,Bool.eq_false_iff.mpr hd,hR⟩,List.cons.injEq,parts (aB _) l0,vN (z:=mk3 104 50 111) (by simp[rights]) hB XW hD LF,hR];constructor
    ·rintro(⟨a,_,b,c⟩|⟨_,_,z,_⟩)
     ·exact⟨⟨rfl,a,b⟩,by rw[c];rfl⟩
     ·exact absurd z XX
    ·rintro⟨⟨_,a,b⟩,c⟩;exact .inl ⟨a,rfl,b,by simpa using c⟩
   ·rw[if_neg (fun z=>hR z.2.2),Bool.eq_false_iff.mpr hR];constructor
    ·rintro(⟨_,z⟩|⟨_,_,_,_,z⟩)
     ·rcases ht with rfl|rfl
      ·exact absurd ((vN (z:=mk3 104 50 111) (by simp[rights]) hB XW hD LF).mp z).1 hR
      ·exact absurd z (i9 (z:=mk3 104 50 115) (by simp[nones]) hB hD LF)
     ·exact absurd z n83
    ·rintro⟨z,_⟩
     injection z with z _
     cases z
end
theorem all_nil:All []:=by
 refine⟨?_,?_,?_,?_,?_,?_,?_⟩ <;> intro cs hl _ <;> cases cs with
 |cons _ _=>simp at hl
 |nil=>unfold acc;(first|unfold P2|unfold P3);decide +kernel
theorem all_cons {k:Kd}{t:List Kd}(ih:∀ t',t'.length<(k::t).length->All t'):All (k::t):=by
 have iht:=ih t (by simp);have two:∀ cs:List Int,cs.length=(k::t).length->Cl cs->(acc "2-" (k::t) cs=true ↔ P2 (k::t) cs):=fun cs hl hc=>by
  cases cs with
  |nil=>simp at hl
  |cons n cs=>exact TU iht (by simpa using hl) (hc n mem_cons_self) (fun x hx=>hc x (mem_cons_of_mem _ hx))
 have g:∀ cs:List Int,cs.length=(k::t).length->Cl cs->(acc "2g" (k::t) cs=true ↔ (k::t).head? ≠ some .dot/\P2 (k::t) cs):=fun cs hl hc=>by
  rw[<-two cs hl hc];cases cs with
  |nil=>simp at hl
  |cons n cs =>
   rw[bg,bg,f2g k (hc n mem_cons_self)]
   by_cases hd:k=.dot
   ·rw[if_pos hd];simp[hd]
   ·rw[if_neg hd];simp[hd]
 have G:∀ cs:List Int,cs.length=(k::t).length->Cl cs->(acc "2G" (k::t) cs=true ↔ (k::t).head? = some .dot/\P2 (k::t) cs):=fun cs hl hc=>by
  rw[<-two cs hl hc];cases cs with
  |nil=>simp at hl
  |cons n cs =>
   rw[bg,bg,f2G k (hc n mem_cons_self)]
   by_cases hd:k=.dot
   ·rw[if_pos hd];simp[hd]
   ·rw[if_neg hd];simp[hd]
 cases hk:k.small with
 |true =>
  obtain⟨r,B,e,hr,hB⟩:=span (k::t);have hc:0<r.length:=by
   cases r with
   |nil =>
    have:=hB k t e.symm;rw[hk]at this;cases this
   |cons _ _=>simp
  have le:(k::t).length=r.length+B.length:=by rw[e,length_append]
  have Vi:=ih B (by omega);have XW:∀ t',t'.length<B.length->All t':=fun t' h=>ih t' (by omega);have n:∀ cs:List Int,cs.length=(k::t).length->Cl cs->(acc "3n0-" (k::t) cs=true ↔ P3 (k::t) cs):=fun cs hl hcl=>by
   rw[z3n,e];exact aaJ hr hB hc Vi XW (by omega) hcl
  refine⟨two,g,G,n,fun cs hl hcl=>?_,fun cs hl hcl=>?_,fun cs hl hcl=>?_⟩
  ·rw[z3w,e];exact aaK hr hB hc Vi XW (by omega) hcl
  ·rw[z3h,e];exact aaL hr hB hc Vi XW (by omega) hcl
  ·rw[<-n cs hl hcl];cases cs with
   |nil=>simp at hl
   |cons n cs =>
    rw[bg,bg,f_t hk (hcl n mem_cons_self)];have:eh (k::t).head? = false:=by
     show k.great=false;cases k <;> first|rfl|cases hk
    exact⟨fun z=>⟨this,z⟩,fun z=>z.2⟩
 |false =>
  have hC:Cut (k::t):=fun x y z=>by injection z with z _;rw[<-z];exact hk
  have n:∀ cs:List Int,cs.length=(k::t).length->Cl cs->(acc "3n0-" (k::t) cs=true ↔ P3 (k::t) cs):=fun cs hl hcl=>by
   cases cs with
   |nil=>simp at hl
   |cons n cs=>exact Zd hk iht (by simpa using hl) (hcl n mem_cons_self) (fun x hx=>hcl x (mem_cons_of_mem _ hx)) fun _ x y z=>TV t z
  have eG:rd 3 (.G::k::t)=3::rd 3 (k::t):=by rw[HQ (k:=.G) (.inl rfl) (.inr rfl) (fun _ _=>hC)];rfl
  have fG:lA 3 (.G::k::t)=lA 3 (k::t):=by rw[B9 (k:=.G) (.inl rfl) (.inr rfl) (fun _ _=>hC)];rfl
  refine⟨two,g,G,n,fun cs hl hcl=>?_,fun cs hl hcl=>?_,fun cs hl hcl=>?_⟩
  ·unfold P3;rw[eG,fG,List.cons.injEq];have:=n cs hl hcl;unfold P3 at this;rw[eq_self,true_and,<-this];cases cs with
   |nil=>simp at hl
   |cons m cs=>rw[bg,bg,z3w,TR (by simp[opens]) hk (hcl m mem_cons_self)]
  ·unfold P3;rw[eG];constructor
   ·intro z;rw[z3h]at z;exact absurd z (i9 (by simp[nones]) hC hl hcl)
   ·rintro⟨z,_⟩
    injection z with z _
    cases z
  ·rw[<-n cs hl hcl];cases cs with
   |nil=>simp at hl
   |cons m cs =>
    rw[bg,bg,f3t hk (hcl m mem_cons_self)];show _ ↔ k.great=false/\_
    by_cases hg:k.great=true
    ·rw[if_pos hg];simp[hg]
    ·rw[if_neg hg];simp[hg]
theorem PY:∀(N:Nat)(ks:List Kd),ks.length<=N->All ks
 |_,[],_=>all_nil
 |0,k::t,h=>by simp at h
 |N+1,k::t,h=>all_cons fun t' ht=>PY N t' (by simp at h ht;omega)
theorem QU {b:Int}(hb:Ms b)(ks:List Kd){cs:List Int}(hl:cs.length=ks.length)(hc:Cl cs):acc (if b=3 then "3n0-" else "2-") ks cs=true ↔ cs=(fb b ks).1/\(fb b ks).2=[]:=by
 have A:=PY _ ks (Nat.le_refl _);rw[TQ];rcases hb with rfl|rfl
 ·rw[if_pos rfl];exact A.n cs hl hc
 ·rw[if_neg (by decide)];exact A.two cs hl hc
def stO (z:Option Str)(k:Kd)(c:Int):Option Str:=match z with
 |none=>none
 |some z=>match jF z k c with
  |.str y=>some y
  |_=>none
def HR (z:Option Str):List (Kd×Int)->Option Str
 |[]=>z
 |p::l=>HR (stO z p.1 p.2) l
theorem GW:∀ l,HR none l=none
 |[]=>rfl
 |_::l=>GW l
def aaM:Option Str->Bool
 |none=>false
 |some z=>fQ z
theorem LG:∀(ks:List Kd)(cs:List Int)(z:Str),cs.length=ks.length->acc z ks cs=aaM (HR (some z) (ks.zip cs))
 |[],[],z,_=>rfl
 |[],_::_,z,h=>by simp at h
 |_::_,[],z,h=>by simp at h
 |k::ks,c::cs,z,h=>by
  rw[bg];show _=aaM (HR (stO (some z) k c) (ks.zip cs));unfold stO;dsimp only;cases jF z k c with
  |str y=>exact LG ks cs y (by simpa using h)
  |_=>dsimp only;rw[GW];rfl
end jU
set_option maxHeartbeats 1000000
namespace jU
open PySem L2 PyProof.Rows
def Wt (x:Int):Prop:=0<=x/\x<=9
theorem PZ {m:Int}(hM:Ms m):∀(ks:List Kd),∀ x∈aH m ks,Wt x
 |[],_,z=>(nomatch z)
 |k::t,x,hx=>by
  rcases List.mem_cons.mp hx with rfl|hx
  ·unfold bw Wt;split
   ·decide
   ·rcases hM.nm k with e|e <;> rw[e] <;> cases k <;> decide
  ·exact PZ (hM.nm k) t x hx
theorem Nr {f:List Int}(h:∀ x∈f,Wt x)(i:Nat):∀ x∈f.set i 2,Wt x:=fun x hx=>by
 rcases List.mem_or_eq_of_mem_set hx with z|rfl
 ·exact h x z
 ·exact⟨by decide,by decide⟩
theorem QV (ks:List Kd){f:List Int}(h:∀ x∈f,Wt x)(a z:Nat):∀ x∈(settle ks f a z).2,Wt x:=by
 unfold settle iY iZ
 repeat' split
 all_goals first|exact h|exact Nr h _|exact Nr (Nr h _) _
theorem XY (ks:List Kd):∀(rs:List (Nat×Nat)) (f:List Int),(∀ x∈f,Wt x)->∀ x∈fd ks rs f,Wt x
 |[],f,h=>h
 |r::t,f,h=>XY ks t _ (QV ks h r.1 r.2)
theorem V7 {m:Int}(hM:Ms m)(ks:List Kd):Cl (fb m ks).1:=by
 have:=XY ks (bc m ks) (aH m ks) (PZ hM ks);rw[<-tE]at this;exact this
end jU
set_option maxHeartbeats 1000000
namespace jU
open PySem L2 PyProof.Rows
def tI (K:Frag)(T:Addr):Sp:=fun vs H Q _=>∃(a:Addr)(ns:List Int),vs=[.ref a]/\a6 K H a (ns.map V.int)/\ns.length<=63/\H T=some (.AK #[])/\∀ H',Q (.bl true) H'
theorem Nt {K:Frag}{H:Hp}{a T:Addr}{ns:List Int}(hl:ns.length<=63)(hO:PH T #[] H)(hS:a6 K H a (ns.map V.int)):tI K T [.ref a] H (fun v _=>v=.bl true) fun _ _ _=>False :=
 ⟨a,ns,rfl,hS,hl,hO.1,fun _=>rfl⟩
def qD (s:Sg):Int:=if s.1.e9 then s.2 else -1
def di:List Sg->List Int->List (Int×Int)
 |s::t,w::ws=>(if s.1.parting then [] else [(qD s,w)])++di t ws
 |_,_=>[]
theorem vO:∀(ss:List Sg)(ws:List Int),(di ss ws).length<=ss.length
 |[],_=>by simp[di]
 |s::t,[]=>by simp[di]
 |s::t,w::ws=>by
  have:=vO t ws;simp only [di,length_append,length_cons];split <;> simp <;> omega
theorem Ca:∀(ss:List Sg)(ws:List Int)(s:Sg)(w:Int),ws.length=ss.length->di (ss++[s]) (ws++[w])=di ss ws++(if s.1.parting then [] else [(qD s,w)])
 |[],[],s,w,_=>by simp[di]
 |x::t,y::ws,s,w,h=>by
  have:=Ca t ws s w (by simpa using h);simp only [List.cons_append,di,this,List.append_assoc]
 |[],_::_,_,_,h=>by simp at h
 |_::_,[],_,_,h=>by simp at h
theorem yw (c:iA)(k:Kd):∀(ks:List Kd)(n p:Int)(m:Int),jk c n ks=some p->costOf c k=some m->jk c n (ks++[k])=some (p+m)
 |[],n,p,m,h,e=>by
  cases h;simp only [nil_append,jk,e]
 |x::t,n,p,m,h,e=>by
  simp only [List.cons_append,jk]at h ⊢;cases ex:costOf c x with
  |none=>rw[ex]at h;cases h
  |some y=>rw[ex]at h;exact yw c k t (n+y) p m h e
theorem GX:∀(l:List (Kd×Int)) (z:Option Str) (k:Kd) (n:Int),HR z (l++[(k,n)])=stO (HR z l) k n
 |[],z,k,n=>rfl
 |x::t,z,k,n=>GX t _ k n
theorem vP (k:Kd):Nc k.str "GDsd"=k.e9:=by cases k <;> decide +kernel
theorem gk {n:Nat}(h:n<9000):n<sizeLine:=Nat.lt_of_lt_of_le h (by decide)
structure XZ (K:Frag)(H:Hp)(p:Addr)(k:Kd)(n:Int):Prop where
 h:dc K H p [.str k.str,.int n]
theorem XZ.same {K:Frag}{H H':Hp}{p:Addr}{k:Kd}{n:Int}(h:XZ K H p k n)(e:az H H'):XZ K H' p k n:=⟨e.tup h.h⟩
def SgM (K:Frag)(H:Hp)(y:V)(s:Sg):Prop:=∃ p,y=.ref p/\XZ K H p s.1 s.2
abbrev mX (K:Frag)(H:Hp):List V->List Sg->Prop:=Paired (SgM K H)
theorem mX.same {K:Frag}{H H':Hp}(e:az H H'){xs:List V}{ss:List Sg}(h:mX K H xs ss):mX K H' xs ss:=bU (fun _ _ ⟨p,e1,q⟩=>⟨p,e1,q.same e⟩) h
theorem mX.of {K:Frag}{H:Hp}{xs:List V}{ss:List Sg}(h:QM H xs ss):mX K H xs ss:=bU (fun _ _ ⟨p,e,q⟩=>⟨p,e,⟨dc.of q⟩⟩) h
section
variable {K:Frag} {H:Hp} {p:Addr} {Q:VK}
theorem adL {k:Kd}{n:Int}(h:XZ K H p k n)(q:Q (.str k.str) H):E2 K (.ref p) (.int 0) H Q\/E3 K (.ref p) (.int 0) H Q\/E4 (.ref p) (.int 0) H Q:=.inr (.inl ⟨p,_,0,_,rfl,rfl,h.h,rfl,q⟩)
theorem adM {k:Kd}{n:Int}(h:XZ K H p k n)(q:Q (.int n) H):E2 K (.ref p) (.int 1) H Q\/E3 K (.ref p) (.int 1) H Q\/E4 (.ref p) (.int 1) H Q:=.inr (.inl ⟨p,_,1,_,rfl,rfl,h.h,rfl,q⟩)
theorem Cb {xs:List V}{ss:List Sg}{i:Int}{n:Nat}{s:Sg}(h:a6 K H p xs)(g:mX K H xs ss)(hn:i=n)(e:ss[n]? = some s)(q:∀ b,XZ K H b s.1 s.2->Q (.ref b) H) :
  E2 K (.ref p) (.int i) H Q\/E3 K (.ref p) (.int i) H Q\/E4 (.ref p) (.int i) H Q:=by
 obtain⟨x,hx,b,rfl,hb⟩:=XF g e;exact Y2 h hn hx (q b hb)
end
def GY (s:Sg):Prop:=(s.1.e9=true->0<=s.2/\s.2<=99)/\(s.1.e9=false->s.2=0)
def QW (qs:List (Int×Int)):Prop:=∀ q∈qs,q.1 = -1\/(0<=q.1/\q.1<=99)
def Tr (c:iA)(b:Int)(qs:List (Int×Int))(w:Wy):Prop:=∃ cs:List Int,cs.length=w.2.2.length/\Cl cs/\HR (some (MJ b)) ((b8 w.2.2).zip cs)=some w.1/\di w.2.2 cs=qs/\jk c 0 (b8 w.2.2)=some w.2.1/\∀ s∈w.2.2,GY s
theorem LH (ss:List Sg)(s:Sg):b8 (ss++[s])=b8 ss++[s.1]:=by unfold b8;rw[map_append];rfl
theorem LI {α β:Type}:∀(xs:List α)(ys:List β)(x:α)(y:β),ys.length=xs.length->(xs++[x]).zip (ys++[y])=xs.zip ys++[(x,y)]
 |[],[],_,_,_=>rfl
 |a::t,b::u,x,y,h=>by
  show(a,b)::(t++[x]).zip (u++[y])=_;rw[LI t u x y (by simpa using h)];rfl
 |[],_::_,_,_,h=>by simp at h
 |_::_,[],_,_,h=>by simp at h
theorem Tr.ext {c:iA}{b:Int}{qs:List (Int×Int)}{z:Str}{k:Int}{ln:List Sg}{s:Sg}{n m:Int}{y:Str}(h:Tr c b qs (z,k,ln))(hn:0<=n/\n<=9)(hc:costOf c s.1=some m)(hy:XQ z s.1 n=some y)(hg:GY s):Tr c b (qs++(if s.1.parting then [] else [(qD s,n)])) (y,k+m,ln++[s]):=by
 obtain⟨cs,hl,hC,hr,hw,hp,hG⟩:=h;have hl:cs.length=ln.length:=hl;refine⟨cs++[n],by rw[length_append,length_append,hl];rfl,fun d hd=>?_,?_,?_,?_,fun x hx=>?_⟩
 ·rcases mem_append.mp hd with q|q
  ·exact hC d q
  ·rw[mem_singleton.mp q];exact hn
 ·show HR (some (MJ b)) ((b8 (ln++[s])).zip (cs++[n]))=some y;rw[LH,LI _ _ _ _ (by rw[hl];simp[b8]),GX,show HR (some (MJ b)) ((b8 ln).zip cs)=some z from hr];show(match jF z s.1 n with|.str y=>some y|_=>none)=some y;unfold XQ at hy;exact hy
 ·show di (ln++[s]) (cs++[n])=_;rw[Ca ln cs s n hl,show di ln cs=qs from hw]
 ·show jk c 0 (b8 (ln++[s]))=some (k+m);rw[LH];exact yw c s.1 _ 0 k m hp hc
 ·rcases mem_append.mp hx with q|q
  ·exact hG x q
  ·rw[mem_singleton.mp q];exact hg
theorem GZ {c:iA}{z:Str}{n:Int}{s:Sg}{m:Mv}(h:Ly c z n s=some m):m.1=s/\costOf c s.1=some m.2.1/\XQ z s.1 n=some m.2.2:=by
 unfold Ly at h;cases e1:costOf c s.1 with
 |none=>rw[e1]at h;cases h
 |some a =>
  cases e2:XQ z s.1 n with
  |none=>rw[e1,e2]at h;cases h
  |some y=>rw[e1,e2]at h;cases h;exact⟨rfl,rfl,rfl⟩
theorem QX {P:Wy->Prop}{ws:List Wy}{z:Str}{c:Int}{ln:List Sg}(h:∀ w∈ws,P w)(hn:P (z,c,ln)):∀ w∈la ws z c ln,P w:=by
 intro w hw;unfold la at hw;split at hw
 ·rcases mem_append.mp hw with q|q
  ·exact h w q
  ·rw[mem_singleton.mp q];exact hn
 ·split at hw
  ·unfold Nj at hw;obtain⟨v,hv,rfl⟩:=mem_map.mp hw;split
   ·exact hn
   ·exact h v hv
  ·exact h w hw
theorem vQ {P:Wy->Prop}{k:Int}{ln:List Sg}:∀{ms:List Mv} {acc:List Wy},(∀ w∈acc,P w)->(∀ m∈ms,P (m.2.2,k+m.2.1,ln++[m.1]))->∀ w∈ij k ln ms acc,P w
 |[],_,h,_=>h
 |m::t,acc,h,hm=>vQ (ms:=t) (QX h (hm m mem_cons_self)) fun x hx=>hm x (mem_cons_of_mem _ hx)
theorem Nu {s:Sg}(h:s∈oP):GY s/\s.1.parting=true:=by
 unfold oP at h;simp only [List.mem_cons,List.not_mem_nil,or_false]at h;rcases h with rfl|rfl|rfl <;> exact⟨⟨fun z=>(nomatch z),fun _=>rfl⟩,rfl⟩
theorem V8 {c:iA}{b:Int}{qs:List (Int×Int)}{z:Str}{k:Int}{ln:List Sg}(h:Tr c b qs (z,k,ln)){m:Mv}(hm:m∈bZ c z 0 oP):Tr c b qs (m.2.2,k+m.2.1,ln++[m.1]):=by
 obtain⟨s,hs,e⟩:=List.mem_filterMap.mp hm;obtain⟨e1,e2,e3⟩:=GZ e;obtain⟨g1,g2⟩:=Nu hs;have:=h.ext ⟨Int.le_refl _,by decide⟩ e2 e3 g1;rw[g2]at this;rw[e1]
 simpa using this
theorem QY {c:iA}{b:Int}{qs:List (Int×Int)}{acc:List Wy}{z:Str}(h:∀ w∈acc,Tr c b qs w):∀ w∈oS c acc z,Tr c b qs w:=by
 unfold oS;cases e:oO acc z with
 |none=>exact h
 |some q =>
  have hq:Tr c b qs (z,q.1,q.2):=h _ (tD e);exact vQ h fun m hm=>V8 hq hm
theorem vR {c:iA}{b:Int}{qs:List (Int×Int)}:∀(zs:List Str) {acc:List Wy},(∀ w∈acc,Tr c b qs w)->∀ w∈lg c zs acc,Tr c b qs w
 |[],_,h=>h
 |z::t,acc,h=>by
  rw[B3];exact vR t (QY h)
theorem tK {c:iA}{b:Int}{qs:List (Int×Int)}{ws:List Wy}(h:∀ w∈ws,Tr c b qs w):∀ w∈withPart c ws,Tr c b qs w:=vR _ (vR _ h)
theorem LJ {t:Int}(ht:t = -1\/(0<=t/\t<=99)){s:Sg}(h:s∈gC t):GY s/\s.1.parting=false/\qD s=t:=by
 unfold gC at h;split at h
 ·next e =>
  simp only [List.mem_cons,List.not_mem_nil,or_false]at h;rcases h with rfl|rfl <;> exact⟨⟨fun z=>(nomatch z),fun _=>rfl⟩,rfl,e.symm⟩
 ·next e =>
  have ht:=ht.resolve_left e;simp only [List.mem_cons,List.not_mem_nil,or_false]at h;rcases h with rfl|rfl|rfl|rfl <;> exact⟨⟨fun _=>ht,fun z=>(nomatch z)⟩,rfl,rfl⟩
theorem V9 {c:iA}{b:Int}{qs:List (Int×Int)}{q:Int×Int}(hq:q.1 = -1\/(0<=q.1/\q.1<=99))(h9:0<=q.2/\q.2<=9){z:Str}{k:Int}{ln:List Sg}(h:Tr c b qs (z,k,ln)){m:Mv}(hm:m∈bZ c z q.2 (gC q.1)):Tr c b (qs++[q]) (m.2.2,k+m.2.1,ln++[m.1]):=by
 obtain⟨s,hs,e⟩:=List.mem_filterMap.mp hm;obtain⟨e1,e2,e3⟩:=GZ e;obtain⟨g1,g2,g3⟩:=LJ hq hs;have:=h.ext h9 e2 e3 g1;rw[g2,g3]at this;rw[e1];exact this
theorem tL {c:iA}{b:Int}{qs:List (Int×Int)}{q:Int×Int}(hq:q.1 = -1\/(0<=q.1/\q.1<=99))(h9:0<=q.2/\q.2<=9):∀{ws acc:List Wy},(∀ w∈ws,Tr c b qs w)->(∀ w∈acc,Tr c b (qs++[q]) w)->∀ w∈gD c q ws acc,Tr c b (qs++[q]) w
 |[],_,_,h=>h
 |w::t,acc,hs,h=>tL hq h9 (ws:=t) (fun x hx=>hs x (mem_cons_of_mem _ hx)) (vQ h fun m hm=>V9 hq h9 (hs w mem_cons_self) hm)
theorem G0 {c:iA}{b:Int}{qs:List (Int×Int)}(hW:XU qs)(hT:QW qs):∀ i,∀ w∈ik c b (qs.take i),Tr c b (qs.take i) w
 |0=>tK fun w hw=>by
  rw[mem_singleton.mp hw];exact⟨[],rfl,fun _ h=>(nomatch h),rfl,rfl,rfl,fun _ h=>(nomatch h)⟩
 |i+1=>by
  have h1:=G0 (c:=c) (b:=b) hW hT i;cases e:qs[i]? with
  |none =>
   rw[take_succ,e];show ∀ w∈ik c b (qs.take i++[]),Tr c b (qs.take i++[]) w;rw[append_nil];exact h1
  |some q =>
   have hm:=mem_of_getElem? e;rw[take_succ,e];show ∀ w∈ik c b (qs.take i++[q]),Tr c b (qs.take i++[q]) w;rw[qL];exact tK (tL (hT q hm) (hW q hm) h1 fun _ h=>(nomatch h))
theorem QZ {c:iA}{b:Int}(hb:Ms b){qs:List (Int×Int)}(hW:XU qs)(hT:QW qs){w:Wy}(hw:w∈B7 c b qs):(fb b (b8 w.2.2)).2=[]/\di w.2.2 (fb b (b8 w.2.2)).1=qs/\jk c 0 (b8 w.2.2)=some w.2.1/\∀ s∈w.2.2,GY s:=by
 unfold B7 at hw;obtain⟨hw,he⟩:=List.mem_filter.mp hw;have h:=G0 (c:=c) (b:=b) hW hT qs.length;rw[take_length]at h;obtain⟨cs,hl,hC,hr,hwi,hp,hG⟩:=h w hw;have hl':cs.length=(b8 w.2.2).length:=by rw[hl];simp[b8]
 have ha:acc (MJ b) (b8 w.2.2) cs=true:=by
  rw[LG _ _ _ hl',hr];exact he
 have hr2:=(QU hb (b8 w.2.2) hl' hC).mp ha;refine⟨hr2.2,?_,hp,hG⟩;rw[<-hr2.1];exact hwi
theorem vS:∀{ss:List Sg} {ws:List Int} {q:Int×Int},q∈di ss ws->∃ s∈ss,s.1.parting=false/\q.1=qD s/\q.2∈ws
 |[],_,q,h=>by simp[di]at h
 |_::_,[],q,h=>by simp[di]at h
 |s::t,w::ws,q,h=>by
  simp only [di]at h;rcases mem_append.mp h with z|z
  ·cases e:s.1.parting with
   |true=>rw[e]at z;simp at z
   |false =>
    rw[e]at z;have:q=(qD s,w):=by simpa using z
    subst this;exact⟨s,mem_cons_self,e,rfl,mem_cons_self⟩
  ·obtain⟨s',a,b,c,d⟩:=vS z;exact⟨s',mem_cons_of_mem _ a,b,c,mem_cons_of_mem _ d⟩
theorem Q0 {ss:List Sg}{ws:List Int}(h:Cl ws):XU (di ss ws):=fun q hq=>by
 obtain⟨_,_,_,_,d⟩:=vS hq;exact h _ d
theorem Nv {ss:List Sg}{ws:List Int}(h:∀ s∈ss,s.1.e9=true->0<=s.2/\s.2<100):QW (di ss ws):=fun q hq=>by
 obtain⟨s,a,b,c,_⟩:=vS hq;rw[c];unfold qD;cases e:s.1.e9 with
 |true=>have:=h s a e;exact .inr ⟨by rw[if_pos rfl];exact this.1,by rw[if_pos rfl];omega⟩
 |false=>exact .inl rfl
end jU
set_option maxHeartbeats 1000000
local macro_rules | `(tactic| tm_up) => `(tactic| repeat w_up)
local macro_rules | `(tactic| w_up) => `(tactic| first
 |refine⟨_,rfl,?_⟩
 |refine⟨_,_,rfl,rfl,⟨by decide,by decide⟩,?_⟩
 |refine⟨_,_,rfl,rfl,(by first|decide|(show(0:Int)<_;decide)),?_⟩
 |refine .inl ⟨_,_,rfl,rfl,.inr ⟨by decide,by decide⟩,?_⟩
 |refine⟨_,_,rfl,rfl,?_⟩
 |refine .inl ⟨_,_,rfl,rfl,?_⟩
 |refine .inl ⟨rfl,?_⟩
 |refine .inr ⟨_,_,rfl,rfl,?_⟩
 |refine jU.ix0 (by assumption) ?_
 |refine jU.ix1 (by assumption) ?_
 |refine jU.adL (by assumption) ?_
 |refine jU.adM (by assumption) ?_)
noncomputable section
namespace Hd
open PySem PySem.W
noncomputable abbrev pr:Program:=PySem.Challenge.rw_noteworth_k25_what_is_written.prog
noncomputable def tp (i:Nat):Stmt:=pr.main.body.getD i (.Pass ⟨0,0,0,0⟩)
noncomputable def m0:Nat:=11
noncomputable def ann:Option Value:=some (.ref 6)
noncomputable def drawn:Drawn:=boot_drawn
noncomputable def c0:Pos:=⟨0,0,0,0⟩
noncomputable def code:Value:=.ref 13
noncomputable def frame:Nat:=14
noncomputable def c7 (P:Params):Obj:=⟨.type "tuple",none,.seq #[] 0,#[]⟩
noncomputable def X0 (P:Params):Obj:=⟨.none,none,.fields #[],#[]⟩
noncomputable def c8 (P:Params):Obj:=⟨.type "code",none,.fields #[.str "<module>" 182,.str "<module>" 183,.str "/claim/cut.py" 184,.int (1) 0,.int (0) 0,.int (0) 0,.int (0) 0,.int (0) 0,.ref 11,.bool false,.int (181) 0,.ref 12,.none,.none,.none,.none,.int (185) 0,.int (1) 0,.str "/claim/cut.py" 186],#[]⟩
noncomputable def c9 (P:Params):Obj:=⟨.type "frame",none,.plain,#[some (.ref 13),some (.ref 3),some (.ref 3),none,some (.str "__main__" 164),none,some (.ref 0)]⟩
noncomputable def H1 (P:Params):Heap:=⟨⟨[boot_o_0 P,boot_o_1 P,boot_o_2 P,boot_o_3 P,boot_o_4 P,boot_o_5 P,boot_o_6 P,boot_o_7 P,boot_o_8 P,boot_o_9 P,boot_o_10 P,c7 P,X0 P,c8 P,c9 P]⟩,(boot_heap P).life⟩
noncomputable def k1:Nat:=187
noncomputable def n1:Nat:=12
noncomputable def p1:Pos:=⟨0,0,0,0⟩
noncomputable def H2 (P:Params):Heap:=⟨⟨[boot_o_0 P,boot_o_1 P,boot_o_2 P,boot_o_3 P,boot_o_4 P,boot_o_5 P,boot_o_6 P,boot_o_7 P,boot_o_8 P,boot_o_9 P,boot_o_10 P,c7 P,X0 P,c8 P,c9 P]⟩,(boot_heap P).life⟩
noncomputable def k2:Nat:=187
noncomputable def n2:Nat:=1
noncomputable def p2:Pos:=⟨0,0,0,0⟩
noncomputable def adN (P:Params):Obj:=⟨.type "dict",none,.dict #[⟨PyData.keyHash P "__name__",.str "__name__" 165,.str "noteworth.prices" 219⟩,⟨PyData.keyHash P "__doc__",.str "__doc__" 166,.none⟩,⟨PyData.keyHash P "__package__",.str "__package__" 167,.none⟩,⟨PyData.keyHash P "__loader__",.str "__loader__" 168,.builtin "__main__.__loader__#opaque"⟩,⟨PyData.keyHash P "__spec__",.str "__spec__" 169,.none⟩,⟨PyData.keyHash P "__annotations__",.str "__annotations__" 170,.ref 6⟩,⟨PyData.keyHash P "__builtins__",.str "__builtins__" 171,.ref 4⟩,⟨PyData.keyHash P "__file__",.str "__file__" 173,.str "/claim/cut.py" 172⟩,⟨PyData.keyHash P "__cached__",.str "__cached__" 174,.none⟩,⟨PyData.keyHash P "SMALL_KINDS",.str "SMALL_KINDS" 192,.ref 15⟩,⟨PyData.keyHash P "PARTING_KINDS",.str "PARTING_KINDS" 196,.ref 16⟩,⟨PyData.keyHash P "MEASURE_KINDS",.str "MEASURE_KINDS" 199,.ref 17⟩,⟨PyData.keyHash P "SOUNDING_KINDS",.str "SOUNDING_KINDS" 204,.ref 18⟩,⟨PyData.keyHash P "small",.str "small" 211,.ref 25⟩,⟨PyData.keyHash P "parting",.str "parting" 218,.ref 32⟩,⟨PyData.keyHash P "DARK_KINDS",.str "DARK_KINDS" 223,.ref 33⟩,⟨PyData.keyHash P "sign_price",.str "sign_price" 234,.ref 40⟩] 17,#[]⟩
noncomputable def gm (P:Params):Obj:=⟨.none,none,.fields #[.int (6) 0,.int (0) 0,.ref 24,.int (8) 0,.int (0) 0,.ref 31,.int (12) 0,.int (0) 0,.ref 39],#[]⟩
noncomputable def dj (P:Params):Obj:=⟨.type "tuple",none,.seq #[.str "s" 189,.str "d" 190,.str "r" 191] 0,#[]⟩
noncomputable def dk (P:Params):Obj:=⟨.type "tuple",none,.seq #[.str "." 193,.str "3" 194,.str "2" 195] 0,#[]⟩
noncomputable def dm (P:Params):Obj:=⟨.type "tuple",none,.seq #[.str "3" 197,.str "2" 198] 0,#[]⟩
noncomputable def dn (P:Params):Obj:=⟨.type "tuple",none,.seq #[.str "G" 200,.str "D" 201,.str "s" 202,.str "d" 203] 0,#[]⟩
noncomputable def dq (P:Params):Obj:=⟨.type "tuple",none,.seq #[] 0,#[]⟩
noncomputable def dX (P:Params):Obj:=⟨.none,none,.fields #[],#[]⟩
noncomputable def dr (P:Params):Obj:=⟨.type "tuple",none,.seq #[.str "sign" 208] 0,#[]⟩
noncomputable def du (P:Params):Obj:=⟨.type "tuple",none,.seq #[] 0,#[]⟩
noncomputable def dY (P:Params):Obj:=⟨.none,none,.func { name:="small",qualname:="small",params:=L2.ak (tp 5),body:=.stmts (L2.ai (tp 5)),scope:=L2.ae (tp 5),globals:=0,closure:=[],defaults:=.none,kwdefaults:=.none,doc:=.none,pyModule:=.none,annotations:=none,code:=.none,closureTuple:=.none,builtins:=0 },#[]⟩
noncomputable def dv (P:Params):Obj:=⟨.type "code",none,.fields #[.str "small" 205,.str "small" 206,.str "/claim/cut.py" 207,.int (6) 0,.int (1) 0,.int (0) 0,.int (0) 0,.int (3) 0,.ref 19,.bool true,.int (181) 0,.ref 20,.none,.ref 21,.ref 22,.ref 23,.int (209) 0,.int (6) 0,.str "/claim/cut.py" 210],#[]⟩
noncomputable def dw (P:Params):Obj:=⟨.type "function",none,.func { name:="small",qualname:="small",params:=L2.ak (tp 5),body:=.stmts (L2.ai (tp 5)),scope:=L2.ae (tp 5),globals:=3,closure:=[],defaults:=.none,kwdefaults:=.none,doc:=.none,pyModule:=.str "noteworth.signs" 187,annotations:=none,code:=.ref 24,closureTuple:=.none,builtins:=0 },#[]⟩
noncomputable def dy (P:Params):Obj:=⟨.type "tuple",none,.seq #[] 0,#[]⟩
noncomputable def dZ (P:Params):Obj:=⟨.none,none,.fields #[],#[]⟩
noncomputable def dz (P:Params):Obj:=⟨.type "tuple",none,.seq #[.str "sign" 215] 0,#[]⟩
noncomputable def dA (P:Params):Obj:=⟨.type "tuple",none,.seq #[] 0,#[]⟩
noncomputable def d3 (P:Params):Obj:=⟨.none,none,.func { name:="parting",qualname:="parting",params:=L2.ak (tp 6),body:=.stmts (L2.ai (tp 6)),scope:=L2.ae (tp 6),globals:=0,closure:=[],defaults:=.none,kwdefaults:=.none,doc:=.none,pyModule:=.none,annotations:=none,code:=.none,closureTuple:=.none,builtins:=0 },#[]⟩
noncomputable def dB (P:Params):Obj:=⟨.type "code",none,.fields #[.str "parting" 212,.str "parting" 213,.str "/claim/cut.py" 214,.int (8) 0,.int (1) 0,.int (0) 0,.int (0) 0,.int (3) 0,.ref 26,.bool true,.int (181) 0,.ref 27,.none,.ref 28,.ref 29,.ref 30,.int (216) 0,.int (8) 0,.str "/claim/cut.py" 217],#[]⟩
noncomputable def dC (P:Params):Obj:=⟨.type "function",none,.func { name:="parting",qualname:="parting",params:=L2.ak (tp 6),body:=.stmts (L2.ai (tp 6)),scope:=L2.ae (tp 6),globals:=3,closure:=[],defaults:=.none,kwdefaults:=.none,doc:=.none,pyModule:=.str "noteworth.signs" 187,annotations:=none,code:=.ref 31,closureTuple:=.none,builtins:=0 },#[]⟩
noncomputable def dD (P:Params):Obj:=⟨.type "tuple",none,.seq #[.str "D" 221,.str "d" 222] 0,#[]⟩
noncomputable def dE (P:Params):Obj:=⟨.type "tuple",none,.seq #[] 0,#[]⟩
noncomputable def d4 (P:Params):Obj:=⟨.none,none,.fields #[],#[]⟩
noncomputable def dF (P:Params):Obj:=⟨.type "tuple",none,.seq #[.str "sign" 227,.str "prices" 228,.str "dot" 229,.str "dark" 230,.str "measure" 231] 0,#[]⟩
noncomputable def dG (P:Params):Obj:=⟨.type "tuple",none,.seq #[] 0,#[]⟩
noncomputable def d7 (P:Params):Obj:=⟨.none,none,.func { name:="sign_price",qualname:="sign_price",params:=L2.ak (tp 9),body:=.stmts (L2.ai (tp 9)),scope:=L2.ae (tp 9),globals:=0,closure:=[],defaults:=.none,kwdefaults:=.none,doc:=.none,pyModule:=.none,annotations:=none,code:=.none,closureTuple:=.none,builtins:=0 },#[]⟩
noncomputable def dH (P:Params):Obj:=⟨.type "code",none,.fields #[.str "sign_price" 224,.str "sign_price" 225,.str "/claim/cut.py" 226,.int (12) 0,.int (2) 0,.int (0) 0,.int (0) 0,.int (3) 0,.ref 34,.bool true,.int (181) 0,.ref 35,.none,.ref 36,.ref 37,.ref 38,.int (232) 0,.int (12) 0,.str "/claim/cut.py" 233],#[]⟩
noncomputable def dJ (P:Params):Obj:=⟨.type "function",none,.func { name:="sign_price",qualname:="sign_price",params:=L2.ak (tp 9),body:=.stmts (L2.ai (tp 9)),scope:=L2.ae (tp 9),globals:=3,closure:=[],defaults:=.none,kwdefaults:=.none,doc:=.none,pyModule:=.str "noteworth.prices" 219,annotations:=none,code:=.ref 39,closureTuple:=.none,builtins:=0 },#[]⟩
noncomputable def H3 (P:Params):Heap:=⟨⟨[boot_o_0 P,boot_o_1 P,boot_o_2 P,adN P,boot_o_4 P,boot_o_5 P,boot_o_6 P,boot_o_7 P,boot_o_8 P,boot_o_9 P,boot_o_10 P,c7 P,gm P,c8 P,c9 P,dj P,dk P,dm P,dn P,dq P,dX P,dr P,du P,dY P,dv P,dw P,dy P,dZ P,dz P,dA P,d3 P,dB P,dC P,dD P,dE P,d4 P,dF P,dG P,d7 P,dH P,dJ P]⟩,(boot_heap P).life⟩
noncomputable def k3:Nat:=235
noncomputable def n3:Nat:=174
noncomputable def p3:Pos:=⟨12,0,20,12⟩
noncomputable def s3:List Stmt:=[tp 0,tp 1,tp 2,tp 3,tp 4,tp 5,tp 6,tp 7,tp 8,tp 9]
noncomputable def yE (P:Params):Obj:=⟨.type "dict",none,.dict #[⟨PyData.keyHash P "__name__",.str "__name__" 165,.str "noteworth.steps" 238⟩,⟨PyData.keyHash P "__doc__",.str "__doc__" 166,.none⟩,⟨PyData.keyHash P "__package__",.str "__package__" 167,.none⟩,⟨PyData.keyHash P "__loader__",.str "__loader__" 168,.builtin "__main__.__loader__#opaque"⟩,⟨PyData.keyHash P "__spec__",.str "__spec__" 169,.none⟩,⟨PyData.keyHash P "__annotations__",.str "__annotations__" 170,.ref 6⟩,⟨PyData.keyHash P "__builtins__",.str "__builtins__" 171,.ref 4⟩,⟨PyData.keyHash P "__file__",.str "__file__" 173,.str "/claim/cut.py" 172⟩,⟨PyData.keyHash P "__cached__",.str "__cached__" 174,.none⟩,⟨PyData.keyHash P "SMALL_KINDS",.str "SMALL_KINDS" 192,.ref 15⟩,⟨PyData.keyHash P "PARTING_KINDS",.str "PARTING_KINDS" 196,.ref 16⟩,⟨PyData.keyHash P "MEASURE_KINDS",.str "MEASURE_KINDS" 199,.ref 17⟩,⟨PyData.keyHash P "SOUNDING_KINDS",.str "SOUNDING_KINDS" 204,.ref 18⟩,⟨PyData.keyHash P "small",.str "small" 211,.ref 25⟩,⟨PyData.keyHash P "parting",.str "parting" 218,.ref 32⟩,⟨PyData.keyHash P "DARK_KINDS",.str "DARK_KINDS" 223,.ref 33⟩,⟨PyData.keyHash P "sign_price",.str "sign_price" 234,.ref 40⟩,⟨PyData.keyHash P "REST_TONE",.str "REST_TONE" 237,.int (-1) 236⟩,⟨PyData.keyHash P "TWOFOLD_STATES",.str "TWOFOLD_STATES" 243,.ref 41⟩,⟨PyData.keyHash P "TWOFOLD_BEGIN",.str "TWOFOLD_BEGIN" 245,.str "2-" 244⟩,⟨PyData.keyHash P "THREEFOLD_BEGIN",.str "THREEFOLD_BEGIN" 247,.str "3n0-" 246⟩,⟨PyData.keyHash P "SHORTENED_FROM_AHEAD",.str "SHORTENED_FROM_AHEAD" 249,.str "3t0-" 248⟩,⟨PyData.keyHash P "NEXT_COUNTS",.str "NEXT_COUNTS" 259,.ref 42⟩] 23,#[]⟩
noncomputable def d8 (P:Params):Obj:=⟨.type "tuple",none,.seq #[.str "2-" 240,.str "2g" 241,.str "2G" 242] 0,#[]⟩
noncomputable def d9 (P:Params):Obj:=⟨.type "dict",none,.dict #[⟨PyData.keyHash P "0",.str "0" 250,.str "1" 251⟩,⟨PyData.keyHash P "1",.str "1" 252,.str "2" 253⟩,⟨PyData.keyHash P "2",.str "2" 254,.str "0" 255⟩] 3,#[]⟩
noncomputable def H4 (P:Params):Heap:=⟨⟨[boot_o_0 P,boot_o_1 P,boot_o_2 P,yE P,boot_o_4 P,boot_o_5 P,boot_o_6 P,boot_o_7 P,boot_o_8 P,boot_o_9 P,boot_o_10 P,c7 P,gm P,c8 P,c9 P,dj P,dk P,dm P,dn P,dq P,dX P,dr P,du P,dY P,dv P,dw P,dy P,dZ P,dz P,dA P,d3 P,dB P,dC P,dD P,dE P,d4 P,dF P,dG P,d7 P,dH P,dJ P,d8 P,d9 P]⟩,(boot_heap P).life⟩
noncomputable def k4:Nat:=260
noncomputable def n4:Nat:=119
noncomputable def p4:Pos:=⟨27,0,27,11⟩
noncomputable def s4:List Stmt:=[tp 10,tp 11,tp 12,tp 13,tp 14,tp 15,tp 16]
noncomputable def d5:Nat:=43
noncomputable def dp5:Pos:=⟨28,16,28,178⟩
noncomputable def vs5:List (Value×Value):=[(.ref 44,.str "2-" 262),(.ref 45,.str "2-" 265),(.ref 46,.str "2-" 268),(.ref 47,.str "2-" 271),(.ref 48,.str "2-" 274),(.ref 49,.str "2g" 277),(.ref 50,.str "2G" 280),(.ref 51,.str "2-" 283),(.ref 52,.str "2-" 286),(.ref 53,.str "3n0-" 289)]
noncomputable def Wa (P:Params):Obj:=⟨.type "dict",none,.dict #[] 0,#[]⟩
noncomputable def bp (P:Params):Obj:=⟨.type "tuple",none,.seq #[.str "s" 260,.int (1) 261] 0,#[]⟩
noncomputable def bq (P:Params):Obj:=⟨.type "tuple",none,.seq #[.str "d" 263,.int (1) 264] 0,#[]⟩
noncomputable def br (P:Params):Obj:=⟨.type "tuple",none,.seq #[.str "r" 266,.int (1) 267] 0,#[]⟩
noncomputable def bu (P:Params):Obj:=⟨.type "tuple",none,.seq #[.str "D" 269,.int (2) 270] 0,#[]⟩
noncomputable def bx (P:Params):Obj:=⟨.type "tuple",none,.seq #[.str "R" 272,.int (2) 273] 0,#[]⟩
noncomputable def bz (P:Params):Obj:=⟨.type "tuple",none,.seq #[.str "G" 275,.int (2) 276] 0,#[]⟩
noncomputable def bA (P:Params):Obj:=⟨.type "tuple",none,.seq #[.str "G" 278,.int (3) 279] 0,#[]⟩
noncomputable def bB (P:Params):Obj:=⟨.type "tuple",none,.seq #[.str "." 281,.int (0) 282] 0,#[]⟩
noncomputable def bC (P:Params):Obj:=⟨.type "tuple",none,.seq #[.str "2" 284,.int (0) 285] 0,#[]⟩
noncomputable def bD (P:Params):Obj:=⟨.type "tuple",none,.seq #[.str "3" 287,.int (0) 288] 0,#[]⟩
noncomputable def HS (P:Params):Heap:=⟨⟨[boot_o_0 P,boot_o_1 P,boot_o_2 P,yE P,boot_o_4 P,boot_o_5 P,boot_o_6 P,boot_o_7 P,boot_o_8 P,boot_o_9 P,boot_o_10 P,c7 P,gm P,c8 P,c9 P,dj P,dk P,dm P,dn P,dq P,dX P,dr P,du P,dY P,dv P,dw P,dy P,dZ P,dz P,dA P,d3 P,dB P,dC P,dD P,dE P,d4 P,dF P,dG P,d7 P,dH P,dJ P,d8 P,d9 P,Wa P,bp P,bq P,br P,bu P,bx P,bz P,bA P,bB P,bC P,bD P]⟩,(boot_heap P).life⟩
noncomputable def LK:Nat:=290
noncomputable def adO (P:Params):Array DictEntry:=#[]
noncomputable def aaN:Nat:=0
noncomputable def aaO:Nat:=44
noncomputable def aaP:Value:=.str "2-" 262
noncomputable def Wb (P:Params):Obj:=⟨.type "dict",none,.dict #[⟨th P "s" (1),.ref 44,.str "2-" 262⟩] 1,#[]⟩
noncomputable def HU (P:Params):Heap:=⟨⟨[boot_o_0 P,boot_o_1 P,boot_o_2 P,yE P,boot_o_4 P,boot_o_5 P,boot_o_6 P,boot_o_7 P,boot_o_8 P,boot_o_9 P,boot_o_10 P,c7 P,gm P,c8 P,c9 P,dj P,dk P,dm P,dn P,dq P,dX P,dr P,du P,dY P,dv P,dw P,dy P,dZ P,dz P,dA P,d3 P,dB P,dC P,dD P,dE P,d4 P,dF P,dG P,d7 P,dH P,dJ P,d8 P,d9 P,Wb P,bp P,bq P,br P,bu P,bx P,bz P,bA P,bB P,bC P,bD P]⟩,(boot_heap P).life⟩
noncomputable def Fb:Nat:=293
noncomputable def adP (P:Params):Array DictEntry:=#[⟨th P "s" (1),.ref 44,.str "2-" 262⟩]
noncomputable def aaQ:Nat:=1
noncomputable def aaR:Nat:=45
noncomputable def aaS:Value:=.str "2-" 265
noncomputable def Wc (P:Params):Obj:=⟨.type "dict",none,.dict #[⟨th P "s" (1),.ref 44,.str "2-" 262⟩,⟨th P "d" (1),.ref 45,.str "2-" 265⟩] 2,#[]⟩
noncomputable def HV (P:Params):Heap:=⟨⟨[boot_o_0 P,boot_o_1 P,boot_o_2 P,yE P,boot_o_4 P,boot_o_5 P,boot_o_6 P,boot_o_7 P,boot_o_8 P,boot_o_9 P,boot_o_10 P,c7 P,gm P,c8 P,c9 P,dj P,dk P,dm P,dn P,dq P,dX P,dr P,du P,dY P,dv P,dw P,dy P,dZ P,dz P,dA P,d3 P,dB P,dC P,dD P,dE P,d4 P,dF P,dG P,d7 P,dH P,dJ P,d8 P,d9 P,Wc P,bp P,bq P,br P,bu P,bx P,bz P,bA P,bB P,bC P,bD P]⟩,(boot_heap P).life⟩
noncomputable def Fc:Nat:=296
noncomputable def adQ (P:Params):Array DictEntry:=#[⟨th P "s" (1),.ref 44,.str "2-" 262⟩,⟨th P "d" (1),.ref 45,.str "2-" 265⟩]
noncomputable def aaT:Nat:=2
noncomputable def aaU:Nat:=46
noncomputable def aaV:Value:=.str "2-" 268
noncomputable def Wd (P:Params):Obj:=⟨.type "dict",none,.dict #[⟨th P "s" (1),.ref 44,.str "2-" 262⟩,⟨th P "d" (1),.ref 45,.str "2-" 265⟩,⟨th P "r" (1),.ref 46,.str "2-" 268⟩] 3,#[]⟩
noncomputable def HW (P:Params):Heap:=⟨⟨[boot_o_0 P,boot_o_1 P,boot_o_2 P,yE P,boot_o_4 P,boot_o_5 P,boot_o_6 P,boot_o_7 P,boot_o_8 P,boot_o_9 P,boot_o_10 P,c7 P,gm P,c8 P,c9 P,dj P,dk P,dm P,dn P,dq P,dX P,dr P,du P,dY P,dv P,dw P,dy P,dZ P,dz P,dA P,d3 P,dB P,dC P,dD P,dE P,d4 P,dF P,dG P,d7 P,dH P,dJ P,d8 P,d9 P,Wd P,bp P,bq P,br P,bu P,bx P,bz P,bA P,bB P,bC P,bD P]⟩,(boot_heap P).life⟩
noncomputable def Fd:Nat:=299
noncomputable def adR (P:Params):Array DictEntry:=#[⟨th P "s" (1),.ref 44,.str "2-" 262⟩,⟨th P "d" (1),.ref 45,.str "2-" 265⟩,⟨th P "r" (1),.ref 46,.str "2-" 268⟩]
noncomputable def aaW:Nat:=3
noncomputable def aaX:Nat:=47
noncomputable def aaY:Value:=.str "2-" 271
noncomputable def We (P:Params):Obj:=⟨.type "dict",none,.dict #[⟨th P "s" (1),.ref 44,.str "2-" 262⟩,⟨th P "d" (1),.ref 45,.str "2-" 265⟩,⟨th P "r" (1),.ref 46,.str "2-" 268⟩,⟨th P "D" (2),.ref 47,.str "2-" 271⟩] 4,#[]⟩
noncomputable def HX (P:Params):Heap:=⟨⟨[boot_o_0 P,boot_o_1 P,boot_o_2 P,yE P,boot_o_4 P,boot_o_5 P,boot_o_6 P,boot_o_7 P,boot_o_8 P,boot_o_9 P,boot_o_10 P,c7 P,gm P,c8 P,c9 P,dj P,dk P,dm P,dn P,dq P,dX P,dr P,du P,dY P,dv P,dw P,dy P,dZ P,dz P,dA P,d3 P,dB P,dC P,dD P,dE P,d4 P,dF P,dG P,d7 P,dH P,dJ P,d8 P,d9 P,We P,bp P,bq P,br P,bu P,bx P,bz P,bA P,bB P,bC P,bD P]⟩,(boot_heap P).life⟩
noncomputable def Fe:Nat:=302
noncomputable def adS (P:Params):Array DictEntry:=#[⟨th P "s" (1),.ref 44,.str "2-" 262⟩,⟨th P "d" (1),.ref 45,.str "2-" 265⟩,⟨th P "r" (1),.ref 46,.str "2-" 268⟩,⟨th P "D" (2),.ref 47,.str "2-" 271⟩]
noncomputable def aaZ:Nat:=4
noncomputable def aa0:Nat:=48
noncomputable def aa1:Value:=.str "2-" 274
noncomputable def Wf (P:Params):Obj:=⟨.type "dict",none,.dict #[⟨th P "s" (1),.ref 44,.str "2-" 262⟩,⟨th P "d" (1),.ref 45,.str "2-" 265⟩,⟨th P "r" (1),.ref 46,.str "2-" 268⟩,⟨th P "D" (2),.ref 47,.str "2-" 271⟩,⟨th P "R" (2),.ref 48,.str "2-" 274⟩] 5,#[]⟩
noncomputable def HY (P:Params):Heap:=⟨⟨[boot_o_0 P,boot_o_1 P,boot_o_2 P,yE P,boot_o_4 P,boot_o_5 P,boot_o_6 P,boot_o_7 P,boot_o_8 P,boot_o_9 P,boot_o_10 P,c7 P,gm P,c8 P,c9 P,dj P,dk P,dm P,dn P,dq P,dX P,dr P,du P,dY P,dv P,dw P,dy P,dZ P,dz P,dA P,d3 P,dB P,dC P,dD P,dE P,d4 P,dF P,dG P,d7 P,dH P,dJ P,d8 P,d9 P,Wf P,bp P,bq P,br P,bu P,bx P,bz P,bA P,bB P,bC P,bD P]⟩,(boot_heap P).life⟩
noncomputable def Ff:Nat:=305
noncomputable def adT (P:Params):Array DictEntry:=#[⟨th P "s" (1),.ref 44,.str "2-" 262⟩,⟨th P "d" (1),.ref 45,.str "2-" 265⟩,⟨th P "r" (1),.ref 46,.str "2-" 268⟩,⟨th P "D" (2),.ref 47,.str "2-" 271⟩,⟨th P "R" (2),.ref 48,.str "2-" 274⟩]
noncomputable def aa2:Nat:=5
noncomputable def aa3:Nat:=49
noncomputable def aa4:Value:=.str "2g" 277
noncomputable def Wg (P:Params):Obj:=⟨.type "dict",none,.dict #[⟨th P "s" (1),.ref 44,.str "2-" 262⟩,⟨th P "d" (1),.ref 45,.str "2-" 265⟩,⟨th P "r" (1),.ref 46,.str "2-" 268⟩,⟨th P "D" (2),.ref 47,.str "2-" 271⟩,⟨th P "R" (2),.ref 48,.str "2-" 274⟩,⟨th P "G" (2),.ref 49,.str "2g" 277⟩] 6,#[]⟩
noncomputable def HZ (P:Params):Heap:=⟨⟨[boot_o_0 P,boot_o_1 P,boot_o_2 P,yE P,boot_o_4 P,boot_o_5 P,boot_o_6 P,boot_o_7 P,boot_o_8 P,boot_o_9 P,boot_o_10 P,c7 P,gm P,c8 P,c9 P,dj P,dk P,dm P,dn P,dq P,dX P,dr P,du P,dY P,dv P,dw P,dy P,dZ P,dz P,dA P,d3 P,dB P,dC P,dD P,dE P,d4 P,dF P,dG P,d7 P,dH P,dJ P,d8 P,d9 P,Wg P,bp P,bq P,br P,bu P,bx P,bz P,bA P,bB P,bC P,bD P]⟩,(boot_heap P).life⟩
noncomputable def Fg:Nat:=308
noncomputable def adU (P:Params):Array DictEntry:=#[⟨th P "s" (1),.ref 44,.str "2-" 262⟩,⟨th P "d" (1),.ref 45,.str "2-" 265⟩,⟨th P "r" (1),.ref 46,.str "2-" 268⟩,⟨th P "D" (2),.ref 47,.str "2-" 271⟩,⟨th P "R" (2),.ref 48,.str "2-" 274⟩,⟨th P "G" (2),.ref 49,.str "2g" 277⟩]
noncomputable def aa5:Nat:=6
noncomputable def aa6:Nat:=50
noncomputable def aa7:Value:=.str "2G" 280
noncomputable def Wh (P:Params):Obj:=⟨.type "dict",none,.dict #[⟨th P "s" (1),.ref 44,.str "2-" 262⟩,⟨th P "d" (1),.ref 45,.str "2-" 265⟩,⟨th P "r" (1),.ref 46,.str "2-" 268⟩,⟨th P "D" (2),.ref 47,.str "2-" 271⟩,⟨th P "R" (2),.ref 48,.str "2-" 274⟩,⟨th P "G" (2),.ref 49,.str "2g" 277⟩,⟨th P "G" (3),.ref 50,.str "2G" 280⟩] 7,#[]⟩
noncomputable def Ia (P:Params):Heap:=⟨⟨[boot_o_0 P,boot_o_1 P,boot_o_2 P,yE P,boot_o_4 P,boot_o_5 P,boot_o_6 P,boot_o_7 P,boot_o_8 P,boot_o_9 P,boot_o_10 P,c7 P,gm P,c8 P,c9 P,dj P,dk P,dm P,dn P,dq P,dX P,dr P,du P,dY P,dv P,dw P,dy P,dZ P,dz P,dA P,d3 P,dB P,dC P,dD P,dE P,d4 P,dF P,dG P,d7 P,dH P,dJ P,d8 P,d9 P,Wh P,bp P,bq P,br P,bu P,bx P,bz P,bA P,bB P,bC P,bD P]⟩,(boot_heap P).life⟩
noncomputable def Fh:Nat:=311
noncomputable def adV (P:Params):Array DictEntry:=#[⟨th P "s" (1),.ref 44,.str "2-" 262⟩,⟨th P "d" (1),.ref 45,.str "2-" 265⟩,⟨th P "r" (1),.ref 46,.str "2-" 268⟩,⟨th P "D" (2),.ref 47,.str "2-" 271⟩,⟨th P "R" (2),.ref 48,.str "2-" 274⟩,⟨th P "G" (2),.ref 49,.str "2g" 277⟩,⟨th P "G" (3),.ref 50,.str "2G" 280⟩]
noncomputable def aa8:Nat:=7
noncomputable def aa9:Nat:=51
noncomputable def aba:Value:=.str "2-" 283
noncomputable def Wi (P:Params):Obj:=⟨.type "dict",none,.dict #[⟨th P "s" (1),.ref 44,.str "2-" 262⟩,⟨th P "d" (1),.ref 45,.str "2-" 265⟩,⟨th P "r" (1),.ref 46,.str "2-" 268⟩,⟨th P "D" (2),.ref 47,.str "2-" 271⟩,⟨th P "R" (2),.ref 48,.str "2-" 274⟩,⟨th P "G" (2),.ref 49,.str "2g" 277⟩,⟨th P "G" (3),.ref 50,.str "2G" 280⟩,⟨th P "." (0),.ref 51,.str "2-" 283⟩] 8,#[]⟩
noncomputable def Ib (P:Params):Heap:=⟨⟨[boot_o_0 P,boot_o_1 P,boot_o_2 P,yE P,boot_o_4 P,boot_o_5 P,boot_o_6 P,boot_o_7 P,boot_o_8 P,boot_o_9 P,boot_o_10 P,c7 P,gm P,c8 P,c9 P,dj P,dk P,dm P,dn P,dq P,dX P,dr P,du P,dY P,dv P,dw P,dy P,dZ P,dz P,dA P,d3 P,dB P,dC P,dD P,dE P,d4 P,dF P,dG P,d7 P,dH P,dJ P,d8 P,d9 P,Wi P,bp P,bq P,br P,bu P,bx P,bz P,bA P,bB P,bC P,bD P]⟩,(boot_heap P).life⟩
noncomputable def Fi:Nat:=314
noncomputable def adW (P:Params):Array DictEntry:=#[⟨th P "s" (1),.ref 44,.str "2-" 262⟩,⟨th P "d" (1),.ref 45,.str "2-" 265⟩,⟨th P "r" (1),.ref 46,.str "2-" 268⟩,⟨th P "D" (2),.ref 47,.str "2-" 271⟩,⟨th P "R" (2),.ref 48,.str "2-" 274⟩,⟨th P "G" (2),.ref 49,.str "2g" 277⟩,⟨th P "G" (3),.ref 50,.str "2G" 280⟩,⟨th P "." (0),.ref 51,.str "2-" 283⟩]
noncomputable def abb:Nat:=8
noncomputable def abc:Nat:=52
noncomputable def abd:Value:=.str "2-" 286
noncomputable def Wj (P:Params):Obj:=⟨.type "dict",none,.dict #[⟨th P "s" (1),.ref 44,.str "2-" 262⟩,⟨th P "d" (1),.ref 45,.str "2-" 265⟩,⟨th P "r" (1),.ref 46,.str "2-" 268⟩,⟨th P "D" (2),.ref 47,.str "2-" 271⟩,⟨th P "R" (2),.ref 48,.str "2-" 274⟩,⟨th P "G" (2),.ref 49,.str "2g" 277⟩,⟨th P "G" (3),.ref 50,.str "2G" 280⟩,⟨th P "." (0),.ref 51,.str "2-" 283⟩,⟨th P "2" (0),.ref 52,.str "2-" 286⟩] 9,#[]⟩
noncomputable def Ic (P:Params):Heap:=⟨⟨[boot_o_0 P,boot_o_1 P,boot_o_2 P,yE P,boot_o_4 P,boot_o_5 P,boot_o_6 P,boot_o_7 P,boot_o_8 P,boot_o_9 P,boot_o_10 P,c7 P,gm P,c8 P,c9 P,dj P,dk P,dm P,dn P,dq P,dX P,dr P,du P,dY P,dv P,dw P,dy P,dZ P,dz P,dA P,d3 P,dB P,dC P,dD P,dE P,d4 P,dF P,dG P,d7 P,dH P,dJ P,d8 P,d9 P,Wj P,bp P,bq P,br P,bu P,bx P,bz P,bA P,bB P,bC P,bD P]⟩,(boot_heap P).life⟩
noncomputable def Fj:Nat:=317
noncomputable def adX (P:Params):Array DictEntry:=#[⟨th P "s" (1),.ref 44,.str "2-" 262⟩,⟨th P "d" (1),.ref 45,.str "2-" 265⟩,⟨th P "r" (1),.ref 46,.str "2-" 268⟩,⟨th P "D" (2),.ref 47,.str "2-" 271⟩,⟨th P "R" (2),.ref 48,.str "2-" 274⟩,⟨th P "G" (2),.ref 49,.str "2g" 277⟩,⟨th P "G" (3),.ref 50,.str "2G" 280⟩,⟨th P "." (0),.ref 51,.str "2-" 283⟩,⟨th P "2" (0),.ref 52,.str "2-" 286⟩]
noncomputable def abe:Nat:=9
noncomputable def abf:Nat:=53
noncomputable def abg:Value:=.str "3n0-" 289
noncomputable def cK (P:Params):Obj:=⟨.type "dict",none,.dict #[⟨th P "s" (1),.ref 44,.str "2-" 262⟩,⟨th P "d" (1),.ref 45,.str "2-" 265⟩,⟨th P "r" (1),.ref 46,.str "2-" 268⟩,⟨th P "D" (2),.ref 47,.str "2-" 271⟩,⟨th P "R" (2),.ref 48,.str "2-" 274⟩,⟨th P "G" (2),.ref 49,.str "2g" 277⟩,⟨th P "G" (3),.ref 50,.str "2G" 280⟩,⟨th P "." (0),.ref 51,.str "2-" 283⟩,⟨th P "2" (0),.ref 52,.str "2-" 286⟩,⟨th P "3" (0),.ref 53,.str "3n0-" 289⟩] 10,#[]⟩
noncomputable def P0 (P:Params):Heap:=⟨⟨[boot_o_0 P,boot_o_1 P,boot_o_2 P,yE P,boot_o_4 P,boot_o_5 P,boot_o_6 P,boot_o_7 P,boot_o_8 P,boot_o_9 P,boot_o_10 P,c7 P,gm P,c8 P,c9 P,dj P,dk P,dm P,dn P,dq P,dX P,dr P,du P,dY P,dv P,dw P,dy P,dZ P,dz P,dA P,d3 P,dB P,dC P,dD P,dE P,d4 P,dF P,dG P,d7 P,dH P,dJ P,d8 P,d9 P,cK P,bp P,bq P,br P,bu P,bx P,bz P,bA P,bB P,bC P,bD P]⟩,(boot_heap P).life⟩
noncomputable def G1:Nat:=320
noncomputable def t5:Stmt:=tp 17
noncomputable def Q3 (P:Params):Obj:=⟨.type "dict",none,.dict #[⟨PyData.keyHash P "__name__",.str "__name__" 165,.str "noteworth.steps" 238⟩,⟨PyData.keyHash P "__doc__",.str "__doc__" 166,.none⟩,⟨PyData.keyHash P "__package__",.str "__package__" 167,.none⟩,⟨PyData.keyHash P "__loader__",.str "__loader__" 168,.builtin "__main__.__loader__#opaque"⟩,⟨PyData.keyHash P "__spec__",.str "__spec__" 169,.none⟩,⟨PyData.keyHash P "__annotations__",.str "__annotations__" 170,.ref 6⟩,⟨PyData.keyHash P "__builtins__",.str "__builtins__" 171,.ref 4⟩,⟨PyData.keyHash P "__file__",.str "__file__" 173,.str "/claim/cut.py" 172⟩,⟨PyData.keyHash P "__cached__",.str "__cached__" 174,.none⟩,⟨PyData.keyHash P "SMALL_KINDS",.str "SMALL_KINDS" 192,.ref 15⟩,⟨PyData.keyHash P "PARTING_KINDS",.str "PARTING_KINDS" 196,.ref 16⟩,⟨PyData.keyHash P "MEASURE_KINDS",.str "MEASURE_KINDS" 199,.ref 17⟩,⟨PyData.keyHash P "SOUNDING_KINDS",.str "SOUNDING_KINDS" 204,.ref 18⟩,⟨PyData.keyHash P "small",.str "small" 211,.ref 25⟩,⟨PyData.keyHash P "parting",.str "parting" 218,.ref 32⟩,⟨PyData.keyHash P "DARK_KINDS",.str "DARK_KINDS" 223,.ref 33⟩,⟨PyData.keyHash P "sign_price",.str "sign_price" 234,.ref 40⟩,⟨PyData.keyHash P "REST_TONE",.str "REST_TONE" 237,.int (-1) 236⟩,⟨PyData.keyHash P "TWOFOLD_STATES",.str "TWOFOLD_STATES" 243,.ref 41⟩,⟨PyData.keyHash P "TWOFOLD_BEGIN",.str "TWOFOLD_BEGIN" 245,.str "2-" 244⟩,⟨PyData.keyHash P "THREEFOLD_BEGIN",.str "THREEFOLD_BEGIN" 247,.str "3n0-" 246⟩,⟨PyData.keyHash P "SHORTENED_FROM_AHEAD",.str "SHORTENED_FROM_AHEAD" 249,.str "3t0-" 248⟩,⟨PyData.keyHash P "NEXT_COUNTS",.str "NEXT_COUNTS" 259,.ref 42⟩,⟨PyData.keyHash P "TWOFOLD_STEPS",.str "TWOFOLD_STEPS" 320,.ref 43⟩] 24,#[]⟩
noncomputable def H5 (P:Params):Heap:=⟨⟨[boot_o_0 P,boot_o_1 P,boot_o_2 P,Q3 P,boot_o_4 P,boot_o_5 P,boot_o_6 P,boot_o_7 P,boot_o_8 P,boot_o_9 P,boot_o_10 P,c7 P,gm P,c8 P,c9 P,dj P,dk P,dm P,dn P,dq P,dX P,dr P,du P,dY P,dv P,dw P,dy P,dZ P,dz P,dA P,d3 P,dB P,dC P,dD P,dE P,d4 P,dF P,dG P,d7 P,dH P,dJ P,d8 P,d9 P,cK P,bp P,bq P,br P,bu P,bx P,bz P,bA P,bB P,bC P,bD P]⟩,(boot_heap P).life⟩
noncomputable def k5:Nat:=321
noncomputable def n5:Nat:=351
noncomputable def p5:Pos:=⟨28,0,28,13⟩
noncomputable def d6:Nat:=54
noncomputable def dp6:Pos:=⟨29,14,29,86⟩
noncomputable def vs6:List (Value×Value):=[(.ref 55,.str "3w0-" 323),(.ref 56,.str "3h0-" 326),(.ref 57,.str "3n0-" 329),(.ref 58,.str "3n0-" 332)]
noncomputable def Wk (P:Params):Obj:=⟨.type "dict",none,.dict #[] 0,#[]⟩
noncomputable def fF (P:Params):Obj:=⟨.type "tuple",none,.seq #[.str "G" 321,.int (3) 322] 0,#[]⟩
noncomputable def fH (P:Params):Obj:=⟨.type "tuple",none,.seq #[.str "G" 324,.int (2) 325] 0,#[]⟩
noncomputable def fI (P:Params):Obj:=⟨.type "tuple",none,.seq #[.str "D" 327,.int (2) 328] 0,#[]⟩
noncomputable def fJ (P:Params):Obj:=⟨.type "tuple",none,.seq #[.str "R" 330,.int (3) 331] 0,#[]⟩
noncomputable def Ie (P:Params):Heap:=⟨⟨[boot_o_0 P,boot_o_1 P,boot_o_2 P,Q3 P,boot_o_4 P,boot_o_5 P,boot_o_6 P,boot_o_7 P,boot_o_8 P,boot_o_9 P,boot_o_10 P,c7 P,gm P,c8 P,c9 P,dj P,dk P,dm P,dn P,dq P,dX P,dr P,du P,dY P,dv P,dw P,dy P,dZ P,dz P,dA P,d3 P,dB P,dC P,dD P,dE P,d4 P,dF P,dG P,d7 P,dH P,dJ P,d8 P,d9 P,cK P,bp P,bq P,br P,bu P,bx P,bz P,bA P,bB P,bC P,bD P,Wk P,fF P,fH P,fI P,fJ P]⟩,(boot_heap P).life⟩
noncomputable def LL:Nat:=333
noncomputable def adZ (P:Params):Array DictEntry:=#[]
noncomputable def abh:Nat:=0
noncomputable def abi:Nat:=55
noncomputable def abj:Value:=.str "3w0-" 323
noncomputable def Wl (P:Params):Obj:=⟨.type "dict",none,.dict #[⟨th P "G" (3),.ref 55,.str "3w0-" 323⟩] 1,#[]⟩
noncomputable def Ig (P:Params):Heap:=⟨⟨[boot_o_0 P,boot_o_1 P,boot_o_2 P,Q3 P,boot_o_4 P,boot_o_5 P,boot_o_6 P,boot_o_7 P,boot_o_8 P,boot_o_9 P,boot_o_10 P,c7 P,gm P,c8 P,c9 P,dj P,dk P,dm P,dn P,dq P,dX P,dr P,du P,dY P,dv P,dw P,dy P,dZ P,dz P,dA P,d3 P,dB P,dC P,dD P,dE P,d4 P,dF P,dG P,d7 P,dH P,dJ P,d8 P,d9 P,cK P,bp P,bq P,br P,bu P,bx P,bz P,bA P,bB P,bC P,bD P,Wl P,fF P,fH P,fI P,fJ P]⟩,(boot_heap P).life⟩
noncomputable def Fl:Nat:=336
noncomputable def ad0 (P:Params):Array DictEntry:=#[⟨th P "G" (3),.ref 55,.str "3w0-" 323⟩]
noncomputable def abk:Nat:=1
noncomputable def abl:Nat:=56
noncomputable def abm:Value:=.str "3h0-" 326
noncomputable def Wm (P:Params):Obj:=⟨.type "dict",none,.dict #[⟨th P "G" (3),.ref 55,.str "3w0-" 323⟩,⟨th P "G" (2),.ref 56,.str "3h0-" 326⟩] 2,#[]⟩
noncomputable def Ih (P:Params):Heap:=⟨⟨[boot_o_0 P,boot_o_1 P,boot_o_2 P,Q3 P,boot_o_4 P,boot_o_5 P,boot_o_6 P,boot_o_7 P,boot_o_8 P,boot_o_9 P,boot_o_10 P,c7 P,gm P,c8 P,c9 P,dj P,dk P,dm P,dn P,dq P,dX P,dr P,du P,dY P,dv P,dw P,dy P,dZ P,dz P,dA P,d3 P,dB P,dC P,dD P,dE P,d4 P,dF P,dG P,d7 P,dH P,dJ P,d8 P,d9 P,cK P,bp P,bq P,br P,bu P,bx P,bz P,bA P,bB P,bC P,bD P,Wm P,fF P,fH P,fI P,fJ P]⟩,(boot_heap P).life⟩
noncomputable def Fm:Nat:=339
noncomputable def ad1 (P:Params):Array DictEntry:=#[⟨th P "G" (3),.ref 55,.str "3w0-" 323⟩,⟨th P "G" (2),.ref 56,.str "3h0-" 326⟩]
noncomputable def abn:Nat:=2
noncomputable def abo:Nat:=57
noncomputable def abp:Value:=.str "3n0-" 329
noncomputable def Wn (P:Params):Obj:=⟨.type "dict",none,.dict #[⟨th P "G" (3),.ref 55,.str "3w0-" 323⟩,⟨th P "G" (2),.ref 56,.str "3h0-" 326⟩,⟨th P "D" (2),.ref 57,.str "3n0-" 329⟩] 3,#[]⟩
noncomputable def Ii (P:Params):Heap:=⟨⟨[boot_o_0 P,boot_o_1 P,boot_o_2 P,Q3 P,boot_o_4 P,boot_o_5 P,boot_o_6 P,boot_o_7 P,boot_o_8 P,boot_o_9 P,boot_o_10 P,c7 P,gm P,c8 P,c9 P,dj P,dk P,dm P,dn P,dq P,dX P,dr P,du P,dY P,dv P,dw P,dy P,dZ P,dz P,dA P,d3 P,dB P,dC P,dD P,dE P,d4 P,dF P,dG P,d7 P,dH P,dJ P,d8 P,d9 P,cK P,bp P,bq P,br P,bu P,bx P,bz P,bA P,bB P,bC P,bD P,Wn P,fF P,fH P,fI P,fJ P]⟩,(boot_heap P).life⟩
noncomputable def Fn:Nat:=342
noncomputable def ad2 (P:Params):Array DictEntry:=#[⟨th P "G" (3),.ref 55,.str "3w0-" 323⟩,⟨th P "G" (2),.ref 56,.str "3h0-" 326⟩,⟨th P "D" (2),.ref 57,.str "3n0-" 329⟩]
noncomputable def abq:Nat:=3
noncomputable def abr:Nat:=58
noncomputable def abt:Value:=.str "3n0-" 332
noncomputable def jB (P:Params):Obj:=⟨.type "dict",none,.dict #[⟨th P "G" (3),.ref 55,.str "3w0-" 323⟩,⟨th P "G" (2),.ref 56,.str "3h0-" 326⟩,⟨th P "D" (2),.ref 57,.str "3n0-" 329⟩,⟨th P "R" (3),.ref 58,.str "3n0-" 332⟩] 4,#[]⟩
noncomputable def Wo (P:Params):Heap:=⟨⟨[boot_o_0 P,boot_o_1 P,boot_o_2 P,Q3 P,boot_o_4 P,boot_o_5 P,boot_o_6 P,boot_o_7 P,boot_o_8 P,boot_o_9 P,boot_o_10 P,c7 P,gm P,c8 P,c9 P,dj P,dk P,dm P,dn P,dq P,dX P,dr P,du P,dY P,dv P,dw P,dy P,dZ P,dz P,dA P,d3 P,dB P,dC P,dD P,dE P,d4 P,dF P,dG P,d7 P,dH P,dJ P,d8 P,d9 P,cK P,bp P,bq P,br P,bu P,bx P,bz P,bA P,bB P,bC P,bD P,jB P,fF P,fH P,fI P,fJ P]⟩,(boot_heap P).life⟩
noncomputable def Q4:Nat:=345
noncomputable def t6:Stmt:=tp 18
noncomputable def ad3 (P:Params):Obj:=⟨.type "dict",none,.dict #[⟨PyData.keyHash P "__name__",.str "__name__" 165,.str "noteworth.steps" 238⟩,⟨PyData.keyHash P "__doc__",.str "__doc__" 166,.none⟩,⟨PyData.keyHash P "__package__",.str "__package__" 167,.none⟩,⟨PyData.keyHash P "__loader__",.str "__loader__" 168,.builtin "__main__.__loader__#opaque"⟩,⟨PyData.keyHash P "__spec__",.str "__spec__" 169,.none⟩,⟨PyData.keyHash P "__annotations__",.str "__annotations__" 170,.ref 6⟩,⟨PyData.keyHash P "__builtins__",.str "__builtins__" 171,.ref 4⟩,⟨PyData.keyHash P "__file__",.str "__file__" 173,.str "/claim/cut.py" 172⟩,⟨PyData.keyHash P "__cached__",.str "__cached__" 174,.none⟩,⟨PyData.keyHash P "SMALL_KINDS",.str "SMALL_KINDS" 192,.ref 15⟩,⟨PyData.keyHash P "PARTING_KINDS",.str "PARTING_KINDS" 196,.ref 16⟩,⟨PyData.keyHash P "MEASURE_KINDS",.str "MEASURE_KINDS" 199,.ref 17⟩,⟨PyData.keyHash P "SOUNDING_KINDS",.str "SOUNDING_KINDS" 204,.ref 18⟩,⟨PyData.keyHash P "small",.str "small" 211,.ref 25⟩,⟨PyData.keyHash P "parting",.str "parting" 218,.ref 32⟩,⟨PyData.keyHash P "DARK_KINDS",.str "DARK_KINDS" 223,.ref 33⟩,⟨PyData.keyHash P "sign_price",.str "sign_price" 234,.ref 40⟩,⟨PyData.keyHash P "REST_TONE",.str "REST_TONE" 237,.int (-1) 236⟩,⟨PyData.keyHash P "TWOFOLD_STATES",.str "TWOFOLD_STATES" 243,.ref 41⟩,⟨PyData.keyHash P "TWOFOLD_BEGIN",.str "TWOFOLD_BEGIN" 245,.str "2-" 244⟩,⟨PyData.keyHash P "THREEFOLD_BEGIN",.str "THREEFOLD_BEGIN" 247,.str "3n0-" 246⟩,⟨PyData.keyHash P "SHORTENED_FROM_AHEAD",.str "SHORTENED_FROM_AHEAD" 249,.str "3t0-" 248⟩,⟨PyData.keyHash P "NEXT_COUNTS",.str "NEXT_COUNTS" 259,.ref 42⟩,⟨PyData.keyHash P "TWOFOLD_STEPS",.str "TWOFOLD_STEPS" 320,.ref 43⟩,⟨PyData.keyHash P "GREAT_STEPS",.str "GREAT_STEPS" 345,.ref 54⟩] 25,#[]⟩
noncomputable def H6 (P:Params):Heap:=⟨⟨[boot_o_0 P,boot_o_1 P,boot_o_2 P,ad3 P,boot_o_4 P,boot_o_5 P,boot_o_6 P,boot_o_7 P,boot_o_8 P,boot_o_9 P,boot_o_10 P,c7 P,gm P,c8 P,c9 P,dj P,dk P,dm P,dn P,dq P,dX P,dr P,du P,dY P,dv P,dw P,dy P,dZ P,dz P,dA P,d3 P,dB P,dC P,dD P,dE P,d4 P,dF P,dG P,d7 P,dH P,dJ P,d8 P,d9 P,cK P,bp P,bq P,br P,bu P,bx P,bz P,bA P,bB P,bC P,bD P,jB P,fF P,fH P,fI P,fJ P]⟩,(boot_heap P).life⟩
noncomputable def k6:Nat:=346
noncomputable def n6:Nat:=147
noncomputable def p6:Pos:=⟨29,0,29,11⟩
noncomputable def ad4 (P:Params):Obj:=⟨.type "dict",none,.dict #[⟨PyData.keyHash P "__name__",.str "__name__" 165,.str "noteworth.steps" 238⟩,⟨PyData.keyHash P "__doc__",.str "__doc__" 166,.none⟩,⟨PyData.keyHash P "__package__",.str "__package__" 167,.none⟩,⟨PyData.keyHash P "__loader__",.str "__loader__" 168,.builtin "__main__.__loader__#opaque"⟩,⟨PyData.keyHash P "__spec__",.str "__spec__" 169,.none⟩,⟨PyData.keyHash P "__annotations__",.str "__annotations__" 170,.ref 6⟩,⟨PyData.keyHash P "__builtins__",.str "__builtins__" 171,.ref 4⟩,⟨PyData.keyHash P "__file__",.str "__file__" 173,.str "/claim/cut.py" 172⟩,⟨PyData.keyHash P "__cached__",.str "__cached__" 174,.none⟩,⟨PyData.keyHash P "SMALL_KINDS",.str "SMALL_KINDS" 192,.ref 15⟩,⟨PyData.keyHash P "PARTING_KINDS",.str "PARTING_KINDS" 196,.ref 16⟩,⟨PyData.keyHash P "MEASURE_KINDS",.str "MEASURE_KINDS" 199,.ref 17⟩,⟨PyData.keyHash P "SOUNDING_KINDS",.str "SOUNDING_KINDS" 204,.ref 18⟩,⟨PyData.keyHash P "small",.str "small" 211,.ref 25⟩,⟨PyData.keyHash P "parting",.str "parting" 218,.ref 32⟩,⟨PyData.keyHash P "DARK_KINDS",.str "DARK_KINDS" 223,.ref 33⟩,⟨PyData.keyHash P "sign_price",.str "sign_price" 234,.ref 40⟩,⟨PyData.keyHash P "REST_TONE",.str "REST_TONE" 237,.int (-1) 236⟩,⟨PyData.keyHash P "TWOFOLD_STATES",.str "TWOFOLD_STATES" 243,.ref 41⟩,⟨PyData.keyHash P "TWOFOLD_BEGIN",.str "TWOFOLD_BEGIN" 245,.str "2-" 244⟩,⟨PyData.keyHash P "THREEFOLD_BEGIN",.str "THREEFOLD_BEGIN" 247,.str "3n0-" 246⟩,⟨PyData.keyHash P "SHORTENED_FROM_AHEAD",.str "SHORTENED_FROM_AHEAD" 249,.str "3t0-" 248⟩,⟨PyData.keyHash P "NEXT_COUNTS",.str "NEXT_COUNTS" 259,.ref 42⟩,⟨PyData.keyHash P "TWOFOLD_STEPS",.str "TWOFOLD_STEPS" 320,.ref 43⟩,⟨PyData.keyHash P "GREAT_STEPS",.str "GREAT_STEPS" 345,.ref 54⟩,⟨PyData.keyHash P "begin_state",.str "begin_state" 353,.ref 66⟩,⟨PyData.keyHash P "step",.str "step" 362,.ref 73⟩,⟨PyData.keyHash P "ends",.str "ends" 369,.ref 80⟩,⟨PyData.keyHash P "twofold_step",.str "twofold_step" 378,.ref 87⟩,⟨PyData.keyHash P "closes",.str "closes" 387,.ref 94⟩,⟨PyData.keyHash P "closes_by_great",.str "closes_by_great" 394,.ref 101⟩,⟨PyData.keyHash P "closes_by_right_note",.str "closes_by_right_note" 401,.ref 108⟩,⟨PyData.keyHash P "great_step",.str "great_step" 410,.ref 115⟩,⟨PyData.keyHash P "parting_step",.str "parting_step" 419,.ref 122⟩,⟨PyData.keyHash P "told_last",.str "told_last" 428,.ref 129⟩] 35,#[]⟩
noncomputable def abu (P:Params):Obj:=⟨.none,none,.fields #[.int (6) 0,.int (0) 0,.ref 24,.int (8) 0,.int (0) 0,.ref 31,.int (12) 0,.int (0) 0,.ref 39,.int (30) 0,.int (0) 0,.ref 65,.int (34) 0,.int (0) 0,.ref 72,.int (42) 0,.int (0) 0,.ref 79,.int (46) 0,.int (0) 0,.ref 86,.int (52) 0,.int (0) 0,.ref 93,.int (57) 0,.int (0) 0,.ref 100,.int (59) 0,.int (0) 0,.ref 107,.int (61) 0,.int (0) 0,.ref 114,.int (69) 0,.int (0) 0,.ref 121,.int (75) 0,.int (0) 0,.ref 128],#[]⟩
noncomputable def Cc (P:Params):Obj:=⟨.type "tuple",none,.seq #[.int (3) 346] 0,#[]⟩
noncomputable def Cd (P:Params):Obj:=⟨.type "tuple",none,.seq #[] 0,#[]⟩
noncomputable def G2 (P:Params):Obj:=⟨.none,none,.fields #[],#[]⟩
noncomputable def Ce (P:Params):Obj:=⟨.type "tuple",none,.seq #[.str "begin" 350] 0,#[]⟩
noncomputable def Cf (P:Params):Obj:=⟨.type "tuple",none,.seq #[] 0,#[]⟩
noncomputable def G3 (P:Params):Obj:=⟨.none,none,.func { name:="begin_state",qualname:="begin_state",params:=L2.ak (tp 19),body:=.stmts (L2.ai (tp 19)),scope:=L2.ae (tp 19),globals:=0,closure:=[],defaults:=.none,kwdefaults:=.none,doc:=.none,pyModule:=.none,annotations:=none,code:=.none,closureTuple:=.none,builtins:=0 },#[]⟩
noncomputable def Cg (P:Params):Obj:=⟨.type "code",none,.fields #[.str "begin_state" 347,.str "begin_state" 348,.str "/claim/cut.py" 349,.int (30) 0,.int (1) 0,.int (0) 0,.int (0) 0,.int (3) 0,.ref 60,.bool true,.int (181) 0,.ref 61,.none,.ref 62,.ref 63,.ref 64,.int (351) 0,.int (30) 0,.str "/claim/cut.py" 352],#[]⟩
noncomputable def Ci (P:Params):Obj:=⟨.type "function",none,.func { name:="begin_state",qualname:="begin_state",params:=L2.ak (tp 19),body:=.stmts (L2.ai (tp 19)),scope:=L2.ae (tp 19),globals:=3,closure:=[],defaults:=.ref 59,kwdefaults:=.none,doc:=.none,pyModule:=.str "noteworth.steps" 238,annotations:=none,code:=.ref 65,closureTuple:=.none,builtins:=0 },#[]⟩
noncomputable def Cj (P:Params):Obj:=⟨.type "tuple",none,.seq #[] 0,#[]⟩
noncomputable def G4 (P:Params):Obj:=⟨.none,none,.fields #[],#[]⟩
noncomputable def Ck (P:Params):Obj:=⟨.type "tuple",none,.seq #[.str "state" 357,.str "sign" 358,.str "worth" 359] 0,#[]⟩
noncomputable def Cm (P:Params):Obj:=⟨.type "tuple",none,.seq #[] 0,#[]⟩
noncomputable def G5 (P:Params):Obj:=⟨.none,none,.func { name:="step",qualname:="step",params:=L2.ak (tp 20),body:=.stmts (L2.ai (tp 20)),scope:=L2.ae (tp 20),globals:=0,closure:=[],defaults:=.none,kwdefaults:=.none,doc:=.none,pyModule:=.none,annotations:=none,code:=.none,closureTuple:=.none,builtins:=0 },#[]⟩
noncomputable def Cn (P:Params):Obj:=⟨.type "code",none,.fields #[.str "step" 354,.str "step" 355,.str "/claim/cut.py" 356,.int (34) 0,.int (3) 0,.int (0) 0,.int (0) 0,.int (3) 0,.ref 67,.bool true,.int (181) 0,.ref 68,.none,.ref 69,.ref 70,.ref 71,.int (360) 0,.int (34) 0,.str "/claim/cut.py" 361],#[]⟩
noncomputable def Co (P:Params):Obj:=⟨.type "function",none,.func { name:="step",qualname:="step",params:=L2.ak (tp 20),body:=.stmts (L2.ai (tp 20)),scope:=L2.ae (tp 20),globals:=3,closure:=[],defaults:=.none,kwdefaults:=.none,doc:=.none,pyModule:=.str "noteworth.steps" 238,annotations:=none,code:=.ref 72,closureTuple:=.none,builtins:=0 },#[]⟩
noncomputable def Cp (P:Params):Obj:=⟨.type "tuple",none,.seq #[] 0,#[]⟩
noncomputable def G6 (P:Params):Obj:=⟨.none,none,.fields #[],#[]⟩
noncomputable def Cq (P:Params):Obj:=⟨.type "tuple",none,.seq #[.str "state" 366] 0,#[]⟩
noncomputable def Cr (P:Params):Obj:=⟨.type "tuple",none,.seq #[] 0,#[]⟩
noncomputable def G7 (P:Params):Obj:=⟨.none,none,.func { name:="ends",qualname:="ends",params:=L2.ak (tp 21),body:=.stmts (L2.ai (tp 21)),scope:=L2.ae (tp 21),globals:=0,closure:=[],defaults:=.none,kwdefaults:=.none,doc:=.none,pyModule:=.none,annotations:=none,code:=.none,closureTuple:=.none,builtins:=0 },#[]⟩
noncomputable def Cs (P:Params):Obj:=⟨.type "code",none,.fields #[.str "ends" 363,.str "ends" 364,.str "/claim/cut.py" 365,.int (42) 0,.int (1) 0,.int (0) 0,.int (0) 0,.int (3) 0,.ref 74,.bool true,.int (181) 0,.ref 75,.none,.ref 76,.ref 77,.ref 78,.int (367) 0,.int (42) 0,.str "/claim/cut.py" 368],#[]⟩
noncomputable def Ct (P:Params):Obj:=⟨.type "function",none,.func { name:="ends",qualname:="ends",params:=L2.ak (tp 21),body:=.stmts (L2.ai (tp 21)),scope:=L2.ae (tp 21),globals:=3,closure:=[],defaults:=.none,kwdefaults:=.none,doc:=.none,pyModule:=.str "noteworth.steps" 238,annotations:=none,code:=.ref 79,closureTuple:=.none,builtins:=0 },#[]⟩
noncomputable def Cu (P:Params):Obj:=⟨.type "tuple",none,.seq #[] 0,#[]⟩
noncomputable def G8 (P:Params):Obj:=⟨.none,none,.fields #[],#[]⟩
noncomputable def Cv (P:Params):Obj:=⟨.type "tuple",none,.seq #[.str "state" 373,.str "kind" 374,.str "worth" 375] 0,#[]⟩
noncomputable def Cw (P:Params):Obj:=⟨.type "tuple",none,.seq #[] 0,#[]⟩
noncomputable def G9 (P:Params):Obj:=⟨.none,none,.func { name:="twofold_step",qualname:="twofold_step",params:=L2.ak (tp 22),body:=.stmts (L2.ai (tp 22)),scope:=L2.ae (tp 22),globals:=0,closure:=[],defaults:=.none,kwdefaults:=.none,doc:=.none,pyModule:=.none,annotations:=none,code:=.none,closureTuple:=.none,builtins:=0 },#[]⟩
noncomputable def Cy (P:Params):Obj:=⟨.type "code",none,.fields #[.str "twofold_step" 370,.str "twofold_step" 371,.str "/claim/cut.py" 372,.int (46) 0,.int (3) 0,.int (0) 0,.int (0) 0,.int (3) 0,.ref 81,.bool true,.int (181) 0,.ref 82,.none,.ref 83,.ref 84,.ref 85,.int (376) 0,.int (46) 0,.str "/claim/cut.py" 377],#[]⟩
noncomputable def Cz (P:Params):Obj:=⟨.type "function",none,.func { name:="twofold_step",qualname:="twofold_step",params:=L2.ak (tp 22),body:=.stmts (L2.ai (tp 22)),scope:=L2.ae (tp 22),globals:=3,closure:=[],defaults:=.none,kwdefaults:=.none,doc:=.none,pyModule:=.str "noteworth.steps" 238,annotations:=none,code:=.ref 86,closureTuple:=.none,builtins:=0 },#[]⟩
noncomputable def CA (P:Params):Obj:=⟨.type "tuple",none,.seq #[] 0,#[]⟩
noncomputable def Ha (P:Params):Obj:=⟨.none,none,.fields #[],#[]⟩
noncomputable def CB (P:Params):Obj:=⟨.type "tuple",none,.seq #[.str "state" 382,.str "left" 383,.str "count" 384] 0,#[]⟩
noncomputable def CC (P:Params):Obj:=⟨.type "tuple",none,.seq #[] 0,#[]⟩
noncomputable def Hb (P:Params):Obj:=⟨.none,none,.func { name:="closes",qualname:="closes",params:=L2.ak (tp 23),body:=.stmts (L2.ai (tp 23)),scope:=L2.ae (tp 23),globals:=0,closure:=[],defaults:=.none,kwdefaults:=.none,doc:=.none,pyModule:=.none,annotations:=none,code:=.none,closureTuple:=.none,builtins:=0 },#[]⟩
noncomputable def CD (P:Params):Obj:=⟨.type "code",none,.fields #[.str "closes" 379,.str "closes" 380,.str "/claim/cut.py" 381,.int (52) 0,.int (1) 0,.int (0) 0,.int (0) 0,.int (3) 0,.ref 88,.bool true,.int (181) 0,.ref 89,.none,.ref 90,.ref 91,.ref 92,.int (385) 0,.int (52) 0,.str "/claim/cut.py" 386],#[]⟩
noncomputable def CF (P:Params):Obj:=⟨.type "function",none,.func { name:="closes",qualname:="closes",params:=L2.ak (tp 23),body:=.stmts (L2.ai (tp 23)),scope:=L2.ae (tp 23),globals:=3,closure:=[],defaults:=.none,kwdefaults:=.none,doc:=.none,pyModule:=.str "noteworth.steps" 238,annotations:=none,code:=.ref 93,closureTuple:=.none,builtins:=0 },#[]⟩
noncomputable def CG (P:Params):Obj:=⟨.type "tuple",none,.seq #[] 0,#[]⟩
noncomputable def Hc (P:Params):Obj:=⟨.none,none,.fields #[],#[]⟩
noncomputable def CH (P:Params):Obj:=⟨.type "tuple",none,.seq #[.str "state" 391] 0,#[]⟩
noncomputable def CI (P:Params):Obj:=⟨.type "tuple",none,.seq #[] 0,#[]⟩
noncomputable def He (P:Params):Obj:=⟨.none,none,.func { name:="closes_by_great",qualname:="closes_by_great",params:=L2.ak (tp 24),body:=.stmts (L2.ai (tp 24)),scope:=L2.ae (tp 24),globals:=0,closure:=[],defaults:=.none,kwdefaults:=.none,doc:=.none,pyModule:=.none,annotations:=none,code:=.none,closureTuple:=.none,builtins:=0 },#[]⟩
noncomputable def qP (P:Params):Obj:=⟨.type "code",none,.fields #[.str "closes_by_great" 388,.str "closes_by_great" 389,.str "/claim/cut.py" 390,.int (57) 0,.int (1) 0,.int (0) 0,.int (0) 0,.int (3) 0,.ref 95,.bool true,.int (181) 0,.ref 96,.none,.ref 97,.ref 98,.ref 99,.int (392) 0,.int (57) 0,.str "/claim/cut.py" 393],#[]⟩
noncomputable def qQ (P:Params):Obj:=⟨.type "function",none,.func { name:="closes_by_great",qualname:="closes_by_great",params:=L2.ak (tp 24),body:=.stmts (L2.ai (tp 24)),scope:=L2.ae (tp 24),globals:=3,closure:=[],defaults:=.none,kwdefaults:=.none,doc:=.none,pyModule:=.str "noteworth.steps" 238,annotations:=none,code:=.ref 100,closureTuple:=.none,builtins:=0 },#[]⟩
noncomputable def qR (P:Params):Obj:=⟨.type "tuple",none,.seq #[] 0,#[]⟩
noncomputable def vT (P:Params):Obj:=⟨.none,none,.fields #[],#[]⟩
noncomputable def qS (P:Params):Obj:=⟨.type "tuple",none,.seq #[.str "state" 398] 0,#[]⟩
noncomputable def qT (P:Params):Obj:=⟨.type "tuple",none,.seq #[] 0,#[]⟩
noncomputable def vU (P:Params):Obj:=⟨.none,none,.func { name:="closes_by_right_note",qualname:="closes_by_right_note",params:=L2.ak (tp 25),body:=.stmts (L2.ai (tp 25)),scope:=L2.ae (tp 25),globals:=0,closure:=[],defaults:=.none,kwdefaults:=.none,doc:=.none,pyModule:=.none,annotations:=none,code:=.none,closureTuple:=.none,builtins:=0 },#[]⟩
noncomputable def qU (P:Params):Obj:=⟨.type "code",none,.fields #[.str "closes_by_right_note" 395,.str "closes_by_right_note" 396,.str "/claim/cut.py" 397,.int (59) 0,.int (1) 0,.int (0) 0,.int (0) 0,.int (3) 0,.ref 102,.bool true,.int (181) 0,.ref 103,.none,.ref 104,.ref 105,.ref 106,.int (399) 0,.int (59) 0,.str "/claim/cut.py" 400],#[]⟩
noncomputable def qV (P:Params):Obj:=⟨.type "function",none,.func { name:="closes_by_right_note",qualname:="closes_by_right_note",params:=L2.ak (tp 25),body:=.stmts (L2.ai (tp 25)),scope:=L2.ae (tp 25),globals:=3,closure:=[],defaults:=.none,kwdefaults:=.none,doc:=.none,pyModule:=.str "noteworth.steps" 238,annotations:=none,code:=.ref 107,closureTuple:=.none,builtins:=0 },#[]⟩
noncomputable def qW (P:Params):Obj:=⟨.type "tuple",none,.seq #[] 0,#[]⟩
noncomputable def vV (P:Params):Obj:=⟨.none,none,.fields #[],#[]⟩
noncomputable def qX (P:Params):Obj:=⟨.type "tuple",none,.seq #[.str "state" 405,.str "kind" 406,.str "worth" 407] 0,#[]⟩
noncomputable def qY (P:Params):Obj:=⟨.type "tuple",none,.seq #[] 0,#[]⟩
noncomputable def vW (P:Params):Obj:=⟨.none,none,.func { name:="great_step",qualname:="great_step",params:=L2.ak (tp 26),body:=.stmts (L2.ai (tp 26)),scope:=L2.ae (tp 26),globals:=0,closure:=[],defaults:=.none,kwdefaults:=.none,doc:=.none,pyModule:=.none,annotations:=none,code:=.none,closureTuple:=.none,builtins:=0 },#[]⟩
noncomputable def qZ (P:Params):Obj:=⟨.type "code",none,.fields #[.str "great_step" 402,.str "great_step" 403,.str "/claim/cut.py" 404,.int (61) 0,.int (3) 0,.int (0) 0,.int (0) 0,.int (3) 0,.ref 109,.bool true,.int (181) 0,.ref 110,.none,.ref 111,.ref 112,.ref 113,.int (408) 0,.int (61) 0,.str "/claim/cut.py" 409],#[]⟩
noncomputable def q0 (P:Params):Obj:=⟨.type "function",none,.func { name:="great_step",qualname:="great_step",params:=L2.ak (tp 26),body:=.stmts (L2.ai (tp 26)),scope:=L2.ae (tp 26),globals:=3,closure:=[],defaults:=.none,kwdefaults:=.none,doc:=.none,pyModule:=.str "noteworth.steps" 238,annotations:=none,code:=.ref 114,closureTuple:=.none,builtins:=0 },#[]⟩
noncomputable def q8 (P:Params):Obj:=⟨.type "tuple",none,.seq #[] 0,#[]⟩
noncomputable def vX (P:Params):Obj:=⟨.none,none,.fields #[],#[]⟩
noncomputable def q9 (P:Params):Obj:=⟨.type "tuple",none,.seq #[.str "state" 414,.str "kind" 415,.str "worth" 416] 0,#[]⟩
noncomputable def ra (P:Params):Obj:=⟨.type "tuple",none,.seq #[] 0,#[]⟩
noncomputable def vY (P:Params):Obj:=⟨.none,none,.func { name:="parting_step",qualname:="parting_step",params:=L2.ak (tp 27),body:=.stmts (L2.ai (tp 27)),scope:=L2.ae (tp 27),globals:=0,closure:=[],defaults:=.none,kwdefaults:=.none,doc:=.none,pyModule:=.none,annotations:=none,code:=.none,closureTuple:=.none,builtins:=0 },#[]⟩
noncomputable def rb (P:Params):Obj:=⟨.type "code",none,.fields #[.str "parting_step" 411,.str "parting_step" 412,.str "/claim/cut.py" 413,.int (69) 0,.int (3) 0,.int (0) 0,.int (0) 0,.int (3) 0,.ref 116,.bool true,.int (181) 0,.ref 117,.none,.ref 118,.ref 119,.ref 120,.int (417) 0,.int (69) 0,.str "/claim/cut.py" 418],#[]⟩
noncomputable def rf (P:Params):Obj:=⟨.type "function",none,.func { name:="parting_step",qualname:="parting_step",params:=L2.ak (tp 27),body:=.stmts (L2.ai (tp 27)),scope:=L2.ae (tp 27),globals:=3,closure:=[],defaults:=.none,kwdefaults:=.none,doc:=.none,pyModule:=.str "noteworth.steps" 238,annotations:=none,code:=.ref 121,closureTuple:=.none,builtins:=0 },#[]⟩
noncomputable def rg (P:Params):Obj:=⟨.type "tuple",none,.seq #[] 0,#[]⟩
noncomputable def vZ (P:Params):Obj:=⟨.none,none,.fields #[],#[]⟩
noncomputable def rh (P:Params):Obj:=⟨.type "tuple",none,.seq #[.str "kind" 423,.str "count" 424,.str "worth" 425] 0,#[]⟩
noncomputable def rj (P:Params):Obj:=⟨.type "tuple",none,.seq #[] 0,#[]⟩
noncomputable def v8 (P:Params):Obj:=⟨.none,none,.func { name:="told_last",qualname:="told_last",params:=L2.ak (tp 28),body:=.stmts (L2.ai (tp 28)),scope:=L2.ae (tp 28),globals:=0,closure:=[],defaults:=.none,kwdefaults:=.none,doc:=.none,pyModule:=.none,annotations:=none,code:=.none,closureTuple:=.none,builtins:=0 },#[]⟩
noncomputable def rl (P:Params):Obj:=⟨.type "code",none,.fields #[.str "told_last" 420,.str "told_last" 421,.str "/claim/cut.py" 422,.int (75) 0,.int (3) 0,.int (0) 0,.int (0) 0,.int (3) 0,.ref 123,.bool true,.int (181) 0,.ref 124,.none,.ref 125,.ref 126,.ref 127,.int (426) 0,.int (75) 0,.str "/claim/cut.py" 427],#[]⟩
noncomputable def rm (P:Params):Obj:=⟨.type "function",none,.func { name:="told_last",qualname:="told_last",params:=L2.ak (tp 28),body:=.stmts (L2.ai (tp 28)),scope:=L2.ae (tp 28),globals:=3,closure:=[],defaults:=.none,kwdefaults:=.none,doc:=.none,pyModule:=.str "noteworth.steps" 238,annotations:=none,code:=.ref 128,closureTuple:=.none,builtins:=0 },#[]⟩
noncomputable def H7 (P:Params):Heap:=⟨⟨[boot_o_0 P,boot_o_1 P,boot_o_2 P,ad4 P,boot_o_4 P,boot_o_5 P,boot_o_6 P,boot_o_7 P,boot_o_8 P,boot_o_9 P,boot_o_10 P,c7 P,abu P,c8 P,c9 P,dj P,dk P,dm P,dn P,dq P,dX P,dr P,du P,dY P,dv P,dw P,dy P,dZ P,dz P,dA P,d3 P,dB P,dC P,dD P,dE P,d4 P,dF P,dG P,d7 P,dH P,dJ P,d8 P,d9 P,cK P,bp P,bq P,br P,bu P,bx P,bz P,bA P,bB P,bC P,bD P,jB P,fF P,fH P,fI P,fJ P,Cc P,Cd P,G2 P,Ce P,Cf P,G3 P,Cg P,Ci P,Cj P,G4 P,Ck P,Cm P,G5 P,Cn P,Co P,Cp P,G6 P,Cq P,Cr P,G7 P,Cs P,Ct P,Cu P,G8 P,Cv P,Cw P,G9 P,Cy P,Cz P,CA P,Ha P,CB P,CC P,Hb P,CD P,CF P,CG P,Hc P,CH P,CI P,He P,qP P,qQ P,qR P,vT P,qS P,qT P,vU P,qU P,qV P,qW P,vV P,qX P,qY P,vW P,qZ P,q0 P,q8 P,vX P,q9 P,ra P,vY P,rb P,rf P,rg P,vZ P,rh P,rj P,v8 P,rl P,rm P]⟩,(boot_heap P).life⟩
noncomputable def k7:Nat:=429
noncomputable def n7:Nat:=305
noncomputable def p7:Pos:=⟨75,0,80,15⟩
noncomputable def s7:List Stmt:=[tp 19,tp 20,tp 21,tp 22,tp 23,tp 24,tp 25,tp 26,tp 27,tp 28]
noncomputable def ad5 (P:Params):Obj:=⟨.type "dict",none,.dict #[⟨PyData.keyHash P "__name__",.str "__name__" 165,.str "noteworth.writer" 494⟩,⟨PyData.keyHash P "__doc__",.str "__doc__" 166,.none⟩,⟨PyData.keyHash P "__package__",.str "__package__" 167,.none⟩,⟨PyData.keyHash P "__loader__",.str "__loader__" 168,.builtin "__main__.__loader__#opaque"⟩,⟨PyData.keyHash P "__spec__",.str "__spec__" 169,.none⟩,⟨PyData.keyHash P "__annotations__",.str "__annotations__" 170,.ref 6⟩,⟨PyData.keyHash P "__builtins__",.str "__builtins__" 171,.ref 4⟩,⟨PyData.keyHash P "__file__",.str "__file__" 173,.str "/claim/cut.py" 172⟩,⟨PyData.keyHash P "__cached__",.str "__cached__" 174,.none⟩,⟨PyData.keyHash P "SMALL_KINDS",.str "SMALL_KINDS" 192,.ref 15⟩,⟨PyData.keyHash P "PARTING_KINDS",.str "PARTING_KINDS" 196,.ref 16⟩,⟨PyData.keyHash P "MEASURE_KINDS",.str "MEASURE_KINDS" 199,.ref 17⟩,⟨PyData.keyHash P "SOUNDING_KINDS",.str "SOUNDING_KINDS" 204,.ref 18⟩,⟨PyData.keyHash P "small",.str "small" 211,.ref 25⟩,⟨PyData.keyHash P "parting",.str "parting" 218,.ref 32⟩,⟨PyData.keyHash P "DARK_KINDS",.str "DARK_KINDS" 223,.ref 33⟩,⟨PyData.keyHash P "sign_price",.str "sign_price" 234,.ref 40⟩,⟨PyData.keyHash P "REST_TONE",.str "REST_TONE" 237,.int (-1) 236⟩,⟨PyData.keyHash P "TWOFOLD_STATES",.str "TWOFOLD_STATES" 243,.ref 41⟩,⟨PyData.keyHash P "TWOFOLD_BEGIN",.str "TWOFOLD_BEGIN" 245,.str "2-" 244⟩,⟨PyData.keyHash P "THREEFOLD_BEGIN",.str "THREEFOLD_BEGIN" 247,.str "3n0-" 246⟩,⟨PyData.keyHash P "SHORTENED_FROM_AHEAD",.str "SHORTENED_FROM_AHEAD" 249,.str "3t0-" 248⟩,⟨PyData.keyHash P "NEXT_COUNTS",.str "NEXT_COUNTS" 259,.ref 42⟩,⟨PyData.keyHash P "TWOFOLD_STEPS",.str "TWOFOLD_STEPS" 320,.ref 43⟩,⟨PyData.keyHash P "GREAT_STEPS",.str "GREAT_STEPS" 345,.ref 54⟩,⟨PyData.keyHash P "begin_state",.str "begin_state" 353,.ref 66⟩,⟨PyData.keyHash P "step",.str "step" 362,.ref 73⟩,⟨PyData.keyHash P "ends",.str "ends" 369,.ref 80⟩,⟨PyData.keyHash P "twofold_step",.str "twofold_step" 378,.ref 87⟩,⟨PyData.keyHash P "closes",.str "closes" 387,.ref 94⟩,⟨PyData.keyHash P "closes_by_great",.str "closes_by_great" 394,.ref 101⟩,⟨PyData.keyHash P "closes_by_right_note",.str "closes_by_right_note" 401,.ref 108⟩,⟨PyData.keyHash P "great_step",.str "great_step" 410,.ref 115⟩,⟨PyData.keyHash P "parting_step",.str "parting_step" 419,.ref 122⟩,⟨PyData.keyHash P "told_last",.str "told_last" 428,.ref 129⟩,⟨PyData.keyHash P "small_step",.str "small_step" 440,.ref 136⟩,⟨PyData.keyHash P "PARTING_SIGNS",.str "PARTING_SIGNS" 449,.ref 140⟩,⟨PyData.keyHash P "REST_SIGNS",.str "REST_SIGNS" 454,.ref 143⟩,⟨PyData.keyHash P "moves",.str "moves" 468,.ref 150⟩,⟨PyData.keyHash P "parting_moves",.str "parting_moves" 476,.ref 157⟩,⟨PyData.keyHash P "wished_signs",.str "wished_signs" 482,.ref 162⟩,⟨PyData.keyHash P "wish_moves",.str "wish_moves" 493,.ref 169⟩,⟨PyData.keyHash P "MOST_PARTING_SIGNS",.str "MOST_PARTING_SIGNS" 497,.int (2) 496⟩] 43,#[]⟩
noncomputable def abv (P:Params):Obj:=⟨.none,none,.fields #[.int (6) 0,.int (0) 0,.ref 24,.int (8) 0,.int (0) 0,.ref 31,.int (12) 0,.int (0) 0,.ref 39,.int (30) 0,.int (0) 0,.ref 65,.int (34) 0,.int (0) 0,.ref 72,.int (42) 0,.int (0) 0,.ref 79,.int (46) 0,.int (0) 0,.ref 86,.int (52) 0,.int (0) 0,.ref 93,.int (57) 0,.int (0) 0,.ref 100,.int (59) 0,.int (0) 0,.ref 107,.int (61) 0,.int (0) 0,.ref 114,.int (69) 0,.int (0) 0,.ref 121,.int (75) 0,.int (0) 0,.ref 128,.int (81) 0,.int (0) 0,.ref 135,.int (93) 0,.int (0) 0,.ref 149,.int (101) 0,.int (0) 0,.ref 156,.int (103) 0,.int (0) 0,.ref 161,.int (107) 0,.int (0) 0,.ref 168],#[]⟩
noncomputable def v9 (P:Params):Obj:=⟨.type "tuple",none,.seq #[] 0,#[]⟩
noncomputable def CJ (P:Params):Obj:=⟨.none,none,.fields #[],#[]⟩
noncomputable def wa (P:Params):Obj:=⟨.type "tuple",none,.seq #[.str "state" 432,.str "kind" 433,.str "worth" 434,.str "count" 435,.str "last" 436,.str "left" 437] 0,#[]⟩
noncomputable def wb (P:Params):Obj:=⟨.type "tuple",none,.seq #[] 0,#[]⟩
noncomputable def CK (P:Params):Obj:=⟨.none,none,.func { name:="small_step",qualname:="small_step",params:=L2.ak (tp 29),body:=.stmts (L2.ai (tp 29)),scope:=L2.ae (tp 29),globals:=0,closure:=[],defaults:=.none,kwdefaults:=.none,doc:=.none,pyModule:=.none,annotations:=none,code:=.none,closureTuple:=.none,builtins:=0 },#[]⟩
noncomputable def wc (P:Params):Obj:=⟨.type "code",none,.fields #[.str "small_step" 429,.str "small_step" 430,.str "/claim/cut.py" 431,.int (81) 0,.int (3) 0,.int (0) 0,.int (0) 0,.int (3) 0,.ref 130,.bool true,.int (181) 0,.ref 131,.none,.ref 132,.ref 133,.ref 134,.int (438) 0,.int (81) 0,.str "/claim/cut.py" 439],#[]⟩
noncomputable def wd (P:Params):Obj:=⟨.type "function",none,.func { name:="small_step",qualname:="small_step",params:=L2.ak (tp 29),body:=.stmts (L2.ai (tp 29)),scope:=L2.ae (tp 29),globals:=3,closure:=[],defaults:=.none,kwdefaults:=.none,doc:=.none,pyModule:=.str "noteworth.steps" 238,annotations:=none,code:=.ref 135,closureTuple:=.none,builtins:=0 },#[]⟩
noncomputable def we (P:Params):Obj:=⟨.type "tuple",none,.seq #[.str "." 443,.int (0) 444] 0,#[]⟩
noncomputable def wg (P:Params):Obj:=⟨.type "tuple",none,.seq #[.str "3" 445,.int (0) 446] 0,#[]⟩
noncomputable def wj (P:Params):Obj:=⟨.type "tuple",none,.seq #[.str "2" 447,.int (0) 448] 0,#[]⟩
noncomputable def wk (P:Params):Obj:=⟨.type "tuple",none,.seq #[.ref 137,.ref 138,.ref 139] 0,#[]⟩
noncomputable def wm (P:Params):Obj:=⟨.type "tuple",none,.seq #[.str "R" 450,.int (0) 451] 0,#[]⟩
noncomputable def wq (P:Params):Obj:=⟨.type "tuple",none,.seq #[.str "r" 452,.int (0) 453] 0,#[]⟩
noncomputable def wt (P:Params):Obj:=⟨.type "tuple",none,.seq #[.ref 141,.ref 142] 0,#[]⟩
noncomputable def wu (P:Params):Obj:=⟨.type "tuple",none,.seq #[] 0,#[]⟩
noncomputable def CL (P:Params):Obj:=⟨.none,none,.fields #[],#[]⟩
noncomputable def wx (P:Params):Obj:=⟨.type "tuple",none,.seq #[.str "state" 458,.str "signs" 459,.str "worth" 460,.str "prices" 461,.str "found" 462,.str "sign" 463,.str "cost" 464,.str "to" 465] 0,#[]⟩
noncomputable def wy (P:Params):Obj:=⟨.type "tuple",none,.seq #[] 0,#[]⟩
noncomputable def CM (P:Params):Obj:=⟨.none,none,.func { name:="moves",qualname:="moves",params:=L2.ak (tp 33),body:=.stmts (L2.ai (tp 33)),scope:=L2.ae (tp 33),globals:=0,closure:=[],defaults:=.none,kwdefaults:=.none,doc:=.none,pyModule:=.none,annotations:=none,code:=.none,closureTuple:=.none,builtins:=0 },#[]⟩
noncomputable def wz (P:Params):Obj:=⟨.type "code",none,.fields #[.str "moves" 455,.str "moves" 456,.str "/claim/cut.py" 457,.int (93) 0,.int (4) 0,.int (0) 0,.int (0) 0,.int (3) 0,.ref 144,.bool true,.int (181) 0,.ref 145,.none,.ref 146,.ref 147,.ref 148,.int (466) 0,.int (93) 0,.str "/claim/cut.py" 467],#[]⟩
noncomputable def wA (P:Params):Obj:=⟨.type "function",none,.func { name:="moves",qualname:="moves",params:=L2.ak (tp 33),body:=.stmts (L2.ai (tp 33)),scope:=L2.ae (tp 33),globals:=3,closure:=[],defaults:=.none,kwdefaults:=.none,doc:=.none,pyModule:=.str "noteworth.moves" 441,annotations:=none,code:=.ref 149,closureTuple:=.none,builtins:=0 },#[]⟩
noncomputable def wB (P:Params):Obj:=⟨.type "tuple",none,.seq #[] 0,#[]⟩
noncomputable def CN (P:Params):Obj:=⟨.none,none,.fields #[],#[]⟩
noncomputable def wC (P:Params):Obj:=⟨.type "tuple",none,.seq #[.str "state" 472,.str "prices" 473] 0,#[]⟩
noncomputable def wF (P:Params):Obj:=⟨.type "tuple",none,.seq #[] 0,#[]⟩
noncomputable def CO (P:Params):Obj:=⟨.none,none,.func { name:="parting_moves",qualname:="parting_moves",params:=L2.ak (tp 34),body:=.stmts (L2.ai (tp 34)),scope:=L2.ae (tp 34),globals:=0,closure:=[],defaults:=.none,kwdefaults:=.none,doc:=.none,pyModule:=.none,annotations:=none,code:=.none,closureTuple:=.none,builtins:=0 },#[]⟩
noncomputable def wG (P:Params):Obj:=⟨.type "code",none,.fields #[.str "parting_moves" 469,.str "parting_moves" 470,.str "/claim/cut.py" 471,.int (101) 0,.int (2) 0,.int (0) 0,.int (0) 0,.int (3) 0,.ref 151,.bool true,.int (181) 0,.ref 152,.none,.ref 153,.ref 154,.ref 155,.int (474) 0,.int (101) 0,.str "/claim/cut.py" 475],#[]⟩
noncomputable def wH (P:Params):Obj:=⟨.type "function",none,.func { name:="parting_moves",qualname:="parting_moves",params:=L2.ak (tp 34),body:=.stmts (L2.ai (tp 34)),scope:=L2.ae (tp 34),globals:=3,closure:=[],defaults:=.none,kwdefaults:=.none,doc:=.none,pyModule:=.str "noteworth.moves" 441,annotations:=none,code:=.ref 156,closureTuple:=.none,builtins:=0 },#[]⟩
noncomputable def wI (P:Params):Obj:=⟨.type "tuple",none,.seq #[] 0,#[]⟩
noncomputable def CP (P:Params):Obj:=⟨.none,none,.fields #[],#[]⟩
noncomputable def CQ (P:Params):Obj:=⟨.none,none,.func { name:="wished_signs",qualname:="wished_signs",params:=L2.ak (tp 35),body:=.stmts (L2.ai (tp 35)),scope:=L2.ae (tp 35),globals:=0,closure:=[],defaults:=.none,kwdefaults:=.none,doc:=.none,pyModule:=.none,annotations:=none,code:=.none,closureTuple:=.none,builtins:=0 },#[]⟩
noncomputable def wJ (P:Params):Obj:=⟨.type "code",none,.fields #[.str "wished_signs" 477,.str "wished_signs" 478,.str "/claim/cut.py" 479,.int (103) 0,.int (1) 0,.int (0) 0,.int (0) 0,.int (3) 0,.ref 158,.bool true,.int (181) 0,.ref 159,.none,.none,.none,.ref 160,.int (480) 0,.int (103) 0,.str "/claim/cut.py" 481],#[]⟩
noncomputable def wK (P:Params):Obj:=⟨.type "function",none,.func { name:="wished_signs",qualname:="wished_signs",params:=L2.ak (tp 35),body:=.stmts (L2.ai (tp 35)),scope:=L2.ae (tp 35),globals:=3,closure:=[],defaults:=.none,kwdefaults:=.none,doc:=.none,pyModule:=.str "noteworth.moves" 441,annotations:=none,code:=.ref 161,closureTuple:=.none,builtins:=0 },#[]⟩
noncomputable def wL (P:Params):Obj:=⟨.type "tuple",none,.seq #[] 0,#[]⟩
noncomputable def CS (P:Params):Obj:=⟨.none,none,.fields #[],#[]⟩
noncomputable def wM (P:Params):Obj:=⟨.type "tuple",none,.seq #[.str "state" 486,.str "wish" 487,.str "prices" 488,.str "tone" 489,.str "worth" 490] 0,#[]⟩
noncomputable def wN (P:Params):Obj:=⟨.type "tuple",none,.seq #[] 0,#[]⟩
noncomputable def CT (P:Params):Obj:=⟨.none,none,.func { name:="wish_moves",qualname:="wish_moves",params:=L2.ak (tp 36),body:=.stmts (L2.ai (tp 36)),scope:=L2.ae (tp 36),globals:=0,closure:=[],defaults:=.none,kwdefaults:=.none,doc:=.none,pyModule:=.none,annotations:=none,code:=.none,closureTuple:=.none,builtins:=0 },#[]⟩
noncomputable def wO (P:Params):Obj:=⟨.type "code",none,.fields #[.str "wish_moves" 483,.str "wish_moves" 484,.str "/claim/cut.py" 485,.int (107) 0,.int (3) 0,.int (0) 0,.int (0) 0,.int (3) 0,.ref 163,.bool true,.int (181) 0,.ref 164,.none,.ref 165,.ref 166,.ref 167,.int (491) 0,.int (107) 0,.str "/claim/cut.py" 492],#[]⟩
noncomputable def wQ (P:Params):Obj:=⟨.type "function",none,.func { name:="wish_moves",qualname:="wish_moves",params:=L2.ak (tp 36),body:=.stmts (L2.ai (tp 36)),scope:=L2.ae (tp 36),globals:=3,closure:=[],defaults:=.none,kwdefaults:=.none,doc:=.none,pyModule:=.str "noteworth.moves" 441,annotations:=none,code:=.ref 168,closureTuple:=.none,builtins:=0 },#[]⟩
noncomputable def H8 (P:Params):Heap:=⟨⟨[boot_o_0 P,boot_o_1 P,boot_o_2 P,ad5 P,boot_o_4 P,boot_o_5 P,boot_o_6 P,boot_o_7 P,boot_o_8 P,boot_o_9 P,boot_o_10 P,c7 P,abv P,c8 P,c9 P,dj P,dk P,dm P,dn P,dq P,dX P,dr P,du P,dY P,dv P,dw P,dy P,dZ P,dz P,dA P,d3 P,dB P,dC P,dD P,dE P,d4 P,dF P,dG P,d7 P,dH P,dJ P,d8 P,d9 P,cK P,bp P,bq P,br P,bu P,bx P,bz P,bA P,bB P,bC P,bD P,jB P,fF P,fH P,fI P,fJ P,Cc P,Cd P,G2 P,Ce P,Cf P,G3 P,Cg P,Ci P,Cj P,G4 P,Ck P,Cm P,G5 P,Cn P,Co P,Cp P,G6 P,Cq P,Cr P,G7 P,Cs P,Ct P,Cu P,G8 P,Cv P,Cw P,G9 P,Cy P,Cz P,CA P,Ha P,CB P,CC P,Hb P,CD P,CF P,CG P,Hc P,CH P,CI P,He P,qP P,qQ P,qR P,vT P,qS P,qT P,vU P,qU P,qV P,qW P,vV P,qX P,qY P,vW P,qZ P,q0 P,q8 P,vX P,q9 P,ra P,vY P,rb P,rf P,rg P,vZ P,rh P,rj P,v8 P,rl P,rm P,v9 P,CJ P,wa P,wb P,CK P,wc P,wd P,we P,wg P,wj P,wk P,wm P,wq P,wt P,wu P,CL P,wx P,wy P,CM P,wz P,wA P,wB P,CN P,wC P,wF P,CO P,wG P,wH P,wI P,CP P,CQ P,wJ P,wK P,wL P,CS P,wM P,wN P,CT P,wO P,wQ P]⟩,(boot_heap P).life⟩
noncomputable def k8:Nat:=498
noncomputable def n8:Nat:=227
noncomputable def p8:Pos:=⟨111,0,111,18⟩
noncomputable def s8:List Stmt:=[tp 29,tp 30,tp 31,tp 32,tp 33,tp 34,tp 35,tp 36,tp 37,tp 38]
noncomputable def ad6 (P:Params):Obj:=⟨.type "dict",none,.dict #[⟨PyData.keyHash P "__name__",.str "__name__" 165,.str "law_noteworth_k25_what_is_written" 553⟩,⟨PyData.keyHash P "__doc__",.str "__doc__" 166,.none⟩,⟨PyData.keyHash P "__package__",.str "__package__" 167,.none⟩,⟨PyData.keyHash P "__loader__",.str "__loader__" 168,.builtin "__main__.__loader__#opaque"⟩,⟨PyData.keyHash P "__spec__",.str "__spec__" 169,.none⟩,⟨PyData.keyHash P "__annotations__",.str "__annotations__" 170,.ref 6⟩,⟨PyData.keyHash P "__builtins__",.str "__builtins__" 171,.ref 4⟩,⟨PyData.keyHash P "__file__",.str "__file__" 173,.str "/claim/cut.py" 172⟩,⟨PyData.keyHash P "__cached__",.str "__cached__" 174,.none⟩,⟨PyData.keyHash P "SMALL_KINDS",.str "SMALL_KINDS" 192,.ref 15⟩,⟨PyData.keyHash P "PARTING_KINDS",.str "PARTING_KINDS" 196,.ref 16⟩,⟨PyData.keyHash P "MEASURE_KINDS",.str "MEASURE_KINDS" 199,.ref 17⟩,⟨PyData.keyHash P "SOUNDING_KINDS",.str "SOUNDING_KINDS" 204,.ref 18⟩,⟨PyData.keyHash P "small",.str "small" 211,.ref 25⟩,⟨PyData.keyHash P "parting",.str "parting" 218,.ref 32⟩,⟨PyData.keyHash P "DARK_KINDS",.str "DARK_KINDS" 223,.ref 33⟩,⟨PyData.keyHash P "sign_price",.str "sign_price" 234,.ref 40⟩,⟨PyData.keyHash P "REST_TONE",.str "REST_TONE" 237,.int (-1) 236⟩,⟨PyData.keyHash P "TWOFOLD_STATES",.str "TWOFOLD_STATES" 243,.ref 41⟩,⟨PyData.keyHash P "TWOFOLD_BEGIN",.str "TWOFOLD_BEGIN" 245,.str "2-" 244⟩,⟨PyData.keyHash P "THREEFOLD_BEGIN",.str "THREEFOLD_BEGIN" 247,.str "3n0-" 246⟩,⟨PyData.keyHash P "SHORTENED_FROM_AHEAD",.str "SHORTENED_FROM_AHEAD" 249,.str "3t0-" 248⟩,⟨PyData.keyHash P "NEXT_COUNTS",.str "NEXT_COUNTS" 259,.ref 42⟩,⟨PyData.keyHash P "TWOFOLD_STEPS",.str "TWOFOLD_STEPS" 320,.ref 43⟩,⟨PyData.keyHash P "GREAT_STEPS",.str "GREAT_STEPS" 345,.ref 54⟩,⟨PyData.keyHash P "begin_state",.str "begin_state" 353,.ref 66⟩,⟨PyData.keyHash P "step",.str "step" 362,.ref 73⟩,⟨PyData.keyHash P "ends",.str "ends" 369,.ref 80⟩,⟨PyData.keyHash P "twofold_step",.str "twofold_step" 378,.ref 87⟩,⟨PyData.keyHash P "closes",.str "closes" 387,.ref 94⟩,⟨PyData.keyHash P "closes_by_great",.str "closes_by_great" 394,.ref 101⟩,⟨PyData.keyHash P "closes_by_right_note",.str "closes_by_right_note" 401,.ref 108⟩,⟨PyData.keyHash P "great_step",.str "great_step" 410,.ref 115⟩,⟨PyData.keyHash P "parting_step",.str "parting_step" 419,.ref 122⟩,⟨PyData.keyHash P "told_last",.str "told_last" 428,.ref 129⟩,⟨PyData.keyHash P "small_step",.str "small_step" 440,.ref 136⟩,⟨PyData.keyHash P "PARTING_SIGNS",.str "PARTING_SIGNS" 449,.ref 140⟩,⟨PyData.keyHash P "REST_SIGNS",.str "REST_SIGNS" 454,.ref 143⟩,⟨PyData.keyHash P "moves",.str "moves" 468,.ref 150⟩,⟨PyData.keyHash P "parting_moves",.str "parting_moves" 476,.ref 157⟩,⟨PyData.keyHash P "wished_signs",.str "wished_signs" 482,.ref 162⟩,⟨PyData.keyHash P "wish_moves",.str "wish_moves" 493,.ref 169⟩,⟨PyData.keyHash P "MOST_PARTING_SIGNS",.str "MOST_PARTING_SIGNS" 497,.int (2) 496⟩,⟨PyData.keyHash P "keep_cheaper",.str "keep_cheaper" 507,.ref 176⟩,⟨PyData.keyHash P "with_parting_signs",.str "with_parting_signs" 523,.ref 183⟩,⟨PyData.keyHash P "with_wish",.str "with_wish" 539,.ref 190⟩,⟨PyData.keyHash P "costs",.str "costs" 545,.ref 195⟩,⟨PyData.keyHash P "written",.str "written" 552,.ref 201⟩,⟨PyData.keyHash P "_law_cell_at",.str "_law_cell_at" 562,.ref 208⟩,⟨PyData.keyHash P "_law_mixed",.str "_law_mixed" 572,.ref 215⟩,⟨PyData.keyHash P "_law_numbers",.str "_law_numbers" 578,.ref 220⟩,⟨PyData.keyHash P "_law_sign_by",.str "_law_sign_by" 586,.ref 227⟩] 52,#[]⟩
noncomputable def abw (P:Params):Obj:=⟨.none,none,.fields #[.int (6) 0,.int (0) 0,.ref 24,.int (8) 0,.int (0) 0,.ref 31,.int (12) 0,.int (0) 0,.ref 39,.int (30) 0,.int (0) 0,.ref 65,.int (34) 0,.int (0) 0,.ref 72,.int (42) 0,.int (0) 0,.ref 79,.int (46) 0,.int (0) 0,.ref 86,.int (52) 0,.int (0) 0,.ref 93,.int (57) 0,.int (0) 0,.ref 100,.int (59) 0,.int (0) 0,.ref 107,.int (61) 0,.int (0) 0,.ref 114,.int (69) 0,.int (0) 0,.ref 121,.int (75) 0,.int (0) 0,.ref 128,.int (81) 0,.int (0) 0,.ref 135,.int (93) 0,.int (0) 0,.ref 149,.int (101) 0,.int (0) 0,.ref 156,.int (103) 0,.int (0) 0,.ref 161,.int (107) 0,.int (0) 0,.ref 168,.int (112) 0,.int (0) 0,.ref 175,.int (115) 0,.int (0) 0,.ref 182,.int (123) 0,.int (0) 0,.ref 189,.int (129) 0,.int (0) 0,.ref 194,.int (131) 0,.int (0) 0,.ref 200,.int (143) 0,.int (0) 0,.ref 207,.int (147) 0,.int (0) 0,.ref 214,.int (151) 0,.int (0) 0,.ref 219,.int (161) 0,.int (0) 0,.ref 226],#[]⟩
noncomputable def CU (P:Params):Obj:=⟨.type "tuple",none,.seq #[] 0,#[]⟩
noncomputable def Ij (P:Params):Obj:=⟨.none,none,.fields #[],#[]⟩
noncomputable def CV (P:Params):Obj:=⟨.type "tuple",none,.seq #[.str "ways" 501,.str "state" 502,.str "cost" 503,.str "line" 504] 0,#[]⟩
noncomputable def CW (P:Params):Obj:=⟨.type "tuple",none,.seq #[] 0,#[]⟩
noncomputable def Ik (P:Params):Obj:=⟨.none,none,.func { name:="keep_cheaper",qualname:="keep_cheaper",params:=L2.ak (tp 39),body:=.stmts (L2.ai (tp 39)),scope:=L2.ae (tp 39),globals:=0,closure:=[],defaults:=.none,kwdefaults:=.none,doc:=.none,pyModule:=.none,annotations:=none,code:=.none,closureTuple:=.none,builtins:=0 },#[]⟩
noncomputable def CY (P:Params):Obj:=⟨.type "code",none,.fields #[.str "keep_cheaper" 498,.str "keep_cheaper" 499,.str "/claim/cut.py" 500,.int (112) 0,.int (4) 0,.int (0) 0,.int (0) 0,.int (3) 0,.ref 170,.bool true,.int (181) 0,.ref 171,.none,.ref 172,.ref 173,.ref 174,.int (505) 0,.int (112) 0,.str "/claim/cut.py" 506],#[]⟩
noncomputable def CZ (P:Params):Obj:=⟨.type "function",none,.func { name:="keep_cheaper",qualname:="keep_cheaper",params:=L2.ak (tp 39),body:=.stmts (L2.ai (tp 39)),scope:=L2.ae (tp 39),globals:=3,closure:=[],defaults:=.none,kwdefaults:=.none,doc:=.none,pyModule:=.str "noteworth.writer" 494,annotations:=none,code:=.ref 175,closureTuple:=.none,builtins:=0 },#[]⟩
noncomputable def C0 (P:Params):Obj:=⟨.type "tuple",none,.seq #[] 0,#[]⟩
noncomputable def Il (P:Params):Obj:=⟨.none,none,.fields #[],#[]⟩
noncomputable def C1 (P:Params):Obj:=⟨.type "tuple",none,.seq #[.str "ways" 511,.str "prices" 512,.str "found" 513,.str "again" 514,.str "state" 515,.str "cost" 516,.str "line" 517,.str "sign" 518,.str "more" 519,.str "to" 520] 0,#[]⟩
noncomputable def C2 (P:Params):Obj:=⟨.type "tuple",none,.seq #[] 0,#[]⟩
noncomputable def Im (P:Params):Obj:=⟨.none,none,.func { name:="with_parting_signs",qualname:="with_parting_signs",params:=L2.ak (tp 40),body:=.stmts (L2.ai (tp 40)),scope:=L2.ae (tp 40),globals:=0,closure:=[],defaults:=.none,kwdefaults:=.none,doc:=.none,pyModule:=.none,annotations:=none,code:=.none,closureTuple:=.none,builtins:=0 },#[]⟩
noncomputable def C3 (P:Params):Obj:=⟨.type "code",none,.fields #[.str "with_parting_signs" 508,.str "with_parting_signs" 509,.str "/claim/cut.py" 510,.int (115) 0,.int (2) 0,.int (0) 0,.int (0) 0,.int (3) 0,.ref 177,.bool true,.int (181) 0,.ref 178,.none,.ref 179,.ref 180,.ref 181,.int (521) 0,.int (115) 0,.str "/claim/cut.py" 522],#[]⟩
noncomputable def C4 (P:Params):Obj:=⟨.type "function",none,.func { name:="with_parting_signs",qualname:="with_parting_signs",params:=L2.ak (tp 40),body:=.stmts (L2.ai (tp 40)),scope:=L2.ae (tp 40),globals:=3,closure:=[],defaults:=.none,kwdefaults:=.none,doc:=.none,pyModule:=.str "noteworth.writer" 494,annotations:=none,code:=.ref 182,closureTuple:=.none,builtins:=0 },#[]⟩
noncomputable def C7 (P:Params):Obj:=⟨.type "tuple",none,.seq #[] 0,#[]⟩
noncomputable def Io (P:Params):Obj:=⟨.none,none,.fields #[],#[]⟩
noncomputable def C8 (P:Params):Obj:=⟨.type "tuple",none,.seq #[.str "ways" 527,.str "wish" 528,.str "prices" 529,.str "found" 530,.str "state" 531,.str "cost" 532,.str "line" 533,.str "sign" 534,.str "more" 535,.str "to" 536] 0,#[]⟩
noncomputable def C9 (P:Params):Obj:=⟨.type "tuple",none,.seq #[] 0,#[]⟩
noncomputable def Ip (P:Params):Obj:=⟨.none,none,.func { name:="with_wish",qualname:="with_wish",params:=L2.ak (tp 41),body:=.stmts (L2.ai (tp 41)),scope:=L2.ae (tp 41),globals:=0,closure:=[],defaults:=.none,kwdefaults:=.none,doc:=.none,pyModule:=.none,annotations:=none,code:=.none,closureTuple:=.none,builtins:=0 },#[]⟩
noncomputable def Dc (P:Params):Obj:=⟨.type "code",none,.fields #[.str "with_wish" 524,.str "with_wish" 525,.str "/claim/cut.py" 526,.int (123) 0,.int (3) 0,.int (0) 0,.int (0) 0,.int (3) 0,.ref 184,.bool true,.int (181) 0,.ref 185,.none,.ref 186,.ref 187,.ref 188,.int (537) 0,.int (123) 0,.str "/claim/cut.py" 538],#[]⟩
noncomputable def Dd (P:Params):Obj:=⟨.type "function",none,.func { name:="with_wish",qualname:="with_wish",params:=L2.ak (tp 41),body:=.stmts (L2.ai (tp 41)),scope:=L2.ae (tp 41),globals:=3,closure:=[],defaults:=.none,kwdefaults:=.none,doc:=.none,pyModule:=.str "noteworth.writer" 494,annotations:=none,code:=.ref 189,closureTuple:=.none,builtins:=0 },#[]⟩
noncomputable def De (P:Params):Obj:=⟨.type "tuple",none,.seq #[] 0,#[]⟩
noncomputable def Iq (P:Params):Obj:=⟨.none,none,.fields #[],#[]⟩
noncomputable def Ir (P:Params):Obj:=⟨.none,none,.func { name:="costs",qualname:="costs",params:=L2.ak (tp 42),body:=.stmts (L2.ai (tp 42)),scope:=L2.ae (tp 42),globals:=0,closure:=[],defaults:=.none,kwdefaults:=.none,doc:=.none,pyModule:=.none,annotations:=none,code:=.none,closureTuple:=.none,builtins:=0 },#[]⟩
noncomputable def Df (P:Params):Obj:=⟨.type "code",none,.fields #[.str "costs" 540,.str "costs" 541,.str "/claim/cut.py" 542,.int (129) 0,.int (1) 0,.int (0) 0,.int (0) 0,.int (3) 0,.ref 191,.bool true,.int (181) 0,.ref 192,.none,.none,.none,.ref 193,.int (543) 0,.int (129) 0,.str "/claim/cut.py" 544],#[]⟩
noncomputable def Dg (P:Params):Obj:=⟨.type "function",none,.func { name:="costs",qualname:="costs",params:=L2.ak (tp 42),body:=.stmts (L2.ai (tp 42)),scope:=L2.ae (tp 42),globals:=3,closure:=[],defaults:=.none,kwdefaults:=.none,doc:=.none,pyModule:=.str "noteworth.writer" 494,annotations:=none,code:=.ref 194,closureTuple:=.none,builtins:=0 },#[]⟩
noncomputable def Dh (P:Params):Obj:=⟨.type "tuple",none,.seq #[.int (3) 546] 0,#[]⟩
noncomputable def Di (P:Params):Obj:=⟨.type "tuple",none,.seq #[] 0,#[]⟩
noncomputable def Dj (P:Params):Obj:=⟨.none,none,.fields #[],#[]⟩
noncomputable def Iu (P:Params):Obj:=⟨.none,none,.func { name:="written",qualname:="written",params:=L2.ak (tp 43),body:=.stmts (L2.ai (tp 43)),scope:=L2.ae (tp 43),globals:=0,closure:=[],defaults:=.none,kwdefaults:=.none,doc:=.none,pyModule:=.none,annotations:=none,code:=.none,closureTuple:=.none,builtins:=0 },#[]⟩
noncomputable def rp (P:Params):Obj:=⟨.type "code",none,.fields #[.str "written" 547,.str "written" 548,.str "/claim/cut.py" 549,.int (131) 0,.int (3) 0,.int (0) 0,.int (0) 0,.int (3) 0,.ref 197,.bool true,.int (181) 0,.ref 198,.none,.none,.none,.ref 199,.int (550) 0,.int (131) 0,.str "/claim/cut.py" 551],#[]⟩
noncomputable def Dk (P:Params):Obj:=⟨.type "function",none,.func { name:="written",qualname:="written",params:=L2.ak (tp 43),body:=.stmts (L2.ai (tp 43)),scope:=L2.ae (tp 43),globals:=3,closure:=[],defaults:=.ref 196,kwdefaults:=.none,doc:=.none,pyModule:=.str "noteworth.writer" 494,annotations:=none,code:=.ref 200,closureTuple:=.none,builtins:=0 },#[]⟩
noncomputable def Dl (P:Params):Obj:=⟨.type "tuple",none,.seq #[] 0,#[]⟩
noncomputable def Iv (P:Params):Obj:=⟨.none,none,.fields #[],#[]⟩
noncomputable def Dm (P:Params):Obj:=⟨.type "tuple",none,.seq #[.str "_law_script" 558,.str "_law_k" 559] 0,#[]⟩
noncomputable def Dn (P:Params):Obj:=⟨.type "tuple",none,.seq #[] 0,#[]⟩
noncomputable def Iw (P:Params):Obj:=⟨.none,none,.func { name:="_law_cell_at",qualname:="_law_cell_at",params:=L2.ak (tp 45),body:=.stmts (L2.ai (tp 45)),scope:=L2.ae (tp 45),globals:=0,closure:=[],defaults:=.none,kwdefaults:=.none,doc:=.none,pyModule:=.none,annotations:=none,code:=.none,closureTuple:=.none,builtins:=0 },#[]⟩
noncomputable def Dp (P:Params):Obj:=⟨.type "code",none,.fields #[.str "_law_cell_at" 555,.str "_law_cell_at" 556,.str "/claim/cut.py" 557,.int (143) 0,.int (2) 0,.int (0) 0,.int (0) 0,.int (3) 0,.ref 202,.bool true,.int (181) 0,.ref 203,.none,.ref 204,.ref 205,.ref 206,.int (560) 0,.int (143) 0,.str "/claim/cut.py" 561],#[]⟩
noncomputable def Dq (P:Params):Obj:=⟨.type "function",none,.func { name:="_law_cell_at",qualname:="_law_cell_at",params:=L2.ak (tp 45),body:=.stmts (L2.ai (tp 45)),scope:=L2.ae (tp 45),globals:=3,closure:=[],defaults:=.none,kwdefaults:=.none,doc:=.none,pyModule:=.str "law_noteworth_k25_what_is_written" 553,annotations:=none,code:=.ref 207,closureTuple:=.none,builtins:=0 },#[]⟩
noncomputable def Dr (P:Params):Obj:=⟨.type "tuple",none,.seq #[] 0,#[]⟩
noncomputable def Iy (P:Params):Obj:=⟨.none,none,.fields #[],#[]⟩
noncomputable def Ds (P:Params):Obj:=⟨.type "tuple",none,.seq #[.str "_law_seed" 566,.str "_law_k" 567,.str "_law_one" 568,.str "_law_two" 569] 0,#[]⟩
noncomputable def Dt (P:Params):Obj:=⟨.type "tuple",none,.seq #[] 0,#[]⟩
noncomputable def Iz (P:Params):Obj:=⟨.none,none,.func { name:="_law_mixed",qualname:="_law_mixed",params:=L2.ak (tp 46),body:=.stmts (L2.ai (tp 46)),scope:=L2.ae (tp 46),globals:=0,closure:=[],defaults:=.none,kwdefaults:=.none,doc:=.none,pyModule:=.none,annotations:=none,code:=.none,closureTuple:=.none,builtins:=0 },#[]⟩
noncomputable def Du (P:Params):Obj:=⟨.type "code",none,.fields #[.str "_law_mixed" 563,.str "_law_mixed" 564,.str "/claim/cut.py" 565,.int (147) 0,.int (2) 0,.int (0) 0,.int (0) 0,.int (3) 0,.ref 209,.bool true,.int (181) 0,.ref 210,.none,.ref 211,.ref 212,.ref 213,.int (570) 0,.int (147) 0,.str "/claim/cut.py" 571],#[]⟩
noncomputable def Dv (P:Params):Obj:=⟨.type "function",none,.func { name:="_law_mixed",qualname:="_law_mixed",params:=L2.ak (tp 46),body:=.stmts (L2.ai (tp 46)),scope:=L2.ae (tp 46),globals:=3,closure:=[],defaults:=.none,kwdefaults:=.none,doc:=.none,pyModule:=.str "law_noteworth_k25_what_is_written" 553,annotations:=none,code:=.ref 214,closureTuple:=.none,builtins:=0 },#[]⟩
noncomputable def Dw (P:Params):Obj:=⟨.type "tuple",none,.seq #[] 0,#[]⟩
noncomputable def IA (P:Params):Obj:=⟨.none,none,.fields #[],#[]⟩
noncomputable def IB (P:Params):Obj:=⟨.none,none,.func { name:="_law_numbers",qualname:="_law_numbers",params:=L2.ak (tp 47),body:=.stmts (L2.ai (tp 47)),scope:=L2.ae (tp 47),globals:=0,closure:=[],defaults:=.none,kwdefaults:=.none,doc:=.none,pyModule:=.none,annotations:=none,code:=.none,closureTuple:=.none,builtins:=0 },#[]⟩
noncomputable def Dx (P:Params):Obj:=⟨.type "code",none,.fields #[.str "_law_numbers" 573,.str "_law_numbers" 574,.str "/claim/cut.py" 575,.int (151) 0,.int (3) 0,.int (0) 0,.int (0) 0,.int (3) 0,.ref 216,.bool true,.int (181) 0,.ref 217,.none,.none,.none,.ref 218,.int (576) 0,.int (151) 0,.str "/claim/cut.py" 577],#[]⟩
noncomputable def Dy (P:Params):Obj:=⟨.type "function",none,.func { name:="_law_numbers",qualname:="_law_numbers",params:=L2.ak (tp 47),body:=.stmts (L2.ai (tp 47)),scope:=L2.ae (tp 47),globals:=3,closure:=[],defaults:=.none,kwdefaults:=.none,doc:=.none,pyModule:=.str "law_noteworth_k25_what_is_written" 553,annotations:=none,code:=.ref 219,closureTuple:=.none,builtins:=0 },#[]⟩
noncomputable def Dz (P:Params):Obj:=⟨.type "tuple",none,.seq #[] 0,#[]⟩
noncomputable def IC (P:Params):Obj:=⟨.none,none,.fields #[],#[]⟩
noncomputable def DA (P:Params):Obj:=⟨.type "tuple",none,.seq #[.str "_law_number" 582,.str "_law_kind" 583] 0,#[]⟩
noncomputable def DB (P:Params):Obj:=⟨.type "tuple",none,.seq #[] 0,#[]⟩
noncomputable def ID (P:Params):Obj:=⟨.none,none,.func { name:="_law_sign_by",qualname:="_law_sign_by",params:=L2.ak (tp 48),body:=.stmts (L2.ai (tp 48)),scope:=L2.ae (tp 48),globals:=0,closure:=[],defaults:=.none,kwdefaults:=.none,doc:=.none,pyModule:=.none,annotations:=none,code:=.none,closureTuple:=.none,builtins:=0 },#[]⟩
noncomputable def DC (P:Params):Obj:=⟨.type "code",none,.fields #[.str "_law_sign_by" 579,.str "_law_sign_by" 580,.str "/claim/cut.py" 581,.int (161) 0,.int (1) 0,.int (0) 0,.int (0) 0,.int (3) 0,.ref 221,.bool true,.int (181) 0,.ref 222,.none,.ref 223,.ref 224,.ref 225,.int (584) 0,.int (161) 0,.str "/claim/cut.py" 585],#[]⟩
noncomputable def DD (P:Params):Obj:=⟨.type "function",none,.func { name:="_law_sign_by",qualname:="_law_sign_by",params:=L2.ak (tp 48),body:=.stmts (L2.ai (tp 48)),scope:=L2.ae (tp 48),globals:=3,closure:=[],defaults:=.none,kwdefaults:=.none,doc:=.none,pyModule:=.str "law_noteworth_k25_what_is_written" 553,annotations:=none,code:=.ref 226,closureTuple:=.none,builtins:=0 },#[]⟩
noncomputable def H9 (P:Params):Heap:=⟨⟨[boot_o_0 P,boot_o_1 P,boot_o_2 P,ad6 P,boot_o_4 P,boot_o_5 P,boot_o_6 P,boot_o_7 P,boot_o_8 P,boot_o_9 P,boot_o_10 P,c7 P,abw P,c8 P,c9 P,dj P,dk P,dm P,dn P,dq P,dX P,dr P,du P,dY P,dv P,dw P,dy P,dZ P,dz P,dA P,d3 P,dB P,dC P,dD P,dE P,d4 P,dF P,dG P,d7 P,dH P,dJ P,d8 P,d9 P,cK P,bp P,bq P,br P,bu P,bx P,bz P,bA P,bB P,bC P,bD P,jB P,fF P,fH P,fI P,fJ P,Cc P,Cd P,G2 P,Ce P,Cf P,G3 P,Cg P,Ci P,Cj P,G4 P,Ck P,Cm P,G5 P,Cn P,Co P,Cp P,G6 P,Cq P,Cr P,G7 P,Cs P,Ct P,Cu P,G8 P,Cv P,Cw P,G9 P,Cy P,Cz P,CA P,Ha P,CB P,CC P,Hb P,CD P,CF P,CG P,Hc P,CH P,CI P,He P,qP P,qQ P,qR P,vT P,qS P,qT P,vU P,qU P,qV P,qW P,vV P,qX P,qY P,vW P,qZ P,q0 P,q8 P,vX P,q9 P,ra P,vY P,rb P,rf P,rg P,vZ P,rh P,rj P,v8 P,rl P,rm P,v9 P,CJ P,wa P,wb P,CK P,wc P,wd P,we P,wg P,wj P,wk P,wm P,wq P,wt P,wu P,CL P,wx P,wy P,CM P,wz P,wA P,wB P,CN P,wC P,wF P,CO P,wG P,wH P,wI P,CP P,CQ P,wJ P,wK P,wL P,CS P,wM P,wN P,CT P,wO P,wQ P,CU P,Ij P,CV P,CW P,Ik P,CY P,CZ P,C0 P,Il P,C1 P,C2 P,Im P,C3 P,C4 P,C7 P,Io P,C8 P,C9 P,Ip P,Dc P,Dd P,De P,Iq P,Ir P,Df P,Dg P,Dh P,Di P,Dj P,Iu P,rp P,Dk P,Dl P,Iv P,Dm P,Dn P,Iw P,Dp P,Dq P,Dr P,Iy P,Ds P,Dt P,Iz P,Du P,Dv P,Dw P,IA P,IB P,Dx P,Dy P,Dz P,IC P,DA P,DB P,ID P,DC P,DD P]⟩,(boot_heap P).life⟩
noncomputable def k9:Nat:=587
noncomputable def n9:Nat:=290
noncomputable def p9:Pos:=⟨161,0,165,25⟩
noncomputable def s9:List Stmt:=[tp 39,tp 40,tp 41,tp 42,tp 43,tp 44,tp 45,tp 46,tp 47,tp 48]
noncomputable def abx (P:Params):Obj:=⟨.type "dict",none,.dict #[⟨PyData.keyHash P "__name__",.str "__name__" 165,.str "law_noteworth_k25_what_is_written" 553⟩,⟨PyData.keyHash P "__doc__",.str "__doc__" 166,.none⟩,⟨PyData.keyHash P "__package__",.str "__package__" 167,.none⟩,⟨PyData.keyHash P "__loader__",.str "__loader__" 168,.builtin "__main__.__loader__#opaque"⟩,⟨PyData.keyHash P "__spec__",.str "__spec__" 169,.none⟩,⟨PyData.keyHash P "__annotations__",.str "__annotations__" 170,.ref 6⟩,⟨PyData.keyHash P "__builtins__",.str "__builtins__" 171,.ref 4⟩,⟨PyData.keyHash P "__file__",.str "__file__" 173,.str "/claim/cut.py" 172⟩,⟨PyData.keyHash P "__cached__",.str "__cached__" 174,.none⟩,⟨PyData.keyHash P "SMALL_KINDS",.str "SMALL_KINDS" 192,.ref 15⟩,⟨PyData.keyHash P "PARTING_KINDS",.str "PARTING_KINDS" 196,.ref 16⟩,⟨PyData.keyHash P "MEASURE_KINDS",.str "MEASURE_KINDS" 199,.ref 17⟩,⟨PyData.keyHash P "SOUNDING_KINDS",.str "SOUNDING_KINDS" 204,.ref 18⟩,⟨PyData.keyHash P "small",.str "small" 211,.ref 25⟩,⟨PyData.keyHash P "parting",.str "parting" 218,.ref 32⟩,⟨PyData.keyHash P "DARK_KINDS",.str "DARK_KINDS" 223,.ref 33⟩,⟨PyData.keyHash P "sign_price",.str "sign_price" 234,.ref 40⟩,⟨PyData.keyHash P "REST_TONE",.str "REST_TONE" 237,.int (-1) 236⟩,⟨PyData.keyHash P "TWOFOLD_STATES",.str "TWOFOLD_STATES" 243,.ref 41⟩,⟨PyData.keyHash P "TWOFOLD_BEGIN",.str "TWOFOLD_BEGIN" 245,.str "2-" 244⟩,⟨PyData.keyHash P "THREEFOLD_BEGIN",.str "THREEFOLD_BEGIN" 247,.str "3n0-" 246⟩,⟨PyData.keyHash P "SHORTENED_FROM_AHEAD",.str "SHORTENED_FROM_AHEAD" 249,.str "3t0-" 248⟩,⟨PyData.keyHash P "NEXT_COUNTS",.str "NEXT_COUNTS" 259,.ref 42⟩,⟨PyData.keyHash P "TWOFOLD_STEPS",.str "TWOFOLD_STEPS" 320,.ref 43⟩,⟨PyData.keyHash P "GREAT_STEPS",.str "GREAT_STEPS" 345,.ref 54⟩,⟨PyData.keyHash P "begin_state",.str "begin_state" 353,.ref 66⟩,⟨PyData.keyHash P "step",.str "step" 362,.ref 73⟩,⟨PyData.keyHash P "ends",.str "ends" 369,.ref 80⟩,⟨PyData.keyHash P "twofold_step",.str "twofold_step" 378,.ref 87⟩,⟨PyData.keyHash P "closes",.str "closes" 387,.ref 94⟩,⟨PyData.keyHash P "closes_by_great",.str "closes_by_great" 394,.ref 101⟩,⟨PyData.keyHash P "closes_by_right_note",.str "closes_by_right_note" 401,.ref 108⟩,⟨PyData.keyHash P "great_step",.str "great_step" 410,.ref 115⟩,⟨PyData.keyHash P "parting_step",.str "parting_step" 419,.ref 122⟩,⟨PyData.keyHash P "told_last",.str "told_last" 428,.ref 129⟩,⟨PyData.keyHash P "small_step",.str "small_step" 440,.ref 136⟩,⟨PyData.keyHash P "PARTING_SIGNS",.str "PARTING_SIGNS" 449,.ref 140⟩,⟨PyData.keyHash P "REST_SIGNS",.str "REST_SIGNS" 454,.ref 143⟩,⟨PyData.keyHash P "moves",.str "moves" 468,.ref 150⟩,⟨PyData.keyHash P "parting_moves",.str "parting_moves" 476,.ref 157⟩,⟨PyData.keyHash P "wished_signs",.str "wished_signs" 482,.ref 162⟩,⟨PyData.keyHash P "wish_moves",.str "wish_moves" 493,.ref 169⟩,⟨PyData.keyHash P "MOST_PARTING_SIGNS",.str "MOST_PARTING_SIGNS" 497,.int (2) 496⟩,⟨PyData.keyHash P "keep_cheaper",.str "keep_cheaper" 507,.ref 176⟩,⟨PyData.keyHash P "with_parting_signs",.str "with_parting_signs" 523,.ref 183⟩,⟨PyData.keyHash P "with_wish",.str "with_wish" 539,.ref 190⟩,⟨PyData.keyHash P "costs",.str "costs" 545,.ref 195⟩,⟨PyData.keyHash P "written",.str "written" 552,.ref 201⟩,⟨PyData.keyHash P "_law_cell_at",.str "_law_cell_at" 562,.ref 208⟩,⟨PyData.keyHash P "_law_mixed",.str "_law_mixed" 572,.ref 215⟩,⟨PyData.keyHash P "_law_numbers",.str "_law_numbers" 578,.ref 220⟩,⟨PyData.keyHash P "_law_sign_by",.str "_law_sign_by" 586,.ref 227⟩,⟨PyData.keyHash P "_law_line",.str "_law_line" 592,.ref 232⟩,⟨PyData.keyHash P "_law_begin",.str "_law_begin" 599,.ref 239⟩,⟨PyData.keyHash P "_law_base",.str "_law_base" 611,.ref 246⟩,⟨PyData.keyHash P "_law_three",.str "_law_three" 622,.ref 253⟩,⟨PyData.keyHash P "_law_run",.str "_law_run" 637,.ref 260⟩,⟨PyData.keyHash P "_law_read",.str "_law_read" 650,.ref 267⟩,⟨PyData.keyHash P "_law_firmed",.str "_law_firmed" 662,.ref 274⟩,⟨PyData.keyHash P "_law_wishes",.str "_law_wishes" 673,.ref 281⟩,⟨PyData.keyHash P "_law_any_wishes",.str "_law_any_wishes" 687,.ref 288⟩,⟨PyData.keyHash P "_law_prices",.str "_law_prices" 696,.ref 295⟩] 62,#[]⟩
noncomputable def Ze (P:Params):Obj:=⟨.none,none,.fields #[.int (6) 0,.int (0) 0,.ref 24,.int (8) 0,.int (0) 0,.ref 31,.int (12) 0,.int (0) 0,.ref 39,.int (30) 0,.int (0) 0,.ref 65,.int (34) 0,.int (0) 0,.ref 72,.int (42) 0,.int (0) 0,.ref 79,.int (46) 0,.int (0) 0,.ref 86,.int (52) 0,.int (0) 0,.ref 93,.int (57) 0,.int (0) 0,.ref 100,.int (59) 0,.int (0) 0,.ref 107,.int (61) 0,.int (0) 0,.ref 114,.int (69) 0,.int (0) 0,.ref 121,.int (75) 0,.int (0) 0,.ref 128,.int (81) 0,.int (0) 0,.ref 135,.int (93) 0,.int (0) 0,.ref 149,.int (101) 0,.int (0) 0,.ref 156,.int (103) 0,.int (0) 0,.ref 161,.int (107) 0,.int (0) 0,.ref 168,.int (112) 0,.int (0) 0,.ref 175,.int (115) 0,.int (0) 0,.ref 182,.int (123) 0,.int (0) 0,.ref 189,.int (129) 0,.int (0) 0,.ref 194,.int (131) 0,.int (0) 0,.ref 200,.int (143) 0,.int (0) 0,.ref 207,.int (147) 0,.int (0) 0,.ref 214,.int (151) 0,.int (0) 0,.ref 219,.int (161) 0,.int (0) 0,.ref 226,.int (166) 0,.int (0) 0,.ref 231,.int (168) 0,.int (0) 0,.ref 238,.int (170) 0,.int (0) 0,.ref 245,.int (188) 0,.int (0) 0,.ref 252,.int (196) 0,.int (0) 0,.ref 259,.int (210) 0,.int (0) 0,.ref 266,.int (223) 0,.int (0) 0,.ref 273,.int (231) 0,.int (0) 0,.ref 280,.int (239) 0,.int (0) 0,.ref 287,.int (247) 0,.int (0) 0,.ref 294],#[]⟩
noncomputable def AO (P:Params):Obj:=⟨.type "tuple",none,.seq #[] 0,#[]⟩
noncomputable def IE (P:Params):Obj:=⟨.none,none,.fields #[],#[]⟩
noncomputable def IF (P:Params):Obj:=⟨.none,none,.func { name:="_law_line",qualname:="_law_line",params:=L2.ak (tp 49),body:=.stmts (L2.ai (tp 49)),scope:=L2.ae (tp 49),globals:=0,closure:=[],defaults:=.none,kwdefaults:=.none,doc:=.none,pyModule:=.none,annotations:=none,code:=.none,closureTuple:=.none,builtins:=0 },#[]⟩
noncomputable def AQ (P:Params):Obj:=⟨.type "code",none,.fields #[.str "_law_line" 587,.str "_law_line" 588,.str "/claim/cut.py" 589,.int (166) 0,.int (3) 0,.int (0) 0,.int (0) 0,.int (3) 0,.ref 228,.bool true,.int (181) 0,.ref 229,.none,.none,.none,.ref 230,.int (590) 0,.int (166) 0,.str "/claim/cut.py" 591],#[]⟩
noncomputable def AR (P:Params):Obj:=⟨.type "function",none,.func { name:="_law_line",qualname:="_law_line",params:=L2.ak (tp 49),body:=.stmts (L2.ai (tp 49)),scope:=L2.ae (tp 49),globals:=3,closure:=[],defaults:=.none,kwdefaults:=.none,doc:=.none,pyModule:=.str "law_noteworth_k25_what_is_written" 553,annotations:=none,code:=.ref 231,closureTuple:=.none,builtins:=0 },#[]⟩
noncomputable def AS (P:Params):Obj:=⟨.type "tuple",none,.seq #[] 0,#[]⟩
noncomputable def IG (P:Params):Obj:=⟨.none,none,.fields #[],#[]⟩
noncomputable def AU (P:Params):Obj:=⟨.type "tuple",none,.seq #[.str "_law_cell" 596] 0,#[]⟩
noncomputable def AV (P:Params):Obj:=⟨.type "tuple",none,.seq #[] 0,#[]⟩
noncomputable def IH (P:Params):Obj:=⟨.none,none,.func { name:="_law_begin",qualname:="_law_begin",params:=L2.ak (tp 50),body:=.stmts (L2.ai (tp 50)),scope:=L2.ae (tp 50),globals:=0,closure:=[],defaults:=.none,kwdefaults:=.none,doc:=.none,pyModule:=.none,annotations:=none,code:=.none,closureTuple:=.none,builtins:=0 },#[]⟩
noncomputable def AW (P:Params):Obj:=⟨.type "code",none,.fields #[.str "_law_begin" 593,.str "_law_begin" 594,.str "/claim/cut.py" 595,.int (168) 0,.int (1) 0,.int (0) 0,.int (0) 0,.int (3) 0,.ref 233,.bool true,.int (181) 0,.ref 234,.none,.ref 235,.ref 236,.ref 237,.int (597) 0,.int (168) 0,.str "/claim/cut.py" 598],#[]⟩
noncomputable def AX (P:Params):Obj:=⟨.type "function",none,.func { name:="_law_begin",qualname:="_law_begin",params:=L2.ak (tp 50),body:=.stmts (L2.ai (tp 50)),scope:=L2.ae (tp 50),globals:=3,closure:=[],defaults:=.none,kwdefaults:=.none,doc:=.none,pyModule:=.str "law_noteworth_k25_what_is_written" 553,annotations:=none,code:=.ref 238,closureTuple:=.none,builtins:=0 },#[]⟩
noncomputable def AY (P:Params):Obj:=⟨.type "tuple",none,.seq #[] 0,#[]⟩
noncomputable def II (P:Params):Obj:=⟨.none,none,.fields #[],#[]⟩
noncomputable def AZ (P:Params):Obj:=⟨.type "tuple",none,.seq #[.str "_law_line_here" 603,.str "_law_begin_here" 604,.str "_law_told" 605,.str "_law_now" 606,.str "_law_at" 607,.str "_law_kind" 608] 0,#[]⟩
noncomputable def A0 (P:Params):Obj:=⟨.type "tuple",none,.seq #[] 0,#[]⟩
noncomputable def IJ (P:Params):Obj:=⟨.none,none,.func { name:="_law_base",qualname:="_law_base",params:=L2.ak (tp 51),body:=.stmts (L2.ai (tp 51)),scope:=L2.ae (tp 51),globals:=0,closure:=[],defaults:=.none,kwdefaults:=.none,doc:=.none,pyModule:=.none,annotations:=none,code:=.none,closureTuple:=.none,builtins:=0 },#[]⟩
noncomputable def A1 (P:Params):Obj:=⟨.type "code",none,.fields #[.str "_law_base" 600,.str "_law_base" 601,.str "/claim/cut.py" 602,.int (170) 0,.int (2) 0,.int (0) 0,.int (0) 0,.int (3) 0,.ref 240,.bool true,.int (181) 0,.ref 241,.none,.ref 242,.ref 243,.ref 244,.int (609) 0,.int (170) 0,.str "/claim/cut.py" 610],#[]⟩
noncomputable def A2 (P:Params):Obj:=⟨.type "function",none,.func { name:="_law_base",qualname:="_law_base",params:=L2.ak (tp 51),body:=.stmts (L2.ai (tp 51)),scope:=L2.ae (tp 51),globals:=3,closure:=[],defaults:=.none,kwdefaults:=.none,doc:=.none,pyModule:=.str "law_noteworth_k25_what_is_written" 553,annotations:=none,code:=.ref 245,closureTuple:=.none,builtins:=0 },#[]⟩
noncomputable def A3 (P:Params):Obj:=⟨.type "tuple",none,.seq #[] 0,#[]⟩
noncomputable def IK (P:Params):Obj:=⟨.none,none,.fields #[],#[]⟩
noncomputable def A4 (P:Params):Obj:=⟨.type "tuple",none,.seq #[.str "_law_line_here" 615,.str "_law_begin_here" 616,.str "_law_told" 617,.str "_law_now" 618,.str "_law_sign" 619] 0,#[]⟩
noncomputable def A5 (P:Params):Obj:=⟨.type "tuple",none,.seq #[] 0,#[]⟩
noncomputable def IL (P:Params):Obj:=⟨.none,none,.func { name:="_law_three",qualname:="_law_three",params:=L2.ak (tp 52),body:=.stmts (L2.ai (tp 52)),scope:=L2.ae (tp 52),globals:=0,closure:=[],defaults:=.none,kwdefaults:=.none,doc:=.none,pyModule:=.none,annotations:=none,code:=.none,closureTuple:=.none,builtins:=0 },#[]⟩
noncomputable def A6 (P:Params):Obj:=⟨.type "code",none,.fields #[.str "_law_three" 612,.str "_law_three" 613,.str "/claim/cut.py" 614,.int (188) 0,.int (2) 0,.int (0) 0,.int (0) 0,.int (3) 0,.ref 247,.bool true,.int (181) 0,.ref 248,.none,.ref 249,.ref 250,.ref 251,.int (620) 0,.int (188) 0,.str "/claim/cut.py" 621],#[]⟩
noncomputable def A7 (P:Params):Obj:=⟨.type "function",none,.func { name:="_law_three",qualname:="_law_three",params:=L2.ak (tp 52),body:=.stmts (L2.ai (tp 52)),scope:=L2.ae (tp 52),globals:=3,closure:=[],defaults:=.none,kwdefaults:=.none,doc:=.none,pyModule:=.str "law_noteworth_k25_what_is_written" 553,annotations:=none,code:=.ref 252,closureTuple:=.none,builtins:=0 },#[]⟩
noncomputable def A8 (P:Params):Obj:=⟨.type "tuple",none,.seq #[] 0,#[]⟩
noncomputable def IM (P:Params):Obj:=⟨.none,none,.fields #[],#[]⟩
noncomputable def A9 (P:Params):Obj:=⟨.type "tuple",none,.seq #[.str "_law_line_here" 626,.str "_law_told" 627,.str "_law_low" 628,.str "_law_high" 629,.str "_law_rest" 630,.str "_law_behind" 631,.str "_law_after" 632,.str "_law_left" 633,.str "_law_right" 634] 0,#[]⟩
noncomputable def Ba (P:Params):Obj:=⟨.type "tuple",none,.seq #[] 0,#[]⟩
noncomputable def IP (P:Params):Obj:=⟨.none,none,.func { name:="_law_run",qualname:="_law_run",params:=L2.ak (tp 53),body:=.stmts (L2.ai (tp 53)),scope:=L2.ae (tp 53),globals:=0,closure:=[],defaults:=.none,kwdefaults:=.none,doc:=.none,pyModule:=.none,annotations:=none,code:=.none,closureTuple:=.none,builtins:=0 },#[]⟩
noncomputable def Bb (P:Params):Obj:=⟨.type "code",none,.fields #[.str "_law_run" 623,.str "_law_run" 624,.str "/claim/cut.py" 625,.int (196) 0,.int (4) 0,.int (0) 0,.int (0) 0,.int (3) 0,.ref 254,.bool true,.int (181) 0,.ref 255,.none,.ref 256,.ref 257,.ref 258,.int (635) 0,.int (196) 0,.str "/claim/cut.py" 636],#[]⟩
noncomputable def Bc (P:Params):Obj:=⟨.type "function",none,.func { name:="_law_run",qualname:="_law_run",params:=L2.ak (tp 53),body:=.stmts (L2.ai (tp 53)),scope:=L2.ae (tp 53),globals:=3,closure:=[],defaults:=.none,kwdefaults:=.none,doc:=.none,pyModule:=.str "law_noteworth_k25_what_is_written" 553,annotations:=none,code:=.ref 259,closureTuple:=.none,builtins:=0 },#[]⟩
noncomputable def Bd (P:Params):Obj:=⟨.type "tuple",none,.seq #[] 0,#[]⟩
noncomputable def IQ (P:Params):Obj:=⟨.none,none,.fields #[],#[]⟩
noncomputable def Be (P:Params):Obj:=⟨.type "tuple",none,.seq #[.str "_law_line_here" 641,.str "_law_begin_here" 642,.str "_law_told" 643,.str "_law_three_here" 644,.str "_law_left" 645,.str "_law_low" 646,.str "_law_high" 647] 0,#[]⟩
noncomputable def Bf (P:Params):Obj:=⟨.type "tuple",none,.seq #[] 0,#[]⟩
noncomputable def IS (P:Params):Obj:=⟨.none,none,.func { name:="_law_read",qualname:="_law_read",params:=L2.ak (tp 54),body:=.stmts (L2.ai (tp 54)),scope:=L2.ae (tp 54),globals:=0,closure:=[],defaults:=.none,kwdefaults:=.none,doc:=.none,pyModule:=.none,annotations:=none,code:=.none,closureTuple:=.none,builtins:=0 },#[]⟩
noncomputable def Bg (P:Params):Obj:=⟨.type "code",none,.fields #[.str "_law_read" 638,.str "_law_read" 639,.str "/claim/cut.py" 640,.int (210) 0,.int (2) 0,.int (0) 0,.int (0) 0,.int (3) 0,.ref 261,.bool true,.int (181) 0,.ref 262,.none,.ref 263,.ref 264,.ref 265,.int (648) 0,.int (210) 0,.str "/claim/cut.py" 649],#[]⟩
noncomputable def Bh (P:Params):Obj:=⟨.type "function",none,.func { name:="_law_read",qualname:="_law_read",params:=L2.ak (tp 54),body:=.stmts (L2.ai (tp 54)),scope:=L2.ae (tp 54),globals:=3,closure:=[],defaults:=.none,kwdefaults:=.none,doc:=.none,pyModule:=.str "law_noteworth_k25_what_is_written" 553,annotations:=none,code:=.ref 266,closureTuple:=.none,builtins:=0 },#[]⟩
noncomputable def Bi (P:Params):Obj:=⟨.type "tuple",none,.seq #[] 0,#[]⟩
noncomputable def IT (P:Params):Obj:=⟨.none,none,.fields #[],#[]⟩
noncomputable def Bj (P:Params):Obj:=⟨.type "tuple",none,.seq #[.str "_law_line_here" 654,.str "_law_begin_here" 655,.str "_law_k" 656,.str "_law_found" 657,.str "_law_low" 658,.str "_law_high" 659] 0,#[]⟩
noncomputable def Bl (P:Params):Obj:=⟨.type "tuple",none,.seq #[] 0,#[]⟩
noncomputable def IU (P:Params):Obj:=⟨.none,none,.func { name:="_law_firmed",qualname:="_law_firmed",params:=L2.ak (tp 55),body:=.stmts (L2.ai (tp 55)),scope:=L2.ae (tp 55),globals:=0,closure:=[],defaults:=.none,kwdefaults:=.none,doc:=.none,pyModule:=.none,annotations:=none,code:=.none,closureTuple:=.none,builtins:=0 },#[]⟩
noncomputable def Bm (P:Params):Obj:=⟨.type "code",none,.fields #[.str "_law_firmed" 651,.str "_law_firmed" 652,.str "/claim/cut.py" 653,.int (223) 0,.int (2) 0,.int (0) 0,.int (0) 0,.int (3) 0,.ref 268,.bool true,.int (181) 0,.ref 269,.none,.ref 270,.ref 271,.ref 272,.int (660) 0,.int (223) 0,.str "/claim/cut.py" 661],#[]⟩
noncomputable def Bn (P:Params):Obj:=⟨.type "function",none,.func { name:="_law_firmed",qualname:="_law_firmed",params:=L2.ak (tp 55),body:=.stmts (L2.ai (tp 55)),scope:=L2.ae (tp 55),globals:=3,closure:=[],defaults:=.none,kwdefaults:=.none,doc:=.none,pyModule:=.str "law_noteworth_k25_what_is_written" 553,annotations:=none,code:=.ref 273,closureTuple:=.none,builtins:=0 },#[]⟩
noncomputable def Bo (P:Params):Obj:=⟨.type "tuple",none,.seq #[] 0,#[]⟩
noncomputable def IV (P:Params):Obj:=⟨.none,none,.fields #[],#[]⟩
noncomputable def Bp (P:Params):Obj:=⟨.type "tuple",none,.seq #[.str "_law_line_here" 666,.str "_law_begin_here" 667,.str "_law_told" 668,.str "_law_sign" 669,.str "_law_worth" 670] 0,#[]⟩
noncomputable def Bq (P:Params):Obj:=⟨.type "tuple",none,.seq #[] 0,#[]⟩
noncomputable def IW (P:Params):Obj:=⟨.none,none,.func { name:="_law_wishes",qualname:="_law_wishes",params:=L2.ak (tp 56),body:=.stmts (L2.ai (tp 56)),scope:=L2.ae (tp 56),globals:=0,closure:=[],defaults:=.none,kwdefaults:=.none,doc:=.none,pyModule:=.none,annotations:=none,code:=.none,closureTuple:=.none,builtins:=0 },#[]⟩
noncomputable def Br (P:Params):Obj:=⟨.type "code",none,.fields #[.str "_law_wishes" 663,.str "_law_wishes" 664,.str "/claim/cut.py" 665,.int (231) 0,.int (2) 0,.int (0) 0,.int (0) 0,.int (3) 0,.ref 275,.bool true,.int (181) 0,.ref 276,.none,.ref 277,.ref 278,.ref 279,.int (671) 0,.int (231) 0,.str "/claim/cut.py" 672],#[]⟩
noncomputable def Bs (P:Params):Obj:=⟨.type "function",none,.func { name:="_law_wishes",qualname:="_law_wishes",params:=L2.ak (tp 56),body:=.stmts (L2.ai (tp 56)),scope:=L2.ae (tp 56),globals:=3,closure:=[],defaults:=.none,kwdefaults:=.none,doc:=.none,pyModule:=.str "law_noteworth_k25_what_is_written" 553,annotations:=none,code:=.ref 280,closureTuple:=.none,builtins:=0 },#[]⟩
noncomputable def Bt (P:Params):Obj:=⟨.type "tuple",none,.seq #[] 0,#[]⟩
noncomputable def IX (P:Params):Obj:=⟨.none,none,.fields #[],#[]⟩
noncomputable def Bu (P:Params):Obj:=⟨.type "tuple",none,.seq #[.str "_law_script" 677,.str "_law_at" 678,.str "_law_many" 679,.str "_law_told" 680,.str "_law_k" 681,.str "_law_number" 682,.str "_law_worth" 683,.str "_law_tone" 684] 0,#[]⟩
noncomputable def Bv (P:Params):Obj:=⟨.type "tuple",none,.seq #[] 0,#[]⟩
noncomputable def IY (P:Params):Obj:=⟨.none,none,.func { name:="_law_any_wishes",qualname:="_law_any_wishes",params:=L2.ak (tp 57),body:=.stmts (L2.ai (tp 57)),scope:=L2.ae (tp 57),globals:=0,closure:=[],defaults:=.none,kwdefaults:=.none,doc:=.none,pyModule:=.none,annotations:=none,code:=.none,closureTuple:=.none,builtins:=0 },#[]⟩
noncomputable def Bw (P:Params):Obj:=⟨.type "code",none,.fields #[.str "_law_any_wishes" 674,.str "_law_any_wishes" 675,.str "/claim/cut.py" 676,.int (239) 0,.int (3) 0,.int (0) 0,.int (0) 0,.int (3) 0,.ref 282,.bool true,.int (181) 0,.ref 283,.none,.ref 284,.ref 285,.ref 286,.int (685) 0,.int (239) 0,.str "/claim/cut.py" 686],#[]⟩
noncomputable def Bx (P:Params):Obj:=⟨.type "function",none,.func { name:="_law_any_wishes",qualname:="_law_any_wishes",params:=L2.ak (tp 57),body:=.stmts (L2.ai (tp 57)),scope:=L2.ae (tp 57),globals:=3,closure:=[],defaults:=.none,kwdefaults:=.none,doc:=.none,pyModule:=.str "law_noteworth_k25_what_is_written" 553,annotations:=none,code:=.ref 287,closureTuple:=.none,builtins:=0 },#[]⟩
noncomputable def By (P:Params):Obj:=⟨.type "tuple",none,.seq #[] 0,#[]⟩
noncomputable def IZ (P:Params):Obj:=⟨.none,none,.fields #[],#[]⟩
noncomputable def Bz (P:Params):Obj:=⟨.type "tuple",none,.seq #[.str "_law_cell" 691,.str "_law_told" 692,.str "_law_k" 693] 0,#[]⟩
noncomputable def BA (P:Params):Obj:=⟨.type "tuple",none,.seq #[] 0,#[]⟩
noncomputable def Ja (P:Params):Obj:=⟨.none,none,.func { name:="_law_prices",qualname:="_law_prices",params:=L2.ak (tp 58),body:=.stmts (L2.ai (tp 58)),scope:=L2.ae (tp 58),globals:=0,closure:=[],defaults:=.none,kwdefaults:=.none,doc:=.none,pyModule:=.none,annotations:=none,code:=.none,closureTuple:=.none,builtins:=0 },#[]⟩
noncomputable def BB (P:Params):Obj:=⟨.type "code",none,.fields #[.str "_law_prices" 688,.str "_law_prices" 689,.str "/claim/cut.py" 690,.int (247) 0,.int (1) 0,.int (0) 0,.int (0) 0,.int (3) 0,.ref 289,.bool true,.int (181) 0,.ref 290,.none,.ref 291,.ref 292,.ref 293,.int (694) 0,.int (247) 0,.str "/claim/cut.py" 695],#[]⟩
noncomputable def BC (P:Params):Obj:=⟨.type "function",none,.func { name:="_law_prices",qualname:="_law_prices",params:=L2.ak (tp 58),body:=.stmts (L2.ai (tp 58)),scope:=L2.ae (tp 58),globals:=3,closure:=[],defaults:=.none,kwdefaults:=.none,doc:=.none,pyModule:=.str "law_noteworth_k25_what_is_written" 553,annotations:=none,code:=.ref 294,closureTuple:=.none,builtins:=0 },#[]⟩
noncomputable def Vj (P:Params):Heap:=⟨⟨[boot_o_0 P,boot_o_1 P,boot_o_2 P,abx P,boot_o_4 P,boot_o_5 P,boot_o_6 P,boot_o_7 P,boot_o_8 P,boot_o_9 P,boot_o_10 P,c7 P,Ze P,c8 P,c9 P,dj P,dk P,dm P,dn P,dq P,dX P,dr P,du P,dY P,dv P,dw P,dy P,dZ P,dz P,dA P,d3 P,dB P,dC P,dD P,dE P,d4 P,dF P,dG P,d7 P,dH P,dJ P,d8 P,d9 P,cK P,bp P,bq P,br P,bu P,bx P,bz P,bA P,bB P,bC P,bD P,jB P,fF P,fH P,fI P,fJ P,Cc P,Cd P,G2 P,Ce P,Cf P,G3 P,Cg P,Ci P,Cj P,G4 P,Ck P,Cm P,G5 P,Cn P,Co P,Cp P,G6 P,Cq P,Cr P,G7 P,Cs P,Ct P,Cu P,G8 P,Cv P,Cw P,G9 P,Cy P,Cz P,CA P,Ha P,CB P,CC P,Hb P,CD P,CF P,CG P,Hc P,CH P,CI P,He P,qP P,qQ P,qR P,vT P,qS P,qT P,vU P,qU P,qV P,qW P,vV P,qX P,qY P,vW P,qZ P,q0 P,q8 P,vX P,q9 P,ra P,vY P,rb P,rf P,rg P,vZ P,rh P,rj P,v8 P,rl P,rm P,v9 P,CJ P,wa P,wb P,CK P,wc P,wd P,we P,wg P,wj P,wk P,wm P,wq P,wt P,wu P,CL P,wx P,wy P,CM P,wz P,wA P,wB P,CN P,wC P,wF P,CO P,wG P,wH P,wI P,CP P,CQ P,wJ P,wK P,wL P,CS P,wM P,wN P,CT P,wO P,wQ P,CU P,Ij P,CV P,CW P,Ik P,CY P,CZ P,C0 P,Il P,C1 P,C2 P,Im P,C3 P,C4 P,C7 P,Io P,C8 P,C9 P,Ip P,Dc P,Dd P,De P,Iq P,Ir P,Df P,Dg P,Dh P,Di P,Dj P,Iu P,rp P,Dk P,Dl P,Iv P,Dm P,Dn P,Iw P,Dp P,Dq P,Dr P,Iy P,Ds P,Dt P,Iz P,Du P,Dv P,Dw P,IA P,IB P,Dx P,Dy P,Dz P,IC P,DA P,DB P,ID P,DC P,DD P,AO P,IE P,IF P,AQ P,AR P,AS P,IG P,AU P,AV P,IH P,AW P,AX P,AY P,II P,AZ P,A0 P,IJ P,A1 P,A2 P,A3 P,IK P,A4 P,A5 P,IL P,A6 P,A7 P,A8 P,IM P,A9 P,Ba P,IP P,Bb P,Bc P,Bd P,IQ P,Be P,Bf P,IS P,Bg P,Bh P,Bi P,IT P,Bj P,Bl P,IU P,Bm P,Bn P,Bo P,IV P,Bp P,Bq P,IW P,Br P,Bs P,Bt P,IX P,Bu P,Bv P,IY P,Bw P,Bx P,By P,IZ P,Bz P,BA P,Ja P,BB P,BC P]⟩,(boot_heap P).life⟩
noncomputable def k10:Nat:=697
noncomputable def n10:Nat:=329
noncomputable def Zf:Pos:=⟨247,0,252,53⟩
noncomputable def qh:List Stmt:=[tp 49,tp 50,tp 51,tp 52,tp 53,tp 54,tp 55,tp 56,tp 57,tp 58]
noncomputable def TX (P:Params):Obj:=⟨.type "dict",none,.dict #[⟨PyData.keyHash P "__name__",.str "__name__" 165,.str "law_noteworth_k25_what_is_written" 553⟩,⟨PyData.keyHash P "__doc__",.str "__doc__" 166,.none⟩,⟨PyData.keyHash P "__package__",.str "__package__" 167,.none⟩,⟨PyData.keyHash P "__loader__",.str "__loader__" 168,.builtin "__main__.__loader__#opaque"⟩,⟨PyData.keyHash P "__spec__",.str "__spec__" 169,.none⟩,⟨PyData.keyHash P "__annotations__",.str "__annotations__" 170,.ref 6⟩,⟨PyData.keyHash P "__builtins__",.str "__builtins__" 171,.ref 4⟩,⟨PyData.keyHash P "__file__",.str "__file__" 173,.str "/claim/cut.py" 172⟩,⟨PyData.keyHash P "__cached__",.str "__cached__" 174,.none⟩,⟨PyData.keyHash P "SMALL_KINDS",.str "SMALL_KINDS" 192,.ref 15⟩,⟨PyData.keyHash P "PARTING_KINDS",.str "PARTING_KINDS" 196,.ref 16⟩,⟨PyData.keyHash P "MEASURE_KINDS",.str "MEASURE_KINDS" 199,.ref 17⟩,⟨PyData.keyHash P "SOUNDING_KINDS",.str "SOUNDING_KINDS" 204,.ref 18⟩,⟨PyData.keyHash P "small",.str "small" 211,.ref 25⟩,⟨PyData.keyHash P "parting",.str "parting" 218,.ref 32⟩,⟨PyData.keyHash P "DARK_KINDS",.str "DARK_KINDS" 223,.ref 33⟩,⟨PyData.keyHash P "sign_price",.str "sign_price" 234,.ref 40⟩,⟨PyData.keyHash P "REST_TONE",.str "REST_TONE" 237,.int (-1) 236⟩,⟨PyData.keyHash P "TWOFOLD_STATES",.str "TWOFOLD_STATES" 243,.ref 41⟩,⟨PyData.keyHash P "TWOFOLD_BEGIN",.str "TWOFOLD_BEGIN" 245,.str "2-" 244⟩,⟨PyData.keyHash P "THREEFOLD_BEGIN",.str "THREEFOLD_BEGIN" 247,.str "3n0-" 246⟩,⟨PyData.keyHash P "SHORTENED_FROM_AHEAD",.str "SHORTENED_FROM_AHEAD" 249,.str "3t0-" 248⟩,⟨PyData.keyHash P "NEXT_COUNTS",.str "NEXT_COUNTS" 259,.ref 42⟩,⟨PyData.keyHash P "TWOFOLD_STEPS",.str "TWOFOLD_STEPS" 320,.ref 43⟩,⟨PyData.keyHash P "GREAT_STEPS",.str "GREAT_STEPS" 345,.ref 54⟩,⟨PyData.keyHash P "begin_state",.str "begin_state" 353,.ref 66⟩,⟨PyData.keyHash P "step",.str "step" 362,.ref 73⟩,⟨PyData.keyHash P "ends",.str "ends" 369,.ref 80⟩,⟨PyData.keyHash P "twofold_step",.str "twofold_step" 378,.ref 87⟩,⟨PyData.keyHash P "closes",.str "closes" 387,.ref 94⟩,⟨PyData.keyHash P "closes_by_great",.str "closes_by_great" 394,.ref 101⟩,⟨PyData.keyHash P "closes_by_right_note",.str "closes_by_right_note" 401,.ref 108⟩,⟨PyData.keyHash P "great_step",.str "great_step" 410,.ref 115⟩,⟨PyData.keyHash P "parting_step",.str "parting_step" 419,.ref 122⟩,⟨PyData.keyHash P "told_last",.str "told_last" 428,.ref 129⟩,⟨PyData.keyHash P "small_step",.str "small_step" 440,.ref 136⟩,⟨PyData.keyHash P "PARTING_SIGNS",.str "PARTING_SIGNS" 449,.ref 140⟩,⟨PyData.keyHash P "REST_SIGNS",.str "REST_SIGNS" 454,.ref 143⟩,⟨PyData.keyHash P "moves",.str "moves" 468,.ref 150⟩,⟨PyData.keyHash P "parting_moves",.str "parting_moves" 476,.ref 157⟩,⟨PyData.keyHash P "wished_signs",.str "wished_signs" 482,.ref 162⟩,⟨PyData.keyHash P "wish_moves",.str "wish_moves" 493,.ref 169⟩,⟨PyData.keyHash P "MOST_PARTING_SIGNS",.str "MOST_PARTING_SIGNS" 497,.int (2) 496⟩,⟨PyData.keyHash P "keep_cheaper",.str "keep_cheaper" 507,.ref 176⟩,⟨PyData.keyHash P "with_parting_signs",.str "with_parting_signs" 523,.ref 183⟩,⟨PyData.keyHash P "with_wish",.str "with_wish" 539,.ref 190⟩,⟨PyData.keyHash P "costs",.str "costs" 545,.ref 195⟩,⟨PyData.keyHash P "written",.str "written" 552,.ref 201⟩,⟨PyData.keyHash P "_law_cell_at",.str "_law_cell_at" 562,.ref 208⟩,⟨PyData.keyHash P "_law_mixed",.str "_law_mixed" 572,.ref 215⟩,⟨PyData.keyHash P "_law_numbers",.str "_law_numbers" 578,.ref 220⟩,⟨PyData.keyHash P "_law_sign_by",.str "_law_sign_by" 586,.ref 227⟩,⟨PyData.keyHash P "_law_line",.str "_law_line" 592,.ref 232⟩,⟨PyData.keyHash P "_law_begin",.str "_law_begin" 599,.ref 239⟩,⟨PyData.keyHash P "_law_base",.str "_law_base" 611,.ref 246⟩,⟨PyData.keyHash P "_law_three",.str "_law_three" 622,.ref 253⟩,⟨PyData.keyHash P "_law_run",.str "_law_run" 637,.ref 260⟩,⟨PyData.keyHash P "_law_read",.str "_law_read" 650,.ref 267⟩,⟨PyData.keyHash P "_law_firmed",.str "_law_firmed" 662,.ref 274⟩,⟨PyData.keyHash P "_law_wishes",.str "_law_wishes" 673,.ref 281⟩,⟨PyData.keyHash P "_law_any_wishes",.str "_law_any_wishes" 687,.ref 288⟩,⟨PyData.keyHash P "_law_prices",.str "_law_prices" 696,.ref 295⟩,⟨PyData.keyHash P "_law_price",.str "_law_price" 707,.ref 302⟩,⟨PyData.keyHash P "_law_whole",.str "_law_whole" 714,.ref 309⟩,⟨PyData.keyHash P "_law_good",.str "_law_good" 722,.ref 316⟩,⟨PyData.keyHash P "law",.str "law" 736,.ref 323⟩] 66,#[]⟩
noncomputable def TY (P:Params):Obj:=⟨.none,none,.fields #[.int (6) 0,.int (0) 0,.ref 24,.int (8) 0,.int (0) 0,.ref 31,.int (12) 0,.int (0) 0,.ref 39,.int (30) 0,.int (0) 0,.ref 65,.int (34) 0,.int (0) 0,.ref 72,.int (42) 0,.int (0) 0,.ref 79,.int (46) 0,.int (0) 0,.ref 86,.int (52) 0,.int (0) 0,.ref 93,.int (57) 0,.int (0) 0,.ref 100,.int (59) 0,.int (0) 0,.ref 107,.int (61) 0,.int (0) 0,.ref 114,.int (69) 0,.int (0) 0,.ref 121,.int (75) 0,.int (0) 0,.ref 128,.int (81) 0,.int (0) 0,.ref 135,.int (93) 0,.int (0) 0,.ref 149,.int (101) 0,.int (0) 0,.ref 156,.int (103) 0,.int (0) 0,.ref 161,.int (107) 0,.int (0) 0,.ref 168,.int (112) 0,.int (0) 0,.ref 175,.int (115) 0,.int (0) 0,.ref 182,.int (123) 0,.int (0) 0,.ref 189,.int (129) 0,.int (0) 0,.ref 194,.int (131) 0,.int (0) 0,.ref 200,.int (143) 0,.int (0) 0,.ref 207,.int (147) 0,.int (0) 0,.ref 214,.int (151) 0,.int (0) 0,.ref 219,.int (161) 0,.int (0) 0,.ref 226,.int (166) 0,.int (0) 0,.ref 231,.int (168) 0,.int (0) 0,.ref 238,.int (170) 0,.int (0) 0,.ref 245,.int (188) 0,.int (0) 0,.ref 252,.int (196) 0,.int (0) 0,.ref 259,.int (210) 0,.int (0) 0,.ref 266,.int (223) 0,.int (0) 0,.ref 273,.int (231) 0,.int (0) 0,.ref 280,.int (239) 0,.int (0) 0,.ref 287,.int (247) 0,.int (0) 0,.ref 294,.int (253) 0,.int (0) 0,.ref 301,.int (267) 0,.int (0) 0,.ref 308,.int (269) 0,.int (0) 0,.ref 315,.int (282) 0,.int (0) 0,.ref 322],#[]⟩
noncomputable def Jb (P:Params):Obj:=⟨.type "tuple",none,.seq #[] 0,#[]⟩
noncomputable def P1 (P:Params):Obj:=⟨.none,none,.fields #[],#[]⟩
noncomputable def Jc (P:Params):Obj:=⟨.type "tuple",none,.seq #[.str "_law_line_here" 700,.str "_law_prices_here" 701,.str "_law_total" 702,.str "_law_sign" 703,.str "_law_cost" 704] 0,#[]⟩
noncomputable def Jd (P:Params):Obj:=⟨.type "tuple",none,.seq #[] 0,#[]⟩
noncomputable def P4 (P:Params):Obj:=⟨.none,none,.func { name:="_law_price",qualname:="_law_price",params:=L2.ak (tp 59),body:=.stmts (L2.ai (tp 59)),scope:=L2.ae (tp 59),globals:=0,closure:=[],defaults:=.none,kwdefaults:=.none,doc:=.none,pyModule:=.none,annotations:=none,code:=.none,closureTuple:=.none,builtins:=0 },#[]⟩
noncomputable def Je (P:Params):Obj:=⟨.type "code",none,.fields #[.str "_law_price" 697,.str "_law_price" 698,.str "/claim/cut.py" 699,.int (253) 0,.int (2) 0,.int (0) 0,.int (0) 0,.int (3) 0,.ref 296,.bool true,.int (181) 0,.ref 297,.none,.ref 298,.ref 299,.ref 300,.int (705) 0,.int (253) 0,.str "/claim/cut.py" 706],#[]⟩
noncomputable def Jf (P:Params):Obj:=⟨.type "function",none,.func { name:="_law_price",qualname:="_law_price",params:=L2.ak (tp 59),body:=.stmts (L2.ai (tp 59)),scope:=L2.ae (tp 59),globals:=3,closure:=[],defaults:=.none,kwdefaults:=.none,doc:=.none,pyModule:=.str "law_noteworth_k25_what_is_written" 553,annotations:=none,code:=.ref 301,closureTuple:=.none,builtins:=0 },#[]⟩
noncomputable def Jg (P:Params):Obj:=⟨.type "tuple",none,.seq #[] 0,#[]⟩
noncomputable def P5 (P:Params):Obj:=⟨.none,none,.fields #[],#[]⟩
noncomputable def Jh (P:Params):Obj:=⟨.type "tuple",none,.seq #[.str "_law_found" 711] 0,#[]⟩
noncomputable def Ji (P:Params):Obj:=⟨.type "tuple",none,.seq #[] 0,#[]⟩
noncomputable def P6 (P:Params):Obj:=⟨.none,none,.func { name:="_law_whole",qualname:="_law_whole",params:=L2.ak (tp 60),body:=.stmts (L2.ai (tp 60)),scope:=L2.ae (tp 60),globals:=0,closure:=[],defaults:=.none,kwdefaults:=.none,doc:=.none,pyModule:=.none,annotations:=none,code:=.none,closureTuple:=.none,builtins:=0 },#[]⟩
noncomputable def Jj (P:Params):Obj:=⟨.type "code",none,.fields #[.str "_law_whole" 708,.str "_law_whole" 709,.str "/claim/cut.py" 710,.int (267) 0,.int (1) 0,.int (0) 0,.int (0) 0,.int (3) 0,.ref 303,.bool true,.int (181) 0,.ref 304,.none,.ref 305,.ref 306,.ref 307,.int (712) 0,.int (267) 0,.str "/claim/cut.py" 713],#[]⟩
noncomputable def Jk (P:Params):Obj:=⟨.type "function",none,.func { name:="_law_whole",qualname:="_law_whole",params:=L2.ak (tp 60),body:=.stmts (L2.ai (tp 60)),scope:=L2.ae (tp 60),globals:=3,closure:=[],defaults:=.none,kwdefaults:=.none,doc:=.none,pyModule:=.str "law_noteworth_k25_what_is_written" 553,annotations:=none,code:=.ref 308,closureTuple:=.none,builtins:=0 },#[]⟩
noncomputable def Jl (P:Params):Obj:=⟨.type "tuple",none,.seq #[] 0,#[]⟩
noncomputable def P7 (P:Params):Obj:=⟨.none,none,.fields #[],#[]⟩
noncomputable def Jm (P:Params):Obj:=⟨.type "tuple",none,.seq #[.str "_law_line_here" 718,.str "_law_sign" 719] 0,#[]⟩
noncomputable def Jn (P:Params):Obj:=⟨.type "tuple",none,.seq #[] 0,#[]⟩
noncomputable def P8 (P:Params):Obj:=⟨.none,none,.func { name:="_law_good",qualname:="_law_good",params:=L2.ak (tp 61),body:=.stmts (L2.ai (tp 61)),scope:=L2.ae (tp 61),globals:=0,closure:=[],defaults:=.none,kwdefaults:=.none,doc:=.none,pyModule:=.none,annotations:=none,code:=.none,closureTuple:=.none,builtins:=0 },#[]⟩
noncomputable def Jo (P:Params):Obj:=⟨.type "code",none,.fields #[.str "_law_good" 715,.str "_law_good" 716,.str "/claim/cut.py" 717,.int (269) 0,.int (1) 0,.int (0) 0,.int (0) 0,.int (3) 0,.ref 310,.bool true,.int (181) 0,.ref 311,.none,.ref 312,.ref 313,.ref 314,.int (720) 0,.int (269) 0,.str "/claim/cut.py" 721],#[]⟩
noncomputable def Jp (P:Params):Obj:=⟨.type "function",none,.func { name:="_law_good",qualname:="_law_good",params:=L2.ak (tp 61),body:=.stmts (L2.ai (tp 61)),scope:=L2.ae (tp 61),globals:=3,closure:=[],defaults:=.none,kwdefaults:=.none,doc:=.none,pyModule:=.str "law_noteworth_k25_what_is_written" 553,annotations:=none,code:=.ref 315,closureTuple:=.none,builtins:=0 },#[]⟩
noncomputable def Jq (P:Params):Obj:=⟨.type "tuple",none,.seq #[] 0,#[]⟩
noncomputable def P9 (P:Params):Obj:=⟨.none,none,.fields #[],#[]⟩
noncomputable def Jr (P:Params):Obj:=⟨.type "tuple",none,.seq #[.str "_law_script" 726,.str "_law_begin_here" 727,.str "_law_costs" 728,.str "_law_size" 729,.str "_law_line_here" 730,.str "_law_wishes_here" 731,.str "_law_handed" 732,.str "_law_found" 733] 0,#[]⟩
noncomputable def Js (P:Params):Obj:=⟨.type "tuple",none,.seq #[] 0,#[]⟩
noncomputable def Qa (P:Params):Obj:=⟨.none,none,.func { name:="law",qualname:="law",params:=L2.ak (tp 62),body:=.stmts (L2.ai (tp 62)),scope:=L2.ae (tp 62),globals:=0,closure:=[],defaults:=.none,kwdefaults:=.none,doc:=.none,pyModule:=.none,annotations:=none,code:=.none,closureTuple:=.none,builtins:=0 },#[]⟩
noncomputable def Jt (P:Params):Obj:=⟨.type "code",none,.fields #[.str "law" 723,.str "law" 724,.str "/claim/cut.py" 725,.int (282) 0,.int (1) 0,.int (0) 0,.int (0) 0,.int (3) 0,.ref 317,.bool true,.int (181) 0,.ref 318,.none,.ref 319,.ref 320,.ref 321,.int (734) 0,.int (282) 0,.str "/claim/cut.py" 735],#[]⟩
noncomputable def Ju (P:Params):Obj:=⟨.type "function",none,.func { name:="law",qualname:="law",params:=L2.ak (tp 62),body:=.stmts (L2.ai (tp 62)),scope:=L2.ae (tp 62),globals:=3,closure:=[],defaults:=.none,kwdefaults:=.none,doc:=.none,pyModule:=.str "law_noteworth_k25_what_is_written" 553,annotations:=none,code:=.ref 322,closureTuple:=.none,builtins:=0 },#[]⟩
noncomputable def H11 (P:Params):Heap:=⟨⟨[boot_o_0 P,boot_o_1 P,boot_o_2 P,TX P,boot_o_4 P,boot_o_5 P,boot_o_6 P,boot_o_7 P,boot_o_8 P,boot_o_9 P,boot_o_10 P,c7 P,TY P,c8 P,c9 P,dj P,dk P,dm P,dn P,dq P,dX P,dr P,du P,dY P,dv P,dw P,dy P,dZ P,dz P,dA P,d3 P,dB P,dC P,dD P,dE P,d4 P,dF P,dG P,d7 P,dH P,dJ P,d8 P,d9 P,cK P,bp P,bq P,br P,bu P,bx P,bz P,bA P,bB P,bC P,bD P,jB P,fF P,fH P,fI P,fJ P,Cc P,Cd P,G2 P,Ce P,Cf P,G3 P,Cg P,Ci P,Cj P,G4 P,Ck P,Cm P,G5 P,Cn P,Co P,Cp P,G6 P,Cq P,Cr P,G7 P,Cs P,Ct P,Cu P,G8 P,Cv P,Cw P,G9 P,Cy P,Cz P,CA P,Ha P,CB P,CC P,Hb P,CD P,CF P,CG P,Hc P,CH P,CI P,He P,qP P,qQ P,qR P,vT P,qS P,qT P,vU P,qU P,qV P,qW P,vV P,qX P,qY P,vW P,qZ P,q0 P,q8 P,vX P,q9 P,ra P,vY P,rb P,rf P,rg P,vZ P,rh P,rj P,v8 P,rl P,rm P,v9 P,CJ P,wa P,wb P,CK P,wc P,wd P,we P,wg P,wj P,wk P,wm P,wq P,wt P,wu P,CL P,wx P,wy P,CM P,wz P,wA P,wB P,CN P,wC P,wF P,CO P,wG P,wH P,wI P,CP P,CQ P,wJ P,wK P,wL P,CS P,wM P,wN P,CT P,wO P,wQ P,CU P,Ij P,CV P,CW P,Ik P,CY P,CZ P,C0 P,Il P,C1 P,C2 P,Im P,C3 P,C4 P,C7 P,Io P,C8 P,C9 P,Ip P,Dc P,Dd P,De P,Iq P,Ir P,Df P,Dg P,Dh P,Di P,Dj P,Iu P,rp P,Dk P,Dl P,Iv P,Dm P,Dn P,Iw P,Dp P,Dq P,Dr P,Iy P,Ds P,Dt P,Iz P,Du P,Dv P,Dw P,IA P,IB P,Dx P,Dy P,Dz P,IC P,DA P,DB P,ID P,DC P,DD P,AO P,IE P,IF P,AQ P,AR P,AS P,IG P,AU P,AV P,IH P,AW P,AX P,AY P,II P,AZ P,A0 P,IJ P,A1 P,A2 P,A3 P,IK P,A4 P,A5 P,IL P,A6 P,A7 P,A8 P,IM P,A9 P,Ba P,IP P,Bb P,Bc P,Bd P,IQ P,Be P,Bf P,IS P,Bg P,Bh P,Bi P,IT P,Bj P,Bl P,IU P,Bm P,Bn P,Bo P,IV P,Bp P,Bq P,IW P,Br P,Bs P,Bt P,IX P,Bu P,Bv P,IY P,Bw P,Bx P,By P,IZ P,Bz P,BA P,Ja P,BB P,BC P,Jb P,P1 P,Jc P,Jd P,P4 P,Je P,Jf P,Jg P,P5 P,Jh P,Ji P,P6 P,Jj P,Jk P,Jl P,P7 P,Jm P,Jn P,P8 P,Jo P,Jp P,Jq P,P9 P,Jr P,Js P,Qa P,Jt P,Ju P]⟩,(boot_heap P).life⟩
noncomputable def k11:Nat:=737
noncomputable def yF:Nat:=129
noncomputable def p11:Pos:=⟨282,0,300,65⟩
noncomputable def yG:List Stmt:=[tp 59,tp 60,tp 61,tp 62]
noncomputable def BD (P:Params):Heap:=⟨⟨[boot_o_0 P,boot_o_1 P,boot_o_2 P,TX P,boot_o_4 P,boot_o_5 P,boot_o_6 P,boot_o_7 P,boot_o_8 P,boot_o_9 P,boot_o_10 P,c7 P,TY P,c8 P,c9 P,dj P,dk P,dm P,dn P,dq P,dX P,dr P,du P,dY P,dv P,dw P,dy P,dZ P,dz P,dA P,d3 P,dB P,dC P,dD P,dE P,d4 P,dF P,dG P,d7 P,dH P,dJ P,d8 P,d9 P,cK P,bp P,bq P,br P,bu P,bx P,bz P,bA P,bB P,bC P,bD P,jB P,fF P,fH P,fI P,fJ P,Cc P,Cd P,G2 P,Ce P,Cf P,G3 P,Cg P,Ci P,Cj P,G4 P,Ck P,Cm P,G5 P,Cn P,Co P,Cp P,G6 P,Cq P,Cr P,G7 P,Cs P,Ct P,Cu P,G8 P,Cv P,Cw P,G9 P,Cy P,Cz P,CA P,Ha P,CB P,CC P,Hb P,CD P,CF P,CG P,Hc P,CH P,CI P,He P,qP P,qQ P,qR P,vT P,qS P,qT P,vU P,qU P,qV P,qW P,vV P,qX P,qY P,vW P,qZ P,q0 P,q8 P,vX P,q9 P,ra P,vY P,rb P,rf P,rg P,vZ P,rh P,rj P,v8 P,rl P,rm P,v9 P,CJ P,wa P,wb P,CK P,wc P,wd P,we P,wg P,wj P,wk P,wm P,wq P,wt P,wu P,CL P,wx P,wy P,CM P,wz P,wA P,wB P,CN P,wC P,wF P,CO P,wG P,wH P,wI P,CP P,CQ P,wJ P,wK P,wL P,CS P,wM P,wN P,CT P,wO P,wQ P,CU P,Ij P,CV P,CW P,Ik P,CY P,CZ P,C0 P,Il P,C1 P,C2 P,Im P,C3 P,C4 P,C7 P,Io P,C8 P,C9 P,Ip P,Dc P,Dd P,De P,Iq P,Ir P,Df P,Dg P,Dh P,Di P,Dj P,Iu P,rp P,Dk P,Dl P,Iv P,Dm P,Dn P,Iw P,Dp P,Dq P,Dr P,Iy P,Ds P,Dt P,Iz P,Du P,Dv P,Dw P,IA P,IB P,Dx P,Dy P,Dz P,IC P,DA P,DB P,ID P,DC P,DD P,AO P,IE P,IF P,AQ P,AR P,AS P,IG P,AU P,AV P,IH P,AW P,AX P,AY P,II P,AZ P,A0 P,IJ P,A1 P,A2 P,A3 P,IK P,A4 P,A5 P,IL P,A6 P,A7 P,A8 P,IM P,A9 P,Ba P,IP P,Bb P,Bc P,Bd P,IQ P,Be P,Bf P,IS P,Bg P,Bh P,Bi P,IT P,Bj P,Bl P,IU P,Bm P,Bn P,Bo P,IV P,Bp P,Bq P,IW P,Br P,Bs P,Bt P,IX P,Bu P,Bv P,IY P,Bw P,Bx P,By P,IZ P,Bz P,BA P,Ja P,BB P,BC P,Jb P,P1 P,Jc P,Jd P,P4 P,Je P,Jf P,Jg P,P5 P,Jh P,Ji P,P6 P,Jj P,Jk P,Jl P,P7 P,Jm P,Jn P,P8 P,Jo P,Jp P,Jq P,P9 P,Jr P,Js P,Qa P,Jt P,Ju P]⟩,(boot_heap P).life⟩
noncomputable def k12:Nat:=737
noncomputable def n12:Nat:=2
noncomputable def Zg (P:Params):Frag:=(nat_lit 4,boot_o_4 P)::(nat_lit 2,boot_o_2 P)::(nat_lit 3,TX P)::(nat_lit 15,dj P)::(nat_lit 16,dk P)::(nat_lit 17,dm P)::(nat_lit 18,dn P)::(nat_lit 19,dq P)::(nat_lit 21,dr P)::(nat_lit 22,du P)::(nat_lit 24,dv P)::(nat_lit 25,dw P)::(nat_lit 26,dy P)::(nat_lit 28,dz P)::(nat_lit 29,dA P)::(nat_lit 31,dB P)::(nat_lit 32,dC P)::(nat_lit 33,dD P)::(nat_lit 34,dE P)::(nat_lit 36,dF P)::(nat_lit 37,dG P)::(nat_lit 39,dH P)::(nat_lit 40,dJ P)::(nat_lit 41,d8 P)::(nat_lit 42,d9 P)::(nat_lit 43,cK P)::(nat_lit 44,bp P)::(nat_lit 45,bq P)::(nat_lit 46,br P)::(nat_lit 47,bu P)::(nat_lit 48,bx P)::(nat_lit 49,bz P)::(nat_lit 50,bA P)::(nat_lit 51,bB P)::(nat_lit 52,bC P)::(nat_lit 53,bD P)::(nat_lit 54,jB P)::(nat_lit 55,fF P)::(nat_lit 56,fH P)::(nat_lit 57,fI P)::(nat_lit 58,fJ P)::(nat_lit 59,Cc P)::(nat_lit 60,Cd P)::(nat_lit 62,Ce P)::(nat_lit 63,Cf P)::(nat_lit 65,Cg P)::(nat_lit 66,Ci P)::(nat_lit 67,Cj P)::(nat_lit 69,Ck P)::(nat_lit 70,Cm P)::(nat_lit 72,Cn P)::(nat_lit 73,Co P)::(nat_lit 74,Cp P)::(nat_lit 76,Cq P)::(nat_lit 77,Cr P)::(nat_lit 79,Cs P)::(nat_lit 80,Ct P)::(nat_lit 81,Cu P)::(nat_lit 83,Cv P)::(nat_lit 84,Cw P)::(nat_lit 86,Cy P)::(nat_lit 87,Cz P)::(nat_lit 88,CA P)::(nat_lit 90,CB P)::(nat_lit 91,CC P)::(nat_lit 93,CD P)::(nat_lit 94,CF P)::(nat_lit 95,CG P)::(nat_lit 97,CH P)::(nat_lit 98,CI P)::(nat_lit 100,qP P)::(nat_lit 101,qQ P)::(nat_lit 102,qR P)::(nat_lit 104,qS P)::(nat_lit 105,qT P)::(nat_lit 107,qU P)::(nat_lit 108,qV P)::(nat_lit 109,qW P)::(nat_lit 111,qX P)::(nat_lit 112,qY P)::(nat_lit 114,qZ P)::(nat_lit 115,q0 P)::(nat_lit 116,q8 P)::(nat_lit 118,q9 P)::(nat_lit 119,ra P)::(nat_lit 121,rb P)::(nat_lit 122,rf P)::(nat_lit 123,rg P)::(nat_lit 125,rh P)::(nat_lit 126,rj P)::(nat_lit 128,rl P)::(nat_lit 129,rm P)::(nat_lit 130,v9 P)::(nat_lit 132,wa P)::(nat_lit 133,wb P)::(nat_lit 135,wc P)::(nat_lit 136,wd P)::(nat_lit 137,we P)::(nat_lit 138,wg P)::(nat_lit 139,wj P)::(nat_lit 140,wk P)::(nat_lit 141,wm P)::(nat_lit 142,wq P)::(nat_lit 143,wt P)::(nat_lit 144,wu P)::(nat_lit 146,wx P)::(nat_lit 147,wy P)::(nat_lit 149,wz P)::(nat_lit 150,wA P)::(nat_lit 151,wB P)::(nat_lit 153,wC P)::(nat_lit 154,wF P)::(nat_lit 156,wG P)::(nat_lit 157,wH P)::(nat_lit 158,wI P)::(nat_lit 161,wJ P)::(nat_lit 162,wK P)::(nat_lit 163,wL P)::(nat_lit 165,wM P)::(nat_lit 166,wN P)::(nat_lit 168,wO P)::(nat_lit 169,wQ P)::(nat_lit 170,CU P)::(nat_lit 172,CV P)::(nat_lit 173,CW P)::(nat_lit 175,CY P)::(nat_lit 176,CZ P)::(nat_lit 177,C0 P)::(nat_lit 179,C1 P)::(nat_lit 180,C2 P)::(nat_lit 182,C3 P)::(nat_lit 183,C4 P)::(nat_lit 184,C7 P)::(nat_lit 186,C8 P)::(nat_lit 187,C9 P)::(nat_lit 189,Dc P)::(nat_lit 190,Dd P)::(nat_lit 191,De P)::(nat_lit 194,Df P)::(nat_lit 195,Dg P)::(nat_lit 196,Dh P)::(nat_lit 197,Di P)::(nat_lit 200,rp P)::(nat_lit 201,Dk P)::(nat_lit 202,Dl P)::(nat_lit 204,Dm P)::(nat_lit 205,Dn P)::(nat_lit 207,Dp P)::(nat_lit 208,Dq P)::(nat_lit 209,Dr P)::(nat_lit 211,Ds P)::(nat_lit 212,Dt P)::(nat_lit 214,Du P)::(nat_lit 215,Dv P)::(nat_lit 216,Dw P)::(nat_lit 219,Dx P)::(nat_lit 220,Dy P)::(nat_lit 221,Dz P)::(nat_lit 223,DA P)::(nat_lit 224,DB P)::(nat_lit 226,DC P)::(nat_lit 227,DD P)::(nat_lit 228,AO P)::(nat_lit 231,AQ P)::(nat_lit 232,AR P)::(nat_lit 233,AS P)::(nat_lit 235,AU P)::(nat_lit 236,AV P)::(nat_lit 238,AW P)::(nat_lit 239,AX P)::(nat_lit 240,AY P)::(nat_lit 242,AZ P)::(nat_lit 243,A0 P)::(nat_lit 245,A1 P)::(nat_lit 246,A2 P)::(nat_lit 247,A3 P)::(nat_lit 249,A4 P)::(nat_lit 250,A5 P)::(nat_lit 252,A6 P)::(nat_lit 253,A7 P)::(nat_lit 254,A8 P)::(nat_lit 256,A9 P)::(nat_lit 257,Ba P)::(nat_lit 259,Bb P)::(nat_lit 260,Bc P)::(nat_lit 261,Bd P)::(nat_lit 263,Be P)::(nat_lit 264,Bf P)::(nat_lit 266,Bg P)::(nat_lit 267,Bh P)::(nat_lit 268,Bi P)::(nat_lit 270,Bj P)::(nat_lit 271,Bl P)::(nat_lit 273,Bm P)::(nat_lit 274,Bn P)::(nat_lit 275,Bo P)::(nat_lit 277,Bp P)::(nat_lit 278,Bq P)::(nat_lit 280,Br P)::(nat_lit 281,Bs P)::(nat_lit 282,Bt P)::(nat_lit 284,Bu P)::(nat_lit 285,Bv P)::(nat_lit 287,Bw P)::(nat_lit 288,Bx P)::(nat_lit 289,By P)::(nat_lit 291,Bz P)::(nat_lit 292,BA P)::(nat_lit 294,BB P)::(nat_lit 295,BC P)::(nat_lit 296,Jb P)::(nat_lit 298,Jc P)::(nat_lit 299,Jd P)::(nat_lit 301,Je P)::(nat_lit 302,Jf P)::(nat_lit 303,Jg P)::(nat_lit 305,Jh P)::(nat_lit 306,Ji P)::(nat_lit 308,Jj P)::(nat_lit 309,Jk P)::(nat_lit 310,Jl P)::(nat_lit 312,Jm P)::(nat_lit 313,Jn P)::(nat_lit 315,Jo P)::(nat_lit 316,Jp P)::(nat_lit 317,Jq P)::(nat_lit 319,Jr P)::(nat_lit 320,Js P)::(nat_lit 322,Jt P)::(nat_lit 323,Ju P)::[]
noncomputable def adr:List Addr:=[4,2,3,15,16,17,18,19,21,22,24,25,26,28,29,31,32,33,34,36,37,39,40,41,42,43,44,45,46,47,48,49,50,51,52,53,54,55,56,57,58,59,60,62,63,65,66,67,69,70,72,73,74,76,77,79,80,81,83,84,86,87,88,90,91,93,94,95,97,98,100,101,102,104,105,107,108,109,111,112,114,115,116,118,119,121,122,123,125,126,128,129,130,132,133,135,136,137,138,139,140,141,142,143,144,146,147,149,150,151,153,154,156,157,158,161,162,163,165,166,168,169,170,172,173,175,176,177,179,180,182,183,184,186,187,189,190,191,194,195,196,197,200,201,202,204,205,207,208,209,211,212,214,215,216,219,220,221,223,224,226,227,228,231,232,233,235,236,238,239,240,242,243,245,246,247,249,250,252,253,254,256,257,259,260,261,263,264,266,267,268,270,271,273,274,275,277,278,280,281,282,284,285,287,288,289,291,292,294,295,296,298,299,301,302,303,305,306,308,309,310,312,313,315,316,317,319,320,322,323]
noncomputable def env:Env:={ scope:=pr.main.scope,locals:=mainNs,globals:=mainNs,cells:=[],code:=code,frame:=some frame }
noncomputable abbrev cE:Code:=.body pr.main.body env
noncomputable abbrev fr:List Frame:=[topFrame c0]
noncomputable abbrev st (H:Params->Heap) (k:Nat) (w:World) (os:OsState):Shared:=stt H drawn k w os
theorem pre (w os):topGo treeTable pr w m0 ann n1 ⟨boot_heap w.params,Array.mk [],boot_drawn,boot_toks,os⟩ (topStub pr)=some (st H1 k1 w os,⟨denote treeTable cE,cE,p1,fr⟩):=by kernel_rfl
theorem blk (w os):segRun treeTable pr w m0 ann 1 n2 (st H1 k1 w os) (blockOf pr.main.body env cE p1 fr)=some (.next,st H2 k2 w os,cE,p2):=by kernel_rfl
theorem g3 (w:World)(os:OsState):segRun treeTable pr w m0 ann 1 n3 (st H2 k2 w os) (piecesOf s3 env cE p2 fr)=some (.next,st H3 k3 w os,cE,p3):=fO (P:=fun w=>segRun treeTable pr w m0 ann 1 n3 (st H2 k2 w os) (piecesOf s3 env cE p2 fr)=some (.next,st H3 k3 w os,cE,p3)) (fun w b=>by cases b <;> kernel_rfl) w
theorem g4 (w:World)(os:OsState):segRun treeTable pr w m0 ann 1 n4 (st H3 k3 w os) (piecesOf s4 env cE p3 fr)=some (.next,st H4 k4 w os,cE,p4):=fO (P:=fun w=>segRun treeTable pr w m0 ann 1 n4 (st H3 k3 w os) (piecesOf s4 env cE p3 fr)=some (.next,st H4 k4 w os,cE,p4)) (fun w b=>by cases b <;> kernel_rfl) w
theorem ad7 (w:World)(os:OsState):RT pr w m0 ann c0 cE ((1+(1+(1+(20+1))))+((1+((3+(0 * 3+0))+(0 * (1+(16+(1+(1+0))))+0)))+(1+3))) (dictSet d5 (.ref aaO) aaP) (st HS LK w os) (st HU Fb w os) ():=by
 refine fO (P:=fun w=>RT pr w m0 ann c0 cE ((1+(1+(1+(20+1))))+((1+((3+(0 * 3+0))+(0 * (1+(16+(1+(1+0))))+0)))+(1+3))) (dictSet d5 (.ref aaO) aaP) (st HS LK w os) (st HU Fb w os) ()) (fun w b=>?_) w;refine gA (h:=th (w.withFollow rw b).params "s" 1) (s1:=st HS Fb (w.withFollow rw b) os) ?_ (eY (es:=adO (w.withFollow rw b).params) (n:=aaN) (fun K H gd lv pos=>⟨pos,1,Nat.le_refl _,by kernel_rfl⟩) (by kernel_rfl) ?_ (fun K H gd lv pos=>⟨pos,3,Nat.le_refl _,by kernel_rfl⟩) ?_ (fun K H gd lv pos=>⟨pos,1,Nat.le_refl _,by kernel_rfl⟩) ?_) (fun K H gd lv pos=>⟨pos,3,Nat.le_refl _,by kernel_rfl⟩)
 ·unfold pyHash pyHashByItsType;dsimp only;refine RT.bind (a:=()) (s1:=st HS LK (w.withFollow rw b) os) (fun K H gd lv pos=>⟨pos,1,Nat.le_refl _,by kernel_rfl⟩) ?_;refine RT.bind (a:=some (.builtin "tuple.__hash__")) (s1:=st HS LK (w.withFollow rw b) os) (fun K H gd lv pos=>⟨pos,1,Nat.le_refl _,by kernel_rfl⟩) ?_;rw[if_neg (by decide)];refine RT.bind (a:=some (.builtin "tuple.__hash__")) (s1:=st HS LK (w.withFollow rw b) os) (fun K H gd lv pos=>⟨pos,1,Nat.le_refl _,by kernel_rfl⟩) ?_;rw[if_neg (by decide)];refine RT.bind (a:=some (.int (Builtin.Tuple.tupleHashOf [PyData.keyHash (w.withFollow rw b).params "s",hashInt 1]) (LK+2))) (s1:=st HS Fb (w.withFollow rw b) os) (fun K H gd lv pos=>⟨pos,20,(by decide:20<=20),by cases b <;> kernel_rfl⟩) ?_;exact bL _
 ·exact aS
 ·exact aS
 ·exact aS
theorem ad8 (w:World)(os:OsState):RT pr w m0 ann c0 cE ((1+(1+(1+(20+1))))+((1+((3+(1 * 3+0))+(1 * (1+(16+(1+(1+0))))+0)))+(1+3))) (dictSet d5 (.ref aaR) aaS) (st HU Fb w os) (st HV Fc w os) ():=by
 refine fO (P:=fun w=>RT pr w m0 ann c0 cE ((1+(1+(1+(20+1))))+((1+((3+(1 * 3+0))+(1 * (1+(16+(1+(1+0))))+0)))+(1+3))) (dictSet d5 (.ref aaR) aaS) (st HU Fb w os) (st HV Fc w os) ()) (fun w b=>?_) w;refine gA (h:=th (w.withFollow rw b).params "d" 1) (s1:=st HU Fc (w.withFollow rw b) os) ?_ (eY (es:=adP (w.withFollow rw b).params) (n:=aaQ) (fun K H gd lv pos=>⟨pos,1,Nat.le_refl _,by kernel_rfl⟩) (by kernel_rfl) ?_ (fun K H gd lv pos=>⟨pos,3,Nat.le_refl _,by kernel_rfl⟩) ?_ (fun K H gd lv pos=>⟨pos,1,Nat.le_refl _,by kernel_rfl⟩) ?_) (fun K H gd lv pos=>⟨pos,3,Nat.le_refl _,by kernel_rfl⟩)
 ·unfold pyHash pyHashByItsType;dsimp only;refine RT.bind (a:=()) (s1:=st HU Fb (w.withFollow rw b) os) (fun K H gd lv pos=>⟨pos,1,Nat.le_refl _,by kernel_rfl⟩) ?_;refine RT.bind (a:=some (.builtin "tuple.__hash__")) (s1:=st HU Fb (w.withFollow rw b) os) (fun K H gd lv pos=>⟨pos,1,Nat.le_refl _,by kernel_rfl⟩) ?_;rw[if_neg (by decide)];refine RT.bind (a:=some (.builtin "tuple.__hash__")) (s1:=st HU Fb (w.withFollow rw b) os) (fun K H gd lv pos=>⟨pos,1,Nat.le_refl _,by kernel_rfl⟩) ?_;rw[if_neg (by decide)];refine RT.bind (a:=some (.int (Builtin.Tuple.tupleHashOf [PyData.keyHash (w.withFollow rw b).params "d",hashInt 1]) (Fb+2))) (s1:=st HU Fc (w.withFollow rw b) os) (fun K H gd lv pos=>⟨pos,20,(by decide:20<=20),by cases b <;> kernel_rfl⟩) ?_;exact bL _
 ·exact(af (rfl) aS)
 ·exact(af ((fun K H gd lv pos=>⟨pos,3,Nat.le_refl _,by kernel_rfl⟩)) aS)
 ·exact(af ((fun K H gd lv pos=>⟨pos,16,(by decide:16<=16),by cases b <;> kernel_rfl⟩)) aS)
theorem ad9 (w:World)(os:OsState):RT pr w m0 ann c0 cE ((1+(1+(1+(20+1))))+((1+((3+(2 * 3+0))+(2 * (1+(16+(1+(1+0))))+0)))+(1+3))) (dictSet d5 (.ref aaU) aaV) (st HV Fc w os) (st HW Fd w os) ():=by
 refine fO (P:=fun w=>RT pr w m0 ann c0 cE ((1+(1+(1+(20+1))))+((1+((3+(2 * 3+0))+(2 * (1+(16+(1+(1+0))))+0)))+(1+3))) (dictSet d5 (.ref aaU) aaV) (st HV Fc w os) (st HW Fd w os) ()) (fun w b=>?_) w;refine gA (h:=th (w.withFollow rw b).params "r" 1) (s1:=st HV Fd (w.withFollow rw b) os) ?_ (eY (es:=adQ (w.withFollow rw b).params) (n:=aaT) (fun K H gd lv pos=>⟨pos,1,Nat.le_refl _,by kernel_rfl⟩) (by kernel_rfl) ?_ (fun K H gd lv pos=>⟨pos,3,Nat.le_refl _,by kernel_rfl⟩) ?_ (fun K H gd lv pos=>⟨pos,1,Nat.le_refl _,by kernel_rfl⟩) ?_) (fun K H gd lv pos=>⟨pos,3,Nat.le_refl _,by kernel_rfl⟩)
 ·unfold pyHash pyHashByItsType;dsimp only;refine RT.bind (a:=()) (s1:=st HV Fc (w.withFollow rw b) os) (fun K H gd lv pos=>⟨pos,1,Nat.le_refl _,by kernel_rfl⟩) ?_;refine RT.bind (a:=some (.builtin "tuple.__hash__")) (s1:=st HV Fc (w.withFollow rw b) os) (fun K H gd lv pos=>⟨pos,1,Nat.le_refl _,by kernel_rfl⟩) ?_;rw[if_neg (by decide)];refine RT.bind (a:=some (.builtin "tuple.__hash__")) (s1:=st HV Fc (w.withFollow rw b) os) (fun K H gd lv pos=>⟨pos,1,Nat.le_refl _,by kernel_rfl⟩) ?_;rw[if_neg (by decide)];refine RT.bind (a:=some (.int (Builtin.Tuple.tupleHashOf [PyData.keyHash (w.withFollow rw b).params "r",hashInt 1]) (Fc+2))) (s1:=st HV Fd (w.withFollow rw b) os) (fun K H gd lv pos=>⟨pos,20,(by decide:20<=20),by cases b <;> kernel_rfl⟩) ?_;exact bL _
 ·exact(af (rfl) (af (rfl) aS))
 ·exact(af ((fun K H gd lv pos=>⟨pos,3,Nat.le_refl _,by kernel_rfl⟩)) (af ((fun K H gd lv pos=>⟨pos,3,Nat.le_refl _,by kernel_rfl⟩)) aS))
 ·exact(af ((fun K H gd lv pos=>⟨pos,16,(by decide:16<=16),by cases b <;> kernel_rfl⟩)) (af ((fun K H gd lv pos=>⟨pos,16,(by decide:16<=16),by cases b <;> kernel_rfl⟩)) aS))
theorem aea (w:World)(os:OsState):RT pr w m0 ann c0 cE ((1+(1+(1+(20+1))))+((1+((3+(3 * 3+0))+(3 * (1+(16+(1+(1+0))))+0)))+(1+3))) (dictSet d5 (.ref aaX) aaY) (st HW Fd w os) (st HX Fe w os) ():=by
 refine fO (P:=fun w=>RT pr w m0 ann c0 cE ((1+(1+(1+(20+1))))+((1+((3+(3 * 3+0))+(3 * (1+(16+(1+(1+0))))+0)))+(1+3))) (dictSet d5 (.ref aaX) aaY) (st HW Fd w os) (st HX Fe w os) ()) (fun w b=>?_) w;refine gA (h:=th (w.withFollow rw b).params "D" 2) (s1:=st HW Fe (w.withFollow rw b) os) ?_ (eY (es:=adR (w.withFollow rw b).params) (n:=aaW) (fun K H gd lv pos=>⟨pos,1,Nat.le_refl _,by kernel_rfl⟩) (by kernel_rfl) ?_ (fun K H gd lv pos=>⟨pos,3,Nat.le_refl _,by kernel_rfl⟩) ?_ (fun K H gd lv pos=>⟨pos,1,Nat.le_refl _,by kernel_rfl⟩) ?_) (fun K H gd lv pos=>⟨pos,3,Nat.le_refl _,by kernel_rfl⟩)
 ·unfold pyHash pyHashByItsType;dsimp only;refine RT.bind (a:=()) (s1:=st HW Fd (w.withFollow rw b) os) (fun K H gd lv pos=>⟨pos,1,Nat.le_refl _,by kernel_rfl⟩) ?_;refine RT.bind (a:=some (.builtin "tuple.__hash__")) (s1:=st HW Fd (w.withFollow rw b) os) (fun K H gd lv pos=>⟨pos,1,Nat.le_refl _,by kernel_rfl⟩) ?_;rw[if_neg (by decide)];refine RT.bind (a:=some (.builtin "tuple.__hash__")) (s1:=st HW Fd (w.withFollow rw b) os) (fun K H gd lv pos=>⟨pos,1,Nat.le_refl _,by kernel_rfl⟩) ?_;rw[if_neg (by decide)];refine RT.bind (a:=some (.int (Builtin.Tuple.tupleHashOf [PyData.keyHash (w.withFollow rw b).params "D",hashInt 2]) (Fd+2))) (s1:=st HW Fe (w.withFollow rw b) os) (fun K H gd lv pos=>⟨pos,20,(by decide:20<=20),by cases b <;> kernel_rfl⟩) ?_;exact bL _
 ·exact(af (rfl) (af (rfl) (af (rfl) aS)))
 ·exact(af ((fun K H gd lv pos=>⟨pos,3,Nat.le_refl _,by kernel_rfl⟩)) (af ((fun K H gd lv pos=>⟨pos,3,Nat.le_refl _,by kernel_rfl⟩)) (af ((fun K H gd lv pos=>⟨pos,3,Nat.le_refl _,by kernel_rfl⟩)) aS)))
 ·exact(af ((fun K H gd lv pos=>⟨pos,16,(by decide:16<=16),by cases b <;> kernel_rfl⟩)) (af ((fun K H gd lv pos=>⟨pos,16,(by decide:16<=16),by cases b <;> kernel_rfl⟩)) (af ((fun K H gd lv pos=>⟨pos,16,(by decide:16<=16),by cases b <;> kernel_rfl⟩)) aS)))
theorem aeb (w:World)(os:OsState):RT pr w m0 ann c0 cE ((1+(1+(1+(20+1))))+((1+((3+(4 * 3+0))+(4 * (1+(16+(1+(1+0))))+0)))+(1+3))) (dictSet d5 (.ref aa0) aa1) (st HX Fe w os) (st HY Ff w os) ():=by
 refine fO (P:=fun w=>RT pr w m0 ann c0 cE ((1+(1+(1+(20+1))))+((1+((3+(4 * 3+0))+(4 * (1+(16+(1+(1+0))))+0)))+(1+3))) (dictSet d5 (.ref aa0) aa1) (st HX Fe w os) (st HY Ff w os) ()) (fun w b=>?_) w;refine gA (h:=th (w.withFollow rw b).params "R" 2) (s1:=st HX Ff (w.withFollow rw b) os) ?_ (eY (es:=adS (w.withFollow rw b).params) (n:=aaZ) (fun K H gd lv pos=>⟨pos,1,Nat.le_refl _,by kernel_rfl⟩) (by kernel_rfl) ?_ (fun K H gd lv pos=>⟨pos,3,Nat.le_refl _,by kernel_rfl⟩) ?_ (fun K H gd lv pos=>⟨pos,1,Nat.le_refl _,by kernel_rfl⟩) ?_) (fun K H gd lv pos=>⟨pos,3,Nat.le_refl _,by kernel_rfl⟩)
 ·unfold pyHash pyHashByItsType;dsimp only;refine RT.bind (a:=()) (s1:=st HX Fe (w.withFollow rw b) os) (fun K H gd lv pos=>⟨pos,1,Nat.le_refl _,by kernel_rfl⟩) ?_;refine RT.bind (a:=some (.builtin "tuple.__hash__")) (s1:=st HX Fe (w.withFollow rw b) os) (fun K H gd lv pos=>⟨pos,1,Nat.le_refl _,by kernel_rfl⟩) ?_;rw[if_neg (by decide)];refine RT.bind (a:=some (.builtin "tuple.__hash__")) (s1:=st HX Fe (w.withFollow rw b) os) (fun K H gd lv pos=>⟨pos,1,Nat.le_refl _,by kernel_rfl⟩) ?_;rw[if_neg (by decide)];refine RT.bind (a:=some (.int (Builtin.Tuple.tupleHashOf [PyData.keyHash (w.withFollow rw b).params "R",hashInt 2]) (Fe+2))) (s1:=st HX Ff (w.withFollow rw b) os) (fun K H gd lv pos=>⟨pos,20,(by decide:20<=20),by cases b <;> kernel_rfl⟩) ?_;exact bL _
 ·exact(af (rfl) (af (rfl) (af (rfl) (af (rfl) aS))))
 ·exact(af ((fun K H gd lv pos=>⟨pos,3,Nat.le_refl _,by kernel_rfl⟩)) (af ((fun K H gd lv pos=>⟨pos,3,Nat.le_refl _,by kernel_rfl⟩)) (af ((fun K H gd lv pos=>⟨pos,3,Nat.le_refl _,by kernel_rfl⟩)) (af ((fun K H gd lv pos=>⟨pos,3,Nat.le_refl _,by kernel_rfl⟩)) aS))))
 ·exact(af ((fun K H gd lv pos=>⟨pos,16,(by decide:16<=16),by cases b <;> kernel_rfl⟩)) (af ((fun K H gd lv pos=>⟨pos,16,(by decide:16<=16),by cases b <;> kernel_rfl⟩)) (af ((fun K H gd lv pos=>⟨pos,16,(by decide:16<=16),by cases b <;> kernel_rfl⟩)) (af ((fun K H gd lv pos=>⟨pos,16,(by decide:16<=16),by cases b <;> kernel_rfl⟩)) aS))))
theorem aec (w:World)(os:OsState):RT pr w m0 ann c0 cE ((1+(1+(1+(20+1))))+((1+((3+(5 * 3+0))+(5 * (1+(16+(1+(1+0))))+0)))+(1+3))) (dictSet d5 (.ref aa3) aa4) (st HY Ff w os) (st HZ Fg w os) ():=by
 refine fO (P:=fun w=>RT pr w m0 ann c0 cE ((1+(1+(1+(20+1))))+((1+((3+(5 * 3+0))+(5 * (1+(16+(1+(1+0))))+0)))+(1+3))) (dictSet d5 (.ref aa3) aa4) (st HY Ff w os) (st HZ Fg w os) ()) (fun w b=>?_) w;refine gA (h:=th (w.withFollow rw b).params "G" 2) (s1:=st HY Fg (w.withFollow rw b) os) ?_ (eY (es:=adT (w.withFollow rw b).params) (n:=aa2) (fun K H gd lv pos=>⟨pos,1,Nat.le_refl _,by kernel_rfl⟩) (by kernel_rfl) ?_ (fun K H gd lv pos=>⟨pos,3,Nat.le_refl _,by kernel_rfl⟩) ?_ (fun K H gd lv pos=>⟨pos,1,Nat.le_refl _,by kernel_rfl⟩) ?_) (fun K H gd lv pos=>⟨pos,3,Nat.le_refl _,by kernel_rfl⟩)
 ·unfold pyHash pyHashByItsType;dsimp only;refine RT.bind (a:=()) (s1:=st HY Ff (w.withFollow rw b) os) (fun K H gd lv pos=>⟨pos,1,Nat.le_refl _,by kernel_rfl⟩) ?_;refine RT.bind (a:=some (.builtin "tuple.__hash__")) (s1:=st HY Ff (w.withFollow rw b) os) (fun K H gd lv pos=>⟨pos,1,Nat.le_refl _,by kernel_rfl⟩) ?_;rw[if_neg (by decide)];refine RT.bind (a:=some (.builtin "tuple.__hash__")) (s1:=st HY Ff (w.withFollow rw b) os) (fun K H gd lv pos=>⟨pos,1,Nat.le_refl _,by kernel_rfl⟩) ?_;rw[if_neg (by decide)];refine RT.bind (a:=some (.int (Builtin.Tuple.tupleHashOf [PyData.keyHash (w.withFollow rw b).params "G",hashInt 2]) (Ff+2))) (s1:=st HY Fg (w.withFollow rw b) os) (fun K H gd lv pos=>⟨pos,20,(by decide:20<=20),by cases b <;> kernel_rfl⟩) ?_;exact bL _
 ·exact(af (rfl) (af (rfl) (af (rfl) (af (rfl) (af (rfl) aS)))))
 ·exact(af ((fun K H gd lv pos=>⟨pos,3,Nat.le_refl _,by kernel_rfl⟩)) (af ((fun K H gd lv pos=>⟨pos,3,Nat.le_refl _,by kernel_rfl⟩)) (af ((fun K H gd lv pos=>⟨pos,3,Nat.le_refl _,by kernel_rfl⟩)) (af ((fun K H gd lv pos=>⟨pos,3,Nat.le_refl _,by kernel_rfl⟩)) (af ((fun K H gd lv pos=>⟨pos,3,Nat.le_refl _,by kernel_rfl⟩)) aS)))))
 ·exact(af ((fun K H gd lv pos=>⟨pos,16,(by decide:16<=16),by cases b <;> kernel_rfl⟩)) (af ((fun K H gd lv pos=>⟨pos,16,(by decide:16<=16),by cases b <;> kernel_rfl⟩)) (af ((fun K H gd lv pos=>⟨pos,16,(by decide:16<=16),by cases b <;> kernel_rfl⟩)) (af ((fun K H gd lv pos=>⟨pos,16,(by decide:16<=16),by cases b <;> kernel_rfl⟩)) (af ((fun K H gd lv pos=>⟨pos,16,(by decide:16<=16),by cases b <;> kernel_rfl⟩)) aS)))))
theorem aed (w:World)(os:OsState):RT pr w m0 ann c0 cE ((1+(1+(1+(20+1))))+((1+((3+(6 * 3+0))+(6 * (1+(20+(1+(1+0))))+0)))+(1+3))) (dictSet d5 (.ref aa6) aa7) (st HZ Fg w os) (st Ia Fh w os) ():=by
 refine fO (P:=fun w=>RT pr w m0 ann c0 cE ((1+(1+(1+(20+1))))+((1+((3+(6 * 3+0))+(6 * (1+(20+(1+(1+0))))+0)))+(1+3))) (dictSet d5 (.ref aa6) aa7) (st HZ Fg w os) (st Ia Fh w os) ()) (fun w b=>?_) w;refine gA (h:=th (w.withFollow rw b).params "G" 3) (s1:=st HZ Fh (w.withFollow rw b) os) ?_ (eY (es:=adU (w.withFollow rw b).params) (n:=aa5) (fun K H gd lv pos=>⟨pos,1,Nat.le_refl _,by kernel_rfl⟩) (by kernel_rfl) ?_ (fun K H gd lv pos=>⟨pos,3,Nat.le_refl _,by kernel_rfl⟩) ?_ (fun K H gd lv pos=>⟨pos,1,Nat.le_refl _,by kernel_rfl⟩) ?_) (fun K H gd lv pos=>⟨pos,3,Nat.le_refl _,by kernel_rfl⟩)
 ·unfold pyHash pyHashByItsType;dsimp only;refine RT.bind (a:=()) (s1:=st HZ Fg (w.withFollow rw b) os) (fun K H gd lv pos=>⟨pos,1,Nat.le_refl _,by kernel_rfl⟩) ?_;refine RT.bind (a:=some (.builtin "tuple.__hash__")) (s1:=st HZ Fg (w.withFollow rw b) os) (fun K H gd lv pos=>⟨pos,1,Nat.le_refl _,by kernel_rfl⟩) ?_;rw[if_neg (by decide)];refine RT.bind (a:=some (.builtin "tuple.__hash__")) (s1:=st HZ Fg (w.withFollow rw b) os) (fun K H gd lv pos=>⟨pos,1,Nat.le_refl _,by kernel_rfl⟩) ?_;rw[if_neg (by decide)];refine RT.bind (a:=some (.int (Builtin.Tuple.tupleHashOf [PyData.keyHash (w.withFollow rw b).params "G",hashInt 3]) (Fg+2))) (s1:=st HZ Fh (w.withFollow rw b) os) (fun K H gd lv pos=>⟨pos,20,(by decide:20<=20),by cases b <;> kernel_rfl⟩) ?_;exact bL _
 ·exact(af (rfl) (af (rfl) (af (rfl) (af (rfl) (af (rfl) (af (rfl) aS))))))
 ·exact(af ((fun K H gd lv pos=>⟨pos,3,Nat.le_refl _,by kernel_rfl⟩)) (af ((fun K H gd lv pos=>⟨pos,3,Nat.le_refl _,by kernel_rfl⟩)) (af ((fun K H gd lv pos=>⟨pos,3,Nat.le_refl _,by kernel_rfl⟩)) (af ((fun K H gd lv pos=>⟨pos,3,Nat.le_refl _,by kernel_rfl⟩)) (af ((fun K H gd lv pos=>⟨pos,3,Nat.le_refl _,by kernel_rfl⟩)) (af ((fun K H gd lv pos=>⟨pos,3,Nat.le_refl _,by kernel_rfl⟩)) aS))))))
 ·exact(af ((fun K H gd lv pos=>⟨pos,16,(by decide:16<=20),by cases b <;> kernel_rfl⟩)) (af ((fun K H gd lv pos=>⟨pos,16,(by decide:16<=20),by cases b <;> kernel_rfl⟩)) (af ((fun K H gd lv pos=>⟨pos,16,(by decide:16<=20),by cases b <;> kernel_rfl⟩)) (af ((fun K H gd lv pos=>⟨pos,16,(by decide:16<=20),by cases b <;> kernel_rfl⟩)) (af ((fun K H gd lv pos=>⟨pos,16,(by decide:16<=20),by cases b <;> kernel_rfl⟩)) (af ((fun K H gd lv pos=>⟨pos,20,(by decide:20<=20),by cases b <;> kernel_rfl⟩)) aS))))))
theorem aee (w:World)(os:OsState):RT pr w m0 ann c0 cE ((1+(1+(1+(20+1))))+((1+((3+(7 * 3+0))+(7 * (1+(16+(1+(1+0))))+0)))+(1+3))) (dictSet d5 (.ref aa9) aba) (st Ia Fh w os) (st Ib Fi w os) ():=by
 refine fO (P:=fun w=>RT pr w m0 ann c0 cE ((1+(1+(1+(20+1))))+((1+((3+(7 * 3+0))+(7 * (1+(16+(1+(1+0))))+0)))+(1+3))) (dictSet d5 (.ref aa9) aba) (st Ia Fh w os) (st Ib Fi w os) ()) (fun w b=>?_) w;refine gA (h:=th (w.withFollow rw b).params "." 0) (s1:=st Ia Fi (w.withFollow rw b) os) ?_ (eY (es:=adV (w.withFollow rw b).params) (n:=aa8) (fun K H gd lv pos=>⟨pos,1,Nat.le_refl _,by kernel_rfl⟩) (by kernel_rfl) ?_ (fun K H gd lv pos=>⟨pos,3,Nat.le_refl _,by kernel_rfl⟩) ?_ (fun K H gd lv pos=>⟨pos,1,Nat.le_refl _,by kernel_rfl⟩) ?_) (fun K H gd lv pos=>⟨pos,3,Nat.le_refl _,by kernel_rfl⟩)
 ·unfold pyHash pyHashByItsType;dsimp only;refine RT.bind (a:=()) (s1:=st Ia Fh (w.withFollow rw b) os) (fun K H gd lv pos=>⟨pos,1,Nat.le_refl _,by kernel_rfl⟩) ?_;refine RT.bind (a:=some (.builtin "tuple.__hash__")) (s1:=st Ia Fh (w.withFollow rw b) os) (fun K H gd lv pos=>⟨pos,1,Nat.le_refl _,by kernel_rfl⟩) ?_;rw[if_neg (by decide)];refine RT.bind (a:=some (.builtin "tuple.__hash__")) (s1:=st Ia Fh (w.withFollow rw b) os) (fun K H gd lv pos=>⟨pos,1,Nat.le_refl _,by kernel_rfl⟩) ?_;rw[if_neg (by decide)];refine RT.bind (a:=some (.int (Builtin.Tuple.tupleHashOf [PyData.keyHash (w.withFollow rw b).params ".",hashInt 0]) (Fh+2))) (s1:=st Ia Fi (w.withFollow rw b) os) (fun K H gd lv pos=>⟨pos,20,(by decide:20<=20),by cases b <;> kernel_rfl⟩) ?_;exact bL _
 ·exact(af (rfl) (af (rfl) (af (rfl) (af (rfl) (af (rfl) (af (rfl) (af (rfl) aS)))))))
 ·exact(af ((fun K H gd lv pos=>⟨pos,3,Nat.le_refl _,by kernel_rfl⟩)) (af ((fun K H gd lv pos=>⟨pos,3,Nat.le_refl _,by kernel_rfl⟩)) (af ((fun K H gd lv pos=>⟨pos,3,Nat.le_refl _,by kernel_rfl⟩)) (af ((fun K H gd lv pos=>⟨pos,3,Nat.le_refl _,by kernel_rfl⟩)) (af ((fun K H gd lv pos=>⟨pos,3,Nat.le_refl _,by kernel_rfl⟩)) (af ((fun K H gd lv pos=>⟨pos,3,Nat.le_refl _,by kernel_rfl⟩)) (af ((fun K H gd lv pos=>⟨pos,3,Nat.le_refl _,by kernel_rfl⟩)) aS)))))))
 ·exact(af ((fun K H gd lv pos=>⟨pos,16,(by decide:16<=16),by cases b <;> kernel_rfl⟩)) (af ((fun K H gd lv pos=>⟨pos,16,(by decide:16<=16),by cases b <;> kernel_rfl⟩)) (af ((fun K H gd lv pos=>⟨pos,16,(by decide:16<=16),by cases b <;> kernel_rfl⟩)) (af ((fun K H gd lv pos=>⟨pos,16,(by decide:16<=16),by cases b <;> kernel_rfl⟩)) (af ((fun K H gd lv pos=>⟨pos,16,(by decide:16<=16),by cases b <;> kernel_rfl⟩)) (af ((fun K H gd lv pos=>⟨pos,16,(by decide:16<=16),by cases b <;> kernel_rfl⟩)) (af ((fun K H gd lv pos=>⟨pos,16,(by decide:16<=16),by cases b <;> kernel_rfl⟩)) aS)))))))
theorem aef (w:World)(os:OsState):RT pr w m0 ann c0 cE ((1+(1+(1+(20+1))))+((1+((3+(8 * 3+0))+(8 * (1+(16+(1+(1+0))))+0)))+(1+3))) (dictSet d5 (.ref abc) abd) (st Ib Fi w os) (st Ic Fj w os) ():=by
 refine fO (P:=fun w=>RT pr w m0 ann c0 cE ((1+(1+(1+(20+1))))+((1+((3+(8 * 3+0))+(8 * (1+(16+(1+(1+0))))+0)))+(1+3))) (dictSet d5 (.ref abc) abd) (st Ib Fi w os) (st Ic Fj w os) ()) (fun w b=>?_) w;refine gA (h:=th (w.withFollow rw b).params "2" 0) (s1:=st Ib Fj (w.withFollow rw b) os) ?_ (eY (es:=adW (w.withFollow rw b).params) (n:=abb) (fun K H gd lv pos=>⟨pos,1,Nat.le_refl _,by kernel_rfl⟩) (by kernel_rfl) ?_ (fun K H gd lv pos=>⟨pos,3,Nat.le_refl _,by kernel_rfl⟩) ?_ (fun K H gd lv pos=>⟨pos,1,Nat.le_refl _,by kernel_rfl⟩) ?_) (fun K H gd lv pos=>⟨pos,3,Nat.le_refl _,by kernel_rfl⟩)
 ·unfold pyHash pyHashByItsType;dsimp only;refine RT.bind (a:=()) (s1:=st Ib Fi (w.withFollow rw b) os) (fun K H gd lv pos=>⟨pos,1,Nat.le_refl _,by kernel_rfl⟩) ?_;refine RT.bind (a:=some (.builtin "tuple.__hash__")) (s1:=st Ib Fi (w.withFollow rw b) os) (fun K H gd lv pos=>⟨pos,1,Nat.le_refl _,by kernel_rfl⟩) ?_;rw[if_neg (by decide)];refine RT.bind (a:=some (.builtin "tuple.__hash__")) (s1:=st Ib Fi (w.withFollow rw b) os) (fun K H gd lv pos=>⟨pos,1,Nat.le_refl _,by kernel_rfl⟩) ?_;rw[if_neg (by decide)];refine RT.bind (a:=some (.int (Builtin.Tuple.tupleHashOf [PyData.keyHash (w.withFollow rw b).params "2",hashInt 0]) (Fi+2))) (s1:=st Ib Fj (w.withFollow rw b) os) (fun K H gd lv pos=>⟨pos,20,(by decide:20<=20),by cases b <;> kernel_rfl⟩) ?_;exact bL _
 ·exact(af (rfl) (af (rfl) (af (rfl) (af (rfl) (af (rfl) (af (rfl) (af (rfl) (af (rfl) aS))))))))
 ·exact(af ((fun K H gd lv pos=>⟨pos,3,Nat.le_refl _,by kernel_rfl⟩)) (af ((fun K H gd lv pos=>⟨pos,3,Nat.le_refl _,by kernel_rfl⟩)) (af ((fun K H gd lv pos=>⟨pos,3,Nat.le_refl _,by kernel_rfl⟩)) (af ((fun K H gd lv pos=>⟨pos,3,Nat.le_refl _,by kernel_rfl⟩)) (af ((fun K H gd lv pos=>⟨pos,3,Nat.le_refl _,by kernel_rfl⟩)) (af ((fun K H gd lv pos=>⟨pos,3,Nat.le_refl _,by kernel_rfl⟩)) (af ((fun K H gd lv pos=>⟨pos,3,Nat.le_refl _,by kernel_rfl⟩)) (af ((fun K H gd lv pos=>⟨pos,3,Nat.le_refl _,by kernel_rfl⟩)) aS))))))))
 ·exact(af ((fun K H gd lv pos=>⟨pos,16,(by decide:16<=16),by cases b <;> kernel_rfl⟩)) (af ((fun K H gd lv pos=>⟨pos,16,(by decide:16<=16),by cases b <;> kernel_rfl⟩)) (af ((fun K H gd lv pos=>⟨pos,16,(by decide:16<=16),by cases b <;> kernel_rfl⟩)) (af ((fun K H gd lv pos=>⟨pos,16,(by decide:16<=16),by cases b <;> kernel_rfl⟩)) (af ((fun K H gd lv pos=>⟨pos,16,(by decide:16<=16),by cases b <;> kernel_rfl⟩)) (af ((fun K H gd lv pos=>⟨pos,16,(by decide:16<=16),by cases b <;> kernel_rfl⟩)) (af ((fun K H gd lv pos=>⟨pos,16,(by decide:16<=16),by cases b <;> kernel_rfl⟩)) (af ((fun K H gd lv pos=>⟨pos,16,(by decide:16<=16),by cases b <;> kernel_rfl⟩)) aS))))))))
theorem aeg (w:World)(os:OsState):RT pr w m0 ann c0 cE ((1+(1+(1+(20+1))))+((1+((3+(9 * 3+0))+(9 * (1+(16+(1+(1+0))))+0)))+(1+3))) (dictSet d5 (.ref abf) abg) (st Ic Fj w os) (st P0 G1 w os) ():=by
 refine fO (P:=fun w=>RT pr w m0 ann c0 cE ((1+(1+(1+(20+1))))+((1+((3+(9 * 3+0))+(9 * (1+(16+(1+(1+0))))+0)))+(1+3))) (dictSet d5 (.ref abf) abg) (st Ic Fj w os) (st P0 G1 w os) ()) (fun w b=>?_) w;refine gA (h:=th (w.withFollow rw b).params "3" 0) (s1:=st Ic G1 (w.withFollow rw b) os) ?_ (eY (es:=adX (w.withFollow rw b).params) (n:=abe) (fun K H gd lv pos=>⟨pos,1,Nat.le_refl _,by kernel_rfl⟩) (by kernel_rfl) ?_ (fun K H gd lv pos=>⟨pos,3,Nat.le_refl _,by kernel_rfl⟩) ?_ (fun K H gd lv pos=>⟨pos,1,Nat.le_refl _,by kernel_rfl⟩) ?_) (fun K H gd lv pos=>⟨pos,3,Nat.le_refl _,by kernel_rfl⟩)
 ·unfold pyHash pyHashByItsType;dsimp only;refine RT.bind (a:=()) (s1:=st Ic Fj (w.withFollow rw b) os) (fun K H gd lv pos=>⟨pos,1,Nat.le_refl _,by kernel_rfl⟩) ?_;refine RT.bind (a:=some (.builtin "tuple.__hash__")) (s1:=st Ic Fj (w.withFollow rw b) os) (fun K H gd lv pos=>⟨pos,1,Nat.le_refl _,by kernel_rfl⟩) ?_;rw[if_neg (by decide)];refine RT.bind (a:=some (.builtin "tuple.__hash__")) (s1:=st Ic Fj (w.withFollow rw b) os) (fun K H gd lv pos=>⟨pos,1,Nat.le_refl _,by kernel_rfl⟩) ?_;rw[if_neg (by decide)];refine RT.bind (a:=some (.int (Builtin.Tuple.tupleHashOf [PyData.keyHash (w.withFollow rw b).params "3",hashInt 0]) (Fj+2))) (s1:=st Ic G1 (w.withFollow rw b) os) (fun K H gd lv pos=>⟨pos,20,(by decide:20<=20),by cases b <;> kernel_rfl⟩) ?_;exact bL _
 ·exact(af (rfl) (af (rfl) (af (rfl) (af (rfl) (af (rfl) (af (rfl) (af (rfl) (af (rfl) (af (rfl) aS)))))))))
 ·exact(af ((fun K H gd lv pos=>⟨pos,3,Nat.le_refl _,by kernel_rfl⟩)) (af ((fun K H gd lv pos=>⟨pos,3,Nat.le_refl _,by kernel_rfl⟩)) (af ((fun K H gd lv pos=>⟨pos,3,Nat.le_refl _,by kernel_rfl⟩)) (af ((fun K H gd lv pos=>⟨pos,3,Nat.le_refl _,by kernel_rfl⟩)) (af ((fun K H gd lv pos=>⟨pos,3,Nat.le_refl _,by kernel_rfl⟩)) (af ((fun K H gd lv pos=>⟨pos,3,Nat.le_refl _,by kernel_rfl⟩)) (af ((fun K H gd lv pos=>⟨pos,3,Nat.le_refl _,by kernel_rfl⟩)) (af ((fun K H gd lv pos=>⟨pos,3,Nat.le_refl _,by kernel_rfl⟩)) (af ((fun K H gd lv pos=>⟨pos,3,Nat.le_refl _,by kernel_rfl⟩)) aS)))))))))
 ·exact(af ((fun K H gd lv pos=>⟨pos,16,(by decide:16<=16),by cases b <;> kernel_rfl⟩)) (af ((fun K H gd lv pos=>⟨pos,16,(by decide:16<=16),by cases b <;> kernel_rfl⟩)) (af ((fun K H gd lv pos=>⟨pos,16,(by decide:16<=16),by cases b <;> kernel_rfl⟩)) (af ((fun K H gd lv pos=>⟨pos,16,(by decide:16<=16),by cases b <;> kernel_rfl⟩)) (af ((fun K H gd lv pos=>⟨pos,16,(by decide:16<=16),by cases b <;> kernel_rfl⟩)) (af ((fun K H gd lv pos=>⟨pos,16,(by decide:16<=16),by cases b <;> kernel_rfl⟩)) (af ((fun K H gd lv pos=>⟨pos,16,(by decide:16<=16),by cases b <;> kernel_rfl⟩)) (af ((fun K H gd lv pos=>⟨pos,16,(by decide:16<=16),by cases b <;> kernel_rfl⟩)) (af ((fun K H gd lv pos=>⟨pos,16,(by decide:16<=16),by cases b <;> kernel_rfl⟩)) aS)))))))))
theorem C5 (w:World)(os:OsState):Puts pr w m0 ann c0 cE d5 (((1+(1+(1+(20+1))))+((1+((3+(0 * 3+0))+(0 * (1+(16+(1+(1+0))))+0)))+(1+3)))+(((1+(1+(1+(20+1))))+((1+((3+(1 * 3+0))+(1 * (1+(16+(1+(1+0))))+0)))+(1+3)))+(((1+(1+(1+(20+1))))+((1+((3+(2 * 3+0))+(2 * (1+(16+(1+(1+0))))+0)))+(1+3)))+(((1+(1+(1+(20+1))))+((1+((3+(3 * 3+0))+(3 * (1+(16+(1+(1+0))))+0)))+(1+3)))+(((1+(1+(1+(20+1))))+((1+((3+(4 * 3+0))+(4 * (1+(16+(1+(1+0))))+0)))+(1+3)))+(((1+(1+(1+(20+1))))+((1+((3+(5 * 3+0))+(5 * (1+(16+(1+(1+0))))+0)))+(1+3)))+(((1+(1+(1+(20+1))))+((1+((3+(6 * 3+0))+(6 * (1+(20+(1+(1+0))))+0)))+(1+3)))+(((1+(1+(1+(20+1))))+((1+((3+(7 * 3+0))+(7 * (1+(16+(1+(1+0))))+0)))+(1+3)))+(((1+(1+(1+(20+1))))+((1+((3+(8 * 3+0))+(8 * (1+(16+(1+(1+0))))+0)))+(1+3)))+(((1+(1+(1+(20+1))))+((1+((3+(9 * 3+0))+(9 * (1+(16+(1+(1+0))))+0)))+(1+3)))+0)))))))))) (st HS LK w os) vs5 (st P0 G1 w os):=(.cons (ad7 w os) (.cons (ad8 w os) (.cons (ad9 w os) (.cons (aea w os) (.cons (aeb w os) (.cons (aec w os) (.cons (aed w os) (.cons (aee w os) (.cons (aef w os) (.cons (aeg w os) .nil))))))))))
theorem R5 (w:World)(os:OsState):Xz pr w m0 ann c0 cE (1+((1+((1+((60+((((1+(1+(1+(20+1))))+((1+((3+(0 * 3+0))+(0 * (1+(16+(1+(1+0))))+0)))+(1+3)))+(((1+(1+(1+(20+1))))+((1+((3+(1 * 3+0))+(1 * (1+(16+(1+(1+0))))+0)))+(1+3)))+(((1+(1+(1+(20+1))))+((1+((3+(2 * 3+0))+(2 * (1+(16+(1+(1+0))))+0)))+(1+3)))+(((1+(1+(1+(20+1))))+((1+((3+(3 * 3+0))+(3 * (1+(16+(1+(1+0))))+0)))+(1+3)))+(((1+(1+(1+(20+1))))+((1+((3+(4 * 3+0))+(4 * (1+(16+(1+(1+0))))+0)))+(1+3)))+(((1+(1+(1+(20+1))))+((1+((3+(5 * 3+0))+(5 * (1+(16+(1+(1+0))))+0)))+(1+3)))+(((1+(1+(1+(20+1))))+((1+((3+(6 * 3+0))+(6 * (1+(20+(1+(1+0))))+0)))+(1+3)))+(((1+(1+(1+(20+1))))+((1+((3+(7 * 3+0))+(7 * (1+(16+(1+(1+0))))+0)))+(1+3)))+(((1+(1+(1+(20+1))))+((1+((3+(8 * 3+0))+(8 * (1+(16+(1+(1+0))))+0)))+(1+3)))+(((1+(1+(1+(20+1))))+((1+((3+(9 * 3+0))+(9 * (1+(16+(1+(1+0))))+0)))+(1+3)))+0))))))))))+0))+0))+0))+7)) (exec t5 env) (st H4 k4 w os) (st H5 k5 w os) .next p5 :=
 Tc (d:=d5) (s1:=⟨(H4 w.params).push { cls:=.type "dict",data:=.dict #[] },#[],drawn,k4,os⟩) (s2:=st HS LK w os) (s3:=st P0 G1 w os) (vs:=vs5) rfl rfl (Nat.le_of_ble_eq_true (by kernel_rfl)) (GN (by kernel_rfl)) (fun K H gd lv pos=>⟨pos,1,Nat.le_refl _,by kernel_rfl⟩) (fun K H gd lv pos=>⟨dp5,60,Nat.le_refl _,by kernel_rfl⟩) (C5 w os) (fun K H gd lv pos=>⟨7,Nat.le_refl _,by kernel_rfl⟩)
theorem g5 (w:World)(os:OsState):segRun treeTable pr w m0 ann 1 1405 (st H4 k4 w os) (pieceOf t5 env cE p4 fr)=some (.next,st H5 k5 w os,cE,p5):=(R5 w os).piece
theorem aeh (w:World)(os:OsState):RT pr w m0 ann c0 cE ((1+(1+(1+(20+1))))+((1+((3+(0 * 3+0))+(0 * (1+(16+(1+(1+0))))+0)))+(1+3))) (dictSet d6 (.ref abi) abj) (st Ie LL w os) (st Ig Fl w os) ():=by
 refine fO (P:=fun w=>RT pr w m0 ann c0 cE ((1+(1+(1+(20+1))))+((1+((3+(0 * 3+0))+(0 * (1+(16+(1+(1+0))))+0)))+(1+3))) (dictSet d6 (.ref abi) abj) (st Ie LL w os) (st Ig Fl w os) ()) (fun w b=>?_) w;refine gA (h:=th (w.withFollow rw b).params "G" 3) (s1:=st Ie Fl (w.withFollow rw b) os) ?_ (eY (es:=adZ (w.withFollow rw b).params) (n:=abh) (fun K H gd lv pos=>⟨pos,1,Nat.le_refl _,by kernel_rfl⟩) (by kernel_rfl) ?_ (fun K H gd lv pos=>⟨pos,3,Nat.le_refl _,by kernel_rfl⟩) ?_ (fun K H gd lv pos=>⟨pos,1,Nat.le_refl _,by kernel_rfl⟩) ?_) (fun K H gd lv pos=>⟨pos,3,Nat.le_refl _,by kernel_rfl⟩)
 ·unfold pyHash pyHashByItsType;dsimp only;refine RT.bind (a:=()) (s1:=st Ie LL (w.withFollow rw b) os) (fun K H gd lv pos=>⟨pos,1,Nat.le_refl _,by kernel_rfl⟩) ?_;refine RT.bind (a:=some (.builtin "tuple.__hash__")) (s1:=st Ie LL (w.withFollow rw b) os) (fun K H gd lv pos=>⟨pos,1,Nat.le_refl _,by kernel_rfl⟩) ?_;rw[if_neg (by decide)];refine RT.bind (a:=some (.builtin "tuple.__hash__")) (s1:=st Ie LL (w.withFollow rw b) os) (fun K H gd lv pos=>⟨pos,1,Nat.le_refl _,by kernel_rfl⟩) ?_;rw[if_neg (by decide)];refine RT.bind (a:=some (.int (Builtin.Tuple.tupleHashOf [PyData.keyHash (w.withFollow rw b).params "G",hashInt 3]) (LL+2))) (s1:=st Ie Fl (w.withFollow rw b) os) (fun K H gd lv pos=>⟨pos,20,(by decide:20<=20),by cases b <;> kernel_rfl⟩) ?_;exact bL _
 ·exact aS
 ·exact aS
 ·exact aS
theorem aei (w:World)(os:OsState):RT pr w m0 ann c0 cE ((1+(1+(1+(20+1))))+((1+((3+(1 * 3+0))+(1 * (1+(20+(1+(1+0))))+0)))+(1+3))) (dictSet d6 (.ref abl) abm) (st Ig Fl w os) (st Ih Fm w os) ():=by
 refine fO (P:=fun w=>RT pr w m0 ann c0 cE ((1+(1+(1+(20+1))))+((1+((3+(1 * 3+0))+(1 * (1+(20+(1+(1+0))))+0)))+(1+3))) (dictSet d6 (.ref abl) abm) (st Ig Fl w os) (st Ih Fm w os) ()) (fun w b=>?_) w;refine gA (h:=th (w.withFollow rw b).params "G" 2) (s1:=st Ig Fm (w.withFollow rw b) os) ?_ (eY (es:=ad0 (w.withFollow rw b).params) (n:=abk) (fun K H gd lv pos=>⟨pos,1,Nat.le_refl _,by kernel_rfl⟩) (by kernel_rfl) ?_ (fun K H gd lv pos=>⟨pos,3,Nat.le_refl _,by kernel_rfl⟩) ?_ (fun K H gd lv pos=>⟨pos,1,Nat.le_refl _,by kernel_rfl⟩) ?_) (fun K H gd lv pos=>⟨pos,3,Nat.le_refl _,by kernel_rfl⟩)
 ·unfold pyHash pyHashByItsType;dsimp only;refine RT.bind (a:=()) (s1:=st Ig Fl (w.withFollow rw b) os) (fun K H gd lv pos=>⟨pos,1,Nat.le_refl _,by kernel_rfl⟩) ?_;refine RT.bind (a:=some (.builtin "tuple.__hash__")) (s1:=st Ig Fl (w.withFollow rw b) os) (fun K H gd lv pos=>⟨pos,1,Nat.le_refl _,by kernel_rfl⟩) ?_;rw[if_neg (by decide)];refine RT.bind (a:=some (.builtin "tuple.__hash__")) (s1:=st Ig Fl (w.withFollow rw b) os) (fun K H gd lv pos=>⟨pos,1,Nat.le_refl _,by kernel_rfl⟩) ?_;rw[if_neg (by decide)];refine RT.bind (a:=some (.int (Builtin.Tuple.tupleHashOf [PyData.keyHash (w.withFollow rw b).params "G",hashInt 2]) (Fl+2))) (s1:=st Ig Fm (w.withFollow rw b) os) (fun K H gd lv pos=>⟨pos,20,(by decide:20<=20),by cases b <;> kernel_rfl⟩) ?_;exact bL _
 ·exact(af (rfl) aS)
 ·exact(af ((fun K H gd lv pos=>⟨pos,3,Nat.le_refl _,by kernel_rfl⟩)) aS)
 ·exact(af ((fun K H gd lv pos=>⟨pos,20,(by decide:20<=20),by cases b <;> kernel_rfl⟩)) aS)
theorem aej (w:World)(os:OsState):RT pr w m0 ann c0 cE ((1+(1+(1+(20+1))))+((1+((3+(2 * 3+0))+(2 * (1+(16+(1+(1+0))))+0)))+(1+3))) (dictSet d6 (.ref abo) abp) (st Ih Fm w os) (st Ii Fn w os) ():=by
 refine fO (P:=fun w=>RT pr w m0 ann c0 cE ((1+(1+(1+(20+1))))+((1+((3+(2 * 3+0))+(2 * (1+(16+(1+(1+0))))+0)))+(1+3))) (dictSet d6 (.ref abo) abp) (st Ih Fm w os) (st Ii Fn w os) ()) (fun w b=>?_) w;refine gA (h:=th (w.withFollow rw b).params "D" 2) (s1:=st Ih Fn (w.withFollow rw b) os) ?_ (eY (es:=ad1 (w.withFollow rw b).params) (n:=abn) (fun K H gd lv pos=>⟨pos,1,Nat.le_refl _,by kernel_rfl⟩) (by kernel_rfl) ?_ (fun K H gd lv pos=>⟨pos,3,Nat.le_refl _,by kernel_rfl⟩) ?_ (fun K H gd lv pos=>⟨pos,1,Nat.le_refl _,by kernel_rfl⟩) ?_) (fun K H gd lv pos=>⟨pos,3,Nat.le_refl _,by kernel_rfl⟩)
 ·unfold pyHash pyHashByItsType;dsimp only;refine RT.bind (a:=()) (s1:=st Ih Fm (w.withFollow rw b) os) (fun K H gd lv pos=>⟨pos,1,Nat.le_refl _,by kernel_rfl⟩) ?_;refine RT.bind (a:=some (.builtin "tuple.__hash__")) (s1:=st Ih Fm (w.withFollow rw b) os) (fun K H gd lv pos=>⟨pos,1,Nat.le_refl _,by kernel_rfl⟩) ?_;rw[if_neg (by decide)];refine RT.bind (a:=some (.builtin "tuple.__hash__")) (s1:=st Ih Fm (w.withFollow rw b) os) (fun K H gd lv pos=>⟨pos,1,Nat.le_refl _,by kernel_rfl⟩) ?_;rw[if_neg (by decide)];refine RT.bind (a:=some (.int (Builtin.Tuple.tupleHashOf [PyData.keyHash (w.withFollow rw b).params "D",hashInt 2]) (Fm+2))) (s1:=st Ih Fn (w.withFollow rw b) os) (fun K H gd lv pos=>⟨pos,20,(by decide:20<=20),by cases b <;> kernel_rfl⟩) ?_;exact bL _
 ·exact(af (rfl) (af (rfl) aS))
 ·exact(af ((fun K H gd lv pos=>⟨pos,3,Nat.le_refl _,by kernel_rfl⟩)) (af ((fun K H gd lv pos=>⟨pos,3,Nat.le_refl _,by kernel_rfl⟩)) aS))
 ·exact(af ((fun K H gd lv pos=>⟨pos,16,(by decide:16<=16),by cases b <;> kernel_rfl⟩)) (af ((fun K H gd lv pos=>⟨pos,16,(by decide:16<=16),by cases b <;> kernel_rfl⟩)) aS))
theorem aek (w:World)(os:OsState):RT pr w m0 ann c0 cE ((1+(1+(1+(20+1))))+((1+((3+(3 * 3+0))+(3 * (1+(16+(1+(1+0))))+0)))+(1+3))) (dictSet d6 (.ref abr) abt) (st Ii Fn w os) (st Wo Q4 w os) ():=by
 refine fO (P:=fun w=>RT pr w m0 ann c0 cE ((1+(1+(1+(20+1))))+((1+((3+(3 * 3+0))+(3 * (1+(16+(1+(1+0))))+0)))+(1+3))) (dictSet d6 (.ref abr) abt) (st Ii Fn w os) (st Wo Q4 w os) ()) (fun w b=>?_) w;refine gA (h:=th (w.withFollow rw b).params "R" 3) (s1:=st Ii Q4 (w.withFollow rw b) os) ?_ (eY (es:=ad2 (w.withFollow rw b).params) (n:=abq) (fun K H gd lv pos=>⟨pos,1,Nat.le_refl _,by kernel_rfl⟩) (by kernel_rfl) ?_ (fun K H gd lv pos=>⟨pos,3,Nat.le_refl _,by kernel_rfl⟩) ?_ (fun K H gd lv pos=>⟨pos,1,Nat.le_refl _,by kernel_rfl⟩) ?_) (fun K H gd lv pos=>⟨pos,3,Nat.le_refl _,by kernel_rfl⟩)
 ·unfold pyHash pyHashByItsType;dsimp only;refine RT.bind (a:=()) (s1:=st Ii Fn (w.withFollow rw b) os) (fun K H gd lv pos=>⟨pos,1,Nat.le_refl _,by kernel_rfl⟩) ?_;refine RT.bind (a:=some (.builtin "tuple.__hash__")) (s1:=st Ii Fn (w.withFollow rw b) os) (fun K H gd lv pos=>⟨pos,1,Nat.le_refl _,by kernel_rfl⟩) ?_;rw[if_neg (by decide)];refine RT.bind (a:=some (.builtin "tuple.__hash__")) (s1:=st Ii Fn (w.withFollow rw b) os) (fun K H gd lv pos=>⟨pos,1,Nat.le_refl _,by kernel_rfl⟩) ?_;rw[if_neg (by decide)];refine RT.bind (a:=some (.int (Builtin.Tuple.tupleHashOf [PyData.keyHash (w.withFollow rw b).params "R",hashInt 3]) (Fn+2))) (s1:=st Ii Q4 (w.withFollow rw b) os) (fun K H gd lv pos=>⟨pos,20,(by decide:20<=20),by cases b <;> kernel_rfl⟩) ?_;exact bL _
 ·exact(af (rfl) (af (rfl) (af (rfl) aS)))
 ·exact(af ((fun K H gd lv pos=>⟨pos,3,Nat.le_refl _,by kernel_rfl⟩)) (af ((fun K H gd lv pos=>⟨pos,3,Nat.le_refl _,by kernel_rfl⟩)) (af ((fun K H gd lv pos=>⟨pos,3,Nat.le_refl _,by kernel_rfl⟩)) aS)))
 ·exact(af ((fun K H gd lv pos=>⟨pos,16,(by decide:16<=16),by cases b <;> kernel_rfl⟩)) (af ((fun K H gd lv pos=>⟨pos,16,(by decide:16<=16),by cases b <;> kernel_rfl⟩)) (af ((fun K H gd lv pos=>⟨pos,16,(by decide:16<=16),by cases b <;> kernel_rfl⟩)) aS)))
theorem C6 (w:World)(os:OsState):Puts pr w m0 ann c0 cE d6 (((1+(1+(1+(20+1))))+((1+((3+(0 * 3+0))+(0 * (1+(16+(1+(1+0))))+0)))+(1+3)))+(((1+(1+(1+(20+1))))+((1+((3+(1 * 3+0))+(1 * (1+(20+(1+(1+0))))+0)))+(1+3)))+(((1+(1+(1+(20+1))))+((1+((3+(2 * 3+0))+(2 * (1+(16+(1+(1+0))))+0)))+(1+3)))+(((1+(1+(1+(20+1))))+((1+((3+(3 * 3+0))+(3 * (1+(16+(1+(1+0))))+0)))+(1+3)))+0)))) (st Ie LL w os) vs6 (st Wo Q4 w os):=(.cons (aeh w os) (.cons (aei w os) (.cons (aej w os) (.cons (aek w os) .nil))))
theorem R6 (w:World)(os:OsState):Xz pr w m0 ann c0 cE (1+((1+((1+((24+((((1+(1+(1+(20+1))))+((1+((3+(0 * 3+0))+(0 * (1+(16+(1+(1+0))))+0)))+(1+3)))+(((1+(1+(1+(20+1))))+((1+((3+(1 * 3+0))+(1 * (1+(20+(1+(1+0))))+0)))+(1+3)))+(((1+(1+(1+(20+1))))+((1+((3+(2 * 3+0))+(2 * (1+(16+(1+(1+0))))+0)))+(1+3)))+(((1+(1+(1+(20+1))))+((1+((3+(3 * 3+0))+(3 * (1+(16+(1+(1+0))))+0)))+(1+3)))+0))))+0))+0))+0))+7)) (exec t6 env) (st H5 k5 w os) (st H6 k6 w os) .next p6 :=
 Tc (d:=d6) (s1:=⟨(H5 w.params).push { cls:=.type "dict",data:=.dict #[] },#[],drawn,k5,os⟩) (s2:=st Ie LL w os) (s3:=st Wo Q4 w os) (vs:=vs6) rfl rfl (Nat.le_of_ble_eq_true (by kernel_rfl)) (GN (by kernel_rfl)) (fun K H gd lv pos=>⟨pos,1,Nat.le_refl _,by kernel_rfl⟩) (fun K H gd lv pos=>⟨dp6,24,Nat.le_refl _,by kernel_rfl⟩) (C6 w os) (fun K H gd lv pos=>⟨7,Nat.le_refl _,by kernel_rfl⟩)
theorem g6 (w:World)(os:OsState):segRun treeTable pr w m0 ann 1 299 (st H5 k5 w os) (pieceOf t6 env cE p5 fr)=some (.next,st H6 k6 w os,cE,p6):=(R6 w os).piece
theorem g7 (w:World)(os:OsState):segRun treeTable pr w m0 ann 1 n7 (st H6 k6 w os) (piecesOf s7 env cE p6 fr)=some (.next,st H7 k7 w os,cE,p7):=fO (P:=fun w=>segRun treeTable pr w m0 ann 1 n7 (st H6 k6 w os) (piecesOf s7 env cE p6 fr)=some (.next,st H7 k7 w os,cE,p7)) (fun w b=>by cases b <;> kernel_rfl) w
theorem g8 (w:World)(os:OsState):segRun treeTable pr w m0 ann 1 n8 (st H7 k7 w os) (piecesOf s8 env cE p7 fr)=some (.next,st H8 k8 w os,cE,p8):=fO (P:=fun w=>segRun treeTable pr w m0 ann 1 n8 (st H7 k7 w os) (piecesOf s8 env cE p7 fr)=some (.next,st H8 k8 w os,cE,p8)) (fun w b=>by cases b <;> kernel_rfl) w
theorem g9 (w:World)(os:OsState):segRun treeTable pr w m0 ann 1 n9 (st H8 k8 w os) (piecesOf s9 env cE p8 fr)=some (.next,st H9 k9 w os,cE,p9):=fO (P:=fun w=>segRun treeTable pr w m0 ann 1 n9 (st H8 k8 w os) (piecesOf s9 env cE p8 fr)=some (.next,st H9 k9 w os,cE,p9)) (fun w b=>by cases b <;> kernel_rfl) w
theorem g10 (w:World)(os:OsState):segRun treeTable pr w m0 ann 1 n10 (st H9 k9 w os) (piecesOf qh env cE p9 fr)=some (.next,st Vj k10 w os,cE,Zf):=fO (P:=fun w=>segRun treeTable pr w m0 ann 1 n10 (st H9 k9 w os) (piecesOf qh env cE p9 fr)=some (.next,st Vj k10 w os,cE,Zf)) (fun w b=>by cases b <;> kernel_rfl) w
theorem g11 (w:World)(os:OsState):segRun treeTable pr w m0 ann 1 yF (st Vj k10 w os) (piecesOf yG env cE Zf fr)=some (.next,st H11 k11 w os,cE,p11):=fO (P:=fun w=>segRun treeTable pr w m0 ann 1 yF (st Vj k10 w os) (piecesOf yG env cE Zf fr)=some (.next,st H11 k11 w os,cE,p11)) (fun w b=>by cases b <;> kernel_rfl) w
theorem fin (w os):topRun treeTable pr w m0 ann n12 (st H11 k11 w os) ⟨doneF .next,cE,p11,fr⟩=some (st BD k12 w os):=by kernel_rfl
theorem r11 (w:World)(os:OsState):topRun treeTable pr w m0 ann (yF+n12) (st Vj k10 w os) (restOf (yG++[]) env cE Zf fr)=some (st BD k12 w os):=piece_app (tb:=treeTable) (p:=pr) (w:=w) (n₀:=m0) (ann:=ann) (env:=env) (q:=c0) (n:=yF) (N:=n12) (s:=(st Vj k10 w os)) (s':=(st H11 k11 w os)) (r:=(st BD k12 w os)) (l:=yG) (rest:=[]) (c:=cE) (pos:=Zf) (p':=p11) (g11 w os) (piece_nil (fin w os))
theorem r10 (w:World)(os:OsState):topRun treeTable pr w m0 ann (n10+(yF+n12)) (st H9 k9 w os) (restOf (qh++(yG++[])) env cE p9 fr)=some (st BD k12 w os):=piece_app (tb:=treeTable) (p:=pr) (w:=w) (n₀:=m0) (ann:=ann) (env:=env) (q:=c0) (n:=n10) (N:=(yF+n12)) (s:=(st H9 k9 w os)) (s':=(st Vj k10 w os)) (r:=(st BD k12 w os)) (l:=qh) (rest:=(yG++[])) (c:=cE) (pos:=p9) (p':=Zf) (g10 w os) (r11 w os)
theorem r9 (w:World)(os:OsState):topRun treeTable pr w m0 ann (n9+(n10+(yF+n12))) (st H8 k8 w os) (restOf (s9++(qh++(yG++[]))) env cE p8 fr)=some (st BD k12 w os):=piece_app (tb:=treeTable) (p:=pr) (w:=w) (n₀:=m0) (ann:=ann) (env:=env) (q:=c0) (n:=n9) (N:=(n10+(yF+n12))) (s:=(st H8 k8 w os)) (s':=(st H9 k9 w os)) (r:=(st BD k12 w os)) (l:=s9) (rest:=(qh++(yG++[]))) (c:=cE) (pos:=p8) (p':=p9) (g9 w os) (r10 w os)
theorem r8 (w:World)(os:OsState):topRun treeTable pr w m0 ann (n8+(n9+(n10+(yF+n12)))) (st H7 k7 w os) (restOf (s8++(s9++(qh++(yG++[])))) env cE p7 fr)=some (st BD k12 w os):=piece_app (tb:=treeTable) (p:=pr) (w:=w) (n₀:=m0) (ann:=ann) (env:=env) (q:=c0) (n:=n8) (N:=(n9+(n10+(yF+n12)))) (s:=(st H7 k7 w os)) (s':=(st H8 k8 w os)) (r:=(st BD k12 w os)) (l:=s8) (rest:=(s9++(qh++(yG++[])))) (c:=cE) (pos:=p7) (p':=p8) (g8 w os) (r9 w os)
theorem r7 (w:World)(os:OsState):topRun treeTable pr w m0 ann (n7+(n8+(n9+(n10+(yF+n12))))) (st H6 k6 w os) (restOf (s7++(s8++(s9++(qh++(yG++[]))))) env cE p6 fr)=some (st BD k12 w os):=piece_app (tb:=treeTable) (p:=pr) (w:=w) (n₀:=m0) (ann:=ann) (env:=env) (q:=c0) (n:=n7) (N:=(n8+(n9+(n10+(yF+n12))))) (s:=(st H6 k6 w os)) (s':=(st H7 k7 w os)) (r:=(st BD k12 w os)) (l:=s7) (rest:=(s8++(s9++(qh++(yG++[]))))) (c:=cE) (pos:=p6) (p':=p7) (g7 w os) (r8 w os)
theorem r6 (w:World)(os:OsState):topRun treeTable pr w m0 ann (299+(n7+(n8+(n9+(n10+(yF+n12)))))) (st H5 k5 w os) (restOf (t6::(s7++(s8++(s9++(qh++(yG++[])))))) env cE p5 fr)=some (st BD k12 w os):=piece_cons (tb:=treeTable) (p:=pr) (w:=w) (n₀:=m0) (ann:=ann) (env:=env) (q:=c0) (n:=299) (N:=(n7+(n8+(n9+(n10+(yF+n12)))))) (s:=(st H5 k5 w os)) (s':=(st H6 k6 w os)) (r:=(st BD k12 w os)) (st:=t6) (rest:=(s7++(s8++(s9++(qh++(yG++[])))))) (c:=cE) (pos:=p5) (p':=p6) (g6 w os) (r7 w os)
theorem r5 (w:World)(os:OsState):topRun treeTable pr w m0 ann (1405+(299+(n7+(n8+(n9+(n10+(yF+n12))))))) (st H4 k4 w os) (restOf (t5::(t6::(s7++(s8++(s9++(qh++(yG++[]))))))) env cE p4 fr)=some (st BD k12 w os):=piece_cons (tb:=treeTable) (p:=pr) (w:=w) (n₀:=m0) (ann:=ann) (env:=env) (q:=c0) (n:=1405) (N:=(299+(n7+(n8+(n9+(n10+(yF+n12))))))) (s:=(st H4 k4 w os)) (s':=(st H5 k5 w os)) (r:=(st BD k12 w os)) (st:=t5) (rest:=(t6::(s7++(s8++(s9++(qh++(yG++[]))))))) (c:=cE) (pos:=p4) (p':=p5) (g5 w os) (r6 w os)
theorem r4 (w:World)(os:OsState):topRun treeTable pr w m0 ann (n4+(1405+(299+(n7+(n8+(n9+(n10+(yF+n12)))))))) (st H3 k3 w os) (restOf (s4++(t5::(t6::(s7++(s8++(s9++(qh++(yG++[])))))))) env cE p3 fr)=some (st BD k12 w os):=piece_app (tb:=treeTable) (p:=pr) (w:=w) (n₀:=m0) (ann:=ann) (env:=env) (q:=c0) (n:=n4) (N:=(1405+(299+(n7+(n8+(n9+(n10+(yF+n12)))))))) (s:=(st H3 k3 w os)) (s':=(st H4 k4 w os)) (r:=(st BD k12 w os)) (l:=s4) (rest:=(t5::(t6::(s7++(s8++(s9++(qh++(yG++[])))))))) (c:=cE) (pos:=p3) (p':=p4) (g4 w os) (r5 w os)
theorem r3 (w:World)(os:OsState):topRun treeTable pr w m0 ann (n3+(n4+(1405+(299+(n7+(n8+(n9+(n10+(yF+n12))))))))) (st H2 k2 w os) (restOf (s3++(s4++(t5::(t6::(s7++(s8++(s9++(qh++(yG++[]))))))))) env cE p2 fr)=some (st BD k12 w os):=piece_app (tb:=treeTable) (p:=pr) (w:=w) (n₀:=m0) (ann:=ann) (env:=env) (q:=c0) (n:=n3) (N:=(n4+(1405+(299+(n7+(n8+(n9+(n10+(yF+n12))))))))) (s:=(st H2 k2 w os)) (s':=(st H3 k3 w os)) (r:=(st BD k12 w os)) (l:=s3) (rest:=(s4++(t5::(t6::(s7++(s8++(s9++(qh++(yG++[]))))))))) (c:=cE) (pos:=p2) (p':=p3) (g3 w os) (r4 w os)
theorem hb:pr.main.body=(s3++(s4++(t5::(t6::(s7++(s8++(s9++(qh++(yG++[]))))))))):=by kernel_rfl
theorem r2 (w:World)(os:OsState):topRun treeTable pr w m0 ann (n2+(n3+(n4+(1405+(299+(n7+(n8+(n9+(n10+(yF+n12)))))))))) (st H1 k1 w os) ⟨denote treeTable cE,cE,p1,fr⟩=some (st BD k12 w os):=piece_block (tb:=treeTable) (p:=pr) (w:=w) (n₀:=m0) (ann:=ann) (env:=env) (q:=c0) (n:=n2) (N:=(n3+(n4+(1405+(299+(n7+(n8+(n9+(n10+(yF+n12)))))))))) (s:=(st H1 k1 w os)) (s':=(st H2 k2 w os)) (r:=(st BD k12 w os)) (b:=pr.main.body) (c:=cE) (pos:=p1) (p':=p2) (blk w os) ((congrArg (fun l=>topRun treeTable pr w m0 ann (n3+(n4+(1405+(299+(n7+(n8+(n9+(n10+(yF+n12))))))))) (st H2 k2 w os) (restOf l env cE p2 fr)) hb).trans (r3 w os))
theorem r1 (w:World)(os:OsState):topRun treeTable pr w m0 ann (n1+(n2+(n3+(n4+(1405+(299+(n7+(n8+(n9+(n10+(yF+n12))))))))))) ⟨boot_heap w.params,Array.mk [],boot_drawn,boot_toks,os⟩ (topStub pr)=some (st BD k12 w os):=go_top (tb:=treeTable) (p:=pr) (w:=w) (n₀:=m0) (ann:=ann) (n:=n1) (N:=n2+(n3+(n4+(1405+(299+(n7+(n8+(n9+(n10+(yF+n12)))))))))) (s:=⟨boot_heap w.params,Array.mk [],boot_drawn,boot_toks,os⟩) (s':=(st H1 k1 w os)) (r:=(st BD k12 w os)) (t:=topStub pr) (t':=⟨denote treeTable cE,cE,p1,fr⟩) (pre w os) (r2 w os)
noncomputable def view:Program:={ pr with main:={ pr.main with body:=[tp 1,tp 2,tp 3,tp 4,tp 5,tp 6,tp 8,tp 9,tp 10,tp 12,tp 13,tp 14,tp 15,tp 16,tp 17,tp 18,tp 20,tp 21,tp 22,tp 23,tp 24,tp 25,tp 26,tp 27,tp 28,tp 29,tp 31,tp 32,tp 33,tp 34,tp 35,tp 36,tp 38,tp 39,tp 40,tp 41,tp 42,tp 45,tp 46,tp 47,tp 48,tp 49,tp 50,tp 51,tp 52,tp 53,tp 54,tp 55,tp 56,tp 57,tp 58,tp 59,tp 60,tp 61,tp 62] } }
noncomputable def loose:List PySem.Str:=["NEXT_COUNTS","TWOFOLD_STEPS","GREAT_STEPS","begin_state","written"]
noncomputable def Wq:Addr:=198
noncomputable def TZ (P:Params):Frag:=(nat_lit 198,Dj P)::Zg P
noncomputable def abz:List Addr:=198::adr
theorem fit (P:Params):abz=(TZ P).map (·.1):=by kernel_rfl
noncomputable abbrev hook:Hook:=kHook TZ abz fit
theorem X1 (P:Params):(Zg P).lookup Wq=none:=by kernel_rfl
theorem abA (P:Params)(a:Addr)(o:Obj)(h:(Zg P).lookup a=some o):(TZ P).lookup a=some o:=by
 unfold TZ;rw[List.lookup_cons];cases e:a==(nat_lit 198) with
 |false=>exact h
 |true=>rw[eq_of_beq e]at h;exact absurd ((X1 P).symm.trans h) (fun z=>nomatch z)
theorem ael (P:Params)(h:Heap)(X:(Zg P).In h):CodeHd h 200 Wq:=⟨rp P,_,_,_,_,_,_,_,_,X 200 (rp P) (by kernel_rfl),rfl,rfl,rfl,rfl,rfl,rfl,rfl,rfl,by decide⟩
theorem aem {P:Params}{h:Heap}{mg:PySem.Str->Option Value}(X:(Zg P).In h)(G:h.Ns mainGlobals mg):L2.Lu (Zg P) mg (.ref 200) Wq:=⟨200,rfl,ael P,4,boot_o_4 P,mg_of X G (by kernel_rfl),by decide,by kernel_rfl,by kernel_rfl,by kernel_rfl,by kernel_rfl⟩
noncomputable def fuel:Nat:=4250
end Hd
end
namespace jU
open PySem L2
def top (i:Nat):Stmt:=PySem.Challenge.pw_noteworth_k25_what_is_written.main.body.getD i (.Pass ⟨0,0,0,0⟩)
abbrev jG:Stmt:=top 50
abbrev iB:Stmt:=top 58
abbrev lT:Stmt:=top 51
abbrev jH:Stmt:=top 52
abbrev qi:Stmt:=top 53
abbrev lU:Stmt:=top 54
abbrev iC:Stmt:=top 55
abbrev iD:Stmt:=top 56
abbrev fK:Stmt:=top 9
abbrev qj:Stmt:=top 5
abbrev jI:Stmt:=top 6
abbrev a9:Stmt:=top 25
abbrev lV:Stmt:=top 23
abbrev cg:Stmt:=top 24
abbrev fL:Stmt:=top 26
abbrev dM:Stmt:=top 22
abbrev gn:Stmt:=top 28
abbrev fM:Stmt:=top 29
abbrev dN:Stmt:=top 27
abbrev wR:Stmt:=top 20
abbrev qk:Stmt:=top 33
abbrev cR:Stmt:=top 34
abbrev dO:Stmt:=top 39
abbrev bH:Stmt:=top 40
abbrev qm:Stmt:=top 42
abbrev eR:Stmt:=top 19
abbrev dP:Stmt:=top 35
abbrev fN:Stmt:=top 36
abbrev gp:Stmt:=top 41
abbrev wU:Stmt:=top 21
abbrev jJ:Stmt:=top 43
abbrev gq:Stmt:=top 45
abbrev jK:Stmt:=top 46
abbrev bh:Stmt:=top 57
abbrev jL:Stmt:=top 59
abbrev gr:Stmt:=top 48
abbrev gu:Stmt:=top 47
abbrev lW:Stmt:=top 49
abbrev jM:Stmt:=top 60
abbrev lX:Stmt:=top 61
abbrev Hf:Stmt:=top 62
theorem Nw:aF ["_law_cell"] ["_law_cell"] (ae jG):=⟨rfl,rfl,rfl,by lk,rfl,by lk,by lk⟩
theorem lj:aF ["_law_cell","_law_told","_law_k"] ["_law_cell"] (ae iB):=⟨rfl,rfl,rfl,by lk,rfl,by lk,by lk⟩
theorem jN:aF ["_law_line_here","_law_begin_here","_law_told","_law_now","_law_at","_law_kind"] ["_law_line_here","_law_begin_here"] (ae lT):=⟨rfl,rfl,rfl,by lk,rfl,by lk,by lk⟩
theorem jW:aF ["_law_line_here","_law_begin_here","_law_told","_law_now","_law_sign"] ["_law_line_here","_law_begin_here"] (ae jH):=⟨rfl,rfl,rfl,by lk,rfl,by lk,by lk⟩
theorem lY:aF ["_law_line_here","_law_told","_law_low","_law_high","_law_rest","_law_behind","_law_after","_law_left","_law_right"] ["_law_line_here","_law_told","_law_low","_law_high"] (ae qi):=⟨rfl,rfl,rfl,by lk,rfl,by lk,by lk⟩
theorem gv:aF ["_law_line_here","_law_begin_here","_law_told","_law_three_here","_law_left","_law_low","_law_high"] ["_law_line_here","_law_begin_here"] (ae lU):=⟨rfl,rfl,rfl,by lk,rfl,by lk,by lk⟩
theorem gw:aF ["_law_line_here","_law_begin_here","_law_k","_law_found","_law_low","_law_high"] ["_law_line_here","_law_begin_here"] (ae iC):=⟨rfl,rfl,rfl,by lk,rfl,by lk,by lk⟩
theorem lr:aF ["_law_line_here","_law_begin_here","_law_told","_law_sign","_law_worth"] ["_law_line_here","_law_begin_here"] (ae iD):=⟨rfl,rfl,rfl,by lk,rfl,by lk,by lk⟩
theorem i0:aF ["sign","prices","dot","dark","measure"] ["sign","prices"] (ae fK):=⟨rfl,rfl,rfl,by lk,rfl,by lk,by lk⟩
theorem T1:aF ["sign"] ["sign"] (ae qj):=⟨rfl,rfl,rfl,by lk,rfl,by lk,by lk⟩
theorem Nx:aF ["sign"] ["sign"] (ae jI):=⟨rfl,rfl,rfl,by lk,rfl,by lk,by lk⟩
theorem lZ:aF ["state"] ["state"] (ae a9):=⟨rfl,rfl,rfl,by lk,rfl,by lk,by lk⟩
theorem Hg:aF ["state","left","count"] ["state"] (ae lV):=⟨rfl,rfl,rfl,by lk,rfl,by lk,by lk⟩
theorem rq:aF ["state"] ["state"] (ae cg):=⟨rfl,rfl,rfl,by lk,rfl,by lk,by lk⟩
theorem Fo:aF ["state","kind","worth"] ["state","kind","worth"] (ae fL):=⟨rfl,rfl,rfl,by lk,rfl,by lk,by lk⟩
theorem yH:aF ["state","kind","worth"] ["state","kind","worth"] (ae dM):=⟨rfl,rfl,rfl,by lk,rfl,by lk,by lk⟩
theorem Jv:aF ["kind","count","worth"] ["kind","count","worth"] (ae gn):=⟨rfl,rfl,rfl,by lk,rfl,by lk,by lk⟩
theorem i3:aF ["state","kind","worth","count","last","left"] ["state","kind","worth"] (ae fM):=⟨rfl,rfl,rfl,by lk,rfl,by lk,by lk⟩
theorem yI:aF ["state","kind","worth"] ["state","kind","worth"] (ae dN):=⟨rfl,rfl,rfl,by lk,rfl,by lk,by lk⟩
theorem Wr:aF ["state","sign","worth"] ["state","sign","worth"] (ae wR):=⟨rfl,rfl,rfl,by lk,rfl,by lk,by lk⟩
theorem oU:aF ["state","signs","worth","prices","found","sign","cost","to"] ["state","signs","worth","prices"] (ae qk):=⟨rfl,rfl,rfl,by lk,rfl,by lk,by lk⟩
theorem wV:aF ["state","prices"] ["state","prices"] (ae cR):=⟨rfl,rfl,rfl,by lk,rfl,by lk,by lk⟩
theorem yJ:aF ["ways","state","cost","line"] ["ways","state","cost","line"] (ae dO):=⟨rfl,rfl,rfl,by lk,rfl,by lk,by lk⟩
theorem aM:aF ["ways","prices","found","again","state","cost","line","sign","more","to"] ["ways","prices"] (ae bH):=⟨rfl,rfl,rfl,by lk,rfl,by lk,by lk⟩
theorem T2:aF ["ways"] ["ways"] (ae qm):=⟨rfl,rfl,rfl,by lk,rfl,by lk,by lk⟩
theorem DE:aF ["begin"] ["begin"] (ae eR):=⟨rfl,rfl,rfl,by lk,rfl,by lk,by lk⟩
theorem yK:aF ["tone"] ["tone"] (ae dP):=⟨rfl,rfl,rfl,by lk,rfl,by lk,by lk⟩
theorem lB:aF ["state","wish","prices","tone","worth"] ["state","wish","prices"] (ae fN):=⟨rfl,rfl,rfl,by lk,rfl,by lk,by lk⟩
theorem cU:aF ["ways","wish","prices","found","state","cost","line","sign","more","to"] ["ways","wish","prices"] (ae gp):=⟨rfl,rfl,rfl,by lk,rfl,by lk,by lk⟩
theorem Ws:aF ["state"] ["state"] (ae wU):=⟨rfl,rfl,rfl,by lk,rfl,by lk,by lk⟩
theorem fe:aF ["wishes","prices","begin","ways","paper","wish","endings","cost","line"] ["wishes","prices","begin"] (ae jJ):=⟨rfl,rfl,rfl,by lk,rfl,by lk,by lk⟩
theorem Jw:aF ["_law_script","_law_k"] ["_law_script","_law_k"] (ae gq):=⟨rfl,rfl,rfl,by lk,rfl,by lk,by lk⟩
theorem rA:aF ["_law_seed","_law_k","_law_one","_law_two"] ["_law_seed","_law_k"] (ae jK):=⟨rfl,rfl,rfl,by lk,rfl,by lk,by lk⟩
theorem cS:aF ["_law_script","_law_at","_law_many","_law_told","_law_k","_law_number","_law_worth","_law_tone"] ["_law_script","_law_at","_law_many"] (ae bh):=⟨rfl,rfl,rfl,by lk,rfl,by lk,by lk⟩
theorem ff:aF ["_law_line_here","_law_prices_here","_law_total","_law_sign","_law_cost"] ["_law_line_here","_law_prices_here"] (ae jL):=⟨rfl,rfl,rfl,by lk,rfl,by lk,by lk⟩
theorem tM:aF ["_law_number","_law_kind"] ["_law_number"] (ae gr):=⟨rfl,rfl,rfl,by lk,rfl,by lk,by lk⟩
theorem gE:aF ["_law_script","_law_at","_law_many","_law_seed","_law_left","_law_row"] ["_law_script","_law_at","_law_many"] (ae gu):=⟨rfl,rfl,rfl,by lk,rfl,by lk,by lk⟩
theorem Q5:aF ["_law_script","_law_at","_law_many"] ["_law_script","_law_at","_law_many"] (ae lW):=⟨rfl,rfl,rfl,by lk,rfl,by lk,by lk⟩
theorem Ny:aF ["_law_found"] ["_law_found"] (ae jM):=⟨rfl,rfl,rfl,by lk,rfl,by lk,by lk⟩
theorem Hh:aF ["_law_line_here","_law_sign"] ["_law_line_here"] (ae lX):=⟨rfl,rfl,rfl,by lk,rfl,by lk,by lk⟩
theorem mY:aF ["_law_script","_law_begin_here","_law_costs","_law_size","_law_line_here","_law_wishes_here","_law_handed","_law_found"] ["_law_script"] (ae Hf):=⟨rfl,rfl,rfl,by lk,rfl,by lk,by lk⟩
theorem rB:(["state","cost","line","ways"]:List Str).Nodup:=by lk
theorem tN:(["kind","tone"]:List Str).Nodup:=by lk
theorem tO:(["state","way","wishes","prices","begin","ways","paper","wish","endings","cost","line"]:List Str).Nodup:=by lk
theorem DF:(["_law_k","_law_script","_law_at","_law_many","_law_seed","_law_left","_law_row"]:List Str).Nodup:=by lk
theorem LM:(["_law_number","_law_script","_law_at","_law_many"]:List Str).Nodup:=by lk
def cV:List (Int×Pos):=[(1,⟨243,22,243,23⟩),(2,⟨243,25,243,26⟩),(1,⟨243,28,243,29⟩),(3,⟨243,31,243,32⟩),(1,⟨243,34,243,35⟩),(2,⟨243,37,243,38⟩),(2,⟨243,40,243,41⟩)]
set_option genInjectivity false in
set_option genSizeOf false in
structure Adr where
 iE:Addr
 wW:FuncData
 fX:Addr
 rC:FuncData
 jX:Addr
 DG:FuncData
 iF:Addr
 wX:FuncData
 mZ:Addr
 Jx:FuncData
 jY:Addr
 DH:FuncData
 fY:Addr
 rD:FuncData
 fZ:Addr
 rE:FuncData
 ei:Addr
 m5:FuncData
 m6:Addr
 Jy:FuncData
 iG:Addr
 wY:FuncData
 aY:Addr
 ej:FuncData
 jZ:Addr
 DI:FuncData
 bN:Addr
 gF:FuncData
 eo:Addr
 m7:FuncData
 cL:Addr
 j0:FuncData
 fg:Addr
 oV:FuncData
 eA:Addr
 m8:FuncData
 cM:Addr
 j1:FuncData
 rF:Addr
 Nz:FuncData
 m9:Addr
 Jz:FuncData
 cx:Addr
 jm:FuncData
 cN:Addr
 j2:FuncData
 a5:Addr
 fh:FuncData
 nc:Addr
 JA:FuncData
 c5:Addr
 i4:FuncData
 gG:Addr
 eN:Tok
 cO:Addr
 j3:FuncData
 eB:Addr
 ng:FuncData
 fi:Addr
 oW:FuncData
 rG:Addr
 NA:FuncData
 iH:Addr
 l5:FuncData
 nh:Addr
 ja:Tok
 fj:Addr
 oX:FuncData
 iI:Addr
 wZ:FuncData
 cQ:Addr
 j4:FuncData
 iJ:Addr
 xa:FuncData
 fk:Addr
 oY:FuncData
 fm:Addr
 oZ:FuncData
 j5:Addr
 DJ:FuncData
 iK:Addr
 xb:FuncData
 j6:Addr
 DK:FuncData
 DL:Addr
 T3:FuncData
 c6:Addr
 cy:Addr
 cz:Addr
 b0:Addr
 eC:Addr
 lu:Tok
 bI:Addr
 fT:Tok
 eZ:Tok
 cC:Tok
 cF:Addr
 bP:Addr
 cG:Addr
 cA:Addr
 cj:Addr
 ck:Addr
 cm:Addr
 eD:Addr
 dQ:Addr
 dR:Addr
 cW:Tok
 tQ:Addr
structure Txt (K:Frag)(w:World)(mg:Str->Option Value)(t:Adr):Prop where
 l6:kZ K "_law_begin" "_law_begin" jG t.iE t.wW
 xc:Binds K t.wW ["_law_cell"] []
 NB:mg "_law_begin"=some (.ref t.iE)
 j7:kZ K "_law_prices" "_law_prices" iB t.fX t.rC
 rH:Binds K t.rC ["_law_cell"] []
 LN:mg "_law_prices"=some (.ref t.fX)
 o3:kZ K "_law_base" "_law_base" lT t.jX t.DG
 DM:Binds K t.DG ["_law_line_here","_law_begin_here"] []
 Q6:mg "_law_base"=some (.ref t.jX)
 l8:kZ K "_law_three" "_law_three" jH t.iF t.wX
 xf:Binds K t.wX ["_law_line_here","_law_begin_here"] []
 NC:mg "_law_three"=some (.ref t.iF)
 tR:kZ K "_law_run" "_law_run" qi t.mZ t.Jx
 JB:Binds K t.Jx ["_law_line_here","_law_told","_law_low","_law_high"] []
 T4:mg "_law_run"=some (.ref t.mZ)
 j8:kZ K "_law_read" "_law_read" lU t.jY t.DH
 o4:Binds K t.DH ["_law_line_here","_law_begin_here"] []
 xg:mg "_law_read"=some (.ref t.jY)
 j9:kZ K "_law_firmed" "_law_firmed" iC t.fY t.rD
 rJ:Binds K t.rD ["_law_line_here","_law_begin_here"] []
 LO:mg "_law_firmed"=some (.ref t.fY)
 iL:kZ K "_law_wishes" "_law_wishes" iD t.fZ t.rE
 ni:Binds K t.rE ["_law_line_here","_law_begin_here"] []
 yx:mg "_law_wishes"=some (.ref t.fZ)
 gH:kZ K "sign_price" "sign_price" fK t.ei t.m5
 nj:Binds K t.m5 ["sign","prices"] []
 Fp:mg "sign_price"=some (.ref t.ei)
 tS:kZ K "small" "small" qj t.m6 t.Jy
 JC:Binds K t.Jy ["sign"] []
 T5:mg "small"=some (.ref t.m6)
 l9:kZ K "parting" "parting" jI t.iG t.wY
 xh:Binds K t.wY ["sign"] []
 ND:mg "parting"=some (.ref t.iG)
 bO:kZ K "closes_by_right_note" "closes_by_right_note" a9 t.aY t.ej
 eE:Binds K t.ej ["state"] []
 ma:mg "closes_by_right_note"=some (.ref t.aY)
 ka:kZ K "closes" "closes" lV t.jZ t.DI
 o5:Binds K t.DI ["state"] []
 xi:mg "closes"=some (.ref t.jZ)
 cX:kZ K "closes_by_great" "closes_by_great" cg t.bN t.gF
 gI:Binds K t.gF ["state"] []
 rK:mg "closes_by_great"=some (.ref t.bN)
 gJ:kZ K "great_step" "great_step" fL t.eo t.m7
 nk:Binds K t.m7 ["state","kind","worth"] []
 Fq:mg "great_step"=some (.ref t.eo)
 fo:kZ K "twofold_step" "twofold_step" dM t.cL t.j0
 kb:Binds K t.j0 ["state","kind","worth"] []
 yL:mg "twofold_step"=some (.ref t.cL)
 jb:kZ K "told_last" "told_last" gn t.fg t.oV
 o6:Binds K t.oV ["kind","count","worth"] []
 JD:mg "told_last"=some (.ref t.fg)
 gK:kZ K "small_step" "small_step" fM t.eA t.m8
 nq:Binds K t.m8 ["state","kind","worth"] []
 Fs:mg "small_step"=some (.ref t.eA)
 fq:kZ K "parting_step" "parting_step" dN t.cM t.j1
 kc:Binds K t.j1 ["state","kind","worth"] []
 yM:mg "parting_step"=some (.ref t.cM)
 DN:kZ K "step" "step" wR t.rF t.Nz
 NF:Binds K t.Nz ["state","sign","worth"] []
 Wu:mg "step"=some (.ref t.rF)
 qo:kZ K "moves" "moves" qk t.m9 t.Jz
 BE:Binds K t.Jz ["state","signs","worth","prices"] []
 LQ:mg "moves"=some (.ref t.m9)
 eP:kZ K "parting_moves" "parting_moves" cR t.cx t.jm
 jn:Binds K t.jm ["state","prices"] []
 xj:mg "parting_moves"=some (.ref t.cx)
 dS:kZ K "keep_cheaper" "keep_cheaper" dO t.cN t.j2
 gL:Binds K t.j2 ["ways","state","cost","line"] []
 nS:mg "keep_cheaper"=some (.ref t.cN)
 bJ:kZ K "with_parting_signs" "with_parting_signs" bH t.a5 t.fh
 cY:Binds K t.fh ["ways","prices"] []
 ip:mg "with_parting_signs"=some (.ref t.a5)
 qp:kZ K "costs" "costs" qm t.nc t.JA
 BF:Binds K t.JA ["ways"] []
 LR:mg "costs"=some (.ref t.nc)
 eT:HB K "begin_state" "begin_state" eR t.c5 t.i4 (.ref t.gG)
 o7:Binds K t.i4 ["begin"] [.int 3 t.eN]
 lC:Binds K t.i4 ["begin"] []
 DO:mg "begin_state"=some (.ref t.c5)
 ft:kZ K "wished_signs" "wished_signs" dP t.cO t.j3
 kd:Binds K t.j3 ["tone"] []
 yN:mg "wished_signs"=some (.ref t.cO)
 gM:kZ K "wish_moves" "wish_moves" fN t.eB t.ng
 nr:Binds K t.ng ["state","wish","prices"] []
 Ft:mg "wish_moves"=some (.ref t.eB)
 jc:kZ K "with_wish" "with_wish" gp t.fi t.oW
 o8:Binds K t.oW ["ways","wish","prices"] []
 JE:mg "with_wish"=some (.ref t.fi)
 DP:kZ K "ends" "ends" wU t.rG t.NA
 NG:Binds K t.NA ["state"] []
 Wv:mg "ends"=some (.ref t.rG)
 jO:HB K "written" "written" jJ t.iH t.l5 (.ref t.nh)
 DQ:Binds K t.l5 ["wishes","prices","begin"] [.int 3 t.ja]
 xk:Binds K t.l5 ["wishes","prices","begin"] []
 NH:mg "written"=some (.ref t.iH)
 bf:kZ K "_law_cell_at" "_law_cell_at" gq t.fj t.oX
 bQ:Binds K t.oX ["_law_script","_law_k"] []
 b9:mg "_law_cell_at"=some (.ref t.fj)
 iM:kZ K "_law_mixed" "_law_mixed" jK t.iI t.wZ
 md:Binds K t.wZ ["_law_seed","_law_k"] []
 rL:mg "_law_mixed"=some (.ref t.iI)
 fu:kZ K "_law_any_wishes" "_law_any_wishes" bh t.cQ t.j4
 ke:Binds K t.j4 ["_law_script","_law_at","_law_many"] []
 yO:mg "_law_any_wishes"=some (.ref t.cQ)
 me:kZ K "_law_price" "_law_price" jL t.iJ t.xa
 xm:Binds K t.xa ["_law_line_here","_law_prices_here"] []
 NI:mg "_law_price"=some (.ref t.iJ)
 jd:kZ K "_law_sign_by" "_law_sign_by" gr t.fk t.oY
 o9:Binds K t.oY ["_law_number"] []
 JF:mg "_law_sign_by"=some (.ref t.fk)
 je:kZ K "_law_numbers" "_law_numbers" gu t.fm t.oZ
 pb:Binds K t.oZ ["_law_script","_law_at","_law_many"] []
 JG:mg "_law_numbers"=some (.ref t.fm)
 pd:kZ K "_law_line" "_law_line" lW t.j5 t.DJ
 DR:Binds K t.DJ ["_law_script","_law_at","_law_many"] []
 Q7:mg "_law_line"=some (.ref t.j5)
 jP:kZ K "_law_whole" "_law_whole" jM t.iK t.xb
 qr:Binds K t.xb ["_law_found"] []
 DS:mg "_law_whole"=some (.ref t.iK)
 pe:kZ K "_law_good" "_law_good" lX t.j6 t.DK
 DT:Binds K t.DK ["_law_line_here"] []
 Q8:mg "_law_good"=some (.ref t.j6)
 Qb:kZ K "law" "law" Hf t.DL t.T3
 X2:Binds K t.T3 ["_law_script"] []
 aen:mg "law"=some (.ref t.DL)
 Ww:mg "bool"=none
 Wx:mg "dict"=none
 DU:mg "int"=none
 eU:mg "isinstance"=none
 jo:mg "len"=none
 JH:mg "list"=none
 Zh:mg "max"=none
 T6:mg "min"=none
 mf:mg "range"=none
 Zi:mg "str"=none
 DV:mg "tuple"=none
 Zj:mg "zip"=none
 Fu:mg "SMALL_KINDS"=some (.ref t.c6)
 Fv:∀ H,dc K H t.c6 [.str "s",.str "d",.str "r"]
 yP:mg "PARTING_KINDS"=some (.ref t.cy)
 yQ:∀ H,dc K H t.cy [.str ".",.str "3",.str "2"]
 yR:mg "MEASURE_KINDS"=some (.ref t.cz)
 yS:∀ H,dc K H t.cz [.str "3",.str "2"]
 xn:mg "SOUNDING_KINDS"=some (.ref t.b0)
 mh:∀ H,dc K H t.b0 [.str "G",.str "D",.str "s",.str "d"]
 JI:mg "DARK_KINDS"=some (.ref t.eC)
 JJ:∀ H,dc K H t.eC [.str "D",.str "d"]
 LS:mg "REST_TONE"=some (.int (-1) t.lu)
 mi:mg "TWOFOLD_STATES"=some (.ref t.bI)
 mj:∀ H,dc K H t.bI [.str "2-",.str "2g",.str "2G"]
 nU:mg "TWOFOLD_BEGIN"=some (.str "2-" t.fT)
 lx:mg "THREEFOLD_BEGIN"=some (.str "3n0-" t.eZ)
 gN:mg "SHORTENED_FROM_AHEAD"=some (.str "3t0-" t.cC)
 Fw:mg "NEXT_COUNTS"=some (.ref t.cF)
 DW:KD K w t.cF [("0",.str "1"),("1",.str "2"),("2",.str "0")]
 yT:mg "TWOFOLD_STEPS"=some (.ref t.bP)
 xo:KP K w t.bP [(("s",1),.str "2-"),(("d",1),.str "2-"),(("r",1),.str "2-"),(("D",2),.str "2-"),(("R",2),.str "2-"),(("G",2),.str "2g"),(("G",3),.str "2G"),((".",0),.str "2-"),(("2",0),.str "2-"),(("3",0),.str "3n0-")]
 Fx:mg "GREAT_STEPS"=some (.ref t.cG)
 DX:KP K w t.cG [(("G",3),.str "3w0-"),(("G",2),.str "3h0-"),(("D",2),.str "3n0-"),(("R",3),.str "3n0-")]
 yU:mg "PARTING_SIGNS"=some (.ref t.cA)
 yV:∀ H,dc K H t.cA [.ref t.cj,.ref t.ck,.ref t.cm]
 tT:∀ H,dc K H t.cj [.str ".",.int 0]
 tU:∀ H,dc K H t.ck [.str "3",.int 0]
 tV:∀ H,dc K H t.cm [.str "2",.int 0]
 JK:mg "REST_SIGNS"=some (.ref t.eD)
 JL:∀ H,dc K H t.eD [.ref t.dQ,.ref t.dR]
 DY:∀ H,dc K H t.dQ [.str "R",.int 0]
 DZ:∀ H,dc K H t.dR [.str "r",.int 0]
 pf:mg "MOST_PARTING_SIGNS"=some (.int 2 t.cW)
 lam:Lu K mg t.l5.code t.tQ
def NJ:Sp:=fun vs H Q _=>∃ c:Int,vs=[.int c]/\∀ b:Int,(b=3\/b=2)->Q (.int b) H
variable {P:Program} {w:World} {K:Frag} {mg:Str->Option Value} {base:Heap} {t:Adr}
theorem NK (T:Txt K w mg t):cw P w K mg base ji (0+1) t.iE t.wW ["_law_cell"] NJ:=by
 refine T.l6.ok Nw (fun vs H Q E h=>?_) (fun cdv A outer s H vs Q E hr h=>?_)
 ·obtain⟨_,rfl,_⟩:=h;rfl
 ·obtain⟨c,rfl,q⟩:=h;refine aU (aq (aw (aE jh ah (gi (qc.or iX) rfl T.DU BQ (aa (b7 (a4.or (aL (ay hr))) (aE cZ (pv 0) ah) ah (av _)) ao))))) ?_;tm_up;refine .inl (.inr ⟨_,rfl,?_⟩);tm_up;refine q _ ?_
  try dsimp only
  split
  ·exact .inr rfl
  ·exact .inl rfl
def abB:iA->List V:=fun c=>[mO c.1,mO c.2.1,mO c.2.2]
def LU:Sp:=fun vs H Q _=>∃ n:Int,vs=[.int n]/\∀(c:iA)(z:Addr)(H':Hp),az H H'->H z=none->H' z=some (.tup (abB c))->Q (.ref z) H'
theorem LV (T:Txt K w mg t):cw P w K mg base ji (0+1) t.fX t.rC ["_law_cell"] LU:=by
 refine T.j7.ok lj (fun vs H Q E h=>?_) (fun cdv A outer s H vs Q E hr h=>?_)
 ·obtain⟨_,rfl,_⟩:=h;rfl
 ·obtain⟨n,rfl,q⟩:=h;refine aU (ag (aD (i:=1) lj.nd rfl (Or.inl rfl) (e8 ao)) (ag (fU PassesOwn.never rfl (jD rfl T.mf (aa ah ao)) (aK (i:=2) lj.nd rfl (Or.inl rfl)) (ag (dg (kY plainAttrs_list slot_list_append type_list_append bW (pv 1) (aa (gy (lL (ar Pj (aE cZ (pv 0) ah) ah (av _)) eV (aE (bV.or (aG.or bX)) (aE cZ (pv 0) ah) ah))) ao))) (aq (aD (i:=0) lj.nd rfl (Or.inl rfl) (aE jA (pv 0) ah))))) (aq (aw (ee (aa (aI aA (pv 1) ah (fun _ _=>rfl)) (aa (aI aA (pv 1) ah (fun _ _=>rfl)) (aa (aI aA (pv 1) ah (fun _ _=>rfl)) ao)))))))) ?_;refine⟨big (by show 0<=1000;omega),fun f hf=>?_⟩;tm_up;refine⟨by decide,by decide,lM (n:=3) (fun i σ H'=>∃(m:Int)(v:Option V)(cs:List (Option Int)),σ=[some (.int m),some (.ref f),v]/\H'=upd H f (.lst (cs.map mO))/\cs.length=i)
   ⟨n,none,[],rfl,rfl,rfl⟩ ?_ ?_⟩
  ·rintro i σ H' hi ⟨m,v,cs,rfl,rfl,hl⟩;tm_up;refine⟨.inl ⟨rfl,_,a6.of aj⟩,?_⟩;refine⟨fun v H2=>(∃ o,v=mO o)/\H2=upd H f (.lst (cs.map mO)),?_,?_⟩
   ·tm_up;refine aV (fun _=>?_) (fun _=>?_)
    ·exact⟨⟨none,rfl⟩,rfl⟩
    ·tm_up;exact⟨⟨some _,rfl⟩,rfl⟩
   ·rintro _ _ ⟨⟨o,rfl⟩,rfl⟩;refine⟨_,_,_,rfl,rfl,aj,by rw[length_map];exact cf (by omega),?_⟩;tm_up;exact⟨_,_,cs++[o],rfl,by rw[qa,map_append];rfl,by simp[hl]⟩
  ·rintro σ H' ⟨m,v,cs,rfl,rfl,hl⟩
   match cs,hl with
   |[a,b,c],_ =>
    tm_up;refine .inl ⟨f,_,0,_,rfl,rfl,a6.of aj,rfl,?_⟩;tm_up;refine .inl ⟨f,_,1,_,rfl,rfl,a6.of aj,rfl,?_⟩;tm_up;refine .inl ⟨f,_,2,_,rfl,rfl,a6.of aj,rfl,?_⟩;refine⟨by show 3<=sizeLine;decide,fun z hz=>?_⟩;exact q (a,b,c) z _ ((az.upd hf).trans (az.upd hz)) ((az.upd hf).free hz) aj
theorem Zk {k:Kd}(h:k.meas=true)(m:Int):intText? k.str=some (nm m k)/\k.str.length<=640:=by
 cases k <;> first|(cases h;done)|exact⟨by first|exact(show intText? Kd.three.str=some 3 by lk)|exact(show intText? Kd.two.str=some 2 by lk),by lk⟩
theorem abC {k:Kd}(h:¬ k.meas=true)(m:Int):nm m k=m:=by
 cases k <;> first|rfl|exact absurd rfl h
theorem LW (k:Kd):k.meas=(decide (k=.three)||decide (k=.two)):=by cases k <;> rfl
theorem Qc (k:Kd):Nc k.str ".32" = k.parting:=by cases k <;> decide +kernel
theorem tW (k:Kd):Nc k.str "sdr"=k.small:=by cases k <;> decide +kernel
theorem Wz {k:Kd}(h:k.parting=true)(m:Int)(n:Option Kd):bw m k n=0:=by cases k <;> first|(cases h;done)|(unfold bw;rw[if_neg (by rintro⟨_,z,_⟩;cases z)];rfl)
theorem T7 {k:Kd}(h:k.small=true)(m:Int)(n:Option Kd):bw m k n=1:=by cases k <;> first|(cases h;done)|(unfold bw;rw[if_neg (by rintro⟨_,z,_⟩;cases z)];rfl)
theorem aeo (m:Int)(n:Option Kd):bw m .D n=2:=by unfold bw;rw[if_neg (by rintro⟨_,z,_⟩;cases z)];rfl
theorem WA {k:Kd}{m:Int}{n:Option Kd}(hm:Ms m)(h1:k.parting=false)(h2:k.small=false)(h3:k≠.D)(h4:¬(m=2/\k=.G/\n=some .dot)):bw m k n=m:=by
 unfold bw;rw[if_neg h4];rcases hm with rfl|rfl <;> cases k <;> first|(cases h1;done)|(cases h2;done)|rfl|exact absurd rfl h3
def Q9 (K:Frag):Sp:=fun vs H Q _=>∃(l:Addr)(b:Int)(xs:List V)(ss:List Sg),vs=[.ref l,.int b]/\Ms b/\a6 K H l xs/\mX K H xs ss/\ss.length<=5000 /\
 ∀(f:Addr)(H':Hp),az H H'->H f=none->H' f=some (.lst ((aH b (b8 ss)).map V.int))->Q (.ref f) H'
theorem Ra (T:Txt K w mg t):cw P w K mg base ji (0+1) t.jX t.DG ["_law_line_here","_law_begin_here"] (Q9 K):=by
 refine T.o3.ok jN (fun vs H Q E h=>?_) (fun cdv A outer s H vs Q E hr h=>?_)
 ·obtain⟨_,_,_,_,rfl,_⟩:=h;rfl
 ·obtain⟨l,b,xs,ss,rfl,X3,hS,hg,hn,q⟩:=h;have p62:(2:Int) ^ 62=4611686018427387904:=by decide
  refine aU (ag (aD (i:=2) jN.nd rfl (Or.inl rfl) (e8 ao)) (ag (aD (i:=3) jN.nd rfl (Or.inl rfl) (pv 1)) (ag (fU PassesOwn.never rfl (jD rfl T.mf (aa (bF (bj.or bo) rfl T.jo jj (aa (pv 0) ao)) ao)) (aK (i:=4) jN.nd rfl (Or.inl rfl)) (ag (aD (i:=5) jN.nd rfl (Or.inl rfl) (aI aA (aI aA (pv 0) (pv 4) (fun _ _=>rfl)) ah (fun _ _=>rfl))) (ag (mU (aW (bK (PW.pt (jQ (ar (a4.or (aL (ay hr))) (pv 5) aJ (av _)) (ir (ar (a4.or (aL (ay hr))) (pv 5) aJ (av _)))))) (aq (aD (i:=3) jN.nd rfl (Or.inl rfl) (gi (qc.or iX) rfl T.DU BQ (aa (pv 5) ao)))) aC)) (aq (aW (ar (a8.or a7) (pv 5) aJ rfl) (aq (dg (kY plainAttrs_list slot_list_append type_list_append bW (pv 2) (aa ah ao)))) (aq (aW (ar (a8.or a7) (pv 5) aJ rfl) (aq (dg (kY plainAttrs_list slot_list_append type_list_append bW (pv 2) (aa ah ao)))) (aq (aW (ar (a4.or (aL (ay hr))) (pv 5) aJ (av _)) (aq (dg (kY plainAttrs_list slot_list_append type_list_append bW (pv 2) (aa ah ao)))) (aq (aW (bK (PW.pt (cq (ar (a4.or (aL (ay hr))) (pv 3) ah (av _)) (cq (ar (a4.or (aL (ay hr))) (pv 5) aJ (av _)) (cq (ar sR (aE (bV.or (aG.or bX)) (pv 4) ah) (bF (bj.or bo) rfl T.jo jj (aa (pv 0) ao)) (av _)) (df (ar (a4.or (aL (ay hr))) (aI aA (aI aA (pv 0) (aE (bV.or (aG.or bX)) (pv 4) ah) (fun _ _=>rfl)) ah (fun _ _=>rfl)) aJ (av _)))))))) (aq (dg (kY plainAttrs_list slot_list_append type_list_append bW (pv 2) (aa ah ao)))) (aq (dg (kY plainAttrs_list slot_list_append type_list_append bW (pv 2) (aa (pv 3) ao))))))))))))))) (aq (aw (pv 2)))))) ?_;refine⟨big (by show 0<=1000;omega),fun f hf=>?_⟩;tm_up;refine .inl ⟨_,_,rfl,.inl (sY hS hf),?_⟩;rw[ef hg];refine⟨(ss.length:Int),rfl,by rw[p62];omega,by rw[p62];omega,?_⟩;refine lM (n:=((ss.length:Int)).toNat) (fun i σ H'=>∃(m:Int)(v w:Option V)(fs:List Int),σ=[some (.ref l),some (.int b),some (.ref f),some (.int m),v,w]/\Ms m/\H'=upd H f (.lst (fs.map V.int))/\fs++aH m ((b8 ss).drop i)=aH b (b8 ss))
   ⟨b,none,none,[],rfl,X3,rfl,rfl⟩ ?_ ?_
  ·rintro i σ H' hi ⟨m,v,w,fs,rfl,hm3,rfl,hm⟩;have hil:i<ss.length:=by omega
   have hd:=qd (vI (f:=Prod.fst) (getElem?_eq_getElem hil));rw[hd]at hm;have hS':a6 K (upd H f (.lst (fs.map V.int))) l xs:=sY hS hf;have hg':mX K (upd H f (.lst (fs.map V.int))) xs ss:=hg.same (az.upd hf);have hl:=congrArg List.length hm;simp only [length_append,aH,length_cons,cH,length_map]at hl;simp only [aH,head_drop]at hm;tm_up;refine Cb hS' hg' (n:=i) (by omega) (getElem?_eq_getElem hil) fun p hp=>?_;generalize hk:(ss[i]).1=k at hm hp;tm_up;refine M0 [some (.ref l),some (.int b),some (.ref f),some (.int (nm m k)),some (.int (0+(i:Int))),some (.str k.str)] (upd H f (.lst (fs.map V.int))) ?_ ?_
   ·refine i6 k.meas ?_ ?_
    ·tm_up;rw[PK];refine aV (fun h=>?_) (fun h=>?_)
     ·exact de (by rw[LW,h];rfl)
     ·tm_up;rw[XE];exact de (by rw[LW,Bool.eq_false_iff.mpr h];rfl)
    refine aV (fun h=>?_) (fun h=>?_)
    ·obtain⟨e1,e2⟩:=Zk h m;tm_up;exact .inr ⟨_,_,rfl,e1,e2,rfl,rfl⟩
    ·rw[abC h];exact⟨rfl,rfl⟩
   have hm4:=hm3.nm k;have fin:∀(z:Int),z=bw (nm m k) k (b8 ss)[i+1]?->∃(m':Int)(v w:Option V)(fs':List Int),[some (V.ref l),some (V.int b),some (V.ref f),some (V.int (nm m k)),some (V.int (0+(i:Int))),some (V.str k.str)]=[some (.ref l),some (.int b),some (.ref f),some (.int m'),v,w]/\Ms m'/\upd (upd H f (.lst (fs.map V.int))) f (.lst (fs.map V.int++[V.int z]))=upd H f (.lst (fs'.map V.int))/\fs'++aH m' ((b8 ss).drop (i+1))=aH b (b8 ss):=by
    intro z hz;exact⟨nm m k,_,_,fs++[z],rfl,hm4,by rw[qa,map_append];rfl,by rw[List.append_assoc,hz];exact hm⟩
   tm_up;refine aV (fun h=>?_) (fun h=>?_)
   ·have h':k.parting=true:=by rw[<-Qc];exact h
    tm_up;refine⟨.inl ⟨rfl,_,a6.of aj⟩,?_⟩;refine⟨_,_,_,rfl,rfl,aj,by rw[length_map];exact gk (by omega),fin 0 (Wz h' ..).symm⟩
   ·have h1:k.parting=false:=by rw[<-Qc];exact Bool.eq_false_iff.mpr h
    tm_up;refine aV (fun h=>?_) (fun h=>?_)
    ·have h':k.small=true:=by rw[<-tW];exact h
     tm_up;refine⟨.inl ⟨rfl,_,a6.of aj⟩,?_⟩;refine⟨_,_,_,rfl,rfl,aj,by rw[length_map];exact gk (by omega),fin 1 (T7 h' ..).symm⟩
    ·have h2:k.small=false:=by rw[<-tW];exact Bool.eq_false_iff.mpr h
     tm_up;rw[k_D];refine aV (fun h=>?_) (fun h=>?_)
     ·have h':k=.D:=of_decide_eq_true h;tm_up;refine⟨.inl ⟨rfl,_,a6.of aj⟩,?_⟩;refine⟨_,_,_,rfl,rfl,aj,by rw[length_map];exact gk (by omega),fin 2 (by rw[h'];exact(aeo ..).symm)⟩
     ·have h3:k≠.D:=fun z=>h (decide_eq_true z);refine i6 (decide (nm m k=2/\k=.G/\(b8 ss)[i+1]? = some .dot)) ?_ ?_
      ·tm_up;rw[oI];refine aV (fun h=>?_) (fun h=>?_)
       ·have e1:=of_decide_eq_true h;tm_up;rw[k_G];refine aV (fun h=>?_) (fun h=>?_)
        ·have e2:=of_decide_eq_true h;tm_up;refine .inl ⟨_,_,rfl,.inl hS',?_⟩;rw[ef hg];tm_up;refine aV (fun h=>?_) (fun h=>?_)
         ·have hlt:i+1<ss.length:=by have:=of_decide_eq_true h;omega
          tm_up;refine Cb hS' hg' (n:=i+1) (by omega) (getElem?_eq_getElem hlt) fun p2 hp2=>?_;tm_up;rw[Tq];refine de ?_;have e3:(b8 ss)[i+1]? = some (ss[i+1]).1:=vI (getElem?_eq_getElem hlt);rw[e3];subst e2;simp[e1]
         ·refine de ?_;have e3:(b8 ss)[i+1]? = none:=List.getElem?_eq_none (by rw[length_map];have:¬(0+(i:Int)+1<ss.length):=fun z=>h (decide_eq_true z);omega);rw[e3];simp
        ·refine de ?_;have e2:k≠.G:=fun z=>h (decide_eq_true z);simp[e2]
       ·refine de ?_;have e1:nm m k≠2:=fun z=>h (decide_eq_true z);simp[e1]
      ·refine aV (fun h=>?_) (fun h=>?_)
       ·have h':=of_decide_eq_true h;tm_up;refine⟨.inl ⟨rfl,_,a6.of aj⟩,?_⟩;refine⟨_,_,_,rfl,rfl,aj,by rw[length_map];exact gk (by omega),fin 3 (by unfold bw;rw[if_pos h'])⟩
       ·have h':¬(nm m k=2/\k=.G/\(b8 ss)[i+1]? = some .dot):=fun z=>h (decide_eq_true z);tm_up;refine⟨.inl ⟨rfl,_,a6.of aj⟩,?_⟩;tm_up;refine⟨_,_,_,rfl,rfl,aj,by rw[length_map];exact gk (by omega),fin _ (WA hm4 h1 h2 h3 h').symm⟩
  ·rintro σ H' ⟨m,v,w,fs,rfl,_,rfl,hm⟩;have e0:((ss.length:Int)).toNat=ss.length:=by omega
   rw[e0,List.drop_eq_nil_of_le (by rw[length_map];exact Nat.le_refl _)]at hm;tm_up;have e:fs=aH b (b8 ss):=by rw[<-hm];simp[aH]
   subst e;exact q f _ (az.upd hf) hf aj
def NL (K:Frag):Sp:=fun vs H Q _=>∃(l:Addr)(b:Int)(xs:List V)(ss:List Sg),vs=[.ref l,.int b]/\a6 K H l xs/\mX K H xs ss/\ss.length<=5000 /\
 ∀(f:Addr)(H':Hp),az H H'->H f=none->H' f=some (.lst ((fV b (b8 ss)).map V.bl))->Q (.ref f) H'
theorem abE {k:Kd}(h:k.meas=true)(m:Int):intText? k.str=some (nm m k)/\k.str.length<=640:=by
 cases k <;> first|(cases h;done)|exact⟨by first|exact(show intText? Kd.three.str=some 3 by lk)|exact(show intText? Kd.two.str=some 2 by lk),by lk⟩
theorem aeq {k:Kd}(h:¬ k.meas=true)(m:Int):nm m k=m:=by
 cases k <;> first|rfl|exact absurd rfl h
theorem Qd (k:Kd):k.meas=(decide (k=.three)||decide (k=.two)):=by cases k <;> rfl
theorem NM (T:Txt K w mg t):cw P w K mg base ji (0+1) t.iF t.wX ["_law_line_here","_law_begin_here"] (NL K):=by
 refine T.l8.ok jW (fun vs H Q E h=>?_) (fun cdv A outer s H vs Q E hr h=>?_)
 ·obtain⟨_,_,_,_,rfl,_⟩:=h;rfl
 ·obtain⟨l,b,xs,ss,rfl,hS,hg,hn,q⟩:=h;refine aU (ag (aD (i:=2) jW.nd rfl (Or.inl rfl) (e8 ao)) (ag (aD (i:=3) jW.nd rfl (Or.inl rfl) (pv 1)) (ag (fU PassesOwn.never rfl (kX (pv 0)) (aK (i:=4) jW.nd rfl (Or.inl rfl)) (ag (mU (aW (bK (PW.pt (jQ (ar (a4.or (aL (ay hr))) (aI aA (pv 4) ah (fun _ _=>rfl)) aJ (av _)) (ir (ar (a4.or (aL (ay hr))) (aI aA (pv 4) ah (fun _ _=>rfl)) aJ (av _)))))) (aq (aD (i:=3) jW.nd rfl (Or.inl rfl) (gi (qc.or iX) rfl T.DU BQ (aa (aI aA (pv 4) ah (fun _ _=>rfl)) ao)))) aC)) (aq (dg (kY plainAttrs_list slot_list_append type_list_append bW (pv 2) (aa (b7 (a4.or (aL (ay hr))) (pv 3) ah (av _)) ao)))))) (aq (aw (pv 2)))))) ?_;refine⟨big (by show 0<=1000;omega),fun f hf=>?_⟩;tm_up;refine⟨⟨xs,sY hS hf⟩,jS (K:=K) (xs:=xs) (fun i σ H'=>∃(m:Int)(v:Option V)(fs:List Bool),σ=[some (.ref l),some (.int b),some (.ref f),some (.int m),v]/\H'=upd H f (.lst (fs.map V.bl))/\fs++fV m ((b8 ss).drop i)=fV b (b8 ss))
   ⟨b,none,[],rfl,rfl,rfl⟩ ?_ ?_ ?_⟩
  ·rintro i σ H' _ ⟨m,v,fs,rfl,rfl,_⟩;exact sY hS hf
  ·rintro i x σ H' hx ⟨m,v,fs,rfl,rfl,hm⟩;obtain⟨s,hs,p,rfl,hp⟩:=qu hg hx;have hd:=qd (vI (f:=Prod.fst) hs);rw[hd]at hm;have hp':XZ K (upd H f (.lst (fs.map V.bl))) p s.1 s.2:=hp.same (az.upd hf);have hl:=congrArg List.length hm;simp only [length_append,fV,length_cons,Ng,length_map]at hl;refine M0 [some (.ref l),some (.int b),some (.ref f),some (.int (nm m s.1)),some (.ref p)] (upd H f (.lst (fs.map V.bl))) ?_ ?_
   ·refine i6 s.1.meas ?_ ?_
    ·tm_up;rw[PK];refine aV (fun h=>?_) (fun h=>?_)
     ·exact de (by rw[Qd,h];rfl)
     ·tm_up;rw[XE];exact de (by rw[Qd,Bool.eq_false_iff.mpr h];rfl)
    refine aV (fun h=>?_) (fun h=>?_)
    ·obtain⟨e1,e2⟩:=abE h m;tm_up;exact .inr ⟨_,_,rfl,e1,e2,rfl,rfl⟩
    ·rw[aeq h];exact⟨rfl,rfl⟩
   ·tm_up;refine⟨.inl ⟨rfl,_,a6.of aj⟩,?_⟩;tm_up;rw[oI];refine⟨_,_,_,rfl,rfl,aj,by rw[length_map];exact gk (by omega),?_⟩;exact⟨_,_,fs++[decide (nm m s.1=3)],rfl,by rw[qa,map_append];rfl,by rw[List.append_assoc];exact hm⟩
  ·rintro σ H' ⟨m,v,fs,rfl,rfl,hm⟩;rw[List.drop_eq_nil_of_le (by rw[length_map,ef hg];exact Nat.le_refl _)]at hm;tm_up;have e:fs=fV b (b8 ss):=by rw[<-hm];simp[fV]
   subst e;exact q f _ (az.upd hf) hf aj
def aer (K:Frag)(g:List Kd->List Int->Nat->Nat->Bool×List Int):Sp:=fun vs H Q _=>∃(l f:Addr)(a z:Nat)(xs:List V)(ss:List Sg)(fs:List Int),vs=[.ref l,.ref f,.int (a:Int),.int (z:Int)]/\a6 K H l xs/\mX K H xs ss/\l≠f/\H f=some (.lst (fs.map V.int))/\fs.length=ss.length/\a<z/\z<=ss.length /\
 Q (.bl (g (b8 ss) fs a z).1) (upd H f (.lst ((g (b8 ss) fs a z).2.map V.int)))
theorem D0 (k:Kd):Nc k.str "GDR"=k.great:=by cases k <;> decide +kernel
theorem xp (o:Option Kd):(o.getD .dot).great=eh o:=by cases o <;> rfl
theorem aes (o:Option Kd):decide (o.getD .dot=.G)=decide (o=some .G):=by
 cases o with
 |none=>decide
 |some k=>simp
theorem Rb {ks:List Kd}{f:List Int}{a z:Nat}{r:Nat}(hr:(z-a) % 3=r)(hr3:r<3) :
  settle ks f a z=if decide (r=2)&&(eh ks[z]? && decide (ks[z-1]? = some .s)) then(true,f.set (z-1) 2) else
   (decide (r=0)||((decide (r=1)&&(bE ks f a||bS ks z))||(decide (r=2)&&(bE ks f a&&bS ks z))),
    let g:=if(decide (r=1)&&bE ks f a)||(decide (r=2)&&(bE ks f a&&bS ks z)) then f.set (a-1) 2 else f
    if(decide (r=1)&&(bS ks z && !bE ks f a))||(decide (r=2)&&(bE ks f a&&bS ks z)) then g.set z 2 else g):=by
 unfold settle iY iZ;rw[hr];have:r=0\/r=1\/r=2:=by omega
 rcases this with rfl|rfl|rfl <;> cases bE ks f a <;> cases bS ks z <;> cases eh ks[z]? <;> cases decide (ks[z-1]? = some .s) <;> rfl
theorem T8 (T:Txt K w mg t):cw P w K mg base ji (0+1) t.mZ t.Jx ["_law_line_here","_law_told","_law_low","_law_high"] (aer K settle):=by
 refine T.tR.ok lY (fun vs H Q E h=>?_) (fun cdv A outer s H vs Q E hr h=>?_)
 ·obtain⟨_,_,_,_,_,_,_,rfl,_⟩:=h;rfl
 ·obtain⟨l,f,a,z,xs,ss,fs,rfl,hS,hg,hlf,hf,hl,haz,hz,q⟩:=h;obtain⟨r,hrr⟩:∃ r:Nat,(z-a) % 3=r:=⟨_,rfl⟩;have hr3:r<3:=by omega
  rw[Rb hrr hr3]at q;have hri:((z:Int)-(a:Int)) % 3=(r:Int):=by omega
  have dI:∀ n:Nat,decide (V.int (((z:Int)-(a:Int)) % 3)=V.int (n:Int))=decide (r=n):=fun n=>by
   rw[hri,oI]
   by_cases e:r=n
   ·simp[e]
   ·have:¬((r:Int)=(n:Int)):=by omega
    simp[e,this]
  have d0:decide (V.int (((z:Int)-(a:Int)) % 3)=V.int 0)=decide (r=0):=dI 0;have d1:decide (V.int (((z:Int)-(a:Int)) % 3)=V.int 1)=decide (r=1):=dI 1;have d2:decide (V.int (((z:Int)-(a:Int)) % 3)=V.int 2)=decide (r=2):=dI 2;refine aU (ag (aD (i:=4) lY.nd rfl (Or.inl rfl) (aE cZ (aE jh (pv 3) (pv 2)) ah)) (ag (aD (i:=5) lY.nd rfl (Or.inl rfl) (gy (lL (ar sR (pv 3) (bF (bj.or bo) rfl T.jo jj (aa (pv 0) ao)) (av _)) (aI aA (aI aA (pv 0) (pv 3) (fun _ _=>rfl)) ah (fun _ _=>rfl)) aJ))) (ag (aD (i:=6) lY.nd rfl (Or.inl rfl) (gy (lL (ar sR (aE (bV.or (aG.or bX)) (pv 3) ah) (bF (bj.or bo) rfl T.jo jj (aa (pv 0) ao)) (av _)) (aI aA (aI aA (pv 0) (aE (bV.or (aG.or bX)) (pv 3) ah) (fun _ _=>rfl)) ah (fun _ _=>rfl)) aJ))) (ag (aD (i:=7) lY.nd rfl (Or.inl rfl) (gy (oA (b7 Pj (pv 2) ah (av _)) (oA (b7 (a4.or (aL (ay hr))) (aI aA (aI aA (pv 0) (aE jh (pv 2) ah) (fun _ _=>rfl)) ah (fun _ _=>rfl)) aJ (av _)) (oz (b7 (a4.or (aL (ay hr))) (aI aA (pv 1) (aE jh (pv 2) ah) (fun _ _=>rfl)) ah (av _))))))) (ag (aD (i:=8) lY.nd rfl (Or.inl rfl) (gy (oA (b7 (a4.or (aL (ay hr))) (pv 5) aJ (av _)) (oz (b7 (sV.or sW) (pv 6) aJ rfl))))) (ag (aW (bK (PW.pt (cq (ar (a4.or (aL (ay hr))) (pv 4) ah (av _)) (cq (ar (a8.or a7) (pv 5) aJ rfl) (df (ar (a4.or (aL (ay hr))) (aI aA (aI aA (pv 0) (aE jh (pv 3) ah) (fun _ _=>rfl)) ah (fun _ _=>rfl)) aJ (av _))))))) (ag (oC ah (ML (pv 1) (aE jh (pv 3) ah) set_list)) (aq (aw qy))) aC) (ag (mU (aW (bK (PW.pt (jQ (bK (PW.pt (cq (ar (a4.or (aL (ay hr))) (pv 4) ah (av _)) (df (cJ (pv 7)))))) (ir (bK (PW.pt (cq (ar (a4.or (aL (ay hr))) (pv 4) ah (av _)) (cq (cJ (pv 7)) (df (cJ (pv 8))))))))))) (aq (oC ah (ML (pv 1) (aE jh (pv 2) ah) set_list))) aC)) (ag (mU (aW (bK (PW.pt (jQ (bK (PW.pt (cq (ar (a4.or (aL (ay hr))) (pv 4) ah (av _)) (cq (cJ (pv 8)) (df (jR (cJ (pv 7)))))))) (ir (bK (PW.pt (cq (ar (a4.or (aL (ay hr))) (pv 4) ah (av _)) (cq (cJ (pv 7)) (df (cJ (pv 8))))))))))) (aq (oC ah (ML (pv 1) (pv 3) set_list))) aC)) (aq (aw (gy (So (b7 (a4.or (aL (ay hr))) (pv 4) ah (av _)) (So (gy (oA (b7 (a4.or (aL (ay hr))) (pv 4) ah (av _)) (oz (gy (So (pv 7) (oz (pv 8))))))) (oz (gy (oA (b7 (a4.or (aL (ay hr))) (pv 4) ah (av _)) (oA (pv 7) (oz (pv 8))))))))))))))))))) ?_;tm_up;refine yD (.str ((b8 ss)[z]?.getD .dot).str) ?_ ?_
  ·tm_up;refine .inl ⟨_,_,rfl,.inl hS,?_⟩;rw[ef hg];tm_up;refine aV (fun h=>?_) (fun h=>?_)
   ·have hlt:z<ss.length:=by have:=of_decide_eq_true h;omega
    tm_up;refine Cb hS hg (n:=z) rfl (getElem?_eq_getElem hlt) fun p hp=>?_;tm_up;refine i7 ?_;rw[getElem?_map,getElem?_eq_getElem hlt];rfl
   ·refine i7 ?_;have hge:¬ z<ss.length:=fun c=>h (decide_eq_true (by omega));rw[List.getElem?_eq_none (by rw[length_map];omega)];rfl
  refine yD (.str ((b8 ss)[z+1]?.getD .dot).str) ?_ ?_
  ·tm_up;refine .inl ⟨_,_,rfl,.inl hS,?_⟩;rw[ef hg];tm_up;refine aV (fun h=>?_) (fun h=>?_)
   ·have hlt:z+1<ss.length:=by have:=of_decide_eq_true h;omega
    tm_up;refine Cb hS hg (n:=z+1) (by omega) (getElem?_eq_getElem hlt) fun p hp=>?_;tm_up;refine i7 ?_;rw[getElem?_map,getElem?_eq_getElem hlt];rfl
   ·refine i7 ?_;have hge:¬ z+1<ss.length:=fun c=>h (decide_eq_true (by omega));rw[List.getElem?_eq_none (by rw[length_map];omega)];rfl
  refine yD (.bl (bE (b8 ss) fs a)) ?_ ?_
  ·tm_up;refine aV (fun h=>?_) (fun h=>?_)
   ·have hp:0<a:=by have:=of_decide_eq_true h;omega
    have hlt:a-1<ss.length:=by omega
    have ek:Sf (b8 ss) ((a:Int)-1)=some (ss[a-1]).1:=by
     have:(a:Int)-1=((a-1:Nat):Int):=by omega
     rw[this,VW,getElem?_map,getElem?_eq_getElem hlt];rfl
    tm_up;refine Cb hS hg (n:=a-1) (by omega) (getElem?_eq_getElem hlt) fun p hp=>?_;tm_up;rw[k_G];refine aV (fun h2=>?_) (fun h2=>?_)
    ·tm_up;refine adz (a6.of hf) (n:=a-1) (by omega) (getElem?_eq_getElem (by omega)) ?_;tm_up;rw[oI];refine i7 ?_;unfold bE;rw[ek,of_decide_eq_true h2,List.getD_eq_getElem?_getD,getElem?_eq_getElem (by omega)];simp
    ·refine i7 ?_;unfold bE;rw[ek];have:(ss[a-1]).1≠.G:=fun c=>h2 (decide_eq_true c);simp[this]
   ·refine i7 ?_;have hp:a=0:=by
     have:¬ 0<a:=fun c=>h (decide_eq_true (by omega));omega
    subst hp;unfold bE Sf;simp
  refine yD (.bl (bS (b8 ss) z)) ?_ ?_
  ·tm_up;rw[k_G,aes];refine aV (fun h=>?_) (fun h=>?_)
   ·tm_up;refine i7 ?_;unfold bS;rw[h];show V.bl (!Nc _ _)=_;rw[D0,xp];rfl
   ·refine i7 ?_;unfold bS;rw[Bool.eq_false_iff.mpr h];rfl
  generalize hL:bE (b8 ss) fs a=L at q;generalize hR:bS (b8 ss) z=R at q;refine i6 (decide (r=2)&&(eh (b8 ss)[z]? && decide ((b8 ss)[z-1]? = some .s))) ?_ ?_
  ·tm_up;rw[d2];refine aV (fun h=>?_) (fun h=>?_)
   ·rw[h];tm_up;refine aV (fun h2=>?_) (fun h2=>?_)
    ·have h2':eh (b8 ss)[z]? = true:=by
      have:Nc ((b8 ss)[z]?.getD .dot).str "GDR"=true:=h2
      rwa [D0,xp]at this
     rw[h2'];tm_up;have hlt:z-1<ss.length:=by omega
     refine Cb hS hg (n:=z-1) (by omega) (getElem?_eq_getElem hlt) fun p hp=>?_;tm_up;rw[k_s];refine de ?_;rw[getElem?_map,getElem?_eq_getElem hlt];simp
    ·have h2':eh (b8 ss)[z]? = false:=by
      have:Nc ((b8 ss)[z]?.getD .dot).str "GDR"=false:=Bool.eq_false_iff.mpr h2
      rwa [D0,xp]at this
     rw[h2'];exact de rfl
   ·exact de (by rw[Bool.eq_false_iff.mpr h];rfl)
  refine aV (fun h=>?_) (fun h=>?_)
  ·rw[if_pos h]at q;tm_up;refine⟨_,_,_,_,rfl,rfl,hf,HH (j:=z-1) (by omega) (by rw[length_map];omega),?_⟩;rw[HI];exact q
  ·rw[if_neg h]at q;dsimp only at q;have hLp:L=true->1<=a/\a-1<ss.length:=fun e=>by
    have:=vH (hL.trans e)
    rwa [length_map]at this
   have hRp:R=true->z<ss.length:=fun e=>by
    have:=Nf (hR.trans e)
    rwa [length_map]at this
   generalize hg1:(if(decide (r=1)&&L||decide (r=2)&&(L&&R))=true then fs.set (a-1) 2 else fs)=g1 at q;have g1l:g1.length=ss.length:=by rw[<-hg1];split <;> simp[hl]
   refine M0 [some (.ref l),some (.ref f),some (.int (a:Int)),some (.int (z:Int)),some (.int (((z:Int)-(a:Int)) % 3)),some (.str ((b8 ss)[z]?.getD .dot).str),some (.str ((b8 ss)[z+1]?.getD .dot).str),some (.bl L),some (.bl R)] (upd H f (.lst (g1.map V.int))) ?_ ?_
   ·refine i6 (decide (r=1)&&L||decide (r=2)&&(L&&R)) ?_ ?_
    ·refine i6 (decide (r=1)&&L) ?_ ?_
     ·tm_up;rw[d1];refine aV (fun h=>?_) (fun h=>?_)
      ·tm_up;exact de (by rw[h];rfl)
      ·exact de (by rw[Bool.eq_false_iff.mpr h];rfl)
     ·refine aV (fun h=>de (by rw[h];rfl)) (fun h=>?_);rw[Bool.eq_false_iff.mpr h,Bool.false_or];refine i6 (decide (r=2)&&(L&&R)) ?_ (de rfl);tm_up;rw[d2];refine aV (fun h=>?_) (fun h=>?_)
      ·tm_up;refine aV (fun h2=>?_) (fun h2=>?_)
       ·tm_up;exact de (by rw[h,h2];rfl)
       ·exact de (by rw[h,Bool.eq_false_iff.mpr h2];rfl)
      ·exact de (by rw[Bool.eq_false_iff.mpr h];rfl)
    ·refine aV (fun h=>?_) (fun h=>?_)
     ·rw[if_pos h]at hg1;have hp:=hLp (by cases L <;> simp_all);tm_up;refine⟨_,_,_,_,rfl,rfl,hf,HH (j:=a-1) (by omega) (by rw[length_map];omega),?_⟩;rw[HI,hg1];exact⟨rfl,rfl⟩
     ·rw[if_neg h]at hg1;subst hg1;rw[Tw hf];exact⟨rfl,rfl⟩
   generalize hg2:(if(decide (r=1)&&(R && !L)||decide (r=2)&&(L&&R))=true then g1.set z 2 else g1)=g2 at q;refine M0 [some (.ref l),some (.ref f),some (.int (a:Int)),some (.int (z:Int)),some (.int (((z:Int)-(a:Int)) % 3)),some (.str ((b8 ss)[z]?.getD .dot).str),some (.str ((b8 ss)[z+1]?.getD .dot).str),some (.bl L),some (.bl R)] (upd H f (.lst (g2.map V.int))) ?_ ?_
   ·refine i6 (decide (r=1)&&(R && !L)||decide (r=2)&&(L&&R)) ?_ ?_
    ·refine i6 (decide (r=1)&&(R && !L)) ?_ ?_
     ·tm_up;rw[d1];refine aV (fun h=>?_) (fun h=>?_)
      ·tm_up;refine aV (fun h2=>?_) (fun h2=>?_)
       ·tm_up;exact de (by rw[h,h2];rfl)
       ·exact de (by rw[h,Bool.eq_false_iff.mpr h2];rfl)
      ·exact de (by rw[Bool.eq_false_iff.mpr h];rfl)
     ·refine aV (fun h=>de (by rw[h];rfl)) (fun h=>?_);rw[Bool.eq_false_iff.mpr h,Bool.false_or];refine i6 (decide (r=2)&&(L&&R)) ?_ (de rfl);tm_up;rw[d2];refine aV (fun h=>?_) (fun h=>?_)
      ·tm_up;refine aV (fun h2=>?_) (fun h2=>?_)
       ·tm_up;exact de (by rw[h,h2];rfl)
       ·exact de (by rw[h,Bool.eq_false_iff.mpr h2];rfl)
      ·exact de (by rw[Bool.eq_false_iff.mpr h];rfl)
    ·refine aV (fun h=>?_) (fun h=>?_)
     ·rw[if_pos h]at hg2;have hp:=hRp (by cases R <;> simp_all);tm_up;refine⟨_,_,_,_,rfl,rfl,aj,HH (j:=z) rfl (by rw[length_map];omega),?_⟩;rw[HI,hg2,qa];exact⟨rfl,rfl⟩
     ·rw[if_neg h]at hg2;subst hg2;exact⟨rfl,rfl⟩
   refine yD (.bl (decide (r=0)||(decide (r=1)&&(L||R)||decide (r=2)&&(L&&R)))) ?_ q;tm_up;rw[d0];refine aV (fun h=>i7 (by rw[h];rfl)) (fun h=>?_);rw[Bool.eq_false_iff.mpr h,Bool.false_or];refine yD (.bl (decide (r=1)&&(L||R))) ?_ ?_
   ·tm_up;rw[d1];refine aV (fun h=>?_) (fun h=>i7 (by rw[Bool.eq_false_iff.mpr h];rfl));refine yD (.bl (L||R)) ?_ (i7 (by rw[h];rfl));tm_up;refine aV (fun h=>i7 (by rw[h];rfl)) (fun h=>?_);tm_up;exact i7 (by rw[Bool.eq_false_iff.mpr h];rfl)
   ·refine⟨_,rfl,?_⟩;refine aV (fun h=>i7 (by rw[h];rfl)) (fun h=>?_);rw[Bool.eq_false_iff.mpr h,Bool.false_or];refine yD (.bl (decide (r=2)&&(L&&R))) ?_ (i7 rfl);tm_up;rw[d2];refine aV (fun h=>?_) (fun h=>i7 (by rw[Bool.eq_false_iff.mpr h];rfl));tm_up;refine aV (fun h2=>?_) (fun h2=>?_)
    ·tm_up;exact i7 (by rw[h,h2];rfl)
    ·exact i7 (by rw[h,Bool.eq_false_iff.mpr h2];rfl)
def Rc (K:Frag):Sp:=fun vs H Q _=>∃(l:Addr)(b:Int)(xs:List V)(ss:List Sg),vs=[.ref l,.int b]/\Ms b/\H l=some (.lst xs)/\mX K H xs ss/\ss.length<=5000 /\
 ∀(p f lo:Addr)(ys:List V)(H':Hp),az H H'->H f=none->H lo=none->f≠lo->H' p=some (.tup [.ref f,.ref lo])->H' f=some (.lst ((fb b (b8 ss)).1.map V.int))->H' lo=some (.lst ys)->XI H' ys (fb b (b8 ss)).2->Q (.ref p) H'
theorem xq (T:Txt K w mg t):cw P w K mg base ji (0+2) t.jY t.DH ["_law_line_here","_law_begin_here"] (Rc K):=by
 have T9:=Ra (P:=P) (base:=base) T;have Rf:=NM (P:=P) (base:=base) T;have WB:=T8 (P:=P) (base:=base) T;refine T.j8.ok gv (fun vs H Q E h=>?_) (fun cdv A outer s H vs Q E hr h=>?_)
 ·obtain⟨_,_,_,_,rfl,_⟩:=h;rfl
 ·obtain⟨l,b,xs,ss,rfl,X3,hS,hg,hn,q⟩:=h;refine aU (ag (aD (i:=2) gv.nd rfl (Or.inl rfl) (ax T9 (hr.mono (by decide)) rfl T.Q6 T.o3.kp T.DM .nil aN (aa (pv 0) (aa (pv 1) ao)))) (ag (aD (i:=3) gv.nd rfl (Or.inl rfl) (ax Rf (hr.mono (by decide)) rfl T.NC T.l8.kp T.xf .nil aN (aa (pv 0) (aa (pv 1) ao)))) (ag (aD (i:=4) gv.nd rfl (Or.inl rfl) (e8 ao)) (ag (aD (i:=5) gv.nd rfl (Or.inl rfl) ah) (ag (BJ PassesOwn.never (ar sR (pv 5) (bF (bj.or bo) rfl T.jo jj (aa (pv 0) ao)) (av _)) (ag (aD (i:=6) gv.nd rfl (Or.inl rfl) (pv 5)) (ag (BJ PassesOwn.never (bK (PW.pt (cq (ar sR (pv 6) (bF (bj.or bo) rfl T.jo jj (aa (pv 0) ao)) (av _)) (cq (ar (a8.or a7) (aI aA (aI aA (pv 0) (pv 6) (fun _ _=>rfl)) ah (fun _ _=>rfl)) aJ rfl) (df (cJ (aI aA (pv 3) (pv 6) (fun _ _=>rfl)))))))) (aq (aD (i:=6) gv.nd rfl (Or.inl rfl) (aE (bV.or (aG.or bX)) (pv 6) ah)))) (ag (mU (aW (bK (PW.pt (cq (ar Pj (pv 6) (pv 5) (av _)) (df (jR (cJ (ax WB (hr.mono (by decide)) rfl T.T4 T.tR.kp T.JB .nil aN (aa (pv 0) (aa (pv 2) (aa (pv 5) (aa (pv 6) ao))))))))))) (aq (dg (kY plainAttrs_list slot_list_append type_list_append bW (pv 4) (aa (ee (aa (pv 5) (aa (pv 6) ao))) ao)))) aC)) (aq (aD (i:=5) gv.nd rfl (Or.inl rfl) (bF (Qs rfl) rfl T.Zh YM (aa (pv 6) (aa (aE (bV.or (aG.or bX)) (pv 5) ah) ao))))))))) (aq (aw (ee (aa (pv 2) (aa (pv 4) ao)))))))))) ?_;tm_up;refine⟨l,b,xs,ss,rfl,X3,a6.of hS,hg,hn,fun f H1 s1 n1 h1=>?_⟩;tm_up;refine⟨l,b,xs,ss,rfl,a6.of (s1 _ _ hS),hg.same s1,hn,fun th H2 s2 n2 h2=>?_⟩;refine⟨big (by show 0<=1000;omega),fun lo hlo=>?_⟩;have s3:=s2.trans (az.upd (o:=.lst []) hlo);have abF:H lo=none:=s1.free (s2.free hlo);have nfl:f≠lo:=aQ (s2 _ _ h1) hlo;have ntl:th≠lo:=aQ h2 hlo;have ntf:th≠f:=fun e=>by rw[e,h1]at n2;cases n2
  have nlf:l≠f:=aQ hS n1;have bl:(aH b (b8 ss)).length=ss.length:=by rw[cH,length_map]
  have cnt:(bc b (b8 ss)).length<=5001:=by
   have:=oM (cT b (b8 ss)) 0 0;rw[oK,length_map]at this;exact Nat.le_trans this (by omega)
  tm_up;refine⟨fun mm σ H'=>∃(low:Nat)(v:Option V)(c:Tu)(ys:List V),mm=ss.length-low/\low<=ss.length/\σ=[some (.ref l),some (.int b),some (.ref f),some (.ref th),some (.ref lo),some (.int (low:Int)),v]/\az H H'/\H' f=some (.lst (c.1.map V.int))/\H' lo=some (.lst ys)/\XI H' ys c.2/\H' th=some (.lst ((fV b (b8 ss)).map V.bl))/\c.1.length=ss.length/\c.2.length+(aO low low ((cT b (b8 ss)).drop low)).length<=5001/\(aO low low ((cT b (b8 ss)).drop low)).foldl (iz (b8 ss)) c=fb b (b8 ss),
   ⟨_,0,none,(aH b (b8 ss),[]),[],rfl,Nat.zero_le _,rfl,s1.trans s3,s3 _ _ h1,aj,.nil,by rw[au ntl];exact h2,bl,by show 0+(bc b (b8 ss)).length<=5001;omega,rfl⟩,?_⟩
  rintro mm σ H' ⟨low,v,c,ys,rfl,hlow,rfl,s4,hf4,Ua,hys,hth,hcl,abH,D1⟩;have hl4:=s4 _ _ hS;have hg4:=hg.same s4;tm_up;refine .inl ⟨_,_,rfl,.inl (a6.of hl4),?_⟩;rw[ef hg];tm_up;refine aV (fun h=>?_) (fun h=>?_)
  ·have hlt:low<ss.length:=by have:=of_decide_eq_true h;omega
   refine⟨fun σ' Rg=>∃ m',m'<ss.length-low/\∃(low:Nat)(v:Option V)(c:Tu)(ys:List V),m'=ss.length-low/\low<=ss.length/\σ'=[some (.ref l),some (.int b),some (.ref f),some (.ref th),some (.ref lo),some (.int (low:Int)),v]/\az H Rg/\Rg f=some (.lst (c.1.map V.int))/\Rg lo=some (.lst ys)/\XI Rg ys c.2/\Rg th=some (.lst ((fV b (b8 ss)).map V.bl))/\c.1.length=ss.length/\c.2.length+(aO low low ((cT b (b8 ss)).drop low)).length<=5001/\(aO low low ((cT b (b8 ss)).drop low)).foldl (iz (b8 ss)) c=fb b (b8 ss),fun _ _ h=>h,?_⟩;generalize hn':lead ((cT b (b8 ss)).drop low)=n;have hnle:n<=ss.length-low:=by
    have:=PL ((cT b (b8 ss)).drop low);rw[length_drop,oK,length_map,hn']at this;exact this
   tm_up;refine⟨fun mm σ Rg=>∃ j:Nat,mm=n-j/\j<=n/\σ=[some (.ref l),some (.int b),some (.ref f),some (.ref th),some (.ref lo),some (.int (low:Int)),some (.int ((low+j:Nat):Int))]/\Rg=H',⟨n,0,rfl,Nat.zero_le _,rfl,rfl⟩,?_⟩;rintro mm σ Rg ⟨j,rfl,hj,rfl,rfl⟩;have hla:=PN ((cT b (b8 ss)).drop low) j (by rw[hn'];exact hj);rw[hn',Y3]at hla;refine i6 (decide (j<n)) ?_ ?_
   ·tm_up;refine .inl ⟨_,_,rfl,.inl (a6.of hl4),?_⟩;rw[ef hg];tm_up;refine aV (fun h=>?_) (fun h=>?_)
    ·have hjl:low+j<ss.length:=by have:=of_decide_eq_true h;omega
     have hk:(b8 ss)[low+j]? = some (ss[low+j]).1:=vI (getElem?_eq_getElem hjl);obtain⟨tb,ht1,ht2⟩:=PM X3 (b8 ss) (low+j) _ hk;rw[ht2]at hla;tm_up;refine Cb (a6.of hl4) hg4 (n:=low+j) rfl (getElem?_eq_getElem hjl) fun p hp=>?_;tm_up;refine aV (fun h=>?_) (fun h=>?_)
     ·have h':(ss[low+j]).1.small=true:=by rw[<-tW];exact h
      rw[h',Bool.true_and]at hla;tm_up;refine Y2 (a6.of hth) (n:=low+j) rfl (vI ht1) ?_;tm_up;refine de ?_;cases tb with
      |true=>exact(decide_eq_true (hla.mpr rfl)).symm
      |false=>exact(decide_eq_false (fun z=>by have:=hla.mp z;cases this)).symm
     ·have h':(ss[low+j]).1.small=false:=by rw[<-tW];exact Bool.eq_false_iff.mpr h
      rw[h',Bool.false_and]at hla;exact de (decide_eq_false (fun z=>by have:=hla.mp z;cases this)).symm
    ·have hjl:¬ low+j<ss.length:=fun z=>h (decide_eq_true (by omega));exact de (decide_eq_false (by omega)).symm
   refine aV (fun h=>?_) (fun h=>?_)
   ·have hjn:=of_decide_eq_true h;refine⟨fun σ' Hx=>∃ m',m'<n-j/\∃ j:Nat,m'=n-j/\j<=n/\σ'=[some (.ref l),some (.int b),some (.ref f),some (.ref th),some (.ref lo),some (.int (low:Int)),some (.int ((low+j:Nat):Int))]/\Hx=Rg,fun _ _ h=>h,?_⟩;tm_up;exact⟨n-(j+1),by omega,j+1,rfl,by omega,rfl,rfl⟩
   ·have hjn:j=n:=by
     have:¬ j<n:=fun z=>h (decide_eq_true z);omega
    subst hjn;have hrf:=B0 ((cT b (b8 ss)).drop low) low low (by rw[hn'];omega) (Nat.le_refl _);rw[hn',List.drop_drop]at hrf;refine⟨fun σ1 H1=>σ1=[some (.ref l),some (.int b),some (.ref f),some (.ref th),some (.ref lo),some (.int (low:Int)),some (.int ((low+j:Nat):Int))]/\∃(c:Tu)(ys:List V),az H H1/\H1 f=some (.lst (c.1.map V.int))/\H1 lo=some (.lst ys)/\XI H1 ys c.2/\H1 th=some (.lst ((fV b (b8 ss)).map V.bl))/\c.1.length=ss.length/\c.2.length+(aO (low+j) (low+j) ((cT b (b8 ss)).drop (low+j))).length<=5001/\(aO (low+j) (low+j) ((cT b (b8 ss)).drop (low+j))).foldl (iz (b8 ss)) c=fb b (b8 ss),?_,?_⟩
    ·by_cases hj0:j=0
     ·subst hj0;refine i6 false ?_ ?_
      ·tm_up;rw[decide_eq_false (show ¬((low:Int)<((low+0:Nat):Int)) by omega)];exact de rfl
      ·exact iy ⟨rfl,c,ys,s4,hf4,Ua,hys,hth,hcl,abH,D1⟩
     ·have hlt2:low<low+j:=by omega
      rw[if_pos hlt2,List.singleton_append]at hrf;rw[hrf,List.foldl_cons]at D1;rw[hrf,length_cons]at abH;have s5:az H (upd Rg f (.lst ((settle (b8 ss) c.1 low (low+j)).2.map V.int))):=gB s4 n1;have Zl:upd Rg f (.lst ((settle (b8 ss) c.1 low (low+j)).2.map V.int)) lo=some (.lst ys):=by rw[au nfl.symm];exact Ua
      have abI:upd Rg f (.lst ((settle (b8 ss) c.1 low (low+j)).2.map V.int)) th=some (.lst ((fV b (b8 ss)).map V.bl)):=by rw[au ntf];exact hth
      have abJ:(settle (b8 ss) c.1 low (low+j)).2.length=ss.length:=by rw[mW];exact hcl
      refine⟨fun bb H3=>bb = !(settle (b8 ss) c.1 low (low+j)).1/\H3=upd Rg f (.lst ((settle (b8 ss) c.1 low (low+j)).2.map V.int)),?_,?_⟩
      ·tm_up;rw[decide_eq_true (show((low:Int)<((low+j:Nat):Int)) by omega)];refine mQ ?_;tm_up;refine⟨l,f,low,low+j,xs,ss,c.1,rfl,a6.of hl4,hg4,nlf,hf4,hcl,hlt2,by omega,?_⟩;tm_up;exact⟨rfl,rfl⟩
      ·rintro bb H3 ⟨rfl,rfl⟩;refine aV (fun h=>?_) (fun h=>?_)
       ·have hst:(settle (b8 ss) c.1 low (low+j)).1=false:=by
         cases e:(settle (b8 ss) c.1 low (low+j)).1
         ·rfl
         ·rw[e]at h;cases h
        tm_up;refine⟨.inl ⟨rfl,_,a6.of Zl⟩,?_⟩;tm_up;refine⟨by show 2<=sizeLine;decide,fun z hz=>?_⟩;have sz:=az.upd (o:=.tup [.int (low:Int),.int ((low+j:Nat):Int)]) hz;have Rh:=sz _ _ Zl;refine⟨_,_,_,rfl,rfl,Rh,by rw[ef hys];exact gk (by omega),?_⟩;refine⟨rfl,((settle (b8 ss) c.1 low (low+j)).2,c.2++[(low,low+j)]),_,gB (s5.trans sz) abF,by rw[au nfl];exact sz _ _ aj,aj,lP (Nd Rh (HG sz (Nd hf4 hys))) (XJ Rh ⟨z,rfl,aj⟩),
         by rw[au ntl];exact sz _ _ abI,abJ,by simp only [length_append,List.length_singleton];omega,?_⟩
        rw[<-D1];unfold iz;rw[hst];rfl
       ·have hst:(settle (b8 ss) c.1 low (low+j)).1=true:=by
         cases e:(settle (b8 ss) c.1 low (low+j)).1
         ·rw[e]at h;exact absurd rfl h
         ·rfl
        refine⟨rfl,((settle (b8 ss) c.1 low (low+j)).2,c.2),ys,s5,aj,Zl,Nd hf4 hys,abI,abJ,by show c.2.length+_<=5001;omega,?_⟩;rw[<-D1];unfold iz;rw[hst];rfl
    ·rintro σ1 H1 ⟨rfl,c',ys',s6,hf6,Rh,abK,abL,abM,Qe,JM⟩;tm_up;refine⟨_,_,rfl,?_⟩
     by_cases hj0:j=0
     ·subst hj0;have hbl:(cT b (b8 ss))[low]? = some false:=by
       have h1:low<(cT b (b8 ss)).length:=by rw[oK,length_map];exact hlt
       have h2:¬(cT b (b8 ss))[low+0]? = some true:=fun z=>Nat.lt_irrefl _ (hla.mpr z);rw[Nat.add_zero,getElem?_eq_getElem h1]at h2;rw[getElem?_eq_getElem h1];cases e:(cT b (b8 ss))[low]
       ·rfl
       ·rw[e]at h2;exact absurd rfl h2
      rw[Nat.add_zero,qd hbl]at JM Qe;have er:aO low low (false::(cT b (b8 ss)).drop (low+1))=aO (low+1) (low+1) ((cT b (b8 ss)).drop (low+1)):=by
       show(if low<low then [(low,low)] else [])++aO (low+1) (low+1) ((cT b (b8 ss)).drop (low+1))=_;rw[if_neg (Nat.lt_irrefl _),nil_append]
      rw[er]at JM Qe;have em:(if(low:Int)+1 > ((low+0:Nat):Int) then(low:Int)+1 else((low+0:Nat):Int))=((low+1:Nat):Int):=by rw[if_pos (by omega)];rfl
      rw[em];exact⟨ss.length-(low+1),by omega,low+1,_,c',ys',rfl,by omega,rfl,s6,hf6,Rh,abK,abL,abM,Qe,JM⟩
     ·have em:(if(low:Int)+1 > ((low+j:Nat):Int) then(low:Int)+1 else((low+j:Nat):Int))=((low+j:Nat):Int):=by
       split <;> omega
      rw[em];exact⟨ss.length-(low+j),by omega,low+j,_,c',ys',rfl,by omega,rfl,s6,hf6,Rh,abK,abL,abM,Qe,JM⟩
  ·have hlt:low=ss.length:=by
    have:¬ low<ss.length:=fun z=>h (decide_eq_true (by omega));omega
   subst hlt;rw[List.drop_eq_nil_of_le (by rw[oK,length_map];exact Nat.le_refl _)]at D1;have e:c=fb b (b8 ss):=by
    have:aO ss.length ss.length []=[]:=by unfold aO;rw[if_neg (Nat.lt_irrefl _)]
    rw[this]at D1;exact D1
   subst e;tm_up;refine⟨by show 2<=sizeLine;decide,fun z hz=>?_⟩;have sz:=az.upd (o:=.tup [.ref f,.ref lo]) hz;exact q z f lo ys _ (s4.trans sz) n1 abF nfl aj (sz _ _ hf4) (sz _ _ Ua) (HG sz hys)
def LX (K:Frag):Sp:=fun vs H Q _=>∃(l:Addr)(b:Int)(xs:List V)(ss:List Sg),vs=[.ref l,.int b]/\Ms b/\H l=some (.lst xs)/\QM H xs ss/\ss.length<=400 /\
 ∀(l2:Addr)(D2:List V)(Fy:List Sg)(H':Hp),az H H'->(l2=l\/H l2=none)->H' l2=some (.lst D2)->QM H' D2 Fy->Fy.length<=ss.length->(∀ s∈Fy,s∈ss)->(fb b (b8 Fy)).2=[]->Q (.ref l2) H'
theorem WC (ks:List Kd)(rs:List (Nat×Nat))(c:Tu)(n:Nat)(h1:∀ p∈rs,p.1<p.2/\p.2<=n)(h2:∀ p∈c.2,p.1<p.2/\p.2<=n):∀ p∈(rs.foldl (iz ks) c).2,p.1<p.2/\p.2<=n:=by
 induction rs generalizing c with
 |nil=>exact h2
 |cons r t ih =>
  refine ih _ (fun p hp=>h1 p (mem_cons_of_mem _ hp)) fun p hp=>?_;unfold iz at hp;dsimp only at hp;split at hp
  ·exact h2 p hp
  ·rcases mem_append.mp hp with z|z
   ·exact h2 p z
   ·have:p=r:=by simpa using z
    rw[this];exact h1 r mem_cons_self
theorem Ub (m:Int)(ks:List Kd):∀ p∈(fb m ks).2,p.1<p.2/\p.2<=ks.length:=WC _ _ _ _ (bM m ks) (fun p hp=>by cases hp)
theorem Ri (ks:List Kd)(rs:List (Nat×Nat))(c:Tu)(h2:∀ p∈c.2,(p.2-p.1) % 3≠0):∀ p∈(rs.foldl (iz ks) c).2,(p.2-p.1) % 3≠0:=by
 induction rs generalizing c with
 |nil=>exact h2
 |cons r t ih =>
  refine ih _ fun p hp=>?_;unfold iz at hp;dsimp only at hp;split at hp
  ·exact h2 p hp
  ·rename_i hs
   rcases mem_append.mp hp with z|z
   ·exact h2 p z
   ·have:p=r:=by simpa using z
    rw[this];intro e;apply hs;unfold settle;rw[if_neg (by omega),if_neg (by omega)]
theorem Rj (m:Int)(ks:List Kd):∀ p∈(fb m ks).2,(p.2-p.1) % 3≠0:=Ri _ _ _ (fun p hp=>by cases hp)
theorem LY (T:Txt K w mg t):cw P w K mg base ji (0+3) t.fY t.rD ["_law_line_here","_law_begin_here"] (LX K):=by
 have ph:=xq (P:=P) (base:=base) T;refine T.j9.ok gw (fun vs H Q E h=>?_) (fun cdv A outer s H vs Q E hr h=>?_)
 ·obtain⟨_,_,_,_,rfl,_⟩:=h;rfl
 ·obtain⟨l,b,xs,ss,rfl,X3,hS,hg,hn,q⟩:=h;have p62:(2:Int) ^ 62=4611686018427387904:=by decide
  refine aU (ag (fU PassesOwn.never rfl (jD rfl T.mf (aa (aE (bV.or (aG.or bX)) (bF (bj.or bo) rfl T.jo jj (aa (pv 0) ao)) ah) ao)) (aK (i:=2) gw.nd rfl (Or.inl rfl)) (ag (aD (i:=3) gw.nd rfl (Or.inl rfl) (aI aA (ax ph (hr.mono (by decide)) rfl T.xg T.j8.kp T.o4 .nil aN (aa (pv 0) (aa (pv 1) ao))) ah (fun _ _=>rfl))) (ag (aW (ar (S0 (ay hr)) (pv 3) (e8 ao) (av _)) (aq (aw (pv 0))) aC) (ag (oC (aI aA (pv 3) ah (fun _ _=>rfl)) (iu rfl (aR (aK (i:=4) gw.nd rfl (Or.inl rfl)) (aR (aK (i:=5) gw.nd rfl (Or.inl rfl)) fE)))) (aq (aD (i:=0) gw.nd rfl (Or.inl rfl) (aE (bV.or (aG.or bX)) (BM (Hv.or (MR.or MW)) (pv 0) Hq (Hr (aE jh (pv 5) (aE cZ (aE jh (pv 5) (pv 4)) ah)))) (BM (Hv.or (MR.or MW)) (pv 0) (Hr (pv 5)) Hq)))))))) (aq (aw (pv 0)))) ?_;tm_up;refine .inl ⟨_,_,rfl,.inl (a6.of hS),?_⟩;rw[ef hg];tm_up;refine⟨by rw[p62];omega,by rw[p62];omega,?_⟩;refine lM (n:=((ss.length:Int)+1).toNat) (fun i σ H'=>∃(l2:Addr)(D2:List V)(Fy:List Sg)(u v w z:Option V),σ=[some (.ref l2),some (.int b),u,v,w,z]/\az H H'/\(l2=l\/H l2=none)/\H' l2=some (.lst D2)/\QM H' D2 Fy/\Fy.length+i<=ss.length/\∀ s∈Fy,s∈ss)
   ⟨l,xs,ss,none,none,none,none,rfl,az.refl _,.inl rfl,hS,hg,Nat.le_refl _,fun _ h=>h⟩ ?_ ?_
  ·rintro i σ H' hi ⟨l2,D2,Fy,u,v,w,z,rfl,s2,hl2,h2,g2,Zm,WD⟩;tm_up;refine⟨l2,b,D2,Fy,rfl,X3,h2,mX.of g2,by omega,fun p f lo ys H3 s3 _ nlo _ hp _ hlo hpr=>?_⟩;tm_up;refine⟨big (by show 0<=1000;omega),fun e he=>?_⟩;have se:=az.upd (o:=.lst []) he;refine⟨_,_,ys,rfl,rfl,a6.of (se _ _ hlo),a6.of aj,?_⟩;have s4:=s3.trans se;refine⟨_,rfl,?_⟩;generalize upd H3 e (.lst [])=H4 at se s4;have Ua:=se _ _ hlo;have WE:=HG se hpr;have h24:=s4 _ _ h2;have g24:=g2.same s4;cases hR:(fb b (b8 Fy)).2 with
   |nil =>
    rw[hR]at WE;cases WE;refine mQ ?_;tm_up;exact q l2 D2 Fy _ (s2.trans s4) hl2 h24 g24 (by omega) WD hR
   |cons r t =>
    have hin:=Ub b (b8 Fy) r (by rw[hR];exact mem_cons_self);have hmd:=Rj b (b8 Fy) r (by rw[hR];exact mem_cons_self);rw[length_map]at hin;rw[hR]at WE
    match ys,WE with
    |_::_,.cons ⟨pr,e1,aev⟩ hrest =>
     subst e1;refine iy ?_;tm_up;refine Y2 (a6.of Ua) (n:=0) rfl rfl ?_;refine⟨pr,_,rfl,dc.of aev,rfl,_,_,rfl,_,_,rfl,rfl,?_⟩;tm_up;refine .inl ⟨l2,D2,rfl,a6.of h24,fun c1 hc1=>?_⟩;have em:(r.2:Int)-((r.2:Int)-(r.1:Int)) % 3=((r.2-(r.2-r.1) % 3:Nat):Int):=by omega
     rw[em,XM];have sc1:=az.upd (o:=.lst (D2.take (r.2-(r.2-r.1) % 3))) hc1;tm_up;refine .inl ⟨l2,D2,rfl,a6.of (sc1 _ _ h24),fun c2 hc2=>?_⟩;rw[VX D2 r.2 (by rw[ef g2];exact hin.2)];have sc2:=az.upd (o:=.lst (D2.drop r.2)) hc2;have hle:(D2.take (r.2-(r.2-r.1) % 3)).length+(D2.drop r.2).length<D2.length:=by
      rw[length_take,length_drop,ef g2];omega
     refine .inr (.inr ⟨c1,c2,_,_,rfl,rfl,sc2 _ _ aj,aj,?_,fun c3 hc3=>?_⟩)
     ·have:=ef g2;exact big (by omega)
     ·have sc3:=az.upd (o:=.lst (D2.take (r.2-(r.2-r.1) % 3)++D2.drop r.2)) hc3;have s5:=s4.trans ((sc1.trans sc2).trans sc3);refine⟨c3,_,Fy.take (r.2-(r.2-r.1) % 3)++Fy.drop r.2,_,_,_,_,rfl,s2.trans s5,.inr (s2.free (s4.free ((sc1.trans sc2).free hc3))),aj,aaC (Ts _ (g2.same s5)) (XG _ (g2.same s5)),?_,fun s hs=>?_⟩
      ·rw[length_append,length_take,length_drop];omega
      ·rcases mem_append.mp hs with z|z
       ·exact WD s (List.mem_of_mem_take z)
       ·exact WD s (List.mem_of_mem_drop z)
  ·rintro σ H' ⟨l2,D2,Fy,u,v,w,z,rfl,s2,hl2,h2,g2,Zm,WD⟩;have:((ss.length:Int)+1).toNat=ss.length+1:=by omega
   rw[this]at Zm;exact absurd Zm (by omega)
theorem X4 (k:Kd):Nc k.str "Rr"=(decide (k=.R)||decide (k=.r)):=by cases k <;> decide +kernel
def LZ (K:Frag):Sp:=fun vs H Q _=>∃(l:Addr)(b:Int)(xs:List V)(ss:List Sg),vs=[.ref l,.int b]/\Ms b/\H l=some (.lst xs)/\mX K H xs ss/\ss.length<=5000 /\
 ∀(f:Addr)(ys:List V)(H':Hp),az H H'->H f=none->H' f=some (.lst ys)->tu H' ys (di ss (fb b (b8 ss)).1)->Q (.ref f) H'
theorem L0 (T:Txt K w mg t):cw P w K mg base ji (0+3) t.fZ t.rE ["_law_line_here","_law_begin_here"] (LZ K):=by
 have ph:=xq (P:=P) (base:=base) T;refine T.iL.ok lr (fun vs H Q E h=>?_) (fun cdv A outer s H vs Q E hr h=>?_)
 ·obtain⟨_,_,_,_,rfl,_⟩:=h;rfl
 ·obtain⟨l,b,xs,ss,rfl,X3,hS,hg,hn,q⟩:=h;refine aU (ag (aD (i:=2) lr.nd rfl (Or.inl rfl) (e8 ao)) (ag (fU PassesOwn.never rfl (YS rfl T.Zj (pv 0) (aI aA (ax ph (hr.mono (by decide)) rfl T.xg T.j8.kp T.o4 .nil aN (aa (pv 0) (aa (pv 1) ao))) ah (fun _ _=>rfl))) (iu rfl (aR (aK (i:=3) lr.nd rfl (Or.inl rfl)) (aR (aK (i:=4) lr.nd rfl (Or.inl rfl)) fE))) (aq (aW (ar (a8.or a7) (aI aA (pv 3) ah (fun _ _=>rfl)) aJ rfl) (aq (dg (kY plainAttrs_list slot_list_append type_list_append bW (pv 2) (aa (ee (aa (aI aA (pv 3) ah (fun _ _=>rfl)) (aa (pv 4) ao))) ao)))) (aq (aW (ar (a8.or a7) (aI aA (pv 3) ah (fun _ _=>rfl)) aJ rfl) (aq (dg (kY plainAttrs_list slot_list_append type_list_append bW (pv 2) (aa (ee (aa (Xe Sz ah) (aa (pv 4) ao))) ao)))) aC))))) (aq (aw (pv 2))))) ?_;refine⟨big (by show 0<=1000;omega),fun D hD=>?_⟩;have s0:=az.upd (o:=.lst []) hD;tm_up;refine⟨l,b,xs,ss,rfl,X3,s0 _ _ hS,hg.same s0,hn,fun pp f lo yl H1 s1 nf _ _ hpp h1 _ _=>?_⟩;have hD1:H1 D=some (.lst []):=s1 _ _ aj;have s01:=s0.trans s1;tm_up;refine⟨⟨_,a6.of (s01 _ _ hS)⟩,⟨_,a6.of h1⟩,?_⟩;have wl:(fb b (b8 ss)).1.length=ss.length:=by rw[QN,length_map]
  generalize hW:(fb b (b8 ss)).1=W at h1 wl;rw[hW]at q;have nDf:f≠D:=fun e=>by rw[e,aj]at nf;cases nf
  refine VG (K:=K) (xs:=xs) (ys:=W.map V.int) (fun i σ H'=>∃(u v:Option V)(zs:List V)(qs:List (Int×Int)),σ=[some (.ref l),some (.int b),some (.ref D),u,v]/\az H H'/\H' D=some (.lst zs)/\H' f=some (.lst (W.map V.int))/\tu H' zs qs/\qs++di (ss.drop i) (W.drop i)=di ss W)
   (by rw[length_map,wl];exact ef hg) ⟨none,none,[],[],rfl,s01,hD1,h1,.nil,rfl⟩ ?_ ?_ ?_
  ·rintro i σ H' ⟨u,v,zs,qs,rfl,s2,_,hf2,_⟩;exact⟨a6.of (s2 _ _ hS),a6.of hf2⟩
  ·rintro i x y t σ H' hx hy ⟨u,v,zs,qs,rfl,s2,X5,hf2,pq,hm⟩ ht;obtain⟨s,hs,p,rfl,hp⟩:=qu hg hx;obtain⟨w,hw,rfl⟩:=Tt hy;rw[qd hs,qd hw]at hm;simp only [di]at hm;have sT:az H' (upd H' t (.tup [.ref p,.int w])):=az.upd ht;have hp2:=hp.same (s2.trans sT);have hD2:=sT _ _ X5;have NN:=sT _ _ hf2;have pq2:=oN sT pq;refine⟨t,_,rfl,dc.of aj,rfl,_,_,rfl,_,_,rfl,rfl,?_⟩;generalize upd H' t (.tup [.ref p,.int w])=H3 at sT hp2 hD2 pq2 NN;have s3:=s2.trans sT;have zl:zs.length<sizeLine:=by
    rw[ef pq];have h1:=congrArg List.length hm;have h2:=vO ss W;simp only [length_append]at h1;exact gk (by omega)
   have fin:∀ n:Int,s.1.parting=false->n=qD s->∀ z,H3 z=none->∃(u v:Option V)(zs':List V)(qs':List (Int×Int)),[some (V.ref l),some (V.int b),some (V.ref D),some (V.ref p),some (V.int w)]=[some (.ref l),some (.int b),some (.ref D),u,v]/\az H (upd (upd H3 z (.tup [.int n,.int w])) D (.lst (zs++[V.ref z])))/\(upd (upd H3 z (.tup [.int n,.int w])) D (.lst (zs++[V.ref z]))) D=some (.lst zs')/\(upd (upd H3 z (.tup [.int n,.int w])) D (.lst (zs++[V.ref z]))) f=some (.lst (W.map V.int))/\tu (upd (upd H3 z (.tup [.int n,.int w])) D (.lst (zs++[V.ref z]))) zs' qs'/\qs'++di (ss.drop (i+1)) (W.drop (i+1))=di ss W:=by
    intro n hpt hnn z hz;have sz:=az.upd (o:=.tup [.int n,.int w]) hz;have hD4:=sz _ _ hD2;rw[hpt]at hm;refine⟨_,_,_,qs++[(n,w)],rfl,gB (s3.trans sz) hD,aj,by rw[au nDf];exact sz _ _ NN,lP (PQ hD4 (oN sz pq2)) (Nh hD4 ⟨z,rfl,aj⟩),?_⟩;rw[List.append_assoc,hnn];exact hm
   tm_up;refine aV (fun h=>?_) (fun h=>?_)
   ·have h':s.1.e9=true:=by rw[<-vP];exact h
    tm_up;refine⟨.inl ⟨rfl,_,a6.of hD2⟩,?_⟩;tm_up;refine⟨by show 2<=sizeLine;decide,fun z hz=>?_⟩;have sz:=az.upd (o:=.tup [.int s.2,.int w]) hz;refine⟨_,_,_,rfl,rfl,sz _ _ hD2,zl,fin s.2 ?_ ?_ z hz⟩
    ·revert h';cases s.1 <;> decide
    ·unfold qD;rw[if_pos h']
   ·have h':s.1.e9=false:=by rw[<-vP];exact Bool.eq_false_iff.mpr h
    tm_up;refine aV (fun h2=>?_) (fun h2=>?_)
    ·have h2':(decide (s.1=.R)||decide (s.1=.r))=true:=by rw[<-X4];exact h2
     tm_up;refine⟨.inl ⟨rfl,_,a6.of hD2⟩,?_⟩;tm_up;refine⟨by show 2<=sizeLine;decide,fun z hz=>?_⟩;have sz:=az.upd (o:=.tup [.int (-1),.int w]) hz;refine⟨_,_,_,rfl,rfl,sz _ _ hD2,zl,fin (-1) ?_ ?_ z hz⟩
     ·revert h2';cases s.1 <;> decide
     ·unfold qD;rw[h'];rfl
    ·have h2':¬(decide (s.1=.R)||decide (s.1=.r))=true:=by rw[<-X4];exact h2
     have hpt:s.1.parting=true:=by
      revert h' h2'
      cases s.1 <;> decide
     rw[hpt]at hm;exact⟨_,_,zs,qs,rfl,s3,hD2,NN,pq2,hm⟩
  ·rintro σ H' ⟨u,v,zs,qs,rfl,s2,X5,hf2,pq,hm⟩;rw[ef hg,List.drop_length]at hm;have e:qs=di ss W:=by
    rw[<-hm];simp[di]
   subst e;tm_up;exact q D zs H' s2 hD X5 pq
def Fz (K:Frag):Sp:=fun vs H Q _=>∃(p z:Addr)(s:Sg)(c:iA),vs=[.ref p,.ref z]/\dc K H p [.str s.1.str,.int s.2]/\H z=some (.tup [mO c.1,mO c.2.1,mO c.2.2])/\Q (mO (costOf c s.1)) H
theorem abO (k:Kd):inV (.str k.str) [.str "D",.str "d"]=(decide (k=.D)||decide (k=.d)):=by cases k <;> decide +kernel
theorem abP (k:Kd):inV (.str k.str) [.str "3",.str "2"]=(decide (k=.three)||decide (k=.two)):=by cases k <;> decide +kernel
theorem FA (T:Txt K w mg t):cw P w K mg base ji (0+1) t.ei t.m5 ["sign","prices"] (Fz K):=by
 refine T.gH.ok i0 (fun vs H Q E h=>?_) (fun cdv A outer s H vs Q E hr h=>?_)
 ·obtain⟨_,_,_,_,rfl,_⟩:=h;rfl
 ·obtain⟨p,z,s,c,rfl,hp,hz,q⟩:=h;refine aU (ag (oC (pv 1) (iu rfl (aR (aK (i:=2) i0.nd rfl (Or.inl rfl)) (aR (aK (i:=3) i0.nd rfl (Or.inl rfl)) (aR (aK (i:=4) i0.nd rfl (Or.inl rfl)) fE))))) (ag (aW (ar (a4.or (aL (ay hr))) (aI aA (pv 0) ah (fun _ _=>rfl)) aJ (av _)) (aq (aw (pv 2))) aC) (ag (aW (ar (a8.or a7) (aI aA (pv 0) ah (fun _ _=>rfl)) (cb (v:=.ref t.eC) rfl T.JI rfl) rfl) (aq (aw (pv 3))) aC) (ag (aW (ar (a8.or a7) (aI aA (pv 0) ah (fun _ _=>rfl)) (cb (v:=.ref t.cz) rfl T.yR rfl) rfl) (aq (aw (pv 4))) aC) (aq (aw ah)))))) ?_;refine⟨_,rfl,z,_,rfl,dc.of hz,rfl,_,_,rfl,_,_,rfl,_,_,rfl,rfl,?_⟩;tm_up;refine HK hp ?_;tm_up;rw[Tq];refine aV (fun h=>?_) (fun h=>?_)
  ·rw[of_decide_eq_true h]at q;exact⟨_,rfl,q⟩
  ·have h1:s.1≠.dot:=fun e=>h (decide_eq_true e);tm_up;refine HK hp ?_;tm_up;refine .inl ⟨_,_,rfl,.inr (T.JJ _),rfl,rfl,_,rfl,?_⟩;rw[abO];refine aV (fun h=>?_) (fun h=>?_)
   ·have e:costOf c s.1=c.2.1:=by revert h;cases s.1 <;> first|(intro h;rfl)|(intro h;exact absurd h (by decide))
    rw[e]at q;exact⟨_,rfl,q⟩
   ·tm_up;refine HK hp ?_;tm_up;refine .inl ⟨_,_,rfl,.inr (T.yS _),rfl,rfl,_,rfl,?_⟩;rw[abP];refine aV (fun h2=>?_) (fun h2=>?_)
    ·have e:costOf c s.1=c.2.2:=by revert h2;cases s.1 <;> first|(intro h;rfl)|(intro h;exact absurd h (by decide))
     rw[e]at q;exact⟨_,rfl,q⟩
    ·have e:costOf c s.1=some 0:=by
      revert h1 h h2
      cases s.1 <;> first|(intro _ _ _;rfl)|(intro a _ _;exact absurd rfl a)|(intro _ a _;exact absurd rfl a)|(intro _ _ a;exact absurd rfl a)
     rw[e]at q;exact q
def Uc (K:Frag):Sp:=fun vs H Q _=>∃(p:Addr)(s:Sg),vs=[.ref p]/\dc K H p [.str s.1.str,.int s.2]/\Q (.bl s.1.small) H
theorem tX (k:Kd):inV (.str k.str) [.str "s",.str "d",.str "r"]=k.small:=by cases k <;> decide +kernel
theorem Ud (T:Txt K w mg t):cw P w K mg base ji (0+1) t.m6 t.Jy ["sign"] (Uc K):=by
 refine T.tS.ok T1 (fun vs H Q E h=>?_) (fun cdv A outer s H vs Q E hr h=>?_)
 ·obtain⟨_,_,rfl,_⟩:=h;rfl
 ·obtain⟨p,s,rfl,hp,q⟩:=h;rw[<-tX]at q;refine aU (aq (aw (b7 (a8.or a7) (aI aA (pv 0) ah (fun _ _=>rfl)) (cb (v:=.ref t.c6) rfl T.Fu rfl) rfl))) ?_;tm_up;refine HK hp ?_;tm_up;exact .inl ⟨_,_,rfl,.inr (T.Fv _),rfl,rfl,q⟩
def NO (K:Frag):Sp:=fun vs H Q _=>∃(p:Addr)(s:Sg),vs=[.ref p]/\dc K H p [.str s.1.str,.int s.2]/\Q (.bl s.1.parting) H
theorem WG (k:Kd):inV (.str k.str) [.str ".",.str "3",.str "2"]=k.parting:=by cases k <;> decide +kernel
theorem NP (T:Txt K w mg t):cw P w K mg base ji (0+1) t.iG t.wY ["sign"] (NO K):=by
 refine T.l9.ok Nx (fun vs H Q E h=>?_) (fun cdv A outer s H vs Q E hr h=>?_)
 ·obtain⟨_,_,rfl,_⟩:=h;rfl
 ·obtain⟨p,s,rfl,hp,q⟩:=h;rw[<-WG]at q;refine aU (aq (aw (b7 (a8.or a7) (aI aA (pv 0) ah (fun _ _=>rfl)) (cb (v:=.ref t.cy) rfl T.yP rfl) rfl))) ?_;tm_up;refine HK hp ?_;tm_up;exact .inl ⟨_,_,rfl,.inr (T.yQ _),rfl,rfl,q⟩
def ml:Sp:=fun vs H Q _=>∃(z:Str),vs=[.str z]/\∀ H',az H H'->Q (.bl (rnZ z)) H'
theorem mn (T:Txt K w mg t):cw P w K mg base ji (0+1) t.aY t.ej ["state"] ml:=by
 refine T.bO.ok lZ (fun vs H Q E h=>?_) (fun cdv A outer s H vs Q E hr h=>?_)
 ·obtain⟨_,rfl,_⟩:=h;rfl
 ·obtain⟨z,rfl,q⟩:=h;refine aU (aq (aw (b7 (a8.or a7) (pv 0) (ee (aa aJ (aa aJ (aa aJ ao)))) rfl))) ?_;tm_up;refine⟨by show 3<=sizeLine;decide,fun p hp=>?_⟩;exact .inl ⟨p,_,rfl,.inr (dc.of aj),rfl,rfl,q _ (az.upd hp)⟩
def Rk:Sp:=fun vs H Q _=>∃(z:Str)(l c t:Nat),vs=[.str z]/\z.cps.toList=[51,l,c,t]/\z.length<=4/\Q (.bl (qe l c)) H
theorem xr (T:Txt K w mg t):cw P w K mg base ji (0+1) t.jZ t.DI ["state"] Rk:=by
 refine T.ka.ok Hg (fun vs H Q E h=>?_) (fun cdv A outer s H vs Q E hr h=>?_)
 ·obtain⟨_,_,_,_,rfl,_⟩:=h;rfl
 ·obtain⟨z,l,c,t,rfl,hz,hl,q⟩:=h;have hl':z.length<=sizeLine:=VY (by omega);refine aU (ag (Yo (i:=1) (j:=2) rfl Hg.nd rfl rfl (by decide) rfl rfl (aa (aI aA (pv 0) ah (fun _ _=>rfl)) (aa (aI aA (pv 0) ah (fun _ _=>rfl)) ao)) rfl) (ag (aW (ar (a4.or (aL (ay hr))) (pv 2) aJ (av _)) (aq (aw (b7 (qz.or (lz (ay hr))) (pv 1) aJ (av _)))) aC) (aq (aw (gy (oA (b7 (a4.or (aL (ay hr))) (pv 2) aJ (av _)) (oz (b7 (a4.or (aL (ay hr))) (pv 1) aJ (av _))))))))) ?_;refine⟨_,rfl,.inr (.inr ⟨_,_,l,rfl,rfl,hl',by rw[hz];rfl,?_⟩)⟩;refine⟨_,rfl,.inr (.inr ⟨_,_,c,rfl,rfl,hl',by rw[hz];rfl,?_⟩)⟩;refine⟨_,_,rfl,?_⟩;tm_up;rw[qf c 48 (by lk)];unfold qe at q;refine aV (fun h=>?_) (fun h=>?_)
  ·tm_up;rw[if_pos h]at q;rw[Y4 l 104 (by lk)];exact q
  ·rw[if_neg h]at q;refine yD (.bl (decide (c=49)&&decide (l=104))) ?_ ?_
   ·tm_up;rw[qf c 49 (by lk)];refine aV (fun h=>?_) (fun h=>?_)
    ·tm_up;rw[qf l 104 (by lk)];exact i7 (by rw[h];rfl)
    ·exact i7 (by rw[Bool.eq_false_iff.mpr h];rfl)
   ·exact q
def rM:Sp:=fun vs H Q _=>∃(z:Str),vs=[.str z]/\∀ H',az H H'->Q (.bl (bgZ z)) H'
theorem rN (T:Txt K w mg t):cw P w K mg base ji (0+1) t.bN t.gF ["state"] rM:=by
 refine T.cX.ok rq (fun vs H Q E h=>?_) (fun cdv A outer s H vs Q E hr h=>?_)
 ·obtain⟨_,rfl,_⟩:=h;rfl
 ·obtain⟨z,rfl,q⟩:=h;refine aU (aq (aw (b7 (a8.or a7) (pv 0) (ee (aa aJ (aa aJ ao))) rfl))) ?_;tm_up;refine⟨by show 2<=sizeLine;decide,fun p hp=>?_⟩;exact .inl ⟨p,_,rfl,.inr (dc.of aj),rfl,rfl,q _ (az.upd hp)⟩
def FC:Sp:=fun vs H Q _=>∃(z k:Str)(n:Int)(l c e:Nat),vs=[.str z,.str k,.int n]/\z.cps.toList=[51,l,c,e]/\z.length<=4/\∀ H',az H H'->Q (grS z k n) H'
theorem FD (T:Txt K w mg t):cw P w K mg base ji (0+2) t.eo t.m7 ["state","kind","worth"] FC:=by
 have nt:=mn (P:=P) (base:=base) T;have pj:=xr (P:=P) (base:=base) T;have tY:=rN (P:=P) (base:=base) T;refine T.gJ.ok Fo (fun vs H Q E h=>?_) (fun cdv A outer s H vs Q E hr h=>?_)
 ·obtain⟨_,_,_,_,_,_,rfl,_⟩:=h;rfl
 ·obtain⟨z,k,n,l,c,e,rfl,hz,hl,q⟩:=h;refine aU (ag (aW (ar (a4.or (aL (ay hr))) (pv 0) (cb (v:=.str "3t0-") rfl T.gN ⟨_,rfl⟩) (av _)) (aq (aw eV)) aC) (ag (aW (bK (PW.pt (cq (cJ (ax nt (hr.mono (by decide)) rfl T.ma T.bO.kp T.eE .nil aN (aa (pv 0) ao))) (cq (ar (a4.or (aL (ay hr))) (pv 1) aJ (av _)) (df (ar (a4.or (aL (ay hr))) (pv 2) ah (av _))))))) (aq (aw (cb (v:=.str "3t0-") rfl T.gN ⟨_,rfl⟩))) aC) (ag (aW (bK (PW.pt (jQ (cJ (ax pj (hr.mono (by decide)) rfl T.xi T.ka.kp T.o5 .nil aN (aa (pv 0) ao))) (ir (cJ (ax tY (hr.mono (by decide)) rfl T.rK T.cX.kp T.gI .nil aN (aa (pv 0) ao))))))) (aq (aw (Lq (GA hr) (cb (v:=.ref t.cG) rfl T.Fx rfl) (ee (aa (pv 1) (aa (pv 2) ao)))))) aC) (aq (aw eV))))) ?_;unfold grS at q;tm_up;rw[E8];refine aV (fun h=>?_) (fun h=>?_)
  ·rw[if_pos h]at q;tm_up;exact q _ (az.refl _)
  rw[if_neg h]at q;tm_up;refine⟨fun b H'=>b=(rnZ z&&(decide (k = "G")&&decide (n=2)))/\az H H',?_,?_⟩
  ·tm_up;intro H1 S1;tm_up;cases rnZ z with
   |false=>exact iy ⟨rfl,S1⟩
   |true =>
    refine mQ ?_;tm_up;rw[E8];cases decide (k = "G") with
    |false=>exact iy ⟨rfl,S1⟩
    |true =>
     refine mQ ?_;tm_up;rw[intD];exact⟨rfl,S1⟩
  rintro _ H1 ⟨rfl,S1⟩;refine aV (fun h=>?_) (fun h=>?_)
  ·rw[if_pos h]at q;tm_up;exact q _ S1
  rw[if_neg h]at q;tm_up;refine⟨fun b H'=>b=(V0 z||bgZ z)/\az H H',?_,?_⟩
  ·tm_up;refine⟨z,l,c,e,rfl,hz,hl,?_⟩;have ec:V0 z=qe l c:=by unfold V0;rw[hz];rfl
   rw[<-ec];tm_up;cases V0 z with
   |true=>exact mQ ⟨rfl,S1⟩
   |false =>
    refine iy ?_;tm_up;intro H2 S2;exact⟨_,rfl,rfl,S1.trans S2⟩
  rintro _ H2 ⟨rfl,S2⟩;refine aV (fun h=>?_) (fun h=>?_)
  ·rw[if_pos h]at q;tm_up;refine⟨_,_,rfl,T.DX,?_⟩;tm_up;refine⟨by show 2<=sizeLine;decide,fun p hp=>?_⟩;exact⟨p,k,n,rfl,aj,q _ (S2.trans (az.upd hp))⟩
  rw[if_neg h]at q;tm_up;exact q _ S2
def yW:Sp:=fun vs H Q _=>∃(z k:Str)(n:Int),vs=[.str z,.str k,.int n]/\∀ H',az H H'->Q (twS z k n) H'
theorem yX (T:Txt K w mg t):cw P w K mg base ji (0+1) t.cL t.j0 ["state","kind","worth"] yW:=by
 refine T.fo.ok yH (fun vs H Q E h=>?_) (fun cdv A outer s H vs Q E hr h=>?_)
 ·obtain⟨_,_,_,rfl,_⟩:=h;rfl
 ·obtain⟨z,k,n,rfl,q⟩:=h;refine aU (ag (aW (bK (PW.pt (cq (ar (a4.or (aL (ay hr))) (pv 0) aJ (av _)) (df (ar (qz.or (lz (ay hr))) (pv 1) aJ (av _)))))) (aq (aw eV)) aC) (ag (aW (bK (PW.pt (cq (ar (a4.or (aL (ay hr))) (pv 0) aJ (av _)) (df (ar (a4.or (aL (ay hr))) (pv 1) aJ (av _)))))) (aq (aw eV)) aC) (aq (aw (Lq (GA hr) (cb (v:=.ref t.bP) rfl T.yT rfl) (ee (aa (pv 1) (aa (pv 2) ao)))))))) ?_;refine i6 (decide (z = "2G") && !decide (k = ".")) ?_ ?_
  ·tm_up;rw[E8];cases decide (z = "2G") with
   |false=>exact de rfl
   |true =>
    refine mQ ?_;tm_up;rw[E8];exact de rfl
  unfold twS at q;refine aV (fun h=>?_) (fun h=>?_)
  ·rw[if_pos h]at q;tm_up;exact q H (az.refl _)
  rw[if_neg h]at q;refine i6 (decide (z = "2g")&&decide (k = ".")) ?_ ?_
  ·tm_up;rw[E8];cases decide (z = "2g") with
   |false=>exact de rfl
   |true =>
    refine mQ ?_;tm_up;rw[E8];exact de rfl
  refine aV (fun h=>?_) (fun h=>?_)
  ·rw[if_pos h]at q;tm_up;exact q H (az.refl _)
  rw[if_neg h]at q;tm_up;refine⟨_,_,rfl,T.xo,?_⟩;tm_up;refine⟨by show 2<=sizeLine;decide,fun p hp=>?_⟩;exact⟨p,k,n,rfl,aj,q _ (az.upd hp)⟩
def JN:Sp:=fun vs H Q _=>∃(k c:Str)(n:Int),vs=[.str k,.str c,.int n]/\Q (XO k c n) H
theorem JO (T:Txt K w mg t):cw P w K mg base ji (0+1) t.fg t.oV ["kind","count","worth"] JN:=by
 refine T.jb.ok Jv (fun vs H Q E h=>?_) (fun cdv A outer s H vs Q E hr h=>?_)
 ·obtain⟨_,_,_,rfl,_⟩:=h;rfl
 ·obtain⟨k,c,n,rfl,q⟩:=h;refine aU (ag (aW (ar (a4.or (aL (ay hr))) (pv 2) ah (av _)) (aq (aw (gy (lL (ar (a4.or (aL (ay hr))) (pv 0) aJ (av _)) aJ aJ)))) aC) (ag (aW (bK (PW.pt (cq (ar (a4.or (aL (ay hr))) (pv 2) ah (av _)) (cq (ar (a4.or (aL (ay hr))) (pv 0) aJ (av _)) (df (ar (a4.or (aL (ay hr))) (pv 1) aJ (av _))))))) (aq (aw aJ)) aC) (aq (aw eV)))) ?_;unfold XO at q;tm_up;rw[intD];refine aV (fun h=>?_) (fun h=>?_)
  ·rw[if_pos h]at q;refine yD (if decide (k = "s")=true then .str "s" else .str "o") ?_ q;tm_up;rw[E8];refine aV (fun h=>?_) (fun h=>?_)
   ·tm_up;exact i7 (by rw[if_pos h])
   ·tm_up;exact i7 (by rw[if_neg h])
  rw[if_neg h]at q;refine i6 (decide (n=2)&&(decide (k = "s")&&decide (c = "2"))) ?_ ?_
  ·tm_up;rw[intD];cases decide (n=2) with
   |false=>exact de rfl
   |true =>
    refine mQ ?_;tm_up;rw[E8];cases decide (k = "s") with
    |false=>exact de rfl
    |true =>
     refine mQ ?_;tm_up;rw[E8];exact de rfl
  refine aV (fun h=>?_) (fun h=>?_)
  ·rw[if_pos h]at q;tm_up;exact q
  rw[if_neg h]at q;tm_up;exact q
def FE:Sp:=fun vs H Q _=>∃(z k:Str)(n:Int)(l c e:Nat),vs=[.str z,.str k,.int n]/\z.cps.toList=[51,l,c,e]/\(c=48\/c=49\/c=50)/\z.length<=4/\Q (smS z k n) H
theorem FF (T:Txt K w mg t):cw P w K mg base ji (0+2) t.eA t.m8 ["state","kind","worth"] FE:=by
 have L1:=JO (P:=P) (base:=base) T;refine T.gK.ok i3 (fun vs H Q E h=>?_) (fun cdv A outer s H vs Q E hr h=>?_)
 ·obtain⟨_,_,_,_,_,_,rfl,_⟩:=h;rfl
 ·obtain⟨z,k,n,l,c,e,rfl,hz,hc,hl,q⟩:=h;have hl':z.length<=sizeLine:=VY (by omega);refine aU (ag (aW (ar (a4.or (aL (ay hr))) (aI aA (pv 0) ah (fun _ _=>rfl)) aJ (av _)) (aq (aw eV)) aC) (ag (aD (i:=3) i3.nd rfl (Or.inl rfl) (aI aak (cb (v:=.ref t.cF) rfl T.Fw rfl) (aI aA (pv 0) ah (fun _ _=>rfl)) (fun _ _=>rfl))) (ag (aD (i:=4) i3.nd rfl (Or.inl rfl) (ax L1 (hr.mono (by decide)) rfl T.JD T.jb.kp T.o6 .nil aN (aa (pv 1) (aa (pv 3) (aa (pv 2) ao))))) (ag (aW (ar Ho (pv 4) eV (av _)) (aq (aw eV)) aC) (ag (aD (i:=5) i3.nd rfl (Or.inl rfl) (gy (lL (ar (a4.or (aL (ay hr))) (aI aA (pv 0) ah (fun _ _=>rfl)) aJ (av _)) aJ (aI aA (pv 0) ah (fun _ _=>rfl))))) (aq (aw (VB (sX SV (sX (MV (pv 5)) (sX (MV (pv 3)) (sX (MV (pv 4)) VA)))))))))))) ?_;unfold smS at q;tm_up;refine .inr (.inr ⟨_,_,e,rfl,rfl,hl',by rw[hz];rfl,?_⟩);tm_up;rw[qf e 83 (by lk)];have e3:z.cps.toList.getD 3 0=e:=by rw[hz];rfl
  have e2:z.cps.toList.getD 2 0=c:=by rw[hz];rfl
  have e1:z.cps.toList.getD 1 0=l:=by rw[hz];rfl
  rw[e3,e2]at q;refine aV (fun h=>?_) (fun h=>?_)
  ·rw[if_pos h]at q;tm_up;exact q
  rw[if_neg h]at q;tm_up;refine .inr (.inr ⟨_,_,c,rfl,rfl,hl',by rw[hz];rfl,?_⟩);refine⟨_,_,_,.str (Y6 c),rfl,rfl,T.DW,by rcases hc with rfl|rfl|rfl <;> decide +kernel,?_⟩;tm_up;refine⟨k,Y6 c,n,rfl,?_⟩;tm_up;have cl:=V1 c;have ll:=V2 z;have l3:("3":Str).length=1:=Lw _ (.inr (.inr (.inr (.inl rfl))));have ls:=Lw "s" (.inl rfl);have lo:=Lw "o" (.inr (.inl rfl));have lS:=Lw "S" (.inr (.inr (.inl rfl)));generalize Y6 c=cc at q cl;rcases QP k cc n with ht|ht|ht|ht <;> rw[ht]at q ⊢
  ·refine⟨rfl,_,rfl,mQ ?_⟩;tm_up;exact q
  all_goals
   refine⟨rfl,_,rfl,iy ?_⟩;refine yD (.str (lfZ z)) ?_ ?_
   ·tm_up;refine .inr (.inr ⟨_,_,l,rfl,rfl,hl',by rw[hz];rfl,?_⟩);tm_up;rw[qf l 116 (by lk)];unfold lfZ chr;rw[e1];refine aV (fun h=>?_) (fun h=>?_)
    ·tm_up;exact i7 (by rw[if_pos h])
    ·tm_up;refine .inr (.inr ⟨_,_,l,rfl,rfl,hl',by rw[hz];rfl,?_⟩);exact i7 (by rw[if_neg h])
   refine⟨?_,_,rfl,.inl ⟨_,rfl,?_,?_,_,rfl,.inl ⟨_,rfl,?_,?_,_,rfl,.inl ⟨_,rfl,?_,?_,?_,?_⟩⟩⟩⟩
   all_goals first
    |exact VY (by omega)
    |exact VY (by simp only [PySem.Str.empty_append,Tx];omega)
    |(rw[PySem.Str.empty_append];exact q)
def yY:Sp:=fun vs H Q _=>∃(z k:Str)(n:Int)(l c e:Nat),vs=[.str z,.str k,.int n]/\z.cps.toList=[51,l,c,e]/\z.length<=4/\Q (ptS z k n) H
theorem yZ (T:Txt K w mg t):cw P w K mg base ji (0+2) t.cM t.j1 ["state","kind","worth"] yY:=by
 have pj:=xr (P:=P) (base:=base) T;refine T.fq.ok yI (fun vs H Q E h=>?_) (fun cdv A outer s H vs Q E hr h=>?_)
 ·obtain⟨_,_,_,_,_,_,rfl,_⟩:=h;rfl
 ·obtain⟨z,k,n,l,c,e,rfl,hz,hl,q⟩:=h;refine aU (ag (aW (bK (PW.pt (jQ (ar (qz.or (lz (ay hr))) (pv 2) ah (av _)) (ir (jR (cJ (ax pj (hr.mono (by decide)) rfl T.xi T.ka.kp T.o5 .nil aN (aa (pv 0) ao)))))))) (aq (aw eV)) aC) (ag (aW (ar (a4.or (aL (ay hr))) (pv 1) aJ (av _)) (aq (aw (cb (v:=.str "2-") rfl T.nU ⟨_,rfl⟩))) aC) (aq (aw (cb (v:=.str "3n0-") rfl T.lx ⟨_,rfl⟩))))) ?_;refine i6 (!decide (n=0) || !V0 z) ?_ ?_
  ·tm_up;rw[intD];cases hn:decide (n=0) with
   |false=>exact de rfl
   |true =>
    refine iy ?_;tm_up;refine⟨z,l,c,e,rfl,hz,hl,?_⟩;have ec:V0 z=qe l c:=by unfold V0;rw[hz];rfl
    rw[<-ec];exact⟨_,rfl,rfl,rfl⟩
  unfold ptS at q;refine aV (fun h=>?_) (fun h=>?_)
  ·rw[if_pos h]at q;tm_up;exact q
  rw[if_neg h]at q;tm_up;rw[E8];refine aV (fun h=>?_) (fun h=>?_)
  ·rw[if_pos h]at q;tm_up;exact q
  rw[if_neg h]at q;tm_up;exact q
def WH (K:Frag):Sp:=fun vs H Q _=>∃(z:Str)(p:Addr)(g:Sg)(n:Int),vs=[.str z,.ref p,.int n]/\z∈ST/\dc K H p [.str g.1.str,.int g.2]/\∀ H',az H H'->Q (jF z g.1 n) H'
theorem WI (T:Txt K w mg t):cw P w K mg base ji (0+3) t.rF t.Nz ["state","sign","worth"] (WH K):=by
 have WJ:=Ud (P:=P) (base:=base) T;have Rl:=NP (P:=P) (base:=base) T;have JP:=FD (P:=P) (base:=base) T;have D3:=yX (P:=P) (base:=base) T;have JQ:=FF (P:=P) (base:=base) T;have D4:=yZ (P:=P) (base:=base) T;refine T.DN.ok Wr (fun vs H Q E h=>?_) (fun cdv A outer s H vs Q E hr h=>?_)
 ·obtain⟨_,_,_,_,rfl,_⟩:=h;rfl
 ·obtain⟨z,p,g,n,rfl,hz,hp,q⟩:=h;have hl:=PR hz;refine aU (ag (aW (ar (a8.or a7) (pv 0) (cb (v:=.ref t.bI) rfl T.mi rfl) rfl) (aq (aw (ax D3 (hr.mono (by decide)) rfl T.yL T.fo.kp T.kb .nil aN (aa (pv 0) (aa (aI aA (pv 1) ah (fun _ _=>rfl)) (aa (pv 2) ao)))))) aC) (ag (aW (cJ (ax WJ (hr.mono (by decide)) rfl T.T5 T.tS.kp T.JC .nil aN (aa (pv 1) ao))) (aq (aw (ax JQ (hr.mono (by decide)) rfl T.Fs T.gK.kp T.nq .nil aN (aa (pv 0) (aa (aI aA (pv 1) ah (fun _ _=>rfl)) (aa (pv 2) ao)))))) aC) (ag (aW (cJ (ax Rl (hr.mono (by decide)) rfl T.ND T.l9.kp T.xh .nil aN (aa (pv 1) ao))) (aq (aw (ax D4 (hr.mono (by decide)) rfl T.yM T.fq.kp T.kc .nil aN (aa (pv 0) (aa (aI aA (pv 1) ah (fun _ _=>rfl)) (aa (pv 2) ao)))))) aC) (aq (aw (ax JP (hr.mono (by decide)) rfl T.Fq T.gJ.kp T.nk .nil aN (aa (pv 0) (aa (aI aA (pv 1) ah (fun _ _=>rfl)) (aa (pv 2) ao))))))))) ?_;unfold jF at q;tm_up;refine .inl ⟨_,_,rfl,.inr (T.mj _),rfl,rfl,?_⟩;rw[XN hz];tm_up;refine aV (fun h=>?_) (fun h=>?_)
  ·have h:E7 z=true:=h;rw[if_pos h]at q;refine⟨_,rfl,_,rfl,HK hp ⟨_,rfl,z,g.1.str,n,rfl,q⟩⟩
  have h:¬ E7 z=true:=h;obtain⟨l,c,e,h3⟩:=Lv hz h;rw[if_neg h]at q;refine⟨_,rfl,p,g,rfl,hp,_,rfl,?_⟩;refine aV (fun h=>?_) (fun h=>?_)
  ·rw[if_pos h]at q;exact⟨_,rfl,_,rfl,HK hp ⟨_,rfl,z,g.1.str,n,l,c,e,rfl,h3,adI hz h3,hl,q H (az.refl _)⟩⟩
  rw[if_neg h]at q;refine⟨_,rfl,p,g,rfl,hp,_,rfl,?_⟩;refine aV (fun h=>?_) (fun h=>?_)
  ·rw[if_pos h]at q;exact⟨_,rfl,_,rfl,HK hp ⟨_,rfl,z,g.1.str,n,l,c,e,rfl,h3,hl,q H (az.refl _)⟩⟩
  rw[if_neg h]at q;exact⟨_,rfl,_,rfl,HK hp ⟨_,rfl,z,g.1.str,n,l,c,e,rfl,h3,hl,q⟩⟩
def Ue (K:Frag):Sp:=fun vs H Q _=>∃(z:Str)(sg:Addr)(n:Int)(pz:Addr)(ys:List V)(ss:List Sg)(c:iA),vs=[.str z,.ref sg,.int n,.ref pz]/\z∈ST/\0<=n/\n<=9/\dc K H sg ys/\Paired (qC K H) ys ss/\ss.length<=10/\H pz=some (.tup [mO c.1,mO c.2.1,mO c.2.2]) /\
 ∀(l:Addr)(xs:List V)(H':Hp),az H H'->H l=none->H' l=some (.lst xs)->Paired (Lz K H') xs (bZ c z n ss)->Q (.ref l) H'
theorem L3 (T:Txt K w mg t):cw P w K mg base ji (0+4) t.m9 t.Jz ["state","signs","worth","prices"] (Ue K):=by
 have JR:=FA (P:=P) (base:=base) T;have Zn:=WI (P:=P) (base:=base) T;refine T.qo.ok oU (fun vs H Q E h=>?_) (fun cdv A outer s H vs Q E hr h=>?_)
 ·obtain⟨_,_,_,_,_,_,_,rfl,_⟩:=h;rfl
 ·obtain⟨z,sg,n,pz,ys,ss,c,rfl,hz,h0,h9,hsg,hss,hl,hpz,q⟩:=h;refine aU (ag (aD (i:=4) oU.nd rfl (Or.inl rfl) (e8 ao)) (ag (fU PassesOwn.never rfl (Sv (pv 1)) (aK (i:=5) oU.nd rfl (Or.inl rfl)) (ag (aD (i:=6) oU.nd rfl (Or.inl rfl) (ax JR (hr.mono (by decide)) rfl T.Fp T.gH.kp T.nj .nil aN (aa (pv 5) (aa (pv 3) ao)))) (ag (aD (i:=7) oU.nd rfl (Or.inl rfl) (ax Zn (hr.mono (by decide)) rfl T.Wu T.DN.kp T.NF .nil aN (aa (pv 0) (aa (pv 5) (aa (pv 2) ao))))) (aq (aW (bK (PW.pt (cq (ar Pk (pv 6) eV (av _)) (df (ar Pk (pv 7) eV (av _)))))) (aq (dg (kY plainAttrs_list slot_list_append type_list_append bW (pv 4) (aa (ee (aa (pv 5) (aa (pv 6) (aa (pv 7) ao)))) ao)))) aC))))) (aq (aw (pv 4))))) ?_;refine⟨big (by show 0<=1000;omega),fun f hf=>?_⟩;have s0:=az.upd (o:=.lst []) hf;tm_up;refine⟨⟨ys,s0.tup hsg⟩,Vq (K:=K) (xs:=ys) (fun i σ H'=>∃(u v w:Option V)(xs:List V),σ=[some (.str z),some (.ref sg),some (.int n),some (.ref pz),some (.ref f),u,v,w]/\az H H'/\H' f=some (.lst xs)/\Paired (Lz K H') xs (bZ c z n (ss.take i))/\i<=ss.length)
   ⟨none,none,none,[],rfl,s0,aj,.nil,Nat.zero_le _⟩ ?_ ?_ ?_⟩
  ·rintro i σ H' _ ⟨u,v,w,xs,rfl,s1,_⟩;exact s1.tup hsg
  ·rintro i x σ H' hx ⟨u,v,w,xs,rfl,s1,hf1,p1,il⟩;obtain⟨s,hs,p,rfl,hp⟩:=qu hss hx;have Qf:i<ss.length:=(List.getElem?_eq_some_iff.mp hs).1;have hp1:=s1.tup hp;have xl:xs.length<=10:=by
    rw[ef p1];exact Nat.le_trans (QR _ _ _ _) (by rw[length_take];omega)
   have ht:=Ni (c:=c) (z:=z) (n:=n) hs;unfold Ly at ht;tm_up;refine⟨p,pz,s,c,rfl,hp1,s1 _ _ hpz,?_⟩;tm_up;refine⟨z,p,s,n,rfl,hz,hp1,fun H2 s2=>?_⟩;have sF:=s1.trans s2;have pF:=bU (fun _ _ q=>Lz.kn s2.kn q) p1;have hfF:=s2 _ _ hf1;rcases XR hz s.1 h0 h9 with ⟨e1,e2⟩|⟨y,hy,e1,e2⟩
   ·rw[e2]at ht;have ht:bZ c z n (ss.take (i+1))=bZ c z n (ss.take i):=by
     rw[ht];cases costOf c s.1 <;> exact append_nil _
    rw[e1];refine⟨fun b H3=>H3=H2/\b=false,?_,?_⟩
    ·cases costOf c s.1 with
     |none =>
      tm_up;exact⟨rfl,_,rfl,iy ⟨rfl,rfl⟩⟩
     |some m =>
      tm_up;refine⟨rfl,_,rfl,mQ ?_⟩;tm_up;exact⟨rfl,_,rfl,rfl,rfl⟩
    ·rintro _ _ ⟨rfl,rfl⟩;exact iy ⟨_,_,_,xs,rfl,sF,hfF,by rw[ht];exact pF,Qf⟩
   ·rw[e2]at ht;rw[e1];cases ec:costOf c s.1 with
    |none =>
     rw[ec]at ht;have ht:bZ c z n (ss.take (i+1))=bZ c z n (ss.take i):=by rw[ht];exact append_nil _
     refine⟨fun b H3=>H3=H2/\b=false,?_,?_⟩
     ·tm_up;exact⟨rfl,_,rfl,iy ⟨rfl,rfl⟩⟩
     ·rintro _ _ ⟨rfl,rfl⟩;exact iy ⟨_,_,_,xs,rfl,sF,hfF,by rw[ht];exact pF,Qf⟩
    |some m =>
     rw[ec]at ht;refine⟨fun b H3=>H3=H2/\b=true,?_,?_⟩
     ·tm_up;refine⟨rfl,_,rfl,mQ ?_⟩;tm_up;exact⟨rfl,_,rfl,rfl,rfl⟩
     ·rintro _ _ ⟨rfl,rfl⟩;refine mQ ?_;tm_up;refine⟨.inl ⟨rfl,_,a6.of hfF⟩,?_⟩;tm_up;refine⟨by show 3<=sizeLine;decide,fun tp htp=>?_⟩;have sT:=az.upd (o:=.tup [.ref p,.int m,.str y]) htp;have hfT:=sT _ _ hfF;refine⟨f,xs,_,rfl,rfl,hfT,cf (by omega),?_⟩;refine⟨_,_,_,_,rfl,gB (sF.trans sT) hf,aj,?_,Qf⟩;rw[ht];exact bU (fun _ _ q=>Lz.write hfT q) (lP (bU (fun _ _ q=>Lz.kn sT.kn q) pF) ⟨tp,p,rfl,aj,(s2.trans sT).tup hp1⟩)
  ·rintro σ H' ⟨u,v,w,xs,rfl,s1,hf1,p1,_⟩;rw[ef hss,take_length]at p1;tm_up;exact q f xs H' s1 hf hf1 p1
def xt (K:Frag):Sp:=fun vs H Q _=>∃(z:Str)(pz:Addr)(c:iA),vs=[.str z,.ref pz]/\z∈ST/\H pz=some (.tup [mO c.1,mO c.2.1,mO c.2.2]) /\
 ∀(l:Addr)(xs:List V)(H':Hp),az H H'->H l=none->H' l=some (.lst xs)->Paired (Lz K H') xs (bZ c z 0 oP)->Q (.ref l) H'
theorem xu (T:Txt K w mg t):cw P w K mg base ji (0+5) t.cx t.jm ["state","prices"] (xt K):=by
 have JS:=L3 (P:=P) (base:=base) T;refine T.eP.ok wV (fun vs H Q E h=>?_) (fun cdv A outer s H vs Q E hr h=>?_)
 ·obtain⟨_,_,_,rfl,_⟩:=h;rfl
 ·obtain⟨z,pz,c,rfl,hz,hpz,q⟩:=h;refine aU (aq (aw (ax JS (hr.mono (by decide)) rfl T.LQ T.qo.kp T.BE .nil aN (aa (pv 0) (aa (cb (v:=.ref t.cA) rfl T.yU rfl) (aa ah (aa (pv 1) ao))))))) ?_;tm_up;exact⟨z,_,0,pz,_,oP,c,rfl,hz,by decide,by decide,T.yV _,.cons ⟨_,rfl,T.tT _⟩ (.cons ⟨_,rfl,T.tU _⟩ (.cons ⟨_,rfl,T.tV _⟩ .nil)),by decide,hpz,q⟩
def y3 (K:Frag):Sp:=fun vs H Q _=>∃(A:Addr->Prop)(d l:Addr)(z:Str)(c:Int)(kvs:List (Key×V)) (ws:List Wy) (ys:List V) (ln:List Sg),vs=[.ref d,.str z,.int c,.ref l]/\H d=some (.dK kvs)/\kvs.length<=900/\Paired (gj K A H) kvs ws/\A l/\H l=some (.lst ys)/\Paired (qC K H) ys ln /\
 ∀(kvs':List (Key×V)) (H':Hp),(∀ b o,b≠d->H b=some o->H' b=some o)->H' d=some (.dK kvs')->Paired (gj K A H') kvs' (la ws z c ln)->Q .non H'
theorem nV (T:Txt K w mg t):cw P w K mg base ji (0+1) t.cN t.j2 ["ways","state","cost","line"] (y3 K):=by
 refine T.dS.ok yJ (fun vs H Q E h=>?_) (fun cdv A outer s H vs Q E hr h=>?_)
 ·obtain⟨_,_,_,_,_,_,_,_,_,rfl,_⟩:=h;rfl
 ·obtain⟨A',d,l,z,c,kvs,ws,ys,ln,rfl,hd,hk,hws,hA,hl,hln,q⟩:=h;refine aU (aq (aW (bK (PW.pt (jQ (Yk (QF (GA hr) (pv 1) (pv 0))) (ir (ar sR (pv 2) (aI aA (Px (GA hr) (pv 0) (pv 1) (fun _ _=>rfl)) ah (fun _ _=>rfl)) (av _)))))) (aq (VN (GA hr) (pv 0) (pv 1) (ee (aa (pv 2) (aa (pv 3) ao))) rfl)) aC)) ?_;have fin:∀ tp,H tp=none->Tz ws z c ln=la ws z c ln->Q .non (upd (upd H tp (.tup [.int c,.ref l])) d (.dK (putK kvs (Sum.inr z) (.ref tp)))):=fun tp htp hu=>by
   have sT:=az.upd (o:=.tup [.int c,.ref l]) htp;have hd2:=sT _ _ hd;have kn:=Kn.put (u:=.dK (putK kvs (Sum.inr z) (.ref tp))) hd2 rfl;refine q _ _ (fun b o hb e=>by rw[au hb];exact sT _ _ e) aj ?_;have:=gj.put (gj.tw sT.kn hws) (z:=z) (v:=.ref tp) (c:=c) (ln:=ln) ⟨rfl,tp,l,ys,rfl,hA,aj,sT _ _ hl,qC.tw sT.kn hln⟩;rw[hu]at this;exact gj.tw kn this
  rcases gj.val hws z with ⟨e1,e2⟩|⟨⟨k,ol⟩,v,e1,e2,e3⟩
  ·refine i6 true ?_ (mQ ?_)
   ·refine⟨_,rfl,_,rfl,d,_,rfl,BS.k (k:=Sum.inr z) hd,?_⟩;rw[e2];exact⟨_,rfl,mQ ⟨rfl,rfl⟩⟩
   ·tm_up;refine⟨by show 2<=sizeLine;decide,fun tp htp=>?_⟩;refine⟨_,rfl,_,rfl,d,_,rfl,QC.k (k:=Sum.inr z) ((az.upd htp) _ _ hd) (cf (by omega)),?_⟩;exact fin tp htp (by unfold Tz la;rw[e1])
  ·obtain⟨_,tq,lq,yq,rfl,_,hq,_⟩:=e3;refine i6 (decide (c<k)) ?_ ?_
   ·refine⟨_,rfl,_,rfl,d,_,rfl,BS.k (k:=Sum.inr z) hd,?_⟩;rw[e2];refine⟨_,rfl,iy ?_⟩;tm_up;have g:=BS.k (k:=Sum.inr z) hd;rw[e2]at g;refine⟨d,_,rfl,g,?_⟩;tm_up;exact⟨rfl,rfl⟩
   refine aV (fun h=>?_) (fun h=>?_)
   ·tm_up;refine⟨by show 2<=sizeLine;decide,fun tp htp=>?_⟩;refine⟨_,rfl,_,rfl,d,_,rfl,QC.k (k:=Sum.inr z) ((az.upd htp) _ _ hd) (cf (by omega)),?_⟩;exact fin tp htp (by
     unfold Tz la;rw[e1];exact(if_pos (of_decide_eq_true h)).symm)
   ·refine q kvs H (fun _ _ _ e=>e) hd ?_;unfold la;rw[e1];show Paired _ _ (if c<k then _ else _);rw[if_neg (fun z=>h (decide_eq_true z))];exact hws
def og (K:Frag):Sp:=fun vs H Q _=>∃(A:Addr->Prop)(d pz:Addr)(c:iA)(kvs:List (Key×V)) (ws:List Wy) (B:Nat),vs=[.ref d,.ref pz]/\H d=some (.dK kvs)/\Paired (gj K A H) kvs ws/\fW B ws/\B<=100000/\(∀ l,H l=none->A l)/\H pz=some (.tup [mO c.1,mO c.2.1,mO c.2.2]) /\
 ∀(f:Addr)(kvs':List (Key×V)) (H':Hp),az H H'->H f=none->H' f=some (.dK kvs')->Paired (gj K A H') kvs' (withPart c ws)->Q (.ref f) H'
theorem oh (T:Txt K w mg t):cw P w K mg base ji (0+6) t.a5 t.fh ["ways","prices"] (og K):=by
 have y4:=xu (P:=P) (base:=base) T;have kg:=nV (P:=P) (base:=base) T;refine T.bJ.ok aM (fun vs H Q E h=>?_) (fun cdv A outer s H vs Q E hr h=>?_)
 ·obtain⟨_,_,_,_,_,_,_,rfl,_⟩:=h;rfl
 ·obtain⟨A',d,pz,c,kvs,ws,B,rfl,hd,hws,X6,hB,hA,hpz,q⟩:=h;have wl:=X6.len;refine aU (ag (aD (i:=2) aM.nd rfl (Or.inl rfl) (gi M7 rfl T.Wx VF (aa (pv 0) ao))) (ag (fU PassesOwn.never rfl (jD rfl T.mf (aa (cb (v:=.int 2) rfl T.pf ⟨_,rfl⟩) ao)) (aK (i:=3) aM.nd rfl (Or.inl rfl)) (aq (fU PassesOwn.never rfl (kX (gi M6 rfl T.JH HA (aa (pv 2) ao))) (aK (i:=4) aM.nd rfl (Or.inl rfl)) (ag (oC (Px (GA hr) (pv 2) (pv 4) (fun _ _=>rfl)) (iu rfl (aR (aK (i:=5) aM.nd rfl (Or.inl rfl)) (aR (aK (i:=6) aM.nd rfl (Or.inl rfl)) fE)))) (aq (fU PassesOwn.never rfl (kX (ax y4 (hr.mono (by decide)) rfl T.xj T.eP.kp T.jn .nil aN (aa (pv 4) (aa (pv 1) ao)))) (iu rfl (aR (aK (i:=7) aM.nd rfl (Or.inl rfl)) (aR (aK (i:=8) aM.nd rfl (Or.inl rfl)) (aR (aK (i:=9) aM.nd rfl (Or.inl rfl)) fE)))) (aq (dg (ax kg (hr.mono (by decide)) rfl T.nS T.dS.kp T.gL .nil aN (aa (pv 2) (aa (pv 9) (aa (aE (bV.or (aG.or bX)) (pv 5) (pv 8)) (aa (aE (bV.or (aG.or bX)) (pv 6) (e8 (aa (pv 7) ao))) ao))))))))))))) (aq (aw (pv 2))))) ?_;tm_up;refine⟨d,kvs,rfl,.inl hd,fun f hf=>?_⟩;have s0:=az.upd (o:=.dK kvs) hf;tm_up;refine⟨by decide,by decide,lM (n:=2) (fun i σ H'=>∃(v1 v2 v3 v4 v5 v6 v7:Option V)(kvs:List (Key×V)),σ=[some (.ref d),some (.ref pz),some (.ref f),v1,v2,v3,v4,v5,v6,v7]/\az H H'/\H' f=some (.dK kvs)/\Paired (gj K A' H') kvs (HL c ws i)/\i<=2)
   ⟨none,none,none,none,none,none,none,kvs,rfl,s0,aj,gj.tw s0.kn hws,by decide⟩ ?_ ?_⟩
  ·rintro i σ H' hi ⟨v1,v2,v3,v4,v5,v6,v7,L4,rfl,s1,hf1,w1,il⟩;have aok:=HM (c:=c) X6 i;generalize hac:HL c ws i=ac at w1 aok;have acl:=aok.len;refine⟨_,rfl,rfl,f,L4,rfl,.inl hf1,fun l1 hl1=>?_⟩;rw[Y9 w1];have s2:=az.upd (o:=.lst ((ac.map (·.1)).map V.str)) hl1;have h2:=aj (H:=H') (a:=l1) (o:=.lst ((ac.map (·.1)).map V.str));have nl:H l1=none:=s1.free hl1;generalize upd H' l1 (.lst ((ac.map (·.1)).map V.str))=H2 at s2 h2;refine⟨l1,rfl,⟨_,a6.of h2⟩,jS (K:=K) (xs:=(ac.map (·.1)).map V.str) (fun j σ H'=>∃(v2 v3 v4 v5 v6 v7:Option V)(kvs:List (Key×V)),σ=[some (.ref d),some (.ref pz),some (.ref f),some (.int (0+(i:Int))),v2,v3,v4,v5,v6,v7]/\az H H'/\H' l1=some (.lst ((ac.map (·.1)).map V.str))/\H' f=some (.dK kvs)/\Paired (gj K A' H') kvs (lg c ((ac.map (·.1)).take j) ac)/\j<=ac.length)
    ⟨v2,v3,v4,v5,v6,v7,L4,rfl,s1.trans s2,h2,s2 _ _ hf1,gj.tw s2.kn w1,Nat.zero_le _⟩ ?_ ?_ ?_⟩
   ·rintro j σ H' _ ⟨v2,v3,v4,v5,v6,v7,kvs,rfl,_,h3,_⟩;exact a6.of h3
   ·rintro j x σ H3 hx ⟨v2,v3,v4,v5,v6,v7,Zo,rfl,s3,h3,NN,w3,jl⟩;obtain⟨z,hz0,rfl⟩:=VZ hx;have jl2:j<ac.length:=by have:=(List.getElem?_eq_some_iff.mp hz0).1;rwa [length_map]at this
    have hzm:z∈ac.map (·.1):=mem_of_getElem? hz0;have hz:z∈ST:=by
     obtain⟨w,hw,rfl⟩:=mem_map.mp hzm;exact aok.st w hw
    have cok:=B5 (c:=c) (zs:=(ac.map (·.1)).take j) (acc:=ac) (fun y hy=>by
     obtain⟨w,hw,rfl⟩:=mem_map.mp (List.mem_of_mem_take hy);exact aok.st w hw) aok
    have hck:=B6 c ((ac.map (·.1)).take j) ac hzm;have hnx:lg c ((ac.map (·.1)).take (j+1)) ac=oS c (lg c ((ac.map (·.1)).take j) ac) z:=by rw[take_succ,hz0];exact Nl c _ z ac
    have ag1:((ac.map (·.1)).take j).length<=28:=by rw[length_take,length_map];omega
    generalize lg c ((ac.map (·.1)).take j) ac=cu at w3 cok hck hnx;obtain⟨⟨k0,ql⟩,hq0⟩:=QS hck;have qll:ql.length<=B+28 * i+28:=Nat.le_trans (cok.ln _ (tD hq0)) (by omega);rcases gj.val w3 z with ⟨e1,_⟩|⟨q1,v,e1,e2,e3⟩
    ·rw[e1]at hq0;cases hq0
    rw[hq0]at e1;obtain rfl:(k0,ql)=q1:=Option.some.inj e1;obtain⟨_,tq,lq,yq,rfl,_,Zp,ZL,pq⟩:=e3;have g:=BS.k (k:=Sum.inr z) NN;rw[e2]at g;refine⟨_,rfl,_,rfl,f,_,rfl,g,?_⟩;refine⟨tq,_,rfl,dc.of Zp,rfl,_,_,rfl,_,_,rfl,rfl,?_⟩;refine⟨_,rfl,_,rfl,z,pz,c,rfl,hz,s3 _ _ hpz,fun l3 xs3 H4 s4 n4 h4 p4=>?_⟩;have hst:oS c cu z=ij k0 ql (bZ c z 0 oP) cu:=by unfold oS;rw[hq0]
    have Ug:∀ m∈bZ c z 0 oP,m.2.2∈ST:=fun m hm=>B4 hz hm;generalize bZ c z 0 oP=ms at p4 hst Ug;refine⟨l3,rfl,⟨_,a6.of h4⟩,jS (K:=K) (xs:=xs3) (fun k σ H'=>∃(v5 v6 v7:Option V)(kvs:List (Key×V)),σ=[some (.ref d),some (.ref pz),some (.ref f),some (.int (0+(i:Int))),some (.str z),some (.int k0),some (.ref lq),v5,v6,v7]/\az H H'/\H' l1=some (.lst ((ac.map (·.1)).map V.str))/\H' l3=some (.lst xs3)/\Paired (Lz K H') xs3 ms/\H' lq=some (.lst yq)/\Paired (qC K H') yq ql/\H' f=some (.dK kvs)/\Paired (gj K A' H') kvs (ij k0 ql (ms.take k) cu)/\k<=ms.length)
     ⟨v5,v6,v7,Zo,rfl,s3.trans s4,s4 _ _ h3,h4,p4,s4 _ _ ZL,qC.tw s4.kn pq,s4 _ _ NN,gj.tw s4.kn w3,Nat.zero_le _⟩ ?_ ?_ ?_⟩
    ·rintro k σ H' _ ⟨v5,v6,v7,kvs,rfl,_,_,h5,_⟩;exact a6.of h5
    ·rintro k y σ H5 hy ⟨v5,v6,v7,D5,rfl,s5,hl5,hm5,p5,Zq,WK,Uh,w5,kl⟩;obtain⟨m,hm,p,qq,rfl,hp,hqq⟩:=qu p5 hy;have kl2:k<ms.length:=(List.getElem?_eq_some_iff.mp hm).1;refine⟨p,_,rfl,dc.of hp,rfl,_,_,rfl,_,_,rfl,_,_,rfl,rfl,?_⟩;tm_up;refine⟨by show 1<=sizeLine;decide,fun a1 ha1=>?_⟩;have s6:=az.upd (o:=.lst [.ref qq]) ha1;have hq6:=s6 _ _ Zq;refine .inr (.inr ⟨lq,a1,yq,[.ref qq],rfl,rfl,hq6,aj,?_,fun a2 ha2=>?_⟩)
     ·rw[ef WK];exact Nat.le_trans (show ql.length+1<=1000000 by omega) (by decide)
     have s7:=s6.trans (az.upd (o:=.lst (yq++[.ref qq])) ha2);have h7:=aj (H:=upd H5 a1 (.lst [.ref qq])) (a:=a2) (o:=.lst (yq++[.ref qq]));generalize upd (upd H5 a1 (.lst [.ref qq])) a2 (.lst (yq++[.ref qq]))=H7 at s7 h7;have w7:=gj.tw s7.kn w5;have sok:=oR (B:=B+28 * i+28+1) (k:=k0) (ln:=ql) (ms:=ms.take k) (acc:=cu) (by omega) (fun x hx=>Ug x (List.mem_of_mem_take hx)) (cok.mono (by omega));refine⟨A',f,a2,_,_,D5,_,_,ql++[m.1],rfl,s7 _ _ Uh,by rw[ef w5];have:=sok.len;omega,w7,hA _ ((s5.trans s6).free ha2),h7,lP (qC.tw s7.kn WK) ⟨qq,rfl,s7.tup hqq⟩,fun Zr H8 ZM h8 w8=>?_⟩;have kn:=Kn.of (s7 _ _ Uh) ZM;refine⟨_,_,_,Zr,rfl,fun b o e=>ZM b o (aQ e hf) (s7 _ _ (s5 b o e)),kn _ _ (s7 _ _ hl5) rfl,kn _ _ (s7 _ _ hm5) rfl,bU (fun _ _ q=>Lz.kn (s7.kn.trans kn) q) p5,kn _ _ (s7 _ _ Zq) rfl,qC.tw (s7.kn.trans kn) WK,h8,?_,kl2⟩;have est:ij k0 ql (ms.take (k+1)) cu=la (ij k0 ql (ms.take k) cu) m.2.2 (k0+m.2.1) (ql++[m.1]):=by
      rw[take_succ,hm];unfold ij;rw[List.foldl_append];rfl
     rw[est];exact w8
    ·rintro σ H5 ⟨v5,v6,v7,D5,rfl,s5,hl5,hm5,p5,Zq,WK,Uh,w5,_⟩;rw[ef p5,take_length,<-hst]at w5;exact⟨_,_,_,_,_,_,D5,rfl,s5,hl5,Uh,by rw[hnx];exact w5,jl2⟩
   ·rintro σ H3 ⟨v2,v3,v4,v5,v6,v7,Zo,rfl,s3,h3,NN,w3,jl⟩;rw[length_map,length_map,<-length_map (f:=Prod.fst),take_length]at w3;refine⟨_,_,_,_,_,_,_,Zo,rfl,s3,NN,?_,hi⟩;show Paired _ _ (lg c ((HL c ws i).map (·.1)) (HL c ws i));rw[hac];exact w3
  ·rintro σ H' ⟨v1,v2,v3,v4,v5,v6,v7,L4,rfl,s1,hf1,w1,il⟩;tm_up;exact q f L4 H' s1 hf hf1 w1
def Ui (K:Frag):Sp:=fun vs H Q _=>∃(A:Addr->Prop)(d:Addr)(kvs:List (Key×V)) (ws:List Wy),vs=[.ref d]/\H d=some (.dK kvs)/\Paired (gj K A H) kvs ws/\ws.length<=900 /\
 ∀(l:Addr)(xs:List V)(H':Hp),az H H'->H l=none->H' l=some (.lst xs)->Paired (Nn H') xs (vJ ws)->Q (.ref l) H'
theorem Uj (T:Txt K w mg t):cw P w K mg base ji (0+1) t.nc t.JA ["ways"] (Ui K):=by
 refine T.qp.ok T2 (fun vs H Q E h=>?_) (fun cdv A outer s H vs Q E hr h=>?_)
 ·obtain⟨_,_,_,_,rfl,_⟩:=h;rfl
 ·obtain⟨A',d,kvs,ws,rfl,hd,hws,hl,q⟩:=h;refine aU (aq (aw (VS (AM (cn:=["state","cost","line"]) rfl (fR.of rfl) (BX (pv 0)) (fun _=>(iu rfl (aR (aK (i:=0) rB rfl (Or.inl rfl)) (aR (iu rfl (aR (aK (i:=1) rB rfl (Or.inl rfl)) (aR (aK (i:=2) rB rfl (Or.inl rfl)) fE))) fE)))) (fun _=>Hz) (fun _=>(ee (aa (pv 0) (aa (pv 1) ao)))))))) ?_;refine⟨_,rfl,d,kvs,rfl,hd,fun o D b hD=>?_⟩;have kn0:=Kn.put (u:=.jC o (.dK kvs)) hd rfl;have sx0:∀ b u,b≠d->H b=some u->upd H d (.jC o (.dK kvs)) b=some u:=fun b u hb e=>by rw[au hb];exact e
  have hd1:=aj (H:=H) (a:=d) (o:=.jC o (.dK kvs));have w1:=gj.tw kn0 hws;have nDd:D≠d:=fun e=>by rw[e,hd1]at hD;cases hD
  have hD0:H D=none:=by rw[au nDd]at hD;exact hD
  generalize upd H d (.jC o (.dK kvs))=H1 at sx0 hd1 w1 hD;have s1:=az.upd (o:=.lst []) hD;refine BY (fun i ys σ H'=>∃(v1 v2 v3:Option V),σ=[v1,v2,v3,some (.ref d)]/\az H1 H'/\H' D=some (.lst ys)/\Paired (Nn H') ys (vJ (ws.take i))/\i<=ws.length)
   ⟨none,none,none,rfl,s1,aj,.nil,Nat.zero_le _⟩ ?_ ?_ ?_
  ·rintro i ys σ H' ⟨v1,v2,v3,rfl,s2,_⟩;exact s2 _ _ hd1
  ·rintro i ys kv tt σ H2 hkv ⟨v1,v2,v3,rfl,s2,hD2,p2,il⟩ htt N hN;obtain⟨⟨z,k0,ql⟩,hw,hk1,tq,lq,yq,hk2,_,Zp,ZL,pq⟩:=qu w1 hkv;have hk1:kv.1=Sum.inr z:=hk1;have Qf:i<ws.length:=(List.getElem?_eq_some_iff.mp hw).1;rw[hk1,hk2];have st:=az.upd (o:=.tup [kV (Sum.inr z),.ref tq]) htt;have h3:=aj (H:=H2) (a:=tt) (o:=.tup [kV (Sum.inr z),.ref tq]);generalize upd H2 tt (.tup [kV (Sum.inr z),.ref tq])=H3 at st h3;refine⟨tt,_,rfl,dc.of h3,rfl,_,_,rfl,_,_,rfl,tq,_,rfl,dc.of (st _ _ (s2 _ _ Zp)),rfl,_,_,rfl,_,_,rfl,rfl,rfl,?_⟩;tm_up;refine⟨by show 2<=sizeLine;decide,fun tp htp=>?_⟩;have sT:=st.trans (az.upd (o:=.tup [.str z,.int k0]) htp);have hDT:=sT _ _ hD2;have yl:ys.length<=900:=by rw[ef p2];unfold vJ;rw[length_map,length_take];omega
   refine⟨hDT,cf (by omega),hN _ _ _ ⟨_,_,_,rfl,gB (s2.trans sT) hD,aj,?_,Qf⟩⟩;unfold vJ;rw[take_succ,hw,map_append];exact bU (fun _ _ q=>Nn.write hDT q) (lP (bU (fun _ _ q=>Nn.kn sT.kn q) p2) ⟨tp,rfl,aj⟩)
  ·rintro ys σ H5 ⟨v1,v2,v3,rfl,s5,hD5,p5,_⟩;rw[ef hws,take_length]at p5;have NQ:=s5 _ _ hd1;refine⟨d,o,kvs,NQ,fun o' v' e=>?_,?_⟩
   ·have e:H d=some (.jC o' v'):=e;rw[hd]at e;cases e
   have kn:=Kn.put (u:=.dK kvs) NQ rfl;refine q D ys _ (fun b u e=>?_) hD0 (by rw[au nDd];exact hD5) (bU (fun _ _ q=>Nn.kn kn q) p5)
   by_cases hb:b=d
   ·subst hb;rw[hd]at e;cases e;exact aj
   ·rw[au hb];exact s5 _ _ (sx0 b u hb e)
def D6:Sp:=fun vs H Q _=>∃(b:Int),vs=[.int b]/\Q (.str (if b=3 then "3n0-" else "2-")) H
theorem D7 (T:Txt K w mg t):cw P w K mg base ji (0+1) t.c5 t.i4 ["begin"] D6:=by
 refine T.eT.ok DE (fun vs H Q E h=>?_) (fun cdv A outer s H vs Q E hr h=>?_)
 ·obtain⟨_,rfl,_⟩:=h;rfl
 ·obtain⟨b,rfl,q⟩:=h;refine aU (ag (aW (ar (a4.or (aL (ay hr))) (pv 0) ah (av _)) (aq (aw (cb (v:=.str "3n0-") rfl T.lx ⟨_,rfl⟩))) aC) (aq (aw (cb (v:=.str "2-") rfl T.nU ⟨_,rfl⟩)))) ?_;tm_up;rw[oI];refine aV (fun h=>?_) (fun h=>?_)
  ·rw[if_pos (of_decide_eq_true h)]at q;exact q
  ·rw[if_neg (fun z=>h (decide_eq_true z))]at q;exact q
def sKs:List Kd:=[.G,.D,.s,.d]
def y6 (K:Frag):Sp:=fun vs H Q _=>∃(n:Int),vs=[.int n]/\∀(sg:Addr)(ys:List V)(H':Hp),az H H'->dc K H' sg ys->Paired (qC K H') ys (gC n)->Q (.ref sg) H'
theorem y7 (T:Txt K w mg t):cw P w K mg base ji (0+1) t.cO t.j3 ["tone"] (y6 K):=by
 refine T.ft.ok yK (fun vs H Q E h=>?_) (fun cdv A outer s H vs Q E hr h=>?_)
 ·obtain⟨_,rfl,_⟩:=h;rfl
 ·obtain⟨n,rfl,q⟩:=h;unfold gC at q;refine aU (ag (aW (ar (a4.or (aL (ay hr))) (pv 0) (cb (v:=.int (-1)) rfl T.LS ⟨_,rfl⟩) (av _)) (aq (aw (cb (v:=.ref t.eD) rfl T.JK rfl))) aC) (aq (aw (gi E6 rfl T.DV BR (aa (AM (cn:=["kind"]) rfl (fR.of rfl) (Sv (cb (v:=.ref t.b0) rfl T.xn rfl)) (fun _=>(aK (i:=0) tN rfl (Or.inl rfl))) (fun _=>Hz) (fun _=>(ee (aa (pv 0) (aa (pv 1) ao))))) ao))))) ?_;tm_up;rw[intD];refine aV (fun h=>?_) (fun h=>?_)
  ·rw[if_pos (of_decide_eq_true h)]at q;exact q _ _ H (az.refl _) (T.JL _) (.cons ⟨_,rfl,T.DY _⟩ (.cons ⟨_,rfl,T.DZ _⟩ .nil))
  rw[if_neg (fun e=>h (decide_eq_true e))]at q;refine⟨_,rfl,⟨_,T.mh _⟩,fun D b hD=>?_⟩;refine Te (K:=K) (xs:=sKs.map fun k=>V.str k.str) (fun i ys σ H'=>∃(v:Option V),σ=[v,some (.int n)]/\az H H'/\H' D=some (.lst ys)/\Paired (qC K H') ys ((sKs.take i).map fun k=>(k,n))/\i<=4) ⟨none,rfl,az.upd hD,aj,.nil,by decide⟩ ?_ ?_ ?_
  ·rintro i ys σ H' ⟨v,rfl,s1,_⟩;exact T.mh _
  ·rintro i ys x σ H' hx ⟨v,rfl,s1,hD1,p1,il⟩ N hN;rw[getElem?_map]at hx;obtain⟨k,hk,rfl⟩:=Option.map_eq_some_iff.mp hx;have Qf:i<4:=(List.getElem?_eq_some_iff.mp hk).1;refine qK ?_;tm_up;refine⟨by show 2<=sizeLine;decide,fun tp htp=>?_⟩;have sT:=az.upd (o:=.tup [.str k.str,.int n]) htp;have yl:ys.length<=4:=by rw[ef p1,length_map,length_take];omega
   refine⟨sT _ _ hD1,cf (by omega),hN _ _ _ ⟨_,rfl,gB (s1.trans sT) hD,aj,?_,Qf⟩⟩;rw[take_succ,hk,map_append];exact bU (fun _ _ q=>qC.write (sT _ _ hD1) q) (lP (qC.tw sT.kn p1) ⟨tp,rfl,dc.of aj⟩)
  ·rintro ys σ H' ⟨v,rfl,s1,hD1,p1,_⟩;have p1:Paired (qC K H') ys [(.G,n),(.D,n),(.s,n),(.d,n)]:=p1;refine⟨D,ys,rfl,.inl ⟨a6.of hD1,fun l hl=>?_⟩⟩;have sT:=az.upd (o:=.tup ys) hl;exact q l ys _ (s1.trans sT) (dc.of aj) (qC.tw sT.kn p1)
def FG (K:Frag):Sp:=fun vs H Q _=>∃(z:Str)(wp pz:Addr)(n m:Int)(c:iA),vs=[.str z,.ref wp,.ref pz]/\z∈ST/\H wp=some (.tup [.int n,.int m])/\0<=m/\m<=9/\H pz=some (.tup [mO c.1,mO c.2.1,mO c.2.2]) /\
 ∀(l:Addr)(xs:List V)(H':Hp),az H H'->H l=none->H' l=some (.lst xs)->Paired (Lz K H') xs (bZ c z m (gC n))->Q (.ref l) H'
theorem NR (n:Int):(gC n).length<=10:=by
 unfold gC;split <;> (show _<=10;simp)
theorem FH (T:Txt K w mg t):cw P w K mg base ji (0+5) t.eB t.ng ["state","wish","prices"] (FG K):=by
 have JS:=L3 (P:=P) (base:=base) T;have D8:=y7 (P:=P) (base:=base) T;refine T.gM.ok lB (fun vs H Q E h=>?_) (fun cdv A outer s H vs Q E hr h=>?_)
 ·obtain⟨_,_,_,_,_,_,rfl,_⟩:=h;rfl
 ·obtain⟨z,wp,pz,n,m,c,rfl,hz,hw,h0,h9,hpz,q⟩:=h;refine aU (ag (oC (pv 1) (iu rfl (aR (aK (i:=3) lB.nd rfl (Or.inl rfl)) (aR (aK (i:=4) lB.nd rfl (Or.inl rfl)) fE)))) (aq (aw (ax JS (hr.mono (by decide)) rfl T.LQ T.qo.kp T.BE .nil aN (aa (pv 0) (aa (ax D8 (hr.mono (by decide)) rfl T.yN T.ft.kp T.kd .nil aN (aa (pv 3) ao)) (aa (pv 4) (aa (pv 2) ao)))))))) ?_;refine⟨_,rfl,wp,_,rfl,dc.of hw,rfl,_,_,rfl,_,_,rfl,rfl,?_⟩;tm_up;refine fun sg ys H1 s1 hsg hss=>?_;tm_up;exact⟨z,sg,m,pz,ys,_,c,rfl,hz,h0,h9,hsg,hss,NR n,s1 _ _ hpz,fun l xs H' s2 n2 h2 p2=>q l xs H' (s1.trans s2) (s1.free n2) h2 p2⟩
def JT (K:Frag):Sp:=fun vs H Q _=>∃(A:Addr->Prop)(d wp pz:Addr)(n m:Int)(c:iA)(kvs:List (Key×V)) (ws:List Wy) (B:Nat),vs=[.ref d,.ref wp,.ref pz]/\H d=some (.dK kvs)/\Paired (gj K A H) kvs ws/\fW B ws/\B<=100000/\(∀ l,H l=none->A l)/\H wp=some (.tup [.int n,.int m])/\0<=m/\m<=9/\H pz=some (.tup [mO c.1,mO c.2.1,mO c.2.2]) /\
 ∀(f:Addr)(kvs':List (Key×V)) (H':Hp),az H H'->H f=none->H' f=some (.dK kvs')->Paired (gj K A H') kvs' (oQ c ws (n,m))->Q (.ref f) H'
theorem JU (T:Txt K w mg t):cw P w K mg base ji (0+6) t.fi t.oW ["ways","wish","prices"] (JT K):=by
 have JV:=FH (P:=P) (base:=base) T;have kg:=nV (P:=P) (base:=base) T;refine T.jc.ok cU (fun vs H Q E h=>?_) (fun cdv A outer s H vs Q E hr h=>?_)
 ·obtain⟨_,_,_,_,_,_,_,_,_,_,rfl,_⟩:=h;rfl
 ·obtain⟨A',d,wp,pz,n,m,c,kvs,ws,B,rfl,hd,hws,X6,hB,hA,hwp,h0,h9,hpz,q⟩:=h;have wl:=X6.len;refine aU (ag (aD (i:=3) cU.nd rfl (Or.inl rfl) S8) (ag (PB (fU PassesOwn.never rfl (BX (pv 0)) (iu rfl (aR (aK (i:=4) cU.nd rfl (Or.inl rfl)) (aR (iu rfl (aR (aK (i:=5) cU.nd rfl (Or.inl rfl)) (aR (aK (i:=6) cU.nd rfl (Or.inl rfl)) fE))) fE))) (aq (fU PassesOwn.never rfl (kX (ax JV (hr.mono (by decide)) rfl T.Ft T.gM.kp T.nr .nil aN (aa (pv 4) (aa (pv 1) (aa (pv 2) ao))))) (iu rfl (aR (aK (i:=7) cU.nd rfl (Or.inl rfl)) (aR (aK (i:=8) cU.nd rfl (Or.inl rfl)) (aR (aK (i:=9) cU.nd rfl (Or.inl rfl)) fE)))) (aq (dg (ax kg (hr.mono (by decide)) rfl T.nS T.dS.kp T.gL .nil aN (aa (pv 3) (aa (pv 9) (aa (aE (bV.or (aG.or bX)) (pv 5) (pv 8)) (aa (aE (bV.or (aG.or bX)) (pv 6) (e8 (aa (pv 7) ao))) ao))))))))))) (aq (aw (pv 3))))) ?_;refine fun f hf=>?_;have s0:=az.upd (o:=.dK []) hf;have hd0:=s0 _ _ hd;refine⟨_,rfl,d,kvs,rfl,hd0,fun o=>?_⟩;have nfd:f≠d:=aQ hd hf |>.symm
  have kn0:=Kn.put (u:=.jC o (.dK kvs)) hd0 rfl;have sx0:∀ b u,b≠d->H b=some u->upd (upd H f (.dK [])) d (.jC o (.dK kvs)) b=some u:=fun b u hb e=>by rw[au hb];exact s0 _ _ e
  have hd1:=aj (H:=upd H f (.dK [])) (a:=d) (o:=.jC o (.dK kvs));have hf1:upd (upd H f (.dK [])) d (.jC o (.dK kvs)) f=some (.dK []):=by rw[au nfd];exact aj
  have w1:=gj.tw (s0.kn.trans kn0) hws;generalize upd (upd H f (.dK [])) d (.jC o (.dK kvs))=H1 at sx0 hd1 hf1 w1;refine QH (fun i σ H'=>∃(v1 v2 v3 v4 v5 v6:Option V)(kvs':List (Key×V)),σ=[some (.ref d),some (.ref wp),some (.ref pz),some (.ref f),v1,v2,v3,v4,v5,v6]/\(∀ b u,b≠d->H b=some u->H' b=some u)/\H' d=some (.jC o (.dK kvs))/\H' f=some (.dK kvs')/\Paired (gj K A' H') kvs ws/\Paired (gj K A' H') kvs' (gD c (n,m) (ws.take i) [])/\i<=ws.length)
   ⟨none,none,none,none,none,none,[],rfl,sx0,hd1,hf1,w1,.nil,Nat.zero_le _⟩ ?_ ?_ ?_
  ·rintro i σ H' ⟨v1,v2,v3,v4,v5,v6,kvs',rfl,_,h2,_⟩;exact h2
  ·rintro i kv tt σ H2 hkv ⟨v1,v2,v3,v4,v5,v6,aeI,rfl,sx2,hd2,hf2,w2,f2,il⟩ htt;obtain⟨⟨z,k0,ql⟩,hw,hk1,tq,lq,yq,hk2,_,Zp,ZL,pq⟩:=qu w2 hkv;have hk1:kv.1=Sum.inr z:=hk1;have Qf:i<ws.length:=(List.getElem?_eq_some_iff.mp hw).1;have hwm:(z,k0,ql)∈ws:=mem_of_getElem? hw;have hz:z∈ST:=X6.st _ hwm;have qll:ql.length<=B:=X6.ln _ hwm;have hnx:gD c (n,m) (ws.take (i+1)) []=ij k0 ql (bZ c z m (gC n)) (gD c (n,m) (ws.take i) []):=by rw[take_succ,hw];exact E9 c (n,m) _ _ []
   have fok:=oT (B:=B) (c:=c) (q:=(n,m)) h0 h9 (ws:=ws.take i) (acc:=[]) (fun x hx=>X6.st x (List.mem_of_mem_take hx)) (fun x hx=>X6.ln x (List.mem_of_mem_take hx)) (fW.nil _);generalize gD c (n,m) (ws.take i) []=cu at f2 fok hnx;rw[hk1,hk2];have st:=az.upd (o:=.tup [kV (Sum.inr z),.ref tq]) htt;have h3:=aj (H:=H2) (a:=tt) (o:=.tup [kV (Sum.inr z),.ref tq]);generalize upd H2 tt (.tup [kV (Sum.inr z),.ref tq])=H3 at st h3;have sx3:∀ b u,b≠d->H b=some u->H3 b=some u:=fun b u hb e=>st _ _ (sx2 b u hb e);refine⟨tt,_,rfl,dc.of h3,rfl,_,_,rfl,_,_,rfl,tq,_,rfl,dc.of (st _ _ Zp),rfl,_,_,rfl,_,_,rfl,rfl,rfl,?_⟩;have aeJ:=sx3 wp _ (fun e=>by rw[e,hd]at hwp;cases hwp) hwp;have aeK:=sx3 pz _ (fun e=>by rw[e,hd]at hpz;cases hpz) hpz;refine⟨_,rfl,_,rfl,_,rfl,z,wp,pz,n,m,c,rfl,hz,aeJ,h0,h9,aeK,fun l4 xs4 H4 s4 n4 h4 p4=>?_⟩;have Ug:∀ x∈bZ c z m (gC n),x.2.2∈ST:=fun x hx=>B1 hz h0 h9 hx;generalize bZ c z m (gC n)=ms at p4 hnx Ug;have Zs:=st.trans s4;refine⟨l4,rfl,⟨_,a6.of h4⟩,jS (K:=K) (xs:=xs4) (fun k σ H'=>∃(v4 v5 v6:Option V)(kvs':List (Key×V)),σ=[some (.ref d),some (.ref wp),some (.ref pz),some (.ref f),some (.str z),some (.int k0),some (.ref lq),v4,v5,v6]/\(∀ b u,b≠d->H b=some u->H' b=some u)/\H' d=some (.jC o (.dK kvs))/\H' l4=some (.lst xs4)/\Paired (Lz K H') xs4 ms/\H' lq=some (.lst yq)/\Paired (qC K H') yq ql/\H' f=some (.dK kvs')/\Paired (gj K A' H') kvs ws/\Paired (gj K A' H') kvs' (ij k0 ql (ms.take k) cu)/\k<=ms.length)
    ⟨v4,v5,v6,aeI,rfl,fun b u hb e=>Zs _ _ (sx2 b u hb e),Zs _ _ hd2,h4,p4,Zs _ _ ZL,qC.tw Zs.kn pq,Zs _ _ hf2,gj.tw Zs.kn w2,gj.tw Zs.kn f2,Nat.zero_le _⟩ ?_ ?_ ?_⟩
   ·rintro k σ H' _ ⟨v5,v6,v7,kvs',rfl,_,_,h5,_⟩;exact a6.of h5
   ·rintro k y σ H5 hy ⟨v4,v5,v6,D5,rfl,Vk,NQ,hm5,p5,Zq,WK,Uh,w5,f5,kl⟩;obtain⟨mm,hm,p,qq,rfl,hp,hqq⟩:=qu p5 hy;have kl2:k<ms.length:=(List.getElem?_eq_some_iff.mp hm).1;refine⟨p,_,rfl,dc.of hp,rfl,_,_,rfl,_,_,rfl,_,_,rfl,rfl,?_⟩;tm_up;refine⟨by show 1<=sizeLine;decide,fun a1 ha1=>?_⟩;have s6:=az.upd (o:=.lst [.ref qq]) ha1;have hq6:=s6 _ _ Zq;refine .inr (.inr ⟨lq,a1,yq,[.ref qq],rfl,rfl,hq6,aj,?_,fun a2 ha2=>?_⟩)
    ·rw[ef WK];exact Nat.le_trans (show ql.length+1<=1000000 by omega) (by decide)
    have abU:∀{x:Addr},upd H5 a1 (.lst [.ref qq]) x=none->H x=none:=fun {x} hx=>by
     cases e:H x with
     |none=>rfl
     |some u =>
      by_cases hb:x=d
      ·rw[hb,s6 _ _ NQ]at hx;cases hx
      ·rw[s6 _ _ (Vk x u hb e)]at hx;cases hx
    have s7:=s6.trans (az.upd (o:=.lst (yq++[.ref qq])) ha2);have h7:=aj (H:=upd H5 a1 (.lst [.ref qq])) (a:=a2) (o:=.lst (yq++[.ref qq]));generalize upd (upd H5 a1 (.lst [.ref qq])) a2 (.lst (yq++[.ref qq]))=H7 at s7 h7;have f7:=gj.tw s7.kn f5;have sok:=oR (B:=B+1) (k:=k0) (ln:=ql) (ms:=ms.take k) (acc:=cu) (by omega) (fun x hx=>Ug x (List.mem_of_mem_take hx)) fok;refine⟨A',f,a2,_,_,D5,_,_,ql++[mm.1],rfl,s7 _ _ Uh,by rw[ef f5];have:=sok.len;omega,f7,hA _ (abU ha2),h7,lP (qC.tw s7.kn WK) ⟨qq,rfl,s7.tup hqq⟩,fun Zr H8 ZM h8 w8=>?_⟩;have kn:=s7.kn.trans (Kn.of (s7 _ _ Uh) ZM);refine⟨_,_,_,Zr,rfl,fun b u hb e=>ZM b u (aQ e hf) (s7 _ _ (Vk b u hb e)),ZM d _ nfd.symm (s7 _ _ NQ),kn _ _ hm5 rfl,bU (fun _ _ q=>Lz.kn kn q) p5,kn _ _ Zq rfl,qC.tw kn WK,h8,gj.tw kn w5,?_,kl2⟩;have est:ij k0 ql (ms.take (k+1)) cu=la (ij k0 ql (ms.take k) cu) mm.2.2 (k0+mm.2.1) (ql++[mm.1]):=by
     rw[take_succ,hm];unfold ij;rw[List.foldl_append];rfl
    rw[est];exact w8
   ·rintro σ H5 ⟨v4,v5,v6,D5,rfl,Vk,NQ,hm5,p5,Zq,WK,Uh,w5,f5,_⟩;rw[ef p5,take_length,<-hnx]at f5;exact⟨_,_,_,_,_,_,D5,rfl,Vk,NQ,Uh,w5,f5,Qf⟩
  ·rintro σ H5 ⟨v1,v2,v3,v4,v5,v6,D5,rfl,Vk,NQ,Uh,w5,f5,_⟩;rw[ef hws,take_length]at f5;refine⟨d,o,kvs,NQ,fun o' v' e=>?_,?_⟩
   ·have e:H d=some (.jC o' v'):=e;rw[hd]at e;cases e
   have kn:=Kn.put (u:=.dK kvs) NQ rfl;refine⟨_,rfl,?_⟩;refine q f D5 _ (fun b u e=>?_) hf (by rw[au nfd];exact Uh) (gj.tw kn f5)
   by_cases hb:b=d
   ·subst hb;rw[hd]at e;cases e;exact aj
   ·rw[au hb];exact Vk b u hb e
def WL:Sp:=fun vs H Q _=>∃(z:Str),vs=[.str z]/\z∈ST/\Q (.bl (fQ z)) H
theorem WM (T:Txt K w mg t):cw P w K mg base ji (0+2) t.rG t.NA ["state"] WL:=by
 have pj:=xr (P:=P) (base:=base) T;refine T.DP.ok Ws (fun vs H Q E h=>?_) (fun cdv A outer s H vs Q E hr h=>?_)
 ·obtain⟨_,rfl,_⟩:=h;rfl
 ·obtain⟨z,rfl,hz,q⟩:=h;refine aU (ag (aW (ar (a8.or a7) (pv 0) (cb (v:=.ref t.bI) rfl T.mi rfl) rfl) (aq (aw (b7 (qz.or (lz (ay hr))) (pv 0) aJ (av _)))) aC) (aq (aw (ax pj (hr.mono (by decide)) rfl T.xi T.ka.kp T.o5 .nil aN (aa (pv 0) ao))))) ?_;refine⟨_,rfl,.inl ⟨_,_,rfl,.inr (T.mj _),rfl,rfl,_,rfl,?_⟩⟩;show(if(inV (.str z) [.str "2-",.str "2g",.str "2G"])=true then _ else _);rw[XN hz];unfold fQ at q;refine aV (fun h=>?_) (fun h=>?_)
  ·rw[if_pos h]at q;tm_up;rw[Y5];exact q
  ·rw[if_neg h]at q;obtain⟨l,c,t,e⟩:=Lv hz h;rw[e]at q;tm_up;exact⟨_,_,_,_,rfl,e,PR hz,q⟩
def aeM:Str:=(Str.ofString "written" ++ Str.ofString ".<locals>.")++Str.ofString "<lambda>"
def D9 (T:Addr)(lp:Pos)(H:Hp):Prop:=PD T lp aeM H\/Ti T lp H
theorem D9.same {T:Addr}{lp:Pos}{H H':Hp}(s:az H H')(h:D9 T lp H):D9 T lp H':=by
 rcases h with ⟨ps,c,h1,h2,h3,h4⟩|⟨ps,h1,h2,h3⟩
 ·exact .inl ⟨ps,c,s _ _ h1,h2,h3,s _ _ h4⟩
 ·exact .inr ⟨ps,s _ _ h1,h2,h3⟩
def Uk (T:Addr)(H H':Hp):Prop:=∀ b o,H b=some o->b≠T->H' b=some o
theorem _root_.L2.az.toT {T:Addr}{H H':Hp}(s:az H H'):Uk T H H':=fun b o e _=>s b o e
def NS (K:Frag)(T:Addr)(lp:Pos):Sp:=fun vs H Q _=>∃(wl pz:Addr)(b:Int)(c:iA)(ys:List V)(qs:List (Int×Int)),vs=[.ref wl,.ref pz,.int b]/\a6 K H wl ys/\tu H ys qs/\qs.length<=70/\XU qs/\H pz=some (.tup [mO c.1,mO c.2.1,mO c.2.2])/\D9 T lp H /\
 (B7 c b qs=[]->∀(r pp:Addr)(xs:List V)(H':Hp),az H H'->H' r=some (.tup [.non,.non,.ref pp])->H' pp=some (.lst xs)->Paired (LA pp H') xs (HN c b qs qs.length)->Q (.ref r) H') /\
 (∀ w∈B7 c b qs,(∀ w'∈B7 c b qs,w.2.1<=w'.2.1)->∀(r l pp:Addr)(ys xs:List V)(H':Hp),Uk T H H'->D9 T lp H'->H' r=some (.tup [.ref l,.int w.2.1,.ref pp])->H' l=some (.lst ys)->mX K H' ys w.2.2->H' pp=some (.lst xs)->Paired (LA pp H') xs (HN c b qs qs.length)->Q (.ref r) H')
theorem NT (T:Txt K w mg t):cw P w K mg base ji (0+7) t.iH t.l5 ["wishes","prices","begin"] (NS K t.tQ ⟨140,34,140,52⟩):=by
 have jf:=oh (P:=P) (base:=base) T;have Qg:=Uj (P:=P) (base:=base) T;have FI:=D7 (P:=P) (base:=base) T;have L5:=JU (P:=P) (base:=base) T;have Zt:=WM (P:=P) (base:=base) T;refine T.jO.okL fe (fun vs H Q E h=>?_) (fun cdv A outer s H vs Q E hcd hr h=>?_)
 ·obtain⟨_,_,_,_,_,_,rfl,_⟩:=h;rfl
 ·obtain⟨wl,pz,b,c,ys,qs,rfl,hS,hqs,hql,hW,hpz,aeN,q1,q2⟩:=h;subst hcd;refine aU (ag (aD (i:=3) fe.nd rfl (Or.inl rfl) (ax jf (hr.mono (by decide)) rfl T.ip T.bJ.kp T.cY .nil aN (aa (VQ (S9 (ax FI (hr.mono (by decide)) rfl T.DO T.eT.kp T.lC .nil aN (aa (pv 2) ao)) (ee (aa ah (aa (e8 ao) ao))) VP) rfl rfl (List.cons_ne_nil _ _) (by decide)) (aa (pv 1) ao)))) (ag (aD (i:=4) fe.nd rfl (Or.inl rfl) (e8 (aa (ax Qg (hr.mono (by decide)) rfl T.LR T.qp.kp T.BF .nil aN (aa (pv 3) ao)) ao))) (ag (fU PassesOwn.never rfl (kX (pv 0)) (aK (i:=5) fe.nd rfl (Or.inl rfl)) (ag (aD (i:=3) fe.nd rfl (Or.inl rfl) (ax jf (hr.mono (by decide)) rfl T.ip T.bJ.kp T.cY .nil aN (aa (ax L5 (hr.mono (by decide)) rfl T.JE T.jc.kp T.o8 .nil aN (aa (pv 3) (aa (pv 5) (aa (pv 1) ao)))) (aa (pv 1) ao)))) (aq (dg (kY plainAttrs_list slot_list_append type_list_append bW (pv 4) (aa (ax Qg (hr.mono (by decide)) rfl T.LR T.qp.kp T.BF .nil aN (aa (pv 3) ao)) ao)))))) (ag (PB (M3 (i:=6) fe.nd rfl rfl (cn:=["state","way"]) rfl (fR.of rfl) (BX (pv 3)) (fun _=>(iu rfl (aR (aK (i:=0) tO rfl (Or.inl rfl)) (aR (aK (i:=1) tO rfl (Or.inl rfl)) fE)))) (fun _=>(YJ (cJ (ax Zt (hr.mono (by decide)) rfl T.Wv T.DP.kp T.NG .nil aN (aa (pv 0) ao))))) (fun _=>(pv 1)))) (ag (aW (ar (S0 (ay hr)) (pv 6) (e8 ao) (av _)) (aq (aw (ee (aa eV (aa eV (aa (pv 4) ao)))))) aC) (ag (oC (QI (P:=t.tQ) hr rfl T.T6 T.lam (aa (pv 6) ao) rfl (fun _ _ _ _ _ _=>rfl)) (iu rfl (aR (aK (i:=7) fe.nd rfl (Or.inl rfl)) (aR (aK (i:=8) fe.nd rfl (Or.inl rfl)) fE)))) (aq (aw (ee (aa (pv 8) (aa (pv 7) (aa (pv 4) ao)))))))))))) ?_;refine fun d0 hd0=>?_;tm_up;refine⟨big (by show 0<=1000;omega),fun l0 hl0=>?_⟩;refine⟨by show 2<=sizeLine;decide,fun t0 ht0=>?_⟩;have sa:=az.upd (o:=.dK []) hd0;have sb:=az.upd (o:=.lst []) hl0;have sc:=az.upd (o:=.tup [.int 0,.ref l0]) ht0;have hdc:=sc _ _ (sb _ _ (aj (H:=H) (a:=d0) (o:=.dK [])));have hlc:=sc _ _ (aj (H:=upd H d0 (.dK [])) (a:=l0) (o:=.lst []));have htc:=aj (H:=upd (upd H d0 (.dK [])) l0 (.lst [])) (a:=t0) (o:=.tup [.int 0,.ref l0]);have sC:=(sa.trans sb).trans sc;generalize upd (upd (upd H d0 (.dK [])) l0 (.lst [])) t0 (.tup [.int 0,.ref l0])=HC at hdc hlc htc sC;refine⟨hdc,[(Sum.inr (MJ b),.ref t0)],rfl,by show 1<=15;decide,?_⟩;have knD:=Kn.put (u:=.dK [((Sum.inr (MJ b):Key),V.ref t0)]) hdc rfl;have sD:=gB (o:=.dK [((Sum.inr (MJ b):Key),V.ref t0)]) sC hd0;have hdD:=aj (H:=HC) (a:=d0) (o:=.dK [((Sum.inr (MJ b):Key),V.ref t0)]);have wD:Paired (gj K (fun _=>True) (upd HC d0 (.dK [((Sum.inr (MJ b):Key),V.ref t0)]))) [((Sum.inr (MJ b):Key),V.ref t0)] [(MJ b,0,[])]:=.cons ⟨rfl,t0,l0,[],rfl,trivial,knD _ _ htc rfl,knD _ _ hlc rfl,.nil⟩ .nil;show Xh (Yi 1) Z7 _ (upd HC d0 (.dK [((Sum.inr (MJ b):Key),V.ref t0)])) _;generalize upd HC d0 (.dK [((Sum.inr (MJ b):Key),V.ref t0)])=HD at sD hdD wD;refine⟨_,rfl,fun _=>True,d0,pz,c,_,_,0,rfl,hdD,wD,⟨by simp,fun w hw=>by rw[mem_singleton.mp hw];exact TJ b,fun w hw=>by rw[mem_singleton.mp hw];exact Nat.le_refl _⟩,by decide,fun _ _=>trivial,sD _ _ hpz,fun f1 L4 H1 s1 n1 h1 w1=>?_⟩;have w1:Paired (gj K (fun _=>True) H1) L4 (ik c b (qs.take 0)):=w1;have ok0:=lQ (c:=c) (b:=b) hW 0;have S1:=sD.trans s1;tm_up;refine⟨_,f1,L4,_,rfl,h1,w1,by have:=ok0.len;omega,fun l2 D2 H2 s2 n2 h2 p2=>?_⟩;refine⟨by show 1<=sizeLine;decide,fun pp hpp=>?_⟩;have s3:=az.upd (o:=.lst [.ref l2]) hpp;have S3:=(S1.trans s2).trans s3;have npp:H pp=none:=(S1.trans s2).free hpp;have h3:=aj (H:=H2) (a:=pp) (o:=.lst [.ref l2]);have p3:Paired (LA pp (upd H2 pp (.lst [.ref l2]))) [.ref l2] (HN c b qs 0):=.cons ⟨l2,D2,rfl,(fun e=>by rw[e,hpp]at h2;cases h2),s3 _ _ h2,bU (fun _ _ q=>Nn.kn s3.kn q) p2⟩ .nil;have w3:=gj.tw s3.kn (bU (fun _ _ q=>gj.away hpp q) (gj.tw s2.kn w1));have NN:=(s2.trans s3) _ _ h1;generalize upd H2 pp (.lst [.ref l2])=H3 at s3 S3 h3 p3 w3 NN;refine⟨_,rfl,wl,rfl,⟨_,S3.seq hS⟩,jS (K:=K) (xs:=ys) (fun i σ H'=>∃(v:Option V)(dd:Addr)(kvs:List (Key×V)) (xs:List V),σ=[some (.ref wl),some (.ref pz),some (.int b),some (.ref dd),some (.ref pp),v,none,none,none]/\az H H'/\H dd=none/\H' dd=some (.dK kvs)/\Paired (gj K (· ≠ pp) H') kvs (ik c b (qs.take i))/\H' pp=some (.lst xs)/\Paired (LA pp H') xs (HN c b qs i)/\i<=qs.length)
   ⟨none,f1,L4,_,rfl,S3,sD.free n1,NN,w3,h3,p3,Nat.zero_le _⟩ ?_ ?_ ?_⟩
  ·rintro i σ H' _ ⟨v,dd,kvs,xs,rfl,s4,_⟩;exact s4.seq hS
  ·rintro i x σ H4 hx ⟨v,dd,kvs,xs,rfl,s4,nd,hd4,w4,hp4,p4,il⟩;obtain⟨⟨n,m⟩,hq,wp,rfl,hwp⟩:=qu hqs hx;have Qf:i<qs.length:=(List.getElem?_eq_some_iff.mp hq).1;have hm:=hW _ (mem_of_getElem? hq);have Zu:=lQ (c:=c) (b:=b) hW i;have ok5:=lQ (c:=c) (b:=b) hW (i+1);have hnx:ik c b (qs.take (i+1))=withPart c (oQ c (ik c b (qs.take i)) (n,m)):=by rw[take_succ,hq];exact qL c b _ _
   have hA4:∀ l,H4 l=none->l≠pp:=fun l hl e=>by rw[e,hp4]at hl;cases hl
   refine⟨_,rfl,_,rfl,_,rfl,(· ≠ pp),dd,wp,pz,n,m,c,kvs,_,_,rfl,hd4,w4,Zu,by omega,hA4,s4 _ _ hwp,hm.1,hm.2,s4 _ _ hpz,fun f5 D5 H5 s5 n5 h5 w5=>?_⟩;refine⟨_,rfl,(· ≠ pp),f5,pz,c,D5,_,_,rfl,h5,w5,yu hm.1 hm.2 Zu,by omega,fun l hl=>hA4 l (s5.free hl),s5 _ _ (s4 _ _ hpz),fun f6 abW H6 s6 n6 h6 w6=>?_⟩;rw[<-hnx]at w6;have S6:=(s4.trans s5).trans s6;have hp6:=s6 _ _ (s5 _ _ hp4);tm_up;refine⟨.inl ⟨rfl,_,a6.of hp6⟩,?_⟩;tm_up;refine⟨_,f6,abW,_,rfl,h6,w6,by have:=ok5.len;omega,fun l7 xs7 H7 s7 n7 h7 p7=>?_⟩;have ZN:=s7 _ _ hp6;have S7:=S6.trans s7;refine⟨pp,xs,_,rfl,rfl,ZN,cf (by rw[ef p4];unfold HN;rw[length_map,List.length_range];omega),?_⟩;have knP:∀{b o},H7 b=some o->b≠pp->upd H7 pp (.lst (xs++[.ref l7])) b=some o:=fun e ne=>by rw[au ne];exact e
   refine⟨_,f6,abW,_,rfl,gB S7 npp,(s4.trans s5).free n6,?_,?_,aj,?_,Qf⟩
   ·rw[au (fun e=>by rw[e,hp6]at h6;cases h6)];exact s7 _ _ h6
   ·exact bU (fun _ _ q=>gj.write ZN (fun z=>z rfl) q) (gj.tw s7.kn w6)
   ·rw[QT];exact bU (fun _ _ q=>LA.write ZN q) (lP (bU (fun _ _ q=>LA.kn ((s5.trans s6).trans s7).kn q) p4) ⟨l7,xs7,rfl,(fun e=>by rw[e,hp6]at n7;cases n7),h7,p7⟩)
  ·rintro σ H4 ⟨v,dd,kvs,xs,rfl,s4,nd,hd4,w4,hp4,p4,il⟩;rw[ef hqs,take_length]at w4;rw[ef hqs]at p4;have Zu:=lQ (c:=c) (b:=b) hW qs.length;rw[take_length]at Zu;unfold B7 at q1 q2;generalize ik c b qs=ws at w4 Zu q1 q2;have wl4:=Zu.len;refine⟨_,rfl,dd,kvs,rfl,hd4,fun o D b' hD=>?_⟩;have kn5:=Kn.put (u:=.jC o (.dK kvs)) hd4 rfl;have Vk:∀ b u,b≠dd->H4 b=some u->upd H4 dd (.jC o (.dK kvs)) b=some u:=fun b u hb e=>by rw[au hb];exact e
   have NQ:=aj (H:=H4) (a:=dd) (o:=.jC o (.dK kvs));have w5:=gj.tw kn5 w4;have nDd:D≠dd:=fun e=>by rw[e,NQ]at hD;cases hD
   generalize upd H4 dd (.jC o (.dK kvs))=H5 at Vk NQ w5 hD;refine BY (fun i zs σ H'=>∃(v1 v2 v3:Option V),σ=[v1,v2,some (.ref wl),some (.ref pz),some (.int b),some (.ref dd),some (.ref pp),v3,none,none,none]/\az H5 H'/\H' D=some (.lst zs)/\Paired (ZJ K H5) zs ((ws.take i).filter fun w=>fQ w.1)/\i<=ws.length)
    ⟨none,none,v,rfl,az.upd hD,aj,.nil,Nat.zero_le _⟩ ?_ ?_ ?_
   ·rintro i zs σ H' ⟨v1,v2,v3,rfl,s6,_⟩;exact s6 _ _ NQ
   ·rintro i zs kv tt σ H6 hkv ⟨v1,v2,v3,rfl,s6,hD6,p6,il6⟩ htt N hN;obtain⟨⟨z,k0,ln⟩,hw,hk1,tq,lq,yq,hk2,_,Zp,ZL,pq⟩:=qu w5 hkv;have hk1:kv.1=Sum.inr z:=hk1;have Qf:i<ws.length:=(List.getElem?_eq_some_iff.mp hw).1;have hz:z∈ST:=Zu.st _ (mem_of_getElem? hw);rw[hk1,hk2];have st:=az.upd (o:=.tup [kV (Sum.inr z),.ref tq]) htt;have h7:=aj (H:=H6) (a:=tt) (o:=.tup [kV (Sum.inr z),.ref tq]);generalize upd H6 tt (.tup [kV (Sum.inr z),.ref tq])=H7 at st h7;have et:=TL hw;have zl:zs.length<=28:=by
     rw[ef p6];exact Nat.le_trans (List.length_filter_le _ _) (by rw[length_take];omega)
    refine⟨tt,_,rfl,dc.of h7,rfl,_,_,rfl,_,_,rfl,rfl,?_⟩;refine⟨_,rfl,z,rfl,hz,_,rfl,?_⟩;refine aV (fun h=>?_) (fun h=>?_)
    ·rw[if_pos h]at et;refine⟨_,rfl,st _ _ hD6,cf (by omega),hN _ _ _ ⟨_,_,_,rfl,gB (s6.trans st) hD,aj,?_,Qf⟩⟩;rw[et];exact lP p6 ⟨tq,lq,yq,rfl,Zp,ZL,pq⟩
    ·rw[if_neg h,append_nil]at et;exact hN _ _ _ ⟨_,_,_,rfl,s6.trans st,st _ _ hD6,by rw[et];exact p6,Qf⟩
   ·rintro zs σ H6 ⟨v1,v2,v3,rfl,s6,hD6,p6,_⟩;rw[ef w4,take_length]at p6;have hd6:=s6 _ _ NQ;refine⟨dd,o,kvs,hd6,fun o' v' e=>?_,?_⟩
    ·have e:H dd=some (.jC o' v'):=e;rw[nd]at e;cases e
    have s7:az H (upd H6 dd (.dK kvs)):=fun b u e=>by
     rw[au (aQ e nd)];exact s6 _ _ (Vk b u (aQ e nd) (s4 b u e))
    have hD7:upd H6 dd (.dK kvs) D=some (.lst zs):=by rw[au nDd];exact hD6
    have kn7:Kn H6 (upd H6 dd (.dK kvs)):=Kn.put hd6 rfl;have abX:Kn H4 (upd H6 dd (.dK kvs)):=(Kn.of hd4 (fun b u hb e=>s6 _ _ (Vk b u hb e))).trans kn7;have p7:=bU (fun _ _ q=>ZJ.kn (s6.kn.trans kn7) q) p6;have ZN:=abX _ _ hp4 rfl;have pp7:=bU (fun _ _ q=>LA.kn abX q) p4;generalize upd H6 dd (.dK kvs)=H7 at s7 hD7 p7 ZN pp7;have zl:zs.length<=28:=by
     rw[ef p7];exact Nat.le_trans (List.length_filter_le _ _) wl4
    tm_up;refine⟨big (by show 0<=1000;omega),fun e0 he0=>?_⟩;have s8:=az.upd (o:=.lst []) he0;refine⟨D,e0,zs,rfl,rfl,a6.of (s8 _ _ hD7),a6.of aj,_,rfl,?_⟩;have hD8:=s8 _ _ hD7;have hp8:=s8 _ _ ZN;have p8:=bU (fun _ _ q=>ZJ.kn s8.kn q) p7;have pp8:=bU (fun _ _ q=>LA.kn s8.kn q) pp7;have s78:=s7.trans s8;generalize upd H7 e0 (.lst [])=H8 at s8 hD8 hp8 p8 pp8 s78;generalize hE:ws.filter (fun w=>fQ w.1)=es at p8 q1 q2;refine aV (fun h=>?_) (fun h=>?_)
    ·have hz:zs=[]:=List.isEmpty_iff.mp h;subst hz;cases p8;tm_up;refine⟨by show 3<=sizeLine;decide,fun r hr0=>?_⟩;have s9:=az.upd (o:=.tup [.non,.non,.ref pp]) hr0;exact q1 rfl r pp xs _ (s78.trans s9) aj (s9 _ _ hp8) (bU (fun _ _ q=>LA.kn s9.kn q) pp8)
    ·have hz:zs≠[]:=fun z=>h (by rw[z];rfl);have el:=ef p8;have zp:0<zs.length:=List.length_pos_iff.mpr hz;have abY:D9 t.tQ _ H8:=aeN.same s78;obtain⟨ps8,hT8⟩:∃ ps,H8 t.tQ=some (.AK ps):=by
      rcases abY with ⟨ps,_,h1,_⟩|⟨ps,h1,_⟩ <;> exact⟨ps,h1⟩
     have nT:∀{b u},H8 b=some u->(∀ ps,u≠.AK ps)->b≠t.tQ:=fun {b u} e n z=>by
      rw[z,hT8]at e;exact n _ (Option.some.inj e).symm
     refine⟨_,rfl,D,zs,fun i=>(es[i]?.map fun w=>w.2.1).getD 0,rfl,hD8,zp,abY,fun i y hy=>?_,fun i y H9 hy best keep free aeR=>?_⟩
     ·obtain⟨w,hw,tq,lq,yq,rfl,h1,_⟩:=qu p8 hy;refine⟨tq,[.ref lq],rfl,?_⟩;dsimp only;rw[hw];exact h1
     ·obtain⟨w,hw,tq,lq,yq,rfl,h1,h2,h3⟩:=qu p8 hy;have h19:=keep _ _ h1 (nT h1 (fun _ z=>nomatch z));have h29:=keep _ _ h2 (nT h2 (fun _ z=>nomatch z));have hp9:=keep _ _ hp8 (nT hp8 (fun _ z=>nomatch z));have kt:∀{p:Addr} {xs:List V},dc K H8 p xs->dc K H9 p xs:=fun {p xs} h=>by
       rcases h with (h|⟨u,h⟩)|h
       ·exact .inl (.inl (keep _ _ h (nT h (fun _ z=>nomatch z))))
       ·exact .inl (.inr ⟨u,keep _ _ h (nT h (fun _ z=>nomatch z))⟩)
       ·exact .inr h
      have h39:mX K H9 yq w.2.2:=bU (fun _ _ ⟨p,e,q⟩=>⟨p,e,⟨kt q⟩⟩) h3;have pp9:Paired (LA pp H9) xs (HN c b qs qs.length):=bU (fun _ _ ⟨l,zs',e,n,a1,a2⟩=>⟨l,zs',e,n,keep _ _ a1 (nT a1 (fun _ z=>nomatch z)),bU (fun _ _ ⟨p,e,a3⟩=>⟨p,e,keep _ _ a3 (nT a3 (fun _ z=>nomatch z))⟩) a2⟩) pp8;refine⟨tq,_,rfl,dc.of h19,rfl,_,_,rfl,_,_,rfl,rfl,?_⟩;tm_up;refine⟨by show 3<=sizeLine;decide,fun r hr0=>?_⟩;have qh:=az.upd (o:=.tup [.ref lq,.int w.2.1,.ref pp]) hr0;refine q2 w (mem_of_getElem? hw) (fun w' hw'=>?_) r lq pp yq xs _ (fun b u e n=>qh _ _ (keep b u (s78 _ _ e) n)) (D9.same qh (Or.inl aeR)) aj (qh _ _ h29) (h39.same qh) (qh _ _ hp9) (bU (fun _ _ q=>LA.kn qh.kn q) pp9);obtain⟨j,hj⟩:=List.mem_iff_getElem?.mp hw';have hjl:j<zs.length:=by rw[el];exact(List.getElem?_eq_some_iff.mp hj).1
      have:=(best j hjl).1;dsimp only at this;rw[hw,hj]at this;exact this
def jg (ns:List Int)(k:Nat):Int:=ns.getD k 0
def JW (K:Frag):Sp:=fun vs H Q _=>∃(a:Addr)(ns:List Int)(k:Nat),vs=[.ref a,.int (k:Int)]/\a6 K H a (ns.map V.int)/\ns.length<=63/\Q (.int (jg ns k)) H
theorem nu (T:Txt K w mg t):cw P w K mg base ji (0+1) t.fj t.oX ["_law_script","_law_k"] (JW K):=by
 refine T.bf.ok Jw (fun vs H Q E h=>?_) (fun cdv A outer s H vs Q E hr h=>?_)
 ·obtain⟨a,ns,k,rfl,_⟩:=h;rfl
 ·obtain⟨a,ns,k,rfl,hS,hl,q⟩:=h;refine aU (ag (aW (ar sR (pv 1) (bF (Qt rfl) rfl T.T6 YL (aa ah (aa (bF (bj.or bo) rfl T.jo jj (aa (pv 0) ao)) ao))) (av _)) (aq (aw (aI aA (pv 0) (pv 1) (fun _ _=>rfl)))) aC) (aq (aw ah))) ?_;refine⟨_,rfl,_,rfl,.inl ⟨_,_,rfl,.inl hS,_,_,rfl,_,_,rfl,rfl,_,rfl,?_⟩⟩;rw[length_map];refine aV (fun h=>?_) (fun h=>?_)
  ·have hk:k<ns.length:=by
    have:=of_decide_eq_true h;split at this <;> omega
   have e:(ns.map V.int)[k]? = some (V.int (jg ns k)):=by
    rw[getElem?_map,getElem?_eq_getElem hk];unfold jg;rw[List.getD_eq_getElem?_getD,getElem?_eq_getElem hk];rfl
   exact⟨_,rfl,_,rfl,.inl ⟨_,_,_,_,rfl,rfl,hS,Ht e,q⟩⟩
  ·have hk:ns.length<=k:=by
    have h':¬((k:Int)<if(ns.length:Int)<63 then(ns.length:Int) else 63):=fun z=>h (decide_eq_true z);split at h' <;> omega
   have e:jg ns k=0:=by
    unfold jg;rw[List.getD_eq_getElem?_getD,List.getElem?_eq_none hk];rfl
   rw[e]at q;exact q
def NU:Sp:=fun vs H Q _=>∃ seed k:Int,vs=[.int seed,.int k]/\∀ r:Int,0<=r->r<65521->Q (.int r) H
theorem rO (T:Txt K w mg t):cw P w K mg base ji (0+1) t.iI t.wZ ["_law_seed","_law_k"] NU:=by
 refine T.iM.ok rA (fun vs H Q E h=>?_) (fun cdv A outer s H vs Q E hr h=>?_)
 ·obtain⟨_,_,rfl,_⟩:=h;rfl
 ·obtain⟨seed,k,rfl,q⟩:=h;refine aU (ag (aD (i:=2) rA.nd rfl (Or.inl rfl) (aE cZ (aE (bV.or (aG.or bX)) (aE (bV.or (aG.or bX)) (aE (qI.or qJ) (aE cZ (pv 0) ah) ah) (aE (qI.or qJ) (pv 1) ah)) ah) ah)) (ag (aD (i:=3) rA.nd rfl (Or.inl rfl) (aE cZ (aE (bV.or (aG.or bX)) (aE (bV.or (aG.or bX)) (aE (qI.or qJ) (pv 2) (pv 2)) (aE (qI.or qJ) (pv 1) ah)) (aE cZ (aE jA (pv 0) ah) ah)) ah)) (aq (aw (aE cZ (aE (bV.or (aG.or bX)) (aE jA (aE (qI.or qJ) (pv 3) (pv 3)) ah) (pv 3)) ah))))) ?_;have p2:(2:Int) ^ 64=18446744073709551616:=by decide
  refine⟨_,rfl,_,_,rfl,rfl,(by decide:(0:Int)<1000003),.inl ⟨_,_,rfl,rfl,.inr ⟨by decide,by decide⟩,_,rfl,.inl ⟨_,_,rfl,rfl,.inr ⟨by decide,by decide⟩,.inl ⟨_,_,rfl,rfl,.inl ⟨_,_,rfl,rfl,_,_,rfl,rfl,(by decide:(0:Int)<1000033),?_⟩⟩⟩⟩⟩;generalize hone:(seed % 1000003 * 48271+k * 30011+17) % 1000033=one;have b1:0<=one/\one<1000033:=by omega
  refine⟨_,rfl,_,rfl,.inl ⟨_,_,rfl,rfl,.inl ⟨by rw[p2];omega,by rw[p2];omega⟩,_,rfl,.inl ⟨_,_,rfl,rfl,.inr ⟨by decide,by decide⟩,.inl ⟨_,_,rfl,rfl,_,rfl,_,_,rfl,rfl,⟨by decide,by decide⟩,_,_,rfl,rfl,(by decide:(0:Int)<997),.inl ⟨_,_,rfl,rfl,_,_,rfl,rfl,(by decide:(0:Int)<999983),?_⟩⟩⟩⟩⟩;generalize ahe:(one * one+k * 613+seed / 1000003 % 997) % 999983=two;have b2:0<=two/\two<999983:=by omega
  refine⟨_,rfl,_,rfl,.inl ⟨_,_,rfl,rfl,.inl ⟨by rw[p2];omega,by rw[p2];omega⟩,_,_,rfl,rfl,⟨by decide,by decide⟩,_,rfl,.inl ⟨_,_,rfl,rfl,_,_,rfl,rfl,(by decide:(0:Int)<65521),?_⟩⟩⟩;exact q _ (by omega) (by omega)
def y8 (K:Frag):Sp:=fun vs H Q _=>∃(a:Addr)(ns:List Int)(k m:Nat),vs=[.ref a,.int (k:Int),.int (m:Int)]/\a6 K H a (ns.map V.int)/\ns.length<=63/\m<=60 /\
 ∀(f:Addr)(ys:List V)(qs:List (Int×Int)) (H':Hp),az H H'->H f=none->H' f=some (.lst ys)->tu H' ys qs->XU qs->QW qs->qs.length=m->Q (.ref f) H'
theorem y9 (T:Txt K w mg t):cw P w K mg base ji (0+2) t.cQ t.j4 ["_law_script","_law_at","_law_many"] (y8 K):=by
 have mq:=rO (P:=P) (base:=base) T;have bR:=nu (P:=P) (base:=base) T;refine T.fu.ok cS (fun vs H Q E h=>?_) (fun cdv A outer s H vs Q E hr h=>?_)
 ·obtain⟨_,_,_,_,rfl,_⟩:=h;rfl
 ·obtain⟨a,ns,k,m,rfl,hS,hl,hm,q⟩:=h;obtain⟨kh,ki⟩:∃ v:List (Int×Pos),v=cV:=⟨_,rfl⟩;have hbody:ai bh=(ai bh).take 1++setIn ((ai bh).getD 1 (.Pass ⟨0,0,0,0⟩)) 1 (VT (kh.map fun c=>Expr.Constant (.int c.1) 0 c.2) 7)::(ai bh).drop 2:=by subst ki;rfl
  rw[hbody];refine aU (ag (aD (i:=3) cS.nd rfl (Or.inl rfl) (e8 ao)) (ag (fU PassesOwn.never rfl (jD rfl T.mf (aa (pv 2) ao)) (aK (i:=4) cS.nd rfl (Or.inl rfl)) (ag (aD (i:=5) cS.nd rfl (Or.inl rfl) (ax mq (hr.mono (by decide)) rfl T.rL T.iM.kp T.md .nil aN (aa (aE (bV.or (aG.or bX)) (ax bR (hr.mono (by decide)) rfl T.b9 T.bf.kp T.bQ .nil aN (aa (pv 0) (aa (pv 1) ao))) (aE (qI.or qJ) ah (ax bR (hr.mono (by decide)) rfl T.b9 T.bf.kp T.bQ .nil aN (aa (pv 0) (aa (aE (bV.or (aG.or bX)) (aE (bV.or (aG.or bX)) (pv 1) ah) (pv 4)) ao))))) (aa (pv 4) ao)))) (ag (aD (i:=6) cS.nd rfl (Or.inl rfl) (aI aA (e8 (XC (aa (aE (bV.or (aG.or bX)) ah (aE cZ (aE jA (pv 5) ah) ah)) ao) kh)) (aE cZ (pv 5) ah) (fun _ _=>rfl))) (ag (aD (i:=7) cS.nd rfl (Or.inl rfl) (gy (lL (ar (a4.or (aL (ay hr))) (aE cZ (aE jA (pv 5) ah) ah) ah (av _)) (Xe Sz ah) (aE jh (aE cZ (aE jA (pv 5) ah) ah) ah)))) (aq (dg (kY plainAttrs_list slot_list_append type_list_append bW (pv 3) (aa (ee (aa (pv 7) (aa (pv 6) ao))) ao)))))))) (aq (aw (pv 3))))) ?_;subst ki;refine⟨big (by show 0<=1000;omega),fun f hf=>?_⟩;have s0:=az.upd (o:=.lst []) hf;tm_up;refine⟨by omega,by omega,lM (n:=((m:Int)).toNat) (fun i σ H'=>∃(v1 v2 v3 v4:Option V)(zs:List V)(qs:List (Int×Int)),σ=[some (.ref a),some (.int (k:Int)),some (.int (m:Int)),some (.ref f),v1,v2,v3,v4]/\az H H'/\H' f=some (.lst zs)/\tu H' zs qs/\XU qs/\QW qs/\qs.length=i)
   ⟨none,none,none,none,[],[],rfl,s0,aj,.nil,fun _ h=>(nomatch h),fun _ h=>(nomatch h),rfl⟩ ?_ ?_⟩
  ·rintro i σ H' hi ⟨v1,v2,v3,v4,zs,qs,rfl,s1,hf1,p1,w1,wt1,ql⟩;have hS1:=s1.seq hS;tm_up;refine⟨a,ns,k,rfl,hS1,hl,?_⟩;tm_up;refine⟨a,ns,k+1+i,?_,hS1,hl,?_⟩
   ·show [V.ref a,V.int ((k:Int)+1+(0+(i:Int)))]=[V.ref a,V.int ((k+1+i:Nat):Int)];have e:(k:Int)+1+(0+(i:Int))=((k+1+i:Nat):Int):=by omega
    rw[e]
   refine .inl ⟨_,_,rfl,rfl,.inl ⟨by decide,by decide⟩,?_⟩;tm_up;refine⟨_,_,rfl,fun r h0 h1=>?_⟩;tm_up;refine⟨by show 8<=sizeLine;decide,fun lp hlp=>?_⟩;have sl:=az.upd (o:=.lst ((cV.map fun c=>V.int c.1)++[V.int (1+r / 8 % 9)])) hlp;have abZ:=aj (H:=H') (a:=lp) (o:=.lst ((cV.map fun c=>V.int c.1)++[V.int (1+r / 8 % 9)]));generalize upd H' lp (.lst ((cV.map fun c=>V.int c.1)++[V.int (1+r / 8 % 9)]))=H2 at sl abZ;tm_up;obtain⟨wo,hwo,wo1,wo9⟩:∃ wo:Int,((cV.map fun c=>V.int c.1)++[V.int (1+r / 8 % 9)])[(r % 8).toNat]? = some (.int wo)/\1<=wo/\wo<=9:=by
    have:r % 8=0\/r % 8=1\/r % 8=2\/r % 8=3\/r % 8=4\/r % 8=5\/r % 8=6\/r % 8=7:=by omega
    rcases this with e|e|e|e|e|e|e|e <;> rw[e]
    ·exact⟨1,rfl,by decide,by decide⟩
    ·exact⟨2,rfl,by decide,by decide⟩
    ·exact⟨1,rfl,by decide,by decide⟩
    ·exact⟨3,rfl,by decide,by decide⟩
    ·exact⟨1,rfl,by decide,by decide⟩
    ·exact⟨2,rfl,by decide,by decide⟩
    ·exact⟨2,rfl,by decide,by decide⟩
    ·exact⟨_,rfl,by omega,by omega⟩
   refine Y2 (a6.of abZ) (n:=(r % 8).toNat) (by omega) hwo ?_;refine⟨fun v H3=>(∃ tn:Int,v=.int tn/\(tn = -1\/(0<=tn/\tn<=99)))/\H3=H2,?_,?_⟩
   ·tm_up;rw[intD];refine aV (fun _=>?_) (fun _=>?_)
    ·exact⟨_,rfl,⟨_,rfl,.inl rfl⟩,rfl⟩
    ·tm_up;exact⟨⟨_,rfl,by omega⟩,rfl⟩
   ·rintro _ _ ⟨⟨tn,rfl,htn⟩,rfl⟩;have hf2:=sl _ _ hf1;tm_up;refine⟨.inl ⟨rfl,_,a6.of hf2⟩,?_⟩;tm_up;refine⟨by show 2<=sizeLine;decide,fun tp htp=>?_⟩;have sT:=sl.trans (az.upd (o:=.tup [.int tn,.int wo]) htp);have NN:=sT _ _ hf1;refine⟨f,zs,_,rfl,rfl,NN,cf (by rw[ef p1];omega),?_⟩;refine⟨_,_,_,_,_,qs++[(tn,wo)],rfl,gB (s1.trans sT) hf,aj,lP (PQ NN (oN sT p1)) (Nh NN ⟨tp,rfl,aj⟩),fun q hq=>?_,fun q hq=>?_,by simp[ql]⟩
    ·rcases mem_append.mp hq with z|z
     ·exact w1 q z
     ·rw[mem_singleton.mp z];exact⟨by show 0<=wo;omega,wo9⟩
    ·rcases mem_append.mp hq with z|z
     ·exact wt1 q z
     ·rw[mem_singleton.mp z];exact htn
  ·rintro σ H' ⟨v1,v2,v3,v4,zs,qs,rfl,s1,hf1,p1,w1,wt1,ql⟩;tm_up;exact q f zs qs H' s1 hf hf1 p1 w1 wt1 (by omega)
theorem Ul (k:Kd):Nc k.str "Dd"=(decide (k=.D)||decide (k=.d)):=by cases k <;> decide +kernel
theorem Um (k:Kd):Nc k.str "32"=(decide (k=.three)||decide (k=.two)):=by cases k <;> decide +kernel
def NV (K:Frag):Sp:=fun vs H Q _=>∃(l z:Addr)(xs:List V)(ss:List Sg)(c:iA),vs=[.ref l,.ref z]/\a6 K H l xs/\mX K H xs ss/\H z=some (.tup (abB c))/\Q (mO (jk c 0 (b8 ss))) H
theorem NW (T:Txt K w mg t):cw P w K mg base ji (0+1) t.iJ t.xa ["_law_line_here","_law_prices_here"] (NV K):=by
 refine T.me.ok ff (fun vs H Q E h=>?_) (fun cdv A outer s H vs Q E hr h=>?_)
 ·obtain⟨_,_,_,_,_,rfl,_⟩:=h;rfl
 ·obtain⟨l,z,xs,ss,c,rfl,hS,hg,hz,q⟩:=h;have hz':H z=some (.tup [mO c.1,mO c.2.1,mO c.2.2]):=hz;refine aU (ag (aD (i:=2) ff.nd rfl (Or.inl rfl) ah) (ag (fU PassesOwn.never rfl (kX (pv 0)) (aK (i:=3) ff.nd rfl (Or.inl rfl)) (ag (aD (i:=4) ff.nd rfl (Or.inl rfl) ah) (ag (mU (aW (ar (a4.or (aL (ay hr))) (aI aA (pv 3) ah (fun _ _=>rfl)) aJ (av _)) (aq (aD (i:=4) ff.nd rfl (Or.inl rfl) (aI aA (pv 1) ah (fun _ _=>rfl)))) aC)) (ag (mU (aW (ar (a8.or a7) (aI aA (pv 3) ah (fun _ _=>rfl)) aJ rfl) (aq (aD (i:=4) ff.nd rfl (Or.inl rfl) (aI aA (pv 1) ah (fun _ _=>rfl)))) aC)) (ag (mU (aW (ar (a8.or a7) (aI aA (pv 3) ah (fun _ _=>rfl)) aJ rfl) (aq (aD (i:=4) ff.nd rfl (Or.inl rfl) (aI aA (pv 1) ah (fun _ _=>rfl)))) aC)) (ag (aW (ar Ho (pv 4) eV (av _)) (aq (aw eV)) aC) (aq (aD (i:=2) ff.nd rfl (Or.inl rfl) (aE (bV.or (aG.or bX)) (pv 2) (pv 4)))))))))) (aq (aw (pv 2))))) ?_;tm_up;refine⟨⟨xs,hS⟩,jS (K:=K) (xs:=xs) (fun i σ H'=>∃(n:Int)(u v:Option V),σ=[some (.ref l),some (.ref z),some (.int n),u,v]/\H'=H/\jk c n ((b8 ss).drop i)=jk c 0 (b8 ss))
   ⟨0,none,none,rfl,rfl,rfl⟩ ?_ ?_ ?_⟩
  ·rintro i σ H' _ ⟨n,u,v,rfl,rfl,_⟩;exact hS
  ·rintro i x σ H' hx ⟨n,u,v,rfl,rfl,hm⟩;obtain⟨s,hs,p,rfl,hp⟩:=qu hg hx;have hd:=qd (vI (f:=Prod.fst) hs);rw[hd]at hm;simp only [jk]at hm;tm_up;refine M0 [some (.ref l),some (.ref z),some (.int n),some (.ref p),some (if s.1=.dot then mO c.1 else .int 0)] H' ?_ ?_
   ·tm_up;rw[Tq];refine aV (fun h=>?_) (fun h=>?_)
    ·tm_up;refine .inr (.inl ⟨z,_,0,_,rfl,rfl,dc.of hz',rfl,?_⟩);rw[if_pos (of_decide_eq_true h)];exact⟨rfl,rfl⟩
    ·rw[if_neg (fun e=>h (decide_eq_true e))];exact⟨rfl,rfl⟩
   refine M0 [some (.ref l),some (.ref z),some (.int n),some (.ref p),some (if s.1=.D\/s.1=.d then mO c.2.1 else if s.1=.dot then mO c.1 else .int 0)] H' ?_ ?_
   ·tm_up;refine aV (fun h=>?_) (fun h=>?_)
    ·have h':(decide (s.1=.D)||decide (s.1=.d))=true:=by rw[<-Ul];exact h
     tm_up;refine .inr (.inl ⟨z,_,1,_,rfl,rfl,dc.of hz',rfl,?_⟩);rw[if_pos (c:=s.1=.D\/s.1=.d) (by simpa using h')];exact⟨rfl,rfl⟩
    ·have h':¬(decide (s.1=.D)||decide (s.1=.d))=true:=by rw[<-Ul];exact h
     rw[if_neg (c:=s.1=.D\/s.1=.d) (by simpa using h')];exact⟨rfl,rfl⟩
   refine M0 [some (.ref l),some (.ref z),some (.int n),some (.ref p),some (mO (costOf c s.1))] H' ?_ ?_
   ·tm_up;refine aV (fun h=>?_) (fun h=>?_)
    ·have h':(decide (s.1=.three)||decide (s.1=.two))=true:=by rw[<-Um];exact h
     tm_up;refine .inr (.inl ⟨z,_,2,_,rfl,rfl,dc.of hz',rfl,?_⟩);have e:costOf c s.1=c.2.2:=by revert h';cases s.1 <;> first|(intro h;rfl)|(intro h;exact absurd h (by decide))
     rw[e];exact⟨rfl,rfl⟩
    ·have h':¬(decide (s.1=.three)||decide (s.1=.two))=true:=by rw[<-Um];exact h
     have e:(if s.1=.D\/s.1=.d then mO c.2.1 else if s.1=.dot then mO c.1 else .int 0)=mO (costOf c s.1):=by
      revert h'
      cases s.1 <;> first|(intro _;rfl)|(intro a;exact absurd rfl a)
     rw[e];exact⟨rfl,rfl⟩
   cases e:costOf c s.1 with
   |none =>
    rw[e]at hm;tm_up;rw[<-hm]at q;exact⟨rfl,_,rfl,mQ q⟩
   |some k =>
    rw[e]at hm;tm_up;refine⟨rfl,_,rfl,iy ?_⟩;tm_up;exact⟨_,_,_,rfl,rfl,hm⟩
  ·rintro σ H' ⟨n,u,v,rfl,rfl,hm⟩;rw[List.drop_eq_nil_of_le (by rw[length_map,ef hg];exact Nat.le_refl _)]at hm;tm_up;rw[<-hm]at q;exact q
def l24:List Kd:=[.G,.G,.G,.G,.G,.s,.s,.s,.s,.s,.s,.s,.s,.s,.d,.d,.r,.r,.D,.R,.dot,.dot,.three,.two]
theorem ab0:(Str.ofString "GGGGGsssssssssddrrDR..32").cps.toList=l24.map Kd.cp:=by lk
theorem L6 (k:Kd):Nc k.str "GDsd"=k.e9:=by cases k <;> decide +kernel
def Uo (s:Sg):Prop:=(s.1.e9=true->0<=s.2/\s.2<100)/\(s.1.e9=false->s.2=0)
def JX:Sp:=fun vs H Q _=>∃ m:Int,vs=[.int m]/\∀(p:Addr)(s:Sg),Uo s->H p=none->Q (.ref p) (upd H p (.tup [.str s.1.str,.int s.2]))
theorem JY (T:Txt K w mg t):cw P w K mg base ji (0+1) t.fk t.oY ["_law_number"] JX:=by
 refine T.jd.ok tM (fun vs H Q E h=>?_) (fun cdv A outer s H vs Q E hr h=>?_)
 ·obtain⟨_,rfl,_⟩:=h;rfl
 ·obtain⟨m,rfl,q⟩:=h;refine aU (ag (aD (i:=1) tM.nd rfl (Or.inl rfl) (aI aA aJ (aE cZ (pv 0) ah) (fun _ _=>rfl))) (ag (aW (ar (a8.or a7) (pv 1) aJ rfl) (aq (aw (ee (aa (pv 1) (aa (aE cZ (aE jA (pv 0) ah) ah) ao))))) aC) (aq (aw (ee (aa (pv 1) (aa ah ao))))))) ?_;obtain⟨k,hk⟩:∃ k,l24[(m % 24).toNat]? = some k:=by
   have h1:(m % 24).toNat<l24.length:=by
    show _<24;omega
   exact⟨_,getElem?_eq_getElem h1⟩
  have hat:Xk (Str.ofString "GGGGGsssssssssddrrDR..32").cps.toList (m % 24)=some k.cp:=by
   have e0:m % 24=(((m % 24).toNat:Nat):Int):=by omega
   rw[e0,ab0];exact Ht (by rw[getElem?_map,hk];rfl)
  refine⟨_,rfl,_,_,rfl,rfl,(by decide:(0:Int)<24),.inr (.inr ⟨_,_,_,rfl,rfl,(by lk),hat,?_⟩)⟩;rw[<-aaB k];tm_up;refine aV (fun h=>?_) (fun h=>?_)
  ·have h4:k.e9=true:=by rw[<-L6];exact h
   tm_up;refine⟨(by show 2<=sizeLine;decide),fun p hp=>?_⟩;exact q p (k,m / 24 % 100) ⟨fun _=>by show 0<=m / 24 % 100/\m / 24 % 100<100;omega,fun z=>by rw[h4]at z;cases z⟩ hp
  ·have h4:k.e9=false:=by
    rw[<-L6];exact Bool.eq_false_iff.mpr h
   tm_up;refine⟨(by show 2<=sizeLine;decide),fun p hp=>?_⟩;exact q p (k,0) ⟨(fun z=>by rw[h4]at z;cases z),fun _=>rfl⟩ hp
def JZ (K:Frag):Sp:=fun vs H Q _=>∃(a:Addr)(ns:List Int)(k m:Nat),vs=[.ref a,.int (k:Int),.int (m:Int)]/\a6 K H a (ns.map V.int)/\ns.length<=63/\m<=60 /\
 ∀(l:Addr)(ms:List Int)(H':Hp),az H H'->H' l=some (.lst (ms.map V.int))->ms.length<=60->(∀ x∈ms,0<=x)->Q (.ref l) H'
theorem J0 (T:Txt K w mg t):cw P w K mg base ji (0+2) t.fm t.oZ ["_law_script","_law_at","_law_many"] (JZ K):=by
 have bR:=nu (P:=P) (base:=base) T;have mq:=rO (P:=P) (base:=base) T;refine T.je.ok gE (fun vs H Q E h=>?_) (fun cdv A outer s H vs Q E hr h=>?_)
 ·obtain⟨_,_,_,_,rfl,_⟩:=h;rfl
 ·obtain⟨a,ns,k,m,rfl,hS,hl,hm,q⟩:=h;refine aU (ag (aD (i:=3) gE.nd rfl (Or.inr rfl) (ax bR (hr.mono (by decide)) rfl T.b9 T.bf.kp T.bQ .nil aN (aa (pv 0) (aa (pv 1) ao)))) (ag (aW (ar sR (pv 3) (aE Sy ah ah) (av _)) (aq (aw (AM (cn:=["_law_k"]) rfl (fR.of rfl) (jD rfl T.mf (aa (pv 2) ao)) (fun _=>(aK (i:=0) DF rfl (Or.inl rfl))) (fun _=>Hz) (fun _=>(ax mq (hr.mono (by decide)) rfl T.rL T.iM.kp T.md .nil aN (aa (aE (bV.or (aG.or bX)) (pv 4) (aE (qI.or qJ) ah (ax bR (hr.mono (by decide)) rfl T.b9 T.bf.kp T.bQ .nil aN (aa (pv 1) (aa (aE (bV.or (aG.or bX)) (aE (bV.or (aG.or bX)) (pv 2) ah) (pv 0)) ao))))) (aa (pv 0) ao))))))) aC) (ag (aD (i:=4) gE.nd rfl (Or.inl rfl) (aE jh (pv 3) (aE Sy ah ah))) (ag (aD (i:=5) gE.nd rfl (Or.inl rfl) (e8 ao)) (ag (BJ PassesOwn.never (bK (PW.pt (cq (ar Pj (pv 4) ah (av _)) (df (ar sR (bF (bj.or bo) rfl T.jo jj (aa (pv 5) ao)) ah (av _)))))) (ag (dg (kY plainAttrs_list slot_list_append type_list_append bW (pv 5) (aa (aE cZ (pv 4) ah) ao))) (aq (aD (i:=4) gE.nd rfl (Or.inl rfl) (aE jA (pv 4) ah))))) (aq (aw (pv 5)))))))) ?_;refine⟨_,rfl,_,rfl,a,ns,k,rfl,hS,hl,?_⟩;refine⟨_,rfl,_,_,rfl,rfl,⟨by decide,by decide,by decide⟩,_,_,rfl,rfl,_,rfl,?_⟩;refine aV (fun _=>?_) (fun _=>?_)
  ·refine⟨_,rfl,(m:Int),rfl,(by omega),(by omega),fun D b hD=>?_⟩;refine MY (lo:=0) (n:=((m:Int)).toNat) (fun i ys σ H'=>∃(v:Option V)(ms:List Int),σ=[v,some (.ref a),some (.int (k:Int)),some (.int (m:Int)),some (.int (jg ns k)),none,none]/\H'=upd H D (.lst ys)/\ys=ms.map V.int/\ms.length=i/\∀ x∈ms,0<=x) ⟨none,[],rfl,rfl,rfl,rfl,fun _ h=>nomatch h⟩ ?_ ?_
   ·rintro i ys σ H' hi ⟨v,ms,rfl,rfl,rfl,hlen,hpos⟩ N hN;refine qK ?_;refine⟨_,rfl,_,rfl,_,rfl,.inl ⟨_,_,rfl,rfl,_,rfl,.inl ⟨_,_,rfl,rfl,a,ns,k+1+i,?_,sY hS hD,hl,.inl ⟨_,_,rfl,rfl,.inl ⟨by decide,by decide⟩,?_⟩⟩⟩⟩
    ·show [V.ref a,V.int ((k:Int)+1+(0+(i:Int)))]=[V.ref a,V.int ((k+1+i:Nat):Int)];have e:(k:Int)+1+(0+(i:Int))=((k+1+i:Nat):Int):=by omega
     rw[e]
    ·refine .inl ⟨_,_,rfl,rfl,_,rfl,_,_,rfl,fun r h0 h1=>⟨aj,?_,?_⟩⟩
     ·rw[length_map];exact cf (by omega)
     ·refine hN _ _ _ ⟨some _,ms++[r],rfl,qa,by simp,by simp[hlen],fun x hx=>?_⟩;rcases mem_append.mp hx with z|z
      ·exact hpos x z
      ·have:x=r:=by simpa using z
       omega
   ·rintro ys σ H' ⟨v,ms,rfl,rfl,rfl,hlen,hpos⟩;exact q D ms _ (az.upd hD) aj (by omega) hpos
  ·refine⟨_,rfl,_,_,rfl,rfl,⟨by decide,by decide,by decide⟩,_,_,rfl,rfl,(by decide),fun l hl0=>?_⟩;refine⟨fun mm σ H'=>∃(left:Int)(ms:List Int),σ=[some (.ref a),some (.int (k:Int)),some (.int (m:Int)),some (.int (jg ns k)),some (.int left),some (.ref l)]/\H'=upd H l (.lst (ms.map V.int))/\mm=60-ms.length/\ms.length<=60/\∀ x∈ms,0<=x,
    ⟨60,_,[],rfl,rfl,rfl,Nat.zero_le _,fun _ h=>nomatch h⟩,?_⟩
   rintro mm σ H' ⟨left,ms,rfl,rfl,rfl,hlen,hpos⟩;refine i6 (decide (0<left)&&decide ((ms.length:Int)<60)) ?_ ?_
   ·refine⟨_,rfl,_,_,rfl,rfl,_,rfl,?_⟩;refine aV (fun h=>?_) (fun h=>?_)
    ·refine⟨_,rfl,.inl ⟨l,_,rfl,.inl (a6.of aj),_,_,rfl,rfl,_,rfl,?_⟩⟩;rw[length_map];exact⟨by rw[h,Bool.true_and],rfl⟩
    ·exact⟨by rw[Bool.eq_false_iff.mpr h];rfl,rfl⟩
   refine aV (fun h60=>?_) (fun _=>?_)
   ·have ahi:ms.length<60:=by
     have:=of_decide_eq_true (Bool.and_eq_true_iff.mp h60).2;omega
    refine⟨fun σ' H'=>∃ m',m'<60-ms.length/\∃(left:Int)(ms:List Int),σ'=[some (.ref a),some (.int (k:Int)),some (.int (m:Int)),some (.int (jg ns k)),some (.int left),some (.ref l)]/\H'=upd H l (.lst (ms.map V.int))/\m'=60-ms.length/\ms.length<=60/\∀ x∈ms,0<=x,fun _ _ h=>h,?_⟩;refine⟨_,rfl,.inl ⟨rfl,_,a6.of aj⟩,_,rfl,_,_,rfl,rfl,(by decide:(0:Int)<2400),l,_,_,rfl,rfl,aj,(by rw[length_map];exact cf (by omega)),_,rfl,_,_,rfl,rfl,⟨by decide,by decide⟩,60-(ms.length+1),by omega,_,ms++[left % 2400],rfl,?_,by simp,by simp;omega,fun x hx=>?_⟩
    ·rw[qa,map_append];rfl
    ·rcases mem_append.mp hx with z|z
     ·exact hpos x z
     ·have:x=left % 2400:=by simpa using z
      omega
   ·exact⟨_,rfl,q l ms _ (az.upd hl0) aj (by omega) hpos⟩
def Rm (K:Frag):Sp:=fun vs H Q _=>∃(a:Addr)(ns:List Int)(k m:Nat),vs=[.ref a,.int (k:Int),.int (m:Int)]/\a6 K H a (ns.map V.int)/\ns.length<=63/\m<=60 /\
 ∀(l:Addr)(xs:List V)(ss:List Sg)(H':Hp),az H H'->H l=none->H' l=some (.lst xs)->QM H' xs ss->(∀ s∈ss,Uo s)->ss.length<=60->Q (.ref l) H'
theorem Rn (T:Txt K w mg t):cw P w K mg base ji (0+3) t.j5 t.DJ ["_law_script","_law_at","_law_many"] (Rm K):=by
 have L7:=JY (P:=P) (base:=base) T;have L8:=J0 (P:=P) (base:=base) T;refine T.pd.ok Q5 (fun vs H Q E h=>?_) (fun cdv A outer s H vs Q E hr h=>?_)
 ·obtain⟨_,_,_,_,rfl,_⟩:=h;rfl
 ·obtain⟨a,ns,k,m,rfl,hS,hl,hm,q⟩:=h;refine aU (aq (aw (AM (cn:=["_law_number"]) rfl (fR.of rfl) (kX (ax L8 (hr.mono (by decide)) rfl T.JG T.je.kp T.pb .nil aN (aa (pv 0) (aa (pv 1) (aa (pv 2) ao))))) (fun _=>(aK (i:=0) LM rfl (Or.inl rfl))) (fun _=>Hz) (fun _=>(ax L7 (hr.mono (by decide)) rfl T.JF T.jd.kp T.o9 .nil aN (aa (pv 0) ao)))))) ?_;refine⟨_,rfl,_,rfl,_,rfl,a,ns,k,m,rfl,hS,hl,hm,fun l ms H1 s1 hl1 hlen hpos=>⟨l,rfl,⟨_,a6.of hl1⟩,fun D b hD=>?_⟩⟩;refine QB (K:=K) (xs:=ms.map V.int) (fun i ys σ H'=>∃(v:Option V)(ss:List Sg),σ=[v,some (.ref a),some (.int (k:Int)),some (.int (m:Int))]/\az H1 H'/\H' D=some (.lst ys)/\QM H' ys ss/\ss.length=i/\i<=ms.length/\∀ s∈ss,Uo s)
   ⟨none,[],rfl,az.upd hD,aj,.nil,rfl,Nat.zero_le _,fun _ h=>nomatch h⟩ ?_ ?_ ?_
  ·rintro i ys σ H' ⟨v,ss,rfl,s2,_⟩;exact s2.seq (a6.of hl1)
  ·rintro i ys x σ H' hx ⟨v,ss,rfl,s2,X5,hsg,hsl,hi,hg⟩ N hN;have hil:i<ms.length:=by
    have:=(List.getElem?_eq_some_iff.mp hx).1;rw[length_map]at this;exact this
   obtain⟨z,hz,rfl⟩:=Tt hx;refine qK ?_;refine⟨_,rfl,z,rfl,fun p s gs hp=>⟨az.upd hp _ _ X5,?_,?_⟩⟩
   ·rw[ef hsg,hsl];exact cf (by omega)
   ·have hD4:=az.upd (o:=.tup [.str s.1.str,.int s.2]) hp _ _ X5;refine hN _ _ _ ⟨_,ss++[s],rfl,gB (s2.trans (az.upd hp)) hD,aj,lP (Y1 hD4 (hsg.same (az.upd hp))) (XH hD4 ⟨p,rfl,aj⟩),by simp[hsl],hil,fun y hy=>?_⟩;rcases mem_append.mp hy with z|z
    ·exact hg y z
    ·have:y=s:=by simpa using z
     rw[this];exact gs
  ·rintro ys σ H' ⟨v,ss,rfl,s2,X5,hsg,hsl,hi,hg⟩;refine q D ys ss H' (s1.trans s2) (s1.free hD) X5 hsg hg ?_;rw[hsl,length_map];omega
def NX:Sp:=fun vs H Q _=>∃ n:Int,vs=[.int n]/\Q (.bl true) H
theorem Eb (T:Txt K w mg t):cw P w K mg base ji (0+1) t.iK t.xb ["_law_found"] NX:=by
 refine T.jP.ok Ny (fun vs H Q E h=>?_) (fun cdv A outer s H vs Q E hr h=>?_)
 ·obtain⟨_,rfl,_⟩:=h;rfl
 ·obtain⟨n,rfl,q⟩:=h;refine aU (aq (aw (gy (oA (bF oH rfl T.eU eQ (aa (pv 0) (aa (qb (v:=.ty "int") rfl T.DU BQ rfl) ao))) (oz (Yl (bF oH rfl T.eU eQ (aa (pv 0) (aa (qb (v:=.ty "bool") rfl T.Ww VE rfl) ao))))))))) ?_;refine yD (.bl true) ?_ q;exact⟨_,rfl,_,_,_,_,rfl,oe.int _,rfl,_,rfl,mQ ⟨_,rfl,_,_,_,_,rfl,oe.int _,rfl,_,rfl,i7 rfl⟩⟩
theorem WN (k:Kd):Nc k.str "GDRsdr.32" = true:=by cases k <;> decide +kernel
theorem WO (k:Kd):Nc k.str "Rr.32" = !k.e9:=by cases k <;> decide +kernel
theorem len_one (k:Kd):k.str.length=1:=by cases k <;> decide +kernel
def Ro (K:Frag):Sp:=fun vs H Q _=>∃(l:Addr)(xs:List V)(ss:List Sg),vs=[.ref l]/\H l=some (.lst xs)/\mX K H xs ss/\(∀ s∈ss,GY s)/\Q (.bl true) H
theorem Rp (T:Txt K w mg t):cw P w K mg base ji (0+2) t.j6 t.DK ["_law_line_here"] (Ro K):=by
 have xw:=Eb (P:=P) (base:=base) T;refine T.pe.ok Hh (fun vs H Q E h=>?_) (fun cdv A outer s H vs Q E hr h=>?_)
 ·obtain⟨_,_,_,rfl,_⟩:=h;rfl
 ·obtain⟨l,xs,ss,rfl,hl,hg,hG,q⟩:=h;refine aU (ag (aW (jR (cJ (bF oH rfl T.eU eQ (aa (pv 0) (aa (qb (v:=.ty "list") rfl T.JH HA rfl) ao))))) (aq (aw qy)) aC) (ag (fU PassesOwn.never rfl (kX (pv 0)) (aK (i:=1) Hh.nd rfl (Or.inl rfl)) (ag (aW (bK (PW.pt (jQ (jR (cJ (bF Tp rfl T.eU eQ (aa (pv 1) (aa (qb (v:=.ty "tuple") rfl T.DV BR rfl) ao))))) (ir (ar (qz.or (lz (ay hr))) (bF (bj.or bo) rfl T.jo jj (aa (pv 1) ao)) ah (av _)))))) (aq (aw qy)) aC) (ag (aW (bK (PW.pt (jQ (jR (cJ (bF oH rfl T.eU eQ (aa (aI aA (pv 1) ah (fun _ _=>rfl)) (aa (qb (v:=.ty "str") rfl T.Zi YO rfl) ao))))) (jQ (ar (qz.or (lz (ay hr))) (bF (bj.or bo) rfl T.jo jj (aa (aI aA (pv 1) ah (fun _ _=>rfl)) ao)) ah (av _)) (ir (jR (cJ (ax xw (hr.mono (by decide)) rfl T.DS T.jP.kp T.qr .nil aN (aa (aI aA (pv 1) ah (fun _ _=>rfl)) ao))))))))) (aq (aw qy)) aC) (ag (aW (bK (PW.pt (jQ (bK (PW.pt (cq (ar (a8.or a7) (aI aA (pv 1) ah (fun _ _=>rfl)) aJ rfl) (df (jR (SE Xf Xf ah (aI aA (pv 1) ah (fun _ _=>rfl)) ah)))))) (ir (bK (PW.pt (cq (ar (a8.or a7) (aI aA (pv 1) ah (fun _ _=>rfl)) aJ rfl) (df (ar (qz.or (lz (ay hr))) (aI aA (pv 1) ah (fun _ _=>rfl)) ah (av _)))))))))) (aq (aw qy)) aC) (aq (aW (ar (sV.or sW) (aI aA (pv 1) ah (fun _ _=>rfl)) aJ rfl) (aq (aw qy)) aC)))))) (aq (aw qy)))) ?_;refine⟨_,rfl,_,_,_,_,rfl,oe.lst hl,rfl,_,rfl,iy ?_⟩;tm_up;refine⟨⟨_,a6.of hl⟩,jS (K:=K) (xs:=xs) (fun i σ H'=>∃ v:Option V,σ=[some (.ref l),v]/\H'=H) ⟨none,rfl,rfl⟩ ?_ ?_ ?_⟩
  ·rintro i σ H' _ ⟨v,rfl,rfl⟩;exact a6.of hl
  ·rintro i x σ H' hx ⟨v,rfl,rfl⟩;obtain⟨s,hs,p,rfl,hp⟩:=qu hg hx;have gs:=hG s (mem_of_getElem? hs);have e1:=len_one s.1;refine i6 false ?_ (iy ?_)
   ·refine⟨_,rfl,p,_,_,_,rfl,hp.h,rfl,_,rfl,iy ?_⟩;tm_up;refine .inl ⟨_,_,rfl,.inr hp.h,?_⟩;tm_up;exact de rfl
   refine i6 false ?_ (iy ?_)
   ·tm_up;refine⟨_,_,_,_,rfl,oe.str _,rfl,_,rfl,iy ?_⟩;tm_up;refine .inr ⟨_,rfl,big (by rw[e1];decide),?_⟩;rw[e1];tm_up;exact⟨rfl,rfl⟩
   refine i6 false ?_ (iy ?_)
   ·refine i6 false ?_ (iy ?_)
    ·tm_up;refine aV (fun h=>?_) (fun h=>de rfl);have hs':s.1.e9=true:=by rw[<-vP];exact h
     tm_up;have g0:=gs.1 hs';rw[decide_eq_true g0.1];refine mQ ⟨_,_,rfl,rfl,_,rfl,?_⟩;rw[decide_eq_true g0.2];exact⟨rfl,rfl⟩
    ·refine i6 false ?_ (de rfl);tm_up;refine aV (fun h=>?_) (fun h=>de rfl);have hs':s.1.e9=false:=by
      have:Nc s.1.str "Rr.32" = true:=h;rw[WO]at this
      simpa using this
     tm_up;rw[gs.2 hs'];exact⟨rfl,rfl⟩
   tm_up;have h9:=WN s.1;unfold Nc at h9;rw[h9];exact iy ⟨_,rfl,rfl⟩
  ·rintro σ H' ⟨v,rfl,rfl⟩;tm_up;exact q
theorem Ec {a b:TS}{D:Ends}{σ:St}{H:Hp}(h:∀ N:St->Hp->Prop,(∀ σ H,b D σ H->N σ H)->a { D with nx:=N } σ H):Vo a b D σ H:=h (b D) fun _ _ z=>z
theorem Up {a b:TS}{D:Ends}{σ:St}{H:Hp}{rt:VK}{bk ct:St->Hp->Prop}(h:Vo a b D σ H):Ends.nx { nx:=Vo a b D,rt:=rt,bk:=bk,ct:=ct } σ H:=h
theorem Uq {K:Frag}{H:Hp}{a b:Addr}{xs ys:List V}{qs:List (Int×Int)}(ha:a6 K H a xs)(hb:a6 K H b ys)(h1:tu H xs qs)(h2:tu H ys qs):VC K H 60 (.ref a) (.ref b) :=
 .lst (n:=59) ha hb (by rw[ef h1,ef h2]) fun i x y hx hy=>by
  obtain⟨q,hq,p,rfl,hp⟩:=qu h1 hx;obtain⟨q',hq',p',rfl,hp'⟩:=qu h2 hy;rw[hq]at hq';cases hq';refine .tup (n:=58) (dc.of hp) (dc.of hp') rfl fun j u v hu hv=>?_;rw[hu]at hv;cases hv
  match j,hu with
  |0,hu=>obtain rfl:=Option.some.inj hu;exact .flat rfl
  |1,hu=>obtain rfl:=Option.some.inj hu;exact .flat rfl
  |j+2,hu=>exact absurd hu (by simp)
set_option maxHeartbeats 4000000 in
theorem Zv (T:Txt K w mg t):cw P w K mg base ji (0+8) t.DL t.T3 ["_law_script"] (tI K t.tQ):=by
 have Rq:=NK (P:=P) (base:=base) T;have NY:=LV (P:=P) (base:=base) T;have NZ:=LY (P:=P) (base:=base) T;have Ed:=L0 (P:=P) (base:=base) T;have Rr:=NT (P:=P) (base:=base) T;have bR:=nu (P:=P) (base:=base) T;have mq:=rO (P:=P) (base:=base) T;have Ee:=y9 (P:=P) (base:=base) T;have Rt:=NW (P:=P) (base:=base) T;have Ur:=Rn (P:=P) (base:=base) T;have Us:=Rp (P:=P) (base:=base) T;have xw:=Eb (P:=P) (base:=base) T;have ph:=xq (P:=P) (base:=base) T;refine T.Qb.ok mY (fun vs H Q E h=>?_) (fun cdv A outer s H vs Q E hr h=>?_)
 ·obtain⟨a,ns,rfl,_⟩:=h;rfl
 ·obtain⟨a,ns,rfl,hS,hl,hT,q⟩:=h;refine aU (ag (aD (i:=1) mY.nd rfl (Or.inl rfl) (ax Rq (hr.mono (by decide)) rfl T.NB T.l6.kp T.xc .nil aN (aa (ax bR (hr.mono (by decide)) rfl T.b9 T.bf.kp T.bQ .nil aN (aa (pv 0) (aa ah ao))) ao))) (ag (aD (i:=2) mY.nd rfl (Or.inl rfl) (ax NY (hr.mono (by decide)) rfl T.LN T.j7.kp T.rH .nil aN (aa (ax mq (hr.mono (by decide)) rfl T.rL T.iM.kp T.md .nil aN (aa (ax bR (hr.mono (by decide)) rfl T.b9 T.bf.kp T.bQ .nil aN (aa (pv 0) (aa ah ao))) (aa ah ao))) ao))) (ag (aD (i:=3) mY.nd rfl (Or.inl rfl) (aI aA (e8 (aa ah (aa ah ao))) (gi (qc.or iX) rfl T.DU BQ (aa (b7 (a4.or (aL (ay hr))) (aE cZ (aE jA (ax bR (hr.mono (by decide)) rfl T.b9 T.bf.kp T.bQ .nil aN (aa (pv 0) (aa ah ao))) ah) ah) ah (av _)) ao)) (fun _ _=>rfl))) (ag (aD (i:=4) mY.nd rfl (Or.inl rfl) (ax NZ (hr.mono (by decide)) rfl T.LO T.j9.kp T.rJ .nil aN (aa (BM (Hv.or (MR.or MW)) (ax Ur (hr.mono (by decide)) rfl T.Q7 T.pd.kp T.DR .nil aN (aa (pv 0) (aa ah (aa (aE cZ (ax bR (hr.mono (by decide)) rfl T.b9 T.bf.kp T.bQ .nil aN (aa (pv 0) (aa ah ao))) (aE (bV.or (aG.or bX)) (pv 3) ah)) ao)))) Hq (Hr (pv 3))) (aa (pv 1) ao)))) (ag (aD (i:=5) mY.nd rfl (Or.inl rfl) (ax Ed (hr.mono (by decide)) rfl T.yx T.iL.kp T.ni .nil aN (aa (pv 4) (aa (pv 1) ao)))) (ag (mU (aW (ar (a4.or (aL (ay hr))) (aE cZ (ax bR (hr.mono (by decide)) rfl T.b9 T.bf.kp T.bQ .nil aN (aa (pv 0) (aa ah ao))) ah) ah (av _)) (aq (aD (i:=5) mY.nd rfl (Or.inl rfl) (ax Ee (hr.mono (by decide)) rfl T.yO T.fu.kp T.ke .nil aN (aa (pv 0) (aa ah (aa (aE cZ (ax bR (hr.mono (by decide)) rfl T.b9 T.bf.kp T.bQ .nil aN (aa (pv 0) (aa ah ao))) (aE jh (pv 3) ah)) ao)))))) aC)) (ag (aD (i:=6) mY.nd rfl (Or.inl rfl) (gi Hw rfl T.JH HA (aa (pv 5) ao))) (ag (aD (i:=7) mY.nd rfl (Or.inl rfl) (ax Rr (hr.mono (by decide)) rfl T.NH T.jO.kp T.xk .nil aN (aa (pv 6) (aa (pv 2) (aa (pv 1) ao))))) (ag (aW (bK (PW.pt (jQ (jR (cJ (bF oH rfl T.eU eQ (aa (pv 7) (aa (qb (v:=.ty "tuple") rfl T.DV BR rfl) ao))))) (jQ (ar (qz.or (lz (ay hr))) (bF (bj.or bo) rfl T.jo jj (aa (pv 7) ao)) ah (av _)) (ir (ar (qz.or (lz (ay hr))) (pv 6) (pv 5) (av _))))))) (aq (aw qy)) aC) (ag (aW (ar Ho (aI aA (pv 7) ah (fun _ _=>rfl)) eV (av _)) (aq (aw (b7 Ho (aI aA (pv 7) ah (fun _ _=>rfl)) eV (av _)))) aC) (ag (aW (bK (PW.pt (jQ (jR (cJ (ax Us (hr.mono (by decide)) rfl T.Q8 T.pe.kp T.DT .nil aN (aa (aI aA (pv 7) ah (fun _ _=>rfl)) ao)))) (ir (jR (cJ (ax xw (hr.mono (by decide)) rfl T.DS T.jP.kp T.qr .nil aN (aa (aI aA (pv 7) ah (fun _ _=>rfl)) ao)))))))) (aq (aw qy)) aC) (ag (aW (bK (PW.pt (jQ (ar (YT (ay hr)) (aI aA (ax ph (hr.mono (by decide)) rfl T.xg T.j8.kp T.o4 .nil aN (aa (aI aA (pv 7) ah (fun _ _=>rfl)) (aa (pv 1) ao))) ah (fun _ _=>rfl)) (e8 ao) (av _)) (ir (ar (qz.or (lz (ay hr))) (ax Ed (hr.mono (by decide)) rfl T.yx T.iL.kp T.ni .nil aN (aa (aI aA (pv 7) ah (fun _ _=>rfl)) (aa (pv 1) ao))) (pv 5) (av _)))))) (aq (aw qy)) aC) (aq (aw (b7 (a4.or (aL (ay hr))) (ax Rt (hr.mono (by decide)) rfl T.NI T.me.kp T.xm .nil aN (aa (aI aA (pv 7) ah (fun _ _=>rfl)) (aa (pv 2) ao))) (aI aA (pv 7) ah (fun _ _=>rfl)) (av _)))))))))))))))) ?_;tm_up;refine⟨a,ns,1,rfl,hS,hl,?_⟩;tm_up;refine fun b hb=>?_;have hM:Ms b:=hb;tm_up;refine⟨a,ns,2,rfl,hS,hl,?_⟩;tm_up;refine⟨_,3,rfl,fun m0 _ _=>?_⟩;refine⟨m0,rfl,fun c z H1 s1 n1 hz1=>?_⟩;have hS1:=s1.seq hS;have hT1:=s1 _ _ hT;refine Up ?_;refine Ec fun N hN=>?_
  suffices hN':∀(sz:Nat)(H':Hp),(sz=16\/sz=60)->az H1 H'->N [some (.ref a),some (.int b),some (.ref z),some (.int (sz:Int)),none,none,none,none] H' by
   tm_up;refine⟨by show 2<=sizeLine;decide,fun L hL=>?_⟩;have sL:=az.upd (o:=.lst [V.int 16,V.int 60]) hL;tm_up;refine⟨a,ns,0,rfl,sL.seq hS1,hl,?_⟩;tm_up;refine .inl (.inr ⟨_,rfl,?_⟩);generalize decide (V.int (jg ns 0 / 3 % 8)=V.int 1)=db;cases db with
   |false=>exact Y2 (a6.of aj) (n:=0) rfl rfl (hN' 16 _ (.inl rfl) sL)
   |true=>exact Y2 (a6.of aj) (n:=1) rfl rfl (hN' 60 _ (.inr rfl) sL)
  intro sz H2 hsz s2;refine hN _ _ ?_;clear hN N;have hS2:=s2.seq hS1;have hz2:=s2 _ _ hz1;have hT2:=s2 _ _ hT1;refine Ec fun N hN=>?_;tm_up;refine⟨a,ns,3,rfl,hS2,hl,?_⟩;tm_up;refine⟨by omega,?_⟩;obtain⟨m1,hm1,hm2⟩:∃ m:Nat,jg ns 3 % ((sz:Int)+1)=(m:Int)/\m<=60:=⟨(jg ns 3 % ((sz:Int)+1)).toNat,by have:=Int.emod_nonneg (jg ns 3) (show((sz:Int)+1)≠0 by omega);omega,by have:=Int.emod_lt_of_pos (jg ns 3) (show 0<((sz:Int)+1) by omega);omega⟩;rw[hm1];refine⟨a,ns,4,m1,rfl,hS2,hl,hm2,fun l0 xs0 ss0 H3 s3 n3 h3 g3 gt3 sl3=>?_⟩;tm_up;refine .inl ⟨l0,xs0,rfl,a6.of h3,fun c1 hc1=>?_⟩;rw[XM];have s4:=az.upd (o:=.lst (xs0.take sz)) hc1;have k4:=aj (H:=H3) (a:=c1) (o:=.lst (xs0.take sz));generalize upd H3 c1 (.lst (xs0.take sz))=H4 at s4 k4;tm_up;refine⟨c1,b,_,ss0.take sz,rfl,hM,k4,Ts sz (g3.same s4),by rw[length_take];omega,fun l2 D2 Fy H5 s5 _ h5 g5 le5 ab1 ab2=>?_⟩;have S5:=(s3.trans s4).trans s5;have gt5:∀ s∈Fy,s.1.e9=true->0<=s.2/\s.2<100:=fun s hs=>(gt3 s (List.mem_of_mem_take (ab1 s hs))).1;have sl5:Fy.length<=60:=by rw[length_take]at le5;omega
  refine hN _ _ ?_;clear hN N;have hS5:=S5.seq hS2;have hz5:=S5 _ _ hz2;have hT5:=S5 _ _ hT2;clear hS hT hS1 hT1 hS2 hz2 hT2 s1 s2 hz1 n1 hm1 gt3 g3 h3 n3 k4 ab1 le5 ab2 hc1 s3 s4 s5 S5;refine Ec fun N hN=>?_;tm_up;refine⟨l2,b,D2,Fy,rfl,hM,h5,mX.of g5,by omega,fun f ys H6 s6 n6 h6 p6=>?_⟩;refine hN _ _ ?_;clear hN N;have hS6:=s6.seq hS5;have hz6:=s6 _ _ hz5;have hT6:=s6 _ _ hT5;refine⟨fun σ H'=>∃(f:Addr)(ys:List V)(qs:List (Int×Int)),σ=[some (.ref a),some (.int b),some (.ref z),some (.int (sz:Int)),some (.ref l2),some (.ref f),none,none]/\az H6 H'/\H' f=some (.lst ys)/\tu H' ys qs/\XU qs/\QW qs/\qs.length<=60,?_,?_⟩
  ·tm_up;refine⟨a,ns,0,rfl,hS6,hl,?_⟩;tm_up;refine aV (fun _=>?_) (fun _=>?_)
   ·tm_up;refine⟨a,ns,3,rfl,hS6,hl,?_⟩;tm_up;refine⟨by omega,?_⟩;obtain⟨m2,hm3,hm4⟩:∃ m:Nat,jg ns 3 % ((sz:Int)-3)=(m:Int)/\m<=60:=⟨(jg ns 3 % ((sz:Int)-3)).toNat,by have:=Int.emod_nonneg (jg ns 3) (show((sz:Int)-3)≠0 by omega);omega,by have:=Int.emod_lt_of_pos (jg ns 3) (show 0<((sz:Int)-3) by omega);omega⟩;rw[hm3];refine⟨a,ns,4,m2,rfl,hS6,hl,hm4,fun f' ys' qs' H7 s7 n7 h7 p7 w7 wt7 ql7=>?_⟩;exact⟨f',ys',qs',rfl,s7,h7,p7,w7,wt7,by omega⟩
   ·exact⟨f,ys,_,rfl,az.refl _,h6,p6,Q0 (V7 hM _),Nv gt5,Nat.le_trans (vO _ _) sl5⟩
  rintro σ H7 ⟨f,ys,qs,rfl,s7,h7,p7,hW,hWT,ql⟩;have hS7:=s7.seq hS6;have hz7:=s7 _ _ hz6;have hT7:=s7 _ _ hT6;clear hS5 hz5 hT5 hS6 hz6 hT6 s6 s7 h6 p6 n6 h5 g5 gt5 sl5;refine Up ?_;refine Ec fun N hN=>?_;tm_up;refine⟨f,_,rfl,.inl (a6.of h7),fun hd hhd=>?_⟩;have s8:=az.upd (o:=.lst ys) hhd;have h8d:=aj (H:=H7) (a:=hd) (o:=.lst ys);refine hN _ _ ?_;clear hN N;generalize upd H7 hd (.lst ys)=H8 at s8 h8d;have h8:=s8 _ _ h7;have p8:=oN s8 p7;have hz8:=s8 _ _ hz7;have hT8:=s8 _ _ hT7;clear h7 p7 hz7 hT7 hS7 s8 hhd;refine Ec fun N hN=>?_
  suffices hN':∀(r:Addr)(H':Hp),Uk t.tQ H8 H'->((∃ pp,H' r=some (.tup [.non,.non,.ref pp]))\/∃(w:Wy)(l pp:Addr)(zs:List V),w∈B7 c b qs/\H' r=some (.tup [.ref l,.int w.2.1,.ref pp])/\H' l=some (.lst zs)/\mX K H' zs w.2.2)->N [some (.ref a),some (.int b),some (.ref z),some (.int (sz:Int)),some (.ref l2),some (.ref f),some (.ref hd),some (.ref r)] H' by
   tm_up;refine⟨hd,z,b,c,ys,qs,rfl,a6.of h8d,p8,by omega,hW,hz8,.inr ⟨#[],hT8,trivial,rfl⟩,fun _ r pp xs H9 s9 h9 _ _=>hN' r H9 s9.toT (.inl ⟨pp,h9⟩),fun w hw _ r l pp zs xs H9 s9 _ h9 h9l g9 _ _=>hN' r H9 s9 (.inr ⟨w,l,pp,zs,hw,h9,h9l,g9⟩)⟩
  intro r H9 s9 hr9;refine hN _ _ ?_;clear hN N;have nT:∀{b u},H8 b=some u->(∀ ps,u≠.AK ps)->b≠t.tQ:=fun {b u} e n z=>by
   rw[z,hT8]at e;exact n _ (Option.some.inj e).symm
  have h9:=s9 _ _ h8 (nT h8 (fun _ z=>nomatch z));have h9d:=s9 _ _ h8d (nT h8d (fun _ z=>nomatch z));have hz9:=s9 _ _ hz8 (nT hz8 (fun _ z=>nomatch z));have p9:tu H9 ys qs:=bU (fun _ _ ⟨p,e,q⟩=>⟨p,e,s9 _ _ q (nT q (fun _ z=>nomatch z))⟩) p8;clear h8 h8d hz8 p8 s9 hT8 nT;obtain⟨x0,x1,x2,hrt⟩:∃ x0 x1 x2,H9 r=some (.tup [x0,x1,x2]):=by
   rcases hr9 with ⟨pp,e⟩|⟨w,l,pp,zs,_,e,_⟩ <;> exact⟨_,_,_,e⟩
  refine i6 false ?_ (iy ?_)
  ·tm_up;refine⟨_,_,_,_,rfl,oe.tup hrt,rfl,_,rfl,iy ?_⟩;tm_up;refine .inl ⟨_,_,rfl,.inr (dc.of hrt),?_⟩;tm_up;refine⟨Uq (a6.of h9d) (a6.of h9) p9 p9,?_⟩;exact⟨_,rfl,rfl,rfl⟩
  clear hrt;rcases hr9 with ⟨pp,hr⟩|⟨w,l,pp,zs,hw,hr,hl9,g9⟩
  ·tm_up;refine .inr (.inl ⟨r,_,0,_,rfl,rfl,dc.of hr,rfl,?_⟩);tm_up;refine⟨rfl,_,rfl,mQ ?_⟩;tm_up;refine .inr (.inl ⟨r,_,1,_,rfl,rfl,dc.of hr,rfl,?_⟩);tm_up;exact⟨rfl,q _⟩
  ·obtain⟨e1,e2,e3,e4⟩:=QZ hM hW hWT hw;tm_up;refine .inr (.inl ⟨r,_,0,_,rfl,rfl,dc.of hr,rfl,?_⟩);tm_up;refine⟨rfl,_,rfl,iy ?_⟩;refine i6 false ?_ (iy ?_)
   ·tm_up;refine .inr (.inl ⟨r,_,0,_,rfl,rfl,dc.of hr,rfl,?_⟩);tm_up;refine⟨l,zs,_,rfl,hl9,g9,e4,?_⟩;tm_up;refine .inr (.inl ⟨r,_,1,_,rfl,rfl,dc.of hr,rfl,?_⟩);exact⟨_,rfl,_,rfl,rfl,rfl⟩
   have ln:w.2.2.length<=5000:=by
    have h1:=(List.mem_filter.mp (show w∈(ik c b qs).filter (fun w=>fQ w.1) from hw)).1;have h2:=lQ (c:=c) (b:=b) hW qs.length;rw[take_length]at h2;have:=h2.ln w h1;omega
   refine Up ?_;refine⟨fun x H'=>x=false/\az H9 H',?_,?_⟩
   ·tm_up;refine .inr (.inl ⟨r,_,0,_,rfl,rfl,dc.of hr,rfl,?_⟩);tm_up;refine⟨l,b,zs,_,rfl,hM,hl9,g9,ln,fun p f' lo ys' Vj qh n1 n2 n3 hp hf hlo ab5=>?_⟩;rw[e1]at ab5;cases ab5;tm_up;refine⟨big (by show 0<=1000;omega),fun e0 he0=>?_⟩;have yG:=az.upd (o:=.lst []) he0;refine⟨lo,e0,[],rfl,rfl,a6.of (yG _ _ hlo),a6.of aj,_,rfl,iy ?_⟩;generalize upd Vj e0 (.lst [])=H11 at yG;have s9:=qh.trans yG;tm_up;refine .inr (.inl ⟨r,_,0,_,rfl,rfl,dc.of (s9 _ _ hr),rfl,?_⟩);tm_up;refine⟨l,b,zs,_,rfl,hM,s9 _ _ hl9,g9.same s9,ln,fun f2 y2 BD s12 n12 h12 p12=>?_⟩;rw[e2]at p12;have s13:=s9.trans s12;tm_up;refine⟨Uq (a6.of h12) (a6.of (s13 _ _ h9)) p12 (oN s13 p9),?_⟩;exact⟨_,rfl,rfl,s13⟩
   rintro _ Vj ⟨rfl,qh⟩;refine iy ?_;tm_up;refine .inr (.inl ⟨r,_,0,_,rfl,rfl,dc.of (qh _ _ hr),rfl,?_⟩);tm_up;refine⟨l,z,zs,_,c,rfl,a6.of (qh _ _ hl9),g9.same qh,qh _ _ hz9,?_⟩;rw[e3];tm_up;refine .inr (.inl ⟨r,_,1,_,rfl,rfl,dc.of (qh _ _ hr),rfl,?_⟩);tm_up;rw[show decide (mO (some w.2.1)=V.int w.2.1)=true from decide_eq_true rfl];exact q _
theorem ab6 {us:List Value}(h:us.length=0):us=[]:=match us,h with|[],_=>rfl
theorem X7 {us:List Value}(h:us.length=1):∃ a0,us=[a0]:=match us,h with|[a0],_=>⟨a0,rfl⟩
theorem ly {p:List Value->Prop}(h:∀ a0,p [a0])(us:List Value)(e:us.length=1):p us:=by obtain⟨_,rfl⟩:=X7 e;exact h _
theorem ab7 {us:List Value}(h:(us++[]).length=1):∃ a0,us=[a0]:=X7 (by rw[append_nil]at h;exact h)
theorem X8 {us:List Value}(h:us.length=2):∃ a0 a1,us=[a0,a1]:=match us,h with|[a0,a1],_=>⟨a0,a1,rfl⟩
theorem pk {p:List Value->Prop}(h:∀ a0 a1,p [a0,a1])(us:List Value)(e:us.length=2):p us:=by obtain⟨_,_,rfl⟩:=X8 e;exact h _ _
theorem X9 {us:List Value}(h:us.length=3):∃ a0 a1 a2,us=[a0,a1,a2]:=match us,h with|[a0,a1,a2],_=>⟨a0,a1,a2,rfl⟩
theorem pA {p:List Value->Prop}(h:∀ a0 a1 a2,p [a0,a1,a2])(us:List Value)(e:us.length=3):p us:=by obtain⟨_,_,_,rfl⟩:=X9 e;exact h _ _ _
theorem ab8 {us:List Value}(h:(us++[]).length=3):∃ a0 a1 a2,us=[a0,a1,a2]:=X9 (by rw[append_nil]at h;exact h)
theorem ab9 {us:List Value}(h:us.length=4):∃ a0 a1 a2 a3,us=[a0,a1,a2,a3]:=match us,h with|[a0,a1,a2,a3],_=>⟨a0,a1,a2,a3,rfl⟩
theorem Ut {p:List Value->Prop}(h:∀ a0 a1 a2 a3,p [a0,a1,a2,a3])(us:List Value)(e:us.length=4):p us:=by obtain⟨_,_,_,_,rfl⟩:=ab9 e;exact h _ _ _ _
set_option maxHeartbeats 0 in
theorem all_mk {l:OpenLaw}{w:World}{K:Frag}{h:Heap}{mg:Str->Option Value}{fa iE fX jX iF mZ jY fY fZ ei m6 iG aY jZ bN eo cL fg eA cM rF m9 cx cN a5 nc c5 gG cO eB fi rG iH nh fj iI cQ iJ fk fm j5 iK j6 DL c6 cy cz b0 eC bI cF bP mr mv mw mx my mz mB mC mD mE cG pB pC pD pE cA cj ck cm eD dQ dR PW:Addr}(X:K.In h)(G:h.Ns mainGlobals mg)(hfa:mg "law"=some (.ref fa)){N1 N2 L9 Ma Ru Rv N3 N4 Uu Uv Rw Rx Mb Mc Md Me FJ FK Uw Ux N5 N6 mF mG Ry Rz rP rQ FL FN za zb J1 J2 FO FP zc zd WQ WR Uy Uz xx xy ze zf oi oj UA UB Ef Eg zg zh zi FQ FR J3 J4 WS WT N7 N8 Mf J5 J6 N9 Oa zj zk Ob Oc J7 J8 J9 Ka RA RB Od Oe RC RD Zw Zx Eh xA xB tZ FT t4 t7 ua ub uc ud ue uf ug uh ui zm zo zq zt xC rR rS rT FU zu zv:Option Addr}{Of Mg RE Og UC RF Mh Mi FV UD Oh mH RG rV FW zw Kb FX zx WU UE xD zy om UG Ei zz zA FY Kc WV Oi Mj Ke Oj zB Ol Kf Kg RH Om RI Zy Ej xE xF uj FZ uk um uo uq ur uu uv uw ux uy uz zC zD zE zF xG rW rX rY F0 zG zH:Array (Option Value)}{Oo Oq Ot Ou Ek Ov Ml Mm Mn Mo yy Mp RJ RK RL RM Hi RO Ow Ox Oy Oz El OA UH UI UJ UK Mq UL RP RQ RS RU Hj RV Mr Mt Mu Mw yz Mx My Mz MA MB yA MC F1 F2 F3 F4 qE F5 UM UN UO UP MD UQ OB OC OD OE Em OF mI mJ mK mL gx mM RW RX RY RZ Hk R0 rZ sd sf sh kj si F6 F7 F8 F9 qF Ga zI zJ zK zL nW zM Kh Ki Kj Kk uA Kl Gb Gd Ge Gf qG Gg zN zO zP zQ nX zR WW WX WY WZ Qh W0 UR US UT UU ME UW xH xI xJ xK mN xM zS zT zU zV nY zW oo oq ot ou iq ow UX UY UZ U0 MF U1 En Eo Ep Er pG Es zX zY zZ z0 z6 nZ z7 Gh Gi Gj Gk qH Gm Km Ko Kp Kq uB Kr W2 W3 W4 W5 Qi W6 OG OH OI OJ sj OK MG Ks Kt Ku Kv uC Kw OL OM ON OO Et OP z8 z9 Aa Ab n0 Ac OQ OR OS OT Eu OU Kx Ky Kz KA uD KC KG KH KJ KL uE KN R1 R3 R4 R7 Hl R8 OV OW OX OY Ew OZ R9 Sa Sb Sd Hm Se Zz ZA ZC ZD U2 ZE:Value}{eN ja Ex Ey Ez xN xO xP xQ xR uF uG uH uI Gn Gp lu uJ uK uL fT eZ cC Ad Ae Af Ag Ah Ai uM uN uO uP uQ uR uS uT uU uV uW uX uY uZ u0 u3 u4 u5 u6 u7 u9 va vb vd ve vf vg vh vi vj Aj Ak Al Am An Ao Ap Aq Ar As Au Av sk sm sq sr su sv Aw Ax Ay Az cW:Tok}{AA MH Gq AB AD xS KO xT Gr AE vk vm vn vo vp vq vt vv vw vx Gs AF AG AH AI AJ vy vz vA KQ EA EB:Nat}(xU:nsIn K mainGlobals "_law_begin"=some (some (.ref iE)))(xV:K.lookup iE=some ⟨Oo,N1,.func (fnOf "_law_begin" "_law_begin" (ak jG) (ai jG) (ae jG) .none Oq Ot Ou N2 Ek Ov),Of⟩)(xW:codeIn K Ek "_law_begin"=true)(xX:keepIn K (.ref iE)=true)(sx:nsIn K mainGlobals "_law_prices"=some (some (.ref fX)))(sy:K.lookup fX=some ⟨Ml,L9,.func (fnOf "_law_prices" "_law_prices" (ak iB) (ai iB) (ae iB) .none Mm Mn Mo Ma yy Mp),Mg⟩)(sA:codeIn K yy "_law_prices"=true)(sE:keepIn K (.ref fX)=true)(EC:nsIn K mainGlobals "_law_base"=some (some (.ref jX)))(ED:K.lookup jX=some ⟨RJ,Ru,.func (fnOf "_law_base" "_law_base" (ak lT) (ai lT) (ae lT) .none RK RL RM Rv Hi RO),RE⟩)(EF:codeIn K Hi "_law_base"=true)(EG:keepIn K (.ref jX)=true)(xY:nsIn K mainGlobals "_law_three"=some (some (.ref iF)))(xZ:K.lookup iF=some ⟨Ow,N3,.func (fnOf "_law_three" "_law_three" (ak jH) (ai jH) (ae jH) .none Ox Oy Oz N4 El OA),Og⟩)(x3:codeIn K El "_law_three"=true)(x4:keepIn K (.ref iF)=true)(KR:nsIn K mainGlobals "_law_run"=some (some (.ref mZ)))(KS:K.lookup mZ=some ⟨UH,Uu,.func (fnOf "_law_run" "_law_run" (ak qi) (ai qi) (ae qi) .none UI UJ UK Uv Mq UL),UC⟩)(KU:codeIn K Mq "_law_run"=true)(KW:keepIn K (.ref mZ)=true)(EH:nsIn K mainGlobals "_law_read"=some (some (.ref jY)))(EI:K.lookup jY=some ⟨RP,Rw,.func (fnOf "_law_read" "_law_read" (ak lU) (ai lU) (ae lU) .none RQ RS RU Rx Hj RV),RF⟩)(EJ:codeIn K Hj "_law_read"=true)(EK:keepIn K (.ref jY)=true)(sG:nsIn K mainGlobals "_law_firmed"=some (some (.ref fY)))(sH:K.lookup fY=some ⟨Mr,Mb,.func (fnOf "_law_firmed" "_law_firmed" (ak iC) (ai iC) (ae iC) .none Mt Mu Mw Mc yz Mx),Mh⟩)(sI:codeIn K yz "_law_firmed"=true)(sJ:keepIn K (.ref fY)=true)(sM:nsIn K mainGlobals "_law_wishes"=some (some (.ref fZ)))(sN:K.lookup fZ=some ⟨My,Md,.func (fnOf "_law_wishes" "_law_wishes" (ak iD) (ai iD) (ae iD) .none Mz MA MB Me yA MC),Mi⟩)(sO:codeIn K yA "_law_wishes"=true)(sP:keepIn K (.ref fZ)=true)(nv:nsIn K mainGlobals "sign_price"=some (some (.ref ei)))(ny:K.lookup ei=some ⟨F1,FJ,.func (fnOf "sign_price" "sign_price" (ak fK) (ai fK) (ae fK) .none F2 F3 F4 FK qE F5),FV⟩)(nA:codeIn K qE "sign_price"=true)(nB:keepIn K (.ref ei)=true)(KY:nsIn K mainGlobals "small"=some (some (.ref m6)))(KZ:K.lookup m6=some ⟨UM,Uw,.func (fnOf "small" "small" (ak qj) (ai qj) (ae qj) .none UN UO UP Ux MD UQ),UD⟩)(K0:codeIn K MD "small"=true)(tX:keepIn K (.ref m6)=true)(x5:nsIn K mainGlobals "parting"=some (some (.ref iG)))(x6:K.lookup iG=some ⟨OB,N5,.func (fnOf "parting" "parting" (ak jI) (ai jI) (ae jI) .none OC OD OE N6 Em OF),Oh⟩)(x8:codeIn K Em "parting"=true)(x9:keepIn K (.ref iG)=true)(eF:nsIn K mainGlobals "closes_by_right_note"=some (some (.ref aY)))(eI:K.lookup aY=some ⟨mI,mF,.func (fnOf "closes_by_right_note" "closes_by_right_note" (ak a9) (ai a9) (ae a9) .none mJ mK mL mG gx mM),mH⟩)(eJ:codeIn K gx "closes_by_right_note"=true)(eM:keepIn K (.ref aY)=true)(EL:nsIn K mainGlobals "closes"=some (some (.ref jZ)))(EM:K.lookup jZ=some ⟨RW,Ry,.func (fnOf "closes" "closes" (ak lV) (ai lV) (ae lV) .none RX RY RZ Rz Hk R0),RG⟩)(EN:codeIn K Hk "closes"=true)(EO:keepIn K (.ref jZ)=true)(gO:nsIn K mainGlobals "closes_by_great"=some (some (.ref bN)))(gQ:K.lookup bN=some ⟨rZ,rP,.func (fnOf "closes_by_great" "closes_by_great" (ak cg) (ai cg) (ae cg) .none sd sf sh rQ kj si),rV⟩)(gR:codeIn K kj "closes_by_great"=true)(gS:keepIn K (.ref bN)=true)(nC:nsIn K mainGlobals "great_step"=some (some (.ref eo)))(nD:K.lookup eo=some ⟨F6,FL,.func (fnOf "great_step" "great_step" (ak fL) (ai fL) (ae fL) .none F7 F8 F9 FN qF Ga),FW⟩)(nE:codeIn K qF "great_step"=true)(nF:keepIn K (.ref eo)=true)(km:nsIn K mainGlobals "twofold_step"=some (some (.ref cL)))(ko:K.lookup cL=some ⟨zI,za,.func (fnOf "twofold_step" "twofold_step" (ak dM) (ai dM) (ae dM) .none zJ zK zL zb nW zM),zw⟩)(kq:codeIn K nW "twofold_step"=true)(kr:keepIn K (.ref cL)=true)(pH:nsIn K mainGlobals "told_last"=some (some (.ref fg)))(pI:K.lookup fg=some ⟨Kh,J1,.func (fnOf "told_last" "told_last" (ak gn) (ai gn) (ae gn) .none Ki Kj Kk J2 uA Kl),Kb⟩)(pJ:codeIn K uA "told_last"=true)(pK:keepIn K (.ref fg)=true)(nG:nsIn K mainGlobals "small_step"=some (some (.ref eA)))(nH:K.lookup eA=some ⟨Gb,FO,.func (fnOf "small_step" "small_step" (ak fM) (ai fM) (ae fM) .none Gd Ge Gf FP qG Gg),FX⟩)(nI:codeIn K qG "small_step"=true)(nJ:keepIn K (.ref eA)=true)(ku:nsIn K mainGlobals "parting_step"=some (some (.ref cM)))(kx:K.lookup cM=some ⟨zN,zc,.func (fnOf "parting_step" "parting_step" (ak dN) (ai dN) (ae dN) .none zO zP zQ zd nX zR),zx⟩)(ky:codeIn K nX "parting_step"=true)(kz:keepIn K (.ref cM)=true)(O0:nsIn K mainGlobals "step"=some (some (.ref rF)))(O1:K.lookup rF=some ⟨WW,WQ,.func (fnOf "step" "step" (ak wR) (ai wR) (ae wR) .none WX WY WZ WR Qh W0),WU⟩)(O2:codeIn K Qh "step"=true)(O3:keepIn K (.ref rF)=true)(K1:nsIn K mainGlobals "moves"=some (some (.ref m9)))(K2:K.lookup m9=some ⟨UR,Uy,.func (fnOf "moves" "moves" (ak qk) (ai qk) (ae qk) .none US UT UU Uz ME UW),UE⟩)(K3:codeIn K ME "moves"=true)(K4:keepIn K (.ref m9)=true)(jq:nsIn K mainGlobals "parting_moves"=some (some (.ref cx)))(jr:K.lookup cx=some ⟨xH,xx,.func (fnOf "parting_moves" "parting_moves" (ak cR) (ai cR) (ae cR) .none xI xJ xK xy mN xM),xD⟩)(js:codeIn K mN "parting_moves"=true)(jt:keepIn K (.ref cx)=true)(kA:nsIn K mainGlobals "keep_cheaper"=some (some (.ref cN)))(kB:K.lookup cN=some ⟨zS,ze,.func (fnOf "keep_cheaper" "keep_cheaper" (ak dO) (ai dO) (ae dO) .none zT zU zV zf nY zW),zy⟩)(kC:codeIn K nY "keep_cheaper"=true)(kD:keepIn K (.ref cN)=true)(fv:nsIn K mainGlobals "with_parting_signs"=some (some (.ref a5)))(fA:K.lookup a5=some ⟨oo,oi,.func (fnOf "with_parting_signs" "with_parting_signs" (ak bH) (ai bH) (ae bH) .none oq ot ou oj iq ow),om⟩)(fB:codeIn K iq "with_parting_signs"=true)(fD:keepIn K (.ref a5)=true)(K5:nsIn K mainGlobals "costs"=some (some (.ref nc)))(K6:K.lookup nc=some ⟨UX,UA,.func (fnOf "costs" "costs" (ak qm) (ai qm) (ae qm) .none UY UZ U0 UB MF U1),UG⟩)(K7:codeIn K MF "costs"=true)(K8:keepIn K (.ref nc)=true)(lD:nsIn K mainGlobals "begin_state"=some (some (.ref c5)))(lE:K.lookup c5=some ⟨En,Ef,.func (fnOf "begin_state" "begin_state" (ak eR) (ai eR) (ae eR) (.ref gG) Eo Ep Er Eg pG Es),Ei⟩)(lF:codeIn K pG "begin_state"=true)(lG:keepIn K (.ref c5)=true)(gT:K.lookup gG=some ⟨zX,zg,.seq #[.int 3 eN] AA,zz⟩)(kE:nsIn K mainGlobals "wished_signs"=some (some (.ref cO)))(kF:K.lookup cO=some ⟨zY,zh,.func (fnOf "wished_signs" "wished_signs" (ak dP) (ai dP) (ae dP) .none zZ z0 z6 zi nZ z7),zA⟩)(kH:codeIn K nZ "wished_signs"=true)(kI:keepIn K (.ref cO)=true)(nK:nsIn K mainGlobals "wish_moves"=some (some (.ref eB)))(nL:K.lookup eB=some ⟨Gh,FQ,.func (fnOf "wish_moves" "wish_moves" (ak fN) (ai fN) (ae fN) .none Gi Gj Gk FR qH Gm),FY⟩)(nM:codeIn K qH "wish_moves"=true)(nN:keepIn K (.ref eB)=true)(pL:nsIn K mainGlobals "with_wish"=some (some (.ref fi)))(pM:K.lookup fi=some ⟨Km,J3,.func (fnOf "with_wish" "with_wish" (ak gp) (ai gp) (ae gp) .none Ko Kp Kq J4 uB Kr),Kc⟩)(pN:codeIn K uB "with_wish"=true)(pO:keepIn K (.ref fi)=true)(O4:nsIn K mainGlobals "ends"=some (some (.ref rG)))(O5:K.lookup rG=some ⟨W2,WS,.func (fnOf "ends" "ends" (ak wU) (ai wU) (ae wU) .none W3 W4 W5 WT Qi W6),WV⟩)(O6:codeIn K Qi "ends"=true)(O7:keepIn K (.ref rG)=true)(ya:nsIn K mainGlobals "written"=some (some (.ref iH)))(l_written:K.lookup iH=some ⟨OG,N7,.func (fnOf "written" "written" (ak jJ) (ai jJ) (ae jJ) (.ref nh) OH OI OJ N8 sj OK),Oi⟩)(yb:codeIn K sj "written"=true)(yc:keepIn K (.ref iH)=true)(nO:K.lookup nh=some ⟨MG,Mf,.seq #[.int 3 ja] MH,Mj⟩)(pP:nsIn K mainGlobals "_law_cell_at"=some (some (.ref fj)))(pQ:K.lookup fj=some ⟨Ks,J5,.func (fnOf "_law_cell_at" "_law_cell_at" (ak gq) (ai gq) (ae gq) .none Kt Ku Kv J6 uC Kw),Ke⟩)(pR:codeIn K uC "_law_cell_at"=true)(pS:keepIn K (.ref fj)=true)(yd:nsIn K mainGlobals "_law_mixed"=some (some (.ref iI)))(ye:K.lookup iI=some ⟨OL,N9,.func (fnOf "_law_mixed" "_law_mixed" (ak jK) (ai jK) (ae jK) .none OM ON OO Oa Et OP),Oj⟩)(yf:codeIn K Et "_law_mixed"=true)(yg:keepIn K (.ref iI)=true)(kJ:nsIn K mainGlobals "_law_any_wishes"=some (some (.ref cQ)))(kK:K.lookup cQ=some ⟨z8,zj,.func (fnOf "_law_any_wishes" "_law_any_wishes" (ak bh) (ai bh) (ae bh) .none z9 Aa Ab zk n0 Ac),zB⟩)(kL:codeIn K n0 "_law_any_wishes"=true)(kM:keepIn K (.ref cQ)=true)(yh:nsIn K mainGlobals "_law_price"=some (some (.ref iJ)))(yi:K.lookup iJ=some ⟨OQ,Ob,.func (fnOf "_law_price" "_law_price" (ak jL) (ai jL) (ae jL) .none OR OS OT Oc Eu OU),Ol⟩)(yj:codeIn K Eu "_law_price"=true)(yk:keepIn K (.ref iJ)=true)(pT:nsIn K mainGlobals "_law_sign_by"=some (some (.ref fk)))(pU:K.lookup fk=some ⟨Kx,J7,.func (fnOf "_law_sign_by" "_law_sign_by" (ak gr) (ai gr) (ae gr) .none Ky Kz KA J8 uD KC),Kf⟩)(pV:codeIn K uD "_law_sign_by"=true)(pW:keepIn K (.ref fk)=true)(pX:nsIn K mainGlobals "_law_numbers"=some (some (.ref fm)))(pY:K.lookup fm=some ⟨KG,J9,.func (fnOf "_law_numbers" "_law_numbers" (ak gu) (ai gu) (ae gu) .none KH KJ KL Ka uE KN),Kg⟩)(pZ:codeIn K uE "_law_numbers"=true)(p0:keepIn K (.ref fm)=true)(ER:nsIn K mainGlobals "_law_line"=some (some (.ref j5)))(ES:K.lookup j5=some ⟨R1,RA,.func (fnOf "_law_line" "_law_line" (ak lW) (ai lW) (ae lW) .none R3 R4 R7 RB Hl R8),RH⟩)(ET:codeIn K Hl "_law_line"=true)(EU:keepIn K (.ref j5)=true)(ym:nsIn K mainGlobals "_law_whole"=some (some (.ref iK)))(yn:K.lookup iK=some ⟨OV,Od,.func (fnOf "_law_whole" "_law_whole" (ak jM) (ai jM) (ae jM) .none OW OX OY Oe Ew OZ),Om⟩)(yo:codeIn K Ew "_law_whole"=true)(yp:keepIn K (.ref iK)=true)(EV:nsIn K mainGlobals "_law_good"=some (some (.ref j6)))(EW:K.lookup j6=some ⟨R9,RC,.func (fnOf "_law_good" "_law_good" (ak lX) (ai lX) (ae lX) .none Sa Sb Sd RD Hm Se),RI⟩)(EX:codeIn K Hm "_law_good"=true)(EY:keepIn K (.ref j6)=true)(Qj:nsIn K mainGlobals "law"=some (some (.ref DL)))(U3:K.lookup DL=some ⟨Zz,Zw,.func (fnOf "law" "law" (ak Hf) (ai Hf) (ae Hf) .none ZA ZC ZD Zx U2 ZE),Zy⟩)(U4:codeIn K U2 "law"=true)(U5:keepIn K (.ref DL)=true)(O8:nsIn K mainGlobals "bool"=some none)(O9:nsIn K mainGlobals "dict"=some none)(U6:nsIn K mainGlobals "int"=some none)(nQ:nsIn K mainGlobals "isinstance"=some none)(U7:nsIn K mainGlobals "len"=some none)(Pa:nsIn K mainGlobals "list"=some none)(U8:nsIn K mainGlobals "max"=some none)(U9:nsIn K mainGlobals "min"=some none)(K9:nsIn K mainGlobals "range"=some none)(Va:nsIn K mainGlobals "str"=some none)(La:nsIn K mainGlobals "tuple"=some none)(Vb:nsIn K mainGlobals "zip"=some none)(kN:nsIn K mainGlobals "SMALL_KINDS"=some (some (.ref c6)))(kO:K.lookup c6=some ⟨.type "tuple",Eh,.seq #[.str (Str.ofString "s") Ex,.str (Str.ofString "d") Ey,.str (Str.ofString "r") Ez] Gq,Ej⟩)(iN:nsIn K mainGlobals "PARTING_KINDS"=some (some (.ref cy)))(iO:K.lookup cy=some ⟨.type "tuple",xA,.seq #[.str (Str.ofString ".") xN,.str (Str.ofString "3") xO,.str (Str.ofString "2") xP] AB,xE⟩)(iP:nsIn K mainGlobals "MEASURE_KINDS"=some (some (.ref cz)))(iQ:K.lookup cz=some ⟨.type "tuple",xB,.seq #[.str (Str.ofString "3") xQ,.str (Str.ofString "2") xR] AD,xF⟩)(gU:nsIn K mainGlobals "SOUNDING_KINDS"=some (some (.ref b0)))(gW:K.lookup b0=some ⟨.type "tuple",tZ,.seq #[.str (Str.ofString "G") uF,.str (Str.ofString "D") uG,.str (Str.ofString "s") uH,.str (Str.ofString "d") uI] xS,uj⟩)(lH:nsIn K mainGlobals "DARK_KINDS"=some (some (.ref eC)))(lI:K.lookup eC=some ⟨.type "tuple",FT,.seq #[.str (Str.ofString "D") Gn,.str (Str.ofString "d") Gp] KO,FZ⟩)(nR:nsIn K mainGlobals "REST_TONE"=some (some (.int (-1) lu)))(gX:nsIn K mainGlobals "TWOFOLD_STATES"=some (some (.ref bI)))(gY:K.lookup bI=some ⟨.type "tuple",t4,.seq #[.str (Str.ofString "2-") uJ,.str (Str.ofString "2g") uK,.str (Str.ofString "2G") uL] xT,uk⟩)(iR:nsIn K mainGlobals "TWOFOLD_BEGIN"=some (some (.str (Str.ofString "2-") fT)))(gb:nsIn K mainGlobals "THREEFOLD_BEGIN"=some (some (.str (Str.ofString "3n0-") eZ)))(dU:nsIn K mainGlobals "SHORTENED_FROM_AHEAD"=some (some (.str (Str.ofString "3t0-") cC)))(kP:nsIn K mainGlobals "NEXT_COUNTS"=some (some (.ref cF)))(kQ:K.lookup cF=some ⟨.type "dict",none,.dict #[⟨PyData.keyHash w.params (Str.ofString "0"),.str (Str.ofString "0") Ag,.str (Str.ofString "1") Ad⟩,⟨PyData.keyHash w.params (Str.ofString "1"),.str (Str.ofString "1") Ah,.str (Str.ofString "2") Ae⟩,⟨PyData.keyHash w.params (Str.ofString "2"),.str (Str.ofString "2") Ai,.str (Str.ofString "0") Af⟩] Gr,#[]⟩)(kR:(cF==sysModules)=false)(iS:nsIn K mainGlobals "TWOFOLD_STEPS"=some (some (.ref bP)))(iT:K.lookup bP=some ⟨.type "dict",none,.dict #[⟨Hd.th w.params (Str.ofString "s") 1,.ref mr,.str (Str.ofString "2-") uM⟩,⟨Hd.th w.params (Str.ofString "d") 1,.ref mv,.str (Str.ofString "2-") uN⟩,⟨Hd.th w.params (Str.ofString "r") 1,.ref mw,.str (Str.ofString "2-") uO⟩,⟨Hd.th w.params (Str.ofString "D") 2,.ref mx,.str (Str.ofString "2-") uP⟩,⟨Hd.th w.params (Str.ofString "R") 2,.ref my,.str (Str.ofString "2-") uQ⟩,⟨Hd.th w.params (Str.ofString "G") 2,.ref mz,.str (Str.ofString "2g") uR⟩,⟨Hd.th w.params (Str.ofString "G") 3,.ref mB,.str (Str.ofString "2G") uS⟩,⟨Hd.th w.params (Str.ofString ".") 0,.ref mC,.str (Str.ofString "2-") uT⟩,⟨Hd.th w.params (Str.ofString "2") 0,.ref mD,.str (Str.ofString "2-") uU⟩,⟨Hd.th w.params (Str.ofString "3") 0,.ref mE,.str (Str.ofString "3n0-") uV⟩] AE,#[]⟩)(gZ:K.lookup mr=some ⟨.type "tuple",t7,.seq #[.str (Str.ofString "s") uW,.int 1 uX] vk,um⟩)(hI:K.lookup mv=some ⟨.type "tuple",ua,.seq #[.str (Str.ofString "d") uY,.int 1 uZ] vm,uo⟩)(hU:K.lookup mw=some ⟨.type "tuple",ub,.seq #[.str (Str.ofString "r") u0,.int 1 u3] vn,uq⟩)(hV:K.lookup mx=some ⟨.type "tuple",uc,.seq #[.str (Str.ofString "D") u4,.int 2 u5] vo,ur⟩)(hX:K.lookup my=some ⟨.type "tuple",ud,.seq #[.str (Str.ofString "R") u6,.int 2 u7] vp,uu⟩)(hZ:K.lookup mz=some ⟨.type "tuple",ue,.seq #[.str (Str.ofString "G") u9,.int 2 va] vq,uv⟩)(ia:K.lookup mB=some ⟨.type "tuple",uf,.seq #[.str (Str.ofString "G") vb,.int 3 vd] vt,uw⟩)(ib:K.lookup mC=some ⟨.type "tuple",ug,.seq #[.str (Str.ofString ".") ve,.int 0 vf] vv,ux⟩)(ic:K.lookup mD=some ⟨.type "tuple",uh,.seq #[.str (Str.ofString "2") vg,.int 0 vh] vw,uy⟩)(ie:K.lookup mE=some ⟨.type "tuple",ui,.seq #[.str (Str.ofString "3") vi,.int 0 vj] vx,uz⟩)(iU:(bP==sysModules)=false)(kS:nsIn K mainGlobals "GREAT_STEPS"=some (some (.ref cG)))(kT:K.lookup cG=some ⟨.type "dict",none,.dict #[⟨Hd.th w.params (Str.ofString "G") 3,.ref pB,.str (Str.ofString "3w0-") Aj⟩,⟨Hd.th w.params (Str.ofString "G") 2,.ref pC,.str (Str.ofString "3h0-") Ak⟩,⟨Hd.th w.params (Str.ofString "D") 2,.ref pD,.str (Str.ofString "3n0-") Al⟩,⟨Hd.th w.params (Str.ofString "R") 3,.ref pE,.str (Str.ofString "3n0-") Am⟩] Gs,#[]⟩)(ju:K.lookup pB=some ⟨.type "tuple",zm,.seq #[.str (Str.ofString "G") An,.int 3 Ao] AF,zC⟩)(jv:K.lookup pC=some ⟨.type "tuple",zo,.seq #[.str (Str.ofString "G") Ap,.int 2 Aq] AG,zD⟩)(jw:K.lookup pD=some ⟨.type "tuple",zq,.seq #[.str (Str.ofString "D") Ar,.int 2 As] AH,zE⟩)(jx:K.lookup pE=some ⟨.type "tuple",zt,.seq #[.str (Str.ofString "R") Au,.int 3 Av] AI,zF⟩)(kU:(cG==sysModules)=false)(iV:nsIn K mainGlobals "PARTING_SIGNS"=some (some (.ref cA)))(iW:K.lookup cA=some ⟨.type "tuple",xC,.seq #[.ref cj,.ref ck,.ref cm] AJ,xG⟩)(gf:K.lookup cj=some ⟨.type "tuple",rR,.seq #[.str (Str.ofString ".") sk,.int 0 sm] vy,rW⟩)(gg:K.lookup ck=some ⟨.type "tuple",rS,.seq #[.str (Str.ofString "3") sq,.int 0 sr] vz,rX⟩)(gh:K.lookup cm=some ⟨.type "tuple",rT,.seq #[.str (Str.ofString "2") su,.int 0 sv] vA,rY⟩)(lJ:nsIn K mainGlobals "REST_SIGNS"=some (some (.ref eD)))(lK:K.lookup eD=some ⟨.type "tuple",FU,.seq #[.ref dQ,.ref dR] KQ,F0⟩)(jy:K.lookup dQ=some ⟨.type "tuple",zu,.seq #[.str (Str.ofString "R") Aw,.int 0 Ax] EA,zG⟩)(jz:K.lookup dR=some ⟨.type "tuple",zv,.seq #[.str (Str.ofString "r") Ay,.int 0 Az] EB,zH⟩)(eX:nsIn K mainGlobals "MOST_PARTING_SIGNS"=some (some (.int 2 cW)))(W7:Lu K mg sj PW) :
  ∃ fd:FuncData,(∀(s:Shared)(v:Value),BindsTo s fd ⟨[v],[]⟩ [("_law_script",v)])/\(∃ cv,Lu K mg cv PW)/\∀ base:Heap,K.In base->base.Ns mainGlobals mg->cw l.prog w K mg base ji 8 fa fd ["_law_script"] (tI K PW):=by
 have e:=hfa.symm.trans (mg_of X G Qj);cases e;have l6:=aX (st:=jG) xV xW xX;have xc:=l6.binds (ps:=["_law_cell"]) fun _ _ _ _ _ _=>ly fun _=>rfl;have j7:=aX (st:=iB) sy sA sE;have rH:=j7.binds (ps:=["_law_cell"]) fun _ _ _ _ _ _=>ly fun _=>rfl;have o3:=aX (st:=lT) ED EF EG;have DM:=o3.binds (ps:=["_law_line_here","_law_begin_here"]) fun _ _ _ _ _ _=>pk fun _ _=>rfl;have l8:=aX (st:=jH) xZ x3 x4;have xf:=l8.binds (ps:=["_law_line_here","_law_begin_here"]) fun _ _ _ _ _ _=>pk fun _ _=>rfl;have tR:=aX (st:=qi) KS KU KW;have JB:=tR.binds (ps:=["_law_line_here","_law_told","_law_low","_law_high"]) fun _ _ _ _ _ _=>Ut fun _ _ _ _=>rfl;have j8:=aX (st:=lU) EI EJ EK;have o4:=j8.binds (ps:=["_law_line_here","_law_begin_here"]) fun _ _ _ _ _ _=>pk fun _ _=>rfl;have j9:=aX (st:=iC) sH sI sJ;have rJ:=j9.binds (ps:=["_law_line_here","_law_begin_here"]) fun _ _ _ _ _ _=>pk fun _ _=>rfl;have iL:=aX (st:=iD) sN sO sP;have ni:=iL.binds (ps:=["_law_line_here","_law_begin_here"]) fun _ _ _ _ _ _=>pk fun _ _=>rfl;have gH:=aX (st:=fK) ny nA nB;have nj:=gH.binds (ps:=["sign","prices"]) fun _ _ _ _ _ _=>pk fun _ _=>rfl;have tS:=aX (st:=qj) KZ K0 tX;have JC:=tS.binds (ps:=["sign"]) fun _ _ _ _ _ _=>ly fun _=>rfl;have l9:=aX (st:=jI) x6 x8 x9;have xh:=l9.binds (ps:=["sign"]) fun _ _ _ _ _ _=>ly fun _=>rfl;have bO:=aX (st:=a9) eI eJ eM;have eE:=bO.binds (ps:=["state"]) fun _ _ _ _ _ _=>ly fun _=>rfl;have ka:=aX (st:=lV) EM EN EO;have o5:=ka.binds (ps:=["state"]) fun _ _ _ _ _ _=>ly fun _=>rfl;have cX:=aX (st:=cg) gQ gR gS;have gI:=cX.binds (ps:=["state"]) fun _ _ _ _ _ _=>ly fun _=>rfl;have gJ:=aX (st:=fL) nD nE nF;have nk:=gJ.binds (ps:=["state","kind","worth"]) fun _ _ _ _ _ _=>pA fun _ _ _=>rfl;have fo:=aX (st:=dM) ko kq kr;have kb:=fo.binds (ps:=["state","kind","worth"]) fun _ _ _ _ _ _=>pA fun _ _ _=>rfl;have jb:=aX (st:=gn) pI pJ pK;have o6:=jb.binds (ps:=["kind","count","worth"]) fun _ _ _ _ _ _=>pA fun _ _ _=>rfl;have gK:=aX (st:=fM) nH nI nJ;have nq:=gK.binds (ps:=["state","kind","worth"]) fun _ _ _ _ _ _=>pA fun _ _ _=>rfl;have fq:=aX (st:=dN) kx ky kz;have kc:=fq.binds (ps:=["state","kind","worth"]) fun _ _ _ _ _ _=>pA fun _ _ _=>rfl;have DN:=aX (st:=wR) O1 O2 O3;have NF:=DN.binds (ps:=["state","sign","worth"]) fun _ _ _ _ _ _=>pA fun _ _ _=>rfl;have qo:=aX (st:=qk) K2 K3 K4;have BE:=qo.binds (ps:=["state","signs","worth","prices"]) fun _ _ _ _ _ _=>Ut fun _ _ _ _=>rfl;have eP:=aX (st:=cR) jr js jt;have jn:=eP.binds (ps:=["state","prices"]) fun _ _ _ _ _ _=>pk fun _ _=>rfl;have dS:=aX (st:=dO) kB kC kD;have gL:=dS.binds (ps:=["ways","state","cost","line"]) fun _ _ _ _ _ _=>Ut fun _ _ _ _=>rfl;have bJ:=aX (st:=bH) fA fB fD;have cY:=bJ.binds (ps:=["ways","prices"]) fun _ _ _ _ _ _=>pk fun _ _=>rfl;have qp:=aX (st:=qm) K6 K7 K8;have BF:=qp.binds (ps:=["ways"]) fun _ _ _ _ _ _=>ly fun _=>rfl;have eT:=Pu (st:=eR) lE lF lG;have lC:Binds K _ ["begin"] []:=eT.binds (ds:=[]) gT rfl fun _ _ _ _ _ _ us hl=>by obtain⟨_,rfl⟩:=ab7 hl;exact⟨_,rfl,rfl⟩
 have o7:Binds K _ ["begin"] [.int 3 eN]:=eT.binds gT rfl fun _ _ _ _ _ _ us hl=>by have hl:us.length=0:=(by simpa using hl);obtain rfl:=ab6 hl;exact⟨_,rfl,rfl⟩
 have ft:=aX (st:=dP) kF kH kI;have kd:=ft.binds (ps:=["tone"]) fun _ _ _ _ _ _=>ly fun _=>rfl;have gM:=aX (st:=fN) nL nM nN;have nr:=gM.binds (ps:=["state","wish","prices"]) fun _ _ _ _ _ _=>pA fun _ _ _=>rfl;have jc:=aX (st:=gp) pM pN pO;have o8:=jc.binds (ps:=["ways","wish","prices"]) fun _ _ _ _ _ _=>pA fun _ _ _=>rfl;have DP:=aX (st:=wU) O5 O6 O7;have NG:=DP.binds (ps:=["state"]) fun _ _ _ _ _ _=>ly fun _=>rfl;have jO:=Pu (st:=jJ) l_written yb yc;have xk:Binds K _ ["wishes","prices","begin"] []:=jO.binds (ds:=[]) nO rfl fun _ _ _ _ _ _ us hl=>by obtain⟨_,_,_,rfl⟩:=ab8 hl;exact⟨_,rfl,rfl⟩
 have DQ:Binds K _ ["wishes","prices","begin"] [.int 3 ja]:=jO.binds nO rfl fun _ _ _ _ _ _ us hl=>by have hl:us.length=2:=(by simpa using hl);obtain⟨_,_,rfl⟩:=X8 hl;exact⟨_,rfl,rfl⟩
 have bf:=aX (st:=gq) pQ pR pS;have bQ:=bf.binds (ps:=["_law_script","_law_k"]) fun _ _ _ _ _ _=>pk fun _ _=>rfl;have iM:=aX (st:=jK) ye yf yg;have md:=iM.binds (ps:=["_law_seed","_law_k"]) fun _ _ _ _ _ _=>pk fun _ _=>rfl;have fu:=aX (st:=bh) kK kL kM;have ke:=fu.binds (ps:=["_law_script","_law_at","_law_many"]) fun _ _ _ _ _ _=>pA fun _ _ _=>rfl;have me:=aX (st:=jL) yi yj yk;have xm:=me.binds (ps:=["_law_line_here","_law_prices_here"]) fun _ _ _ _ _ _=>pk fun _ _=>rfl;have jd:=aX (st:=gr) pU pV pW;have o9:=jd.binds (ps:=["_law_number"]) fun _ _ _ _ _ _=>ly fun _=>rfl;have je:=aX (st:=gu) pY pZ p0;have pb:=je.binds (ps:=["_law_script","_law_at","_law_many"]) fun _ _ _ _ _ _=>pA fun _ _ _=>rfl;have pd:=aX (st:=lW) ES ET EU;have DR:=pd.binds (ps:=["_law_script","_law_at","_law_many"]) fun _ _ _ _ _ _=>pA fun _ _ _=>rfl;have jP:=aX (st:=jM) yn yo yp;have qr:=jP.binds (ps:=["_law_found"]) fun _ _ _ _ _ _=>ly fun _=>rfl;have pe:=aX (st:=lX) EW EX EY;have DT:=pe.binds (ps:=["_law_line_here"]) fun _ _ _ _ _ _=>ly fun _=>rfl;have Qb:=aX (st:=Hf) U3 U4 U5;have X2:=Qb.binds (ps:=["_law_script"]) fun _ _ _ _ _ _=>ly fun _=>rfl;have T:Txt K w mg ⟨_,_,_,_,_,_,_,_,_,_,_,_,_,_,_,_,_,_,_,_,_,_,_,_,_,_,_,_,_,_,_,_,_,_,_,_,_,_,_,_,_,_,_,_,_,_,_,_,_,_,_,_,_,eN,_,_,_,_,_,_,_,_,_,_,_,ja,_,_,_,_,_,_,_,_,_,_,_,_,_,_,_,_,_,_,_,_,c6,cy,cz,b0,eC,lu,bI,fT,eZ,cC,cF,bP,cG,cA,cj,ck,cm,eD,dQ,dR,cW,PW⟩:=⟨l6,xc,mg_of X G xU,j7,rH,mg_of X G sx,o3,DM,mg_of X G EC,l8,xf,mg_of X G xY,tR,JB,mg_of X G KR,j8,o4,mg_of X G EH,j9,rJ,mg_of X G sG,iL,ni,mg_of X G sM,gH,nj,mg_of X G nv,tS,JC,mg_of X G KY,l9,xh,mg_of X G x5,bO,eE,mg_of X G eF,ka,o5,mg_of X G EL,cX,gI,mg_of X G gO,gJ,nk,mg_of X G nC,fo,kb,mg_of X G km,jb,o6,mg_of X G pH,gK,nq,mg_of X G nG,fq,kc,mg_of X G ku,DN,NF,mg_of X G O0,qo,BE,mg_of X G K1,eP,jn,mg_of X G jq,dS,gL,mg_of X G kA,bJ,cY,mg_of X G fv,qp,BF,mg_of X G K5,eT,o7,lC,mg_of X G lD,ft,kd,mg_of X G kE,gM,nr,mg_of X G nK,jc,o8,mg_of X G pL,DP,NG,mg_of X G O4,jO,DQ,xk,mg_of X G ya,bf,bQ,mg_of X G pP,iM,md,mg_of X G yd,fu,ke,mg_of X G kJ,me,xm,mg_of X G yh,jd,o9,mg_of X G pT,je,pb,mg_of X G pX,pd,DR,mg_of X G ER,jP,qr,mg_of X G ym,pe,DT,mg_of X G EV,Qb,X2,mg_of X G Qj,mg_none_of X G O8,mg_none_of X G O9,mg_none_of X G U6,mg_none_of X G nQ,mg_none_of X G U7,mg_none_of X G Pa,mg_none_of X G U8,mg_none_of X G U9,mg_none_of X G K9,mg_none_of X G Va,mg_none_of X G La,mg_none_of X G Vb,mg_of X G kN,(fun H=>.inr ⟨_,_,_,kO,rfl,rfl,(by show 3<=sizeLine;decide),(.cons ⟨_,rfl⟩ (.cons ⟨_,rfl⟩ (.cons ⟨_,rfl⟩ .nil)))⟩),mg_of X G iN,(fun H=>.inr ⟨_,_,_,iO,rfl,rfl,(by show 3<=sizeLine;decide),(.cons ⟨_,rfl⟩ (.cons ⟨_,rfl⟩ (.cons ⟨_,rfl⟩ .nil)))⟩),mg_of X G iP,(fun H=>.inr ⟨_,_,_,iQ,rfl,rfl,(by show 2<=sizeLine;decide),(.cons ⟨_,rfl⟩ (.cons ⟨_,rfl⟩ .nil))⟩),mg_of X G gU,(fun H=>.inr ⟨_,_,_,gW,rfl,rfl,(by show 4<=sizeLine;decide),(.cons ⟨_,rfl⟩ (.cons ⟨_,rfl⟩ (.cons ⟨_,rfl⟩ (.cons ⟨_,rfl⟩ .nil))))⟩),mg_of X G lH,(fun H=>.inr ⟨_,_,_,lI,rfl,rfl,(by show 2<=sizeLine;decide),(.cons ⟨_,rfl⟩ (.cons ⟨_,rfl⟩ .nil))⟩),mg_of X G nR,mg_of X G gX,(fun H=>.inr ⟨_,_,_,gY,rfl,rfl,(by show 3<=sizeLine;decide),(.cons ⟨_,rfl⟩ (.cons ⟨_,rfl⟩ (.cons ⟨_,rfl⟩ .nil)))⟩),mg_of X G iR,mg_of X G gb,mg_of X G dU,mg_of X G kP,⟨kR,_,_,kQ,(.cons ⟨_,rfl⟩ (.cons ⟨_,rfl⟩ (.cons ⟨_,rfl⟩ .nil))),by lk⟩,mg_of X G iS,⟨iU,_,_,iT,(.cons gZ ⟨_,rfl⟩ (.cons hI ⟨_,rfl⟩ (.cons hU ⟨_,rfl⟩ (.cons hV ⟨_,rfl⟩ (.cons hX ⟨_,rfl⟩ (.cons hZ ⟨_,rfl⟩ (.cons ia ⟨_,rfl⟩ (.cons ib ⟨_,rfl⟩ (.cons ic ⟨_,rfl⟩ (.cons ie ⟨_,rfl⟩ .nil)))))))))),by lk⟩,mg_of X G kS,⟨kU,_,_,kT,(.cons ju ⟨_,rfl⟩ (.cons jv ⟨_,rfl⟩ (.cons jw ⟨_,rfl⟩ (.cons jx ⟨_,rfl⟩ .nil)))),by lk⟩,mg_of X G iV,(fun H=>.inr ⟨_,_,_,iW,rfl,rfl,(by show 3<=sizeLine;decide),(.cons rfl (.cons rfl (.cons rfl .nil)))⟩),(fun H=>.inr ⟨_,_,_,gf,rfl,rfl,(by show 2<=sizeLine;decide),(.cons ⟨_,rfl⟩ (.cons ⟨_,rfl⟩ .nil))⟩),(fun H=>.inr ⟨_,_,_,gg,rfl,rfl,(by show 2<=sizeLine;decide),(.cons ⟨_,rfl⟩ (.cons ⟨_,rfl⟩ .nil))⟩),(fun H=>.inr ⟨_,_,_,gh,rfl,rfl,(by show 2<=sizeLine;decide),(.cons ⟨_,rfl⟩ (.cons ⟨_,rfl⟩ .nil))⟩),mg_of X G lJ,(fun H=>.inr ⟨_,_,_,lK,rfl,rfl,(by show 2<=sizeLine;decide),(.cons rfl (.cons rfl .nil))⟩),(fun H=>.inr ⟨_,_,_,jy,rfl,rfl,(by show 2<=sizeLine;decide),(.cons ⟨_,rfl⟩ (.cons ⟨_,rfl⟩ .nil))⟩),(fun H=>.inr ⟨_,_,_,jz,rfl,rfl,(by show 2<=sizeLine;decide),(.cons ⟨_,rfl⟩ (.cons ⟨_,rfl⟩ .nil))⟩),mg_of X G eX,W7⟩;exact⟨_,fun s v=>.of_eq rfl,⟨_,W7⟩,fun base _ _=>Zv T⟩
theorem walk {l:OpenLaw}{q:Program}{loose:List Str}{XP:(Str->Option Value)->Heap->Prop}{YP:World->Heap->Prop}{d:DefRec}{K K':Params->Frag}{T:Addr}(hn:l.most=some 63)(hdf:d.params.defaults=[])
  (hY:∀(w:World)(h:Heap),YP w h->(K' w.params).In h) (hKK:∀(p:Params) a o,(K p).lookup a=some o->(K' p).lookup a=some o) (hT:∀ p:Params,(K' p).lookup T=some (tabObj #[])) (hKT:∀ p:Params,(K p).lookup T=none)
  (F:∀(w:World)(mg:Str->Option Value)(fa:Addr)(h:Heap),(K w.params).In h->h.Ns mainGlobals mg->mg d.name=some (.ref fa) ->
   ∃ fd:FuncData,(∀(s:Shared)(u:Value),BindsTo s fd ⟨[u],[]⟩ [("_law_script",u)])/\(∃ cv,Lu (K w.params) mg cv T)/\∀ base:Heap,(K w.params).In base->base.Ns mainGlobals mg->cw l.prog w (K w.params) mg base ji 8 fa fd ["_law_script"] (tI (K w.params) T)) :
  WalkO q loose XP YP l.row.toRowW d [] (fun f vs=>PySem.call f vs) :=
 L2.To (n:=63) (k:=8) (x:="_law_script") (CX:=fun _=>ji) (sp:=fun w=>tI (K w.params) T) hn (by decide) hdf ⟨rfl,by decide,by decide⟩ hY hKK hT hKT F (fun _ H a ns hl hO hS=>Nt hl hO hS) fun _ _ _ _ _ z=>z
end jU
open PySem PySem.W PyProof.Rows
set_option maxRecDepth 100000 in
set_option maxHeartbeats 0 in
theorem PySem.Challenge.cw_noteworth_k25_what_is_written_holds : PySem.Challenge.rw_noteworth_k25_what_is_written.Holds := by
 w_on;o_law
 refine holds_open (q:=Hd.view) (loose:=Hd.loose) (Xt:=fun s=>xlAt Hd.view [] s&&recOk _ s) (XP:=XL Hd.view []) (Yf:=Hd.hook.obs) (Ya:=Hd.hook.val) (YP:=Hd.hook.says) (N:=Hd.fuel) ?hl Hd.hook.of Hd.hook.keeps (fun s e=>xl_of s (Bool.and_eq_true_iff.mp e).1) XL.keeps (by rfl) (by rfl) (by rfl) (fun s e=>recFacts_of (Bool.and_eq_true_iff.mp e).2) (by rfl) (by assumption) (by lk) ⟨rfl,rfl,rfl,rfl,rfl,by lk⟩ ?hw ?hc
 case hl=>exact LeftO.of_pieces (boot_open (by kernel_rfl) (by decide) (fun _=>by kernel_rfl)) (fun w=>by kernel_rfl) Hd.r1 (by decide) (fun w=>by kernel_rfl)
 case hw=>w_witness2
 refine jU.walk (l:=PySem.Challenge.rw_noteworth_k25_what_is_written) (K:=Hd.Zg) (K':=Hd.TZ) (T:=Hd.Wq) rfl rfl (fun w h Y=>PySem.W.kIn_of Y) Hd.abA (fun _=>rfl) Hd.X1 ?F
 case F =>
  intro w mg fa h KX G hmg
  k_fill
  refine' jU.all_mk KX G hmg ?xU ?xV ?xW ?xX ?sx ?sy ?sA ?sE ?EC ?ED ?EF ?EG ?xY ?xZ ?x3 ?x4 ?KR ?KS ?KU ?KW ?EH ?EI ?EJ ?EK ?sG ?sH ?sI ?sJ ?sM ?sN ?sO ?sP ?nv ?ny ?nA ?nB ?KY ?KZ ?K0 ?tX ?x5 ?x6 ?x8 ?x9 ?eF ?eI ?eJ ?eM ?EL ?EM ?EN ?EO ?gO ?gQ ?gR ?gS ?nC ?nD ?nE ?nF ?km ?ko ?kq ?kr ?pH ?pI ?pJ ?pK ?nG ?nH ?nI ?nJ ?ku ?kx ?ky ?kz ?O0 ?O1 ?O2 ?O3 ?K1 ?K2 ?K3 ?K4 ?jq ?jr ?js ?jt ?kA ?kB ?kC ?kD ?fv ?fA ?fB ?fD ?K5 ?K6 ?K7 ?K8 ?lD ?lE ?lF ?lG ?gT ?kE ?kF ?kH ?kI ?nK ?nL ?nM ?nN ?pL ?pM ?pN ?pO ?O4 ?O5 ?O6 ?O7 ?ya ?l_written ?yb ?yc ?nO ?pP ?pQ ?pR ?pS ?yd ?ye ?yf ?yg ?kJ ?kK ?kL ?kM ?yh ?yi ?yj ?yk ?pT ?pU ?pV ?pW ?pX ?pY ?pZ ?p0 ?ER ?ES ?ET ?EU ?ym ?yn ?yo ?yp ?EV ?EW ?EX ?EY ?Qj ?U3 ?U4 ?U5 ?O8 ?O9 ?U6 ?nQ ?U7 ?Pa ?U8 ?U9 ?K9 ?Va ?La ?Vb ?kN ?kO ?iN ?iO ?iP ?iQ ?gU ?gW ?lH ?lI ?nR ?gX ?gY ?iR ?gb ?dU ?kP ?kQ ?kR ?iS ?iT ?gZ ?hI ?hU ?hV ?hX ?hZ ?ia ?ib ?ic ?ie ?iU ?kS ?kT ?ju ?jv ?jw ?jx ?kU ?iV ?iW ?gf ?gg ?gh ?lJ ?lK ?jy ?jz ?eX ?W7
  (case xU|xV|xW|xX|sx|sy|sA|sE|EC|ED|EF|EG|xY|xZ|x3|x4|KR|KS|KU|KW|EH|EI|EJ|EK|sG|sH|sI|sJ|sM|sN|sO|sP|nv|ny|nA|nB|KY|KZ|K0|tX|x5|x6|x8|x9|eF|eI|eJ|eM|EL|EM|EN|EO|gO|gQ|gR|gS|nC|nD|nE|nF|km|ko|kq|kr|pH|pI|pJ|pK|nG|nH|nI|nJ|ku|kx|ky|kz|O0|O1|O2|O3|K1|K2|K3|K4|jq|jr|js|jt|kA|kB|kC|kD|fv|fA|fB|fD|K5|K6|K7|K8|lD|lE|lF|lG|gT|kE|kF|kH|kI|nK|nL|nM|nN|pL|pM|pN|pO|O4|O5|O6|O7|ya|l_written|yb|yc|nO|pP|pQ|pR|pS|yd|ye|yf|yg|kJ|kK|kL|kM|yh|yi|yj|yk|pT|pU|pV|pW|pX|pY|pZ|p0|ER|ES|ET|EU|ym|yn|yo|yp|EV|EW|EX|EY|Qj|U3|U4|U5|O8|O9|U6|nQ|U7|Pa|U8|U9|K9|Va|La|Vb|kN|kO|iN|iO|iP|iQ|gU|gW|lH|lI|nR|gX|gY|iR|gb|dU|kP|kQ=>k_is)
  (case kR=>rfl)
  (case iS|iT|gZ|hI|hU|hV|hX|hZ|ia|ib|ic|ie=>k_is)
  (case iU=>rfl)
  (case kS|kT|ju|jv|jw|jx=>k_is)
  (case kU=>rfl)
  (case iV|iW|gf|gg|gh|lJ|lK|jy|jz|eX=>k_is)
  (case W7=>exact Hd.aem KX G)
