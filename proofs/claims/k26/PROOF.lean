import PyProof.Rows.All
import Wide.All
import OpenK.AllK
import Wide.FinOn
import Lean
import PyProof.EqAt
import PyProof.EqKinds
import PyProof.TupleCall
import PySem.Challenge.RW_noteworth_k26_whole_none_cheaper
set_option Elab.async false
set_option linter.all false
set_option maxRecDepth 100000
open PySem.W (CodeHd Frag OpenLaw WalkO codeIn excIn findIn fnOf instObj isFn keepIn kia_one kitOne kitx_dict kitx_list kla_fn kla_obj lookIn methodObj mg_none_of mg_of mroIn nsIn plainGet specialIn tabObj)
open List (length_map length_append length_take length_drop mem_append mem_singleton mem_cons_self mem_cons_of_mem mem_append_left mem_append_right mem_of_getElem? size_toArray take_length getElem?_map map_append map_cons length_cons take_succ getElem?_eq_getElem getElem?_append_right mem_map all_eq_true length_range mem_range append_nil nil_append)
open PySem.F (plainAttrs_list slot_dict_get)
local macro_rules | `(tactic| lk) => `(tactic| decide +kernel)
local macro_rules | `(tactic| z_go) => `(tactic| first | (exact fun _ _ _ _ _ _ us hl => match us, hl with | [_], _ => rfl) | (exact fun _ _ _ _ _ _ us hl => match us, hl with | [_, _], _ => rfl) | (exact fun _ _ _ _ _ _ us hl => match us, hl with | [_, _, _], _ => rfl) | (exact fun _ _ _ _ _ _ us hl => match us, hl with | [_, _, _, _], _ => rfl) | (exact fun _ _ _ _ _ _ us hl => match us, hl with | [_, _, _, _, _], _ => rfl) | (exact fun _ _ _ _ _ _ us hl => match us, hl with | [_, _, _, _, _, _], _ => rfl))
namespace L2
open PySem PySem.Spec PyProof.Rows
abbrev Key:=Sum Int Str
def BS:Key->Value->Bool
 |.inl k,v=>Value.isInt k v
 |.inr x,v=>Value.isStrOf x v
def ac1 (w:World):Key->Int
 |.inl k=>hashInt k
 |.inr x=>hashStr w x
theorem cF:∀{k:Key} {v:Value},BS k v=true->(∃ i t,k=Sum.inl i/\v=Value.int i t)\/(∃ x t,k=Sum.inr x/\v=Value.str x t)
 |.inl i,v,h=>by
  obtain⟨t,e⟩:=Value.isInt_shape (k:=i) (v:=v) h;exact .inl ⟨i,t,rfl,e⟩
 |.inr x,v,h=>by
  obtain⟨t,e⟩:=Value.isStrOf_shape (x:=x) (v:=v) h;exact .inr ⟨x,t,rfl,e⟩
theorem QF (i:Int)(t:Tok):BS (.inl i) (.int i t)=true:=by simp[BS,Value.isInt]
theorem QG (x:Str)(t:Tok):BS (.inr x) (.str x t)=true:=by simp[BS,Value.isStrOf]
theorem Yc (a b:Int):decide ((Sum.inl a:Key)=Sum.inl b)=(a==b):=by
 by_cases e:a=b
 ·subst e;simp
 ·have h:¬(Sum.inl a:Key)=Sum.inl b:=fun q=>e (Sum.inl.inj q);rw[decide_eq_false h];exact(beq_eq_false_iff_ne.mpr e).symm
theorem Yd (a b:Str):decide ((Sum.inr a:Key)=Sum.inr b)=decide (a=b):=by
 by_cases e:a=b
 ·subst e;simp
 ·have h:¬(Sum.inr a:Key)=Sum.inr b:=fun q=>e (Sum.inr.inj q);rw[decide_eq_false h,decide_eq_false e]
theorem Ye (a:Int)(b:Str):decide ((Sum.inl a:Key)=Sum.inr b)=false:=decide_eq_false (fun q=>nomatch q)
theorem Yg (a:Str)(b:Int):decide ((Sum.inr a:Key)=Sum.inl b)=false:=decide_eq_false (fun q=>nomatch q)
def a5 (prog:Program)(w:World):PySem.KeyKind prog w Key where
 is:=BS
 hash:=ac1 w
 inj:=fun v a b ha hb=>by
  rcases cF ha with ⟨i,t,rfl,rfl⟩|⟨x,t,rfl,rfl⟩
  ·rcases cF hb with ⟨j,u,rfl,e⟩|⟨y,u,rfl,e⟩
   ·injection e with e1 _;rw[e1]
   ·exact nomatch e
  ·rcases cF hb with ⟨j,u,rfl,e⟩|⟨y,u,rfl,e⟩
   ·exact nomatch e
   ·injection e with e1 _;rw[e1]
 byValue:=fun k v h=>by
  rcases cF h with ⟨i,t,rfl,rfl⟩|⟨x,t,rfl,rfl⟩ <;> rfl
 pyHash:=fun hv h=>by
  rcases cF hv with ⟨i,t,rfl,rfl⟩|⟨x,t,rfl,rfl⟩
  ·exact wpAny_pyHash_int h
  ·exact wpAny_pyHash_str h
 eqBool:=fun hu hv h=>by
  rcases cF hu with ⟨i,t,rfl,rfl⟩|⟨x,t,rfl,rfl⟩
  ·rcases cF hv with ⟨j,u,rfl,rfl⟩|⟨y,u,rfl,rfl⟩
   ·rw[Yc]at h;exact wpAny_eqBool_int h
   ·rw[Ye]at h;exact SeqAt.EqAt.int_str i t y u _ _ _ _ h
  ·rcases cF hv with ⟨j,u,rfl,rfl⟩|⟨y,u,rfl,rfl⟩
   ·rw[Yg]at h;exact SeqAt.EqAt.str_int x t j u _ _ _ _ h
   ·rw[Yd]at h;exact wpAny_eqBool_str h
 «strs»:=fun k x t v h=>by
  rcases cF h with ⟨i,u,rfl,e⟩|⟨y,u,rfl,e⟩
  ·exact nomatch e
  ·injection e with e1 _
   subst e1;cases v <;> rfl
theorem yK (prog:Program)(w:World)(i:Int)(t:Tok):(a5 prog w).is (.inl i) (.int i t)=true:=QF i t
theorem je (prog:Program)(w:World)(x:Str)(t:Tok):(a5 prog w).is (.inr x) (.str x t)=true:=QG x t
end L2
namespace L2
open PySem PySem.Spec PyProof.Rows
inductive V where
 |non|bl (b:Bool)|int (i:Int)|str (x:Str)|So (b:Array UInt8)|flt (b:UInt64)|ref (a:Addr)|ty (n:String)
 deriving DecidableEq
def RelV:V->Value->Prop
 |.non,u=>u=Value.none
 |.bl b,u=>u=Value.bool b
 |.int i,u=>∃ t,u=Value.int i t
 |.str x,u=>∃ t,u=Value.str x t
 |.So b,u=>∃ t,u=Value.bytes b t
 |.flt b,u=>∃ t,u=Value.float b t
 |.ref a,u=>u=Value.ref a
 |.ty n,u=>u=Value.type n
abbrev Vals:List V->List Value->Prop:=Paired RelV
theorem Vals.length {xs:List V}{us:List Value}(r:Vals xs us):xs.length=us.length:=Paired.length r
theorem Vals.get:∀{xs:List V} {us:List Value} {i:Nat} {x:V},Vals xs us->xs[i]? = some x->∃ u,us[i]? = some u/\RelV x u
 |_,_,_,_,.nil,e=>by simp at e
 |_,_,0,_,.cons r _,e=>by simp at e;subst e;exact⟨_,rfl,r⟩
 |_,_,i+1,x,.cons _ t,e=>by
  obtain⟨u,h1,h2⟩:=Vals.get (i:=i) (x:=x) t (by simpa using e);exact⟨u,by simpa using h1,h2⟩
theorem Vals.set {x:V}{u:Value}(r:RelV x u):∀{xs:List V} {us:List Value} (i:Nat),Vals xs us->Vals (xs.set i x) (us.set i u)
 |_,_,_,.nil=>.nil
 |_,_,0,.cons _ t=>.cons r t
 |_,_,i+1,.cons q t=>.cons q (Vals.set r i t)
theorem Vals.append:∀{xs ys:List V} {us ws:List Value},Vals xs us->Vals ys ws->Vals (xs++ys) (us++ws)
 |_,_,_,_,.nil,s=>s
 |_,_,_,_,.cons r t,s=>.cons r (Vals.append t s)
theorem Vals.take:∀{xs:List V} {us:List Value} (n:Nat),Vals xs us->Vals (xs.take n) (us.take n)
 |_,_,0,_=>.nil
 |_,_,_+1,.nil=>.nil
 |_,_,n+1,.cons r t=>.cons r (Vals.take n t)
theorem Vals.drop:∀{xs:List V} {us:List Value} (n:Nat),Vals xs us->Vals (xs.drop n) (us.drop n)
 |_,_,0,r=>r
 |_,_,_+1,.nil=>.nil
 |_,_,n+1,.cons _ t=>Vals.drop n t
def oz:Option V->Option Value->Prop
 |some v,some u=>RelV v u
 |none,none=>True
 |_,_=>False
def KV {κ:Type}:List (κ×V)->List (κ×Value)->Prop:=Paired fun(p:κ×V)(q:κ×Value)=>p.1=q.1/\RelV p.2 q.2
def kV:Key->V
 |.inl i=>.int i
 |.inr x=>.str x
inductive HO where
 /-- a list -/
 |lst (xs:List V)
 /-- a tuple (never changes) -/
 |tup (xs:List V)
 /-- a dict whose keys are ints and texts;one whose keys are tuples of ints and texts (the empty one is both) -/
 |dK (kvs:List (Key×V))|dT (kvs:List (List Key×V))
 /-- a set of ints: its members,its size -/
 |set (S:Int->Bool) (n:Nat)
 /-- an instance of the class at C,its dict at dx,its attributes -/
 |ins (C dx:Addr) (fs:List (Str×V))
 /-- the dict of the instance at x -/
 |own (x:Addr)
 /-- the dict of an exception -/
 |xd (fs:List (Str×V))
 /-- a bound method,f of x -/
 |met (f x:Addr)
 /-- a range object lo,lo+1,.. below hi -/
 |rng (lo hi:Int)
 /-- a thing that is known to the object (the script;a dict while a loop walks it): read,never written while it is so -/
 |jI (o:Obj) (u:HO)
 /-- a code object's table -/
 |yL (ps:Array Value)
 /-- any other thing,by what is true of its one object (a def of one's own: ags a S n:=HO.ext fun h=>..) -/
 |ext (φ:Heap->Prop)
abbrev Hp:=Addr->Option HO
def upd (H:Hp)(a:Addr)(o:HO):Hp:=fun b=>if b=a then some o else H b
theorem ai {H:Hp}{a:Addr}{o:HO}:upd H a o a=some o:=by unfold upd;rw[if_pos rfl]
theorem ar {H:Hp}{a b:Addr}{o:HO}(h:b≠a):upd H a o b=H b:=by unfold upd;rw[if_neg h]
theorem qi {H:Hp}{a:Addr}{o u:HO}:upd (upd H a o) a u=upd H a u:=by
 funext b;unfold upd;split <;> rfl
theorem qF {H:Hp}{a b:Addr}{o u:HO}(h:H a=some o)(h':H b=some u)(d:o≠u):a≠b:=by
 intro e;subst e;rw[h]at h';exact d (Option.some.inj h')
theorem aC {H:Hp}{a b:Addr}{o:HO}(h:H a=some o)(h':H b=none):a≠b:=by
 intro e;subst e;rw[h]at h';cases h'
section
variable (P:Program) (w:World)
def cG (H:Hp)(h:Heap)(a:Addr):HO->Prop
 |.lst xs=>xs.length<=sizeLine/\∃(its:List Value)(n:Nat),Vals xs its/\h.get? a=some { cls:=.type "list",data:=.seq its.toArray n }
 |.tup xs=>xs.length<=sizeLine/\∃ its:List Value,Vals xs its/\IsTup h a its.toArray
 |.dK kvs=>kvs.length<=sizeLine/\(a==sysModules)=false/\∃ vs,KV kvs vs/\h.DictOf (a5 P w) a vs
 |.dT kvs=>kvs.length<=sizeLine/\(a==sysModules)=false/\∃ xs:List (List Key×Addr×Value),
   Paired (fun(p:List Key×V)(q:List Key×Addr×Value)=>p.1=q.1/\H q.2.1=some (.tup (p.1.map kV))/\RelV p.2 q.2.2) kvs xs /\
   ∃ o es ep,h.get? a=some o/\o.ExactDict/\o.data=.dict es ep/\es.toList=xs.map (entryOfKey (tupleKind (a5 P w)))/\(xs.map (·.1)).Nodup
 |.set S n=>h.SetOf (intKind P w) a S n
 |.ins C dx fs=>H dx=some (.own a)/\fs.length<=1000/\dx≠a/\h.get? a=some (instObj C dx) /\
   ∃ mA,h.Ns1 dx mA/\(∀ f,oz (fs.lookup f) (mA f))/\PySem.Within mA (fs.map (·.1))
 |.own _=>∃ o,h.get? a=some o
 |.xd fs=>∃ mA,h.Ns1 a mA/\∀ f,oz (fs.lookup f) (mA f)
 |.rng lo hi=>∃ t u v,h.get? a=some { cls:=.type "range",data:=.fields #[.int lo t,.int hi u,.int 1 v] }
 |.jI o u=>h.get? a=some o/\cG H h a u
 |.yL ps=>h.get? a=some { cls:=.none,data:=.fields ps }
 |.met f x=>h.get? a=some (methodObj (.ref f) (.ref x))
 |.ext φ=>φ h/\(∃ o,h.get? a=some o)/\∀ h1 h2:Heap,φ h1->(∀ o,h1.get? a=some o->h2.get? a=some o)->φ h2
def qG (H:Hp)(h:Heap):Prop:=∀ a o,H a=some o->cG P w H h a o
end
section
variable {P:Program} {w:World} {H H':Hp} {h h':Heap} {a:Addr} {o:HO}
theorem cG.lt (x:cG P w H h a o):a<h.objs.size:=by
 cases o with
 |lst xs=>obtain⟨_,_,_,_,e⟩:=x;exact Heap.lt_size e
 |tup xs=>obtain⟨_,_,_,p⟩:=x;exact p.lt
 |dK kvs=>obtain⟨_,_,_,_,o,_,_,e,_⟩:=x;exact Heap.lt_size e
 |dT kvs=>obtain⟨_,_,_,_,o,_,_,e,_⟩:=x;exact Heap.lt_size e
 |set S n=>obtain⟨o,_,_,_,e,_⟩:=x;exact Heap.lt_size e
 |ins C dx fs=>obtain⟨_,_,_,e,_⟩:=x;exact Heap.lt_size e
 |own y=>obtain⟨_,e⟩:=x;exact Heap.lt_size e
 |xd fs=>obtain⟨_,⟨_,_,_,e,_⟩,_⟩:=x;exact Heap.lt_size e
 |rng lo hi=>obtain⟨_,_,_,e⟩:=x;exact Heap.lt_size e
 |jI ob u=>obtain⟨e,_⟩:=x;exact Heap.lt_size e
 |yL ps=>exact Heap.lt_size (show h.get? a=some _ from x)
 |met f y=>exact Heap.lt_size (show h.get? a=some _ from x)
 |ext φ=>obtain⟨_,⟨_,e⟩,_⟩:=x;exact Heap.lt_size e
theorem Paired.Yh {α β:Type}{F G:α->β->Prop}:∀{l₁:List α} {l₂:List β},Paired F l₁ l₂->(∀ a b,F a b->G a b)->Paired G l₁ l₂
 |_,_,.nil,_=>.nil
 |_,_,.cons r t,f=>.cons (f _ _ r) (Paired.Yh t f)
theorem cG.stay (x:cG P w H h a o)(k:∀ b u,(b=a\/H b=some (.own a))->h.get? b=some u->h'.get? b=some u)
  (ho:∀ b,H b=some (.own a)->H' b=some (.own a)) (ht:∀ b xs,H b=some (.tup xs)->H' b=some (.tup xs)):cG P w H' h' a o:=by
 induction o with
 |lst xs=>obtain⟨z,its,n,r,e⟩:=x;exact⟨z,its,n,r,k _ _ (.inl rfl) e⟩
 |tup xs=>obtain⟨z,its,r,ob,e,c⟩:=x;exact⟨z,its,r,ob,k _ _ (.inl rfl) e,c⟩
 |dK kvs=>obtain⟨z,y,vs,r,ob,es,ep,e,c⟩:=x;exact⟨z,y,vs,r,ob,es,ep,k _ _ (.inl rfl) e,c⟩
 |dT kvs =>
  obtain⟨z,y,xs,r,ob,es,ep,e,c⟩:=x;exact⟨z,y,xs,Paired.Yh r fun p q z=>⟨z.1,ht _ _ z.2.1,z.2.2⟩,ob,es,ep,k _ _ (.inl rfl) e,c⟩
 |set S n=>obtain⟨ob,es,ep,t,e,c⟩:=x;exact⟨ob,es,ep,t,k _ _ (.inl rfl) e,c⟩
 |ins C dx fs =>
  obtain⟨d,z,ne,e,mA,⟨od,es,ep,e2,c⟩,r⟩:=x;exact⟨ho _ d,z,ne,k _ _ (.inl rfl) e,mA,⟨od,es,ep,k _ _ (.inr d) e2,c⟩,r⟩
 |own y=>obtain⟨ob,e⟩:=x;exact⟨ob,k _ _ (.inl rfl) e⟩
 |xd fs=>obtain⟨mA,⟨od,es,ep,e,c⟩,r⟩:=x;exact⟨mA,⟨od,es,ep,k _ _ (.inl rfl) e,c⟩,r⟩
 |rng lo hi=>obtain⟨t,u,v,e⟩:=x;exact⟨t,u,v,k _ _ (.inl rfl) e⟩
 |jI ob u ih=>obtain⟨e,q⟩:=x;exact⟨k _ _ (.inl rfl) e,ih q⟩
 |yL ps =>
  have e:h.get? a=some { cls:=.none,data:=.fields ps }:=x;show h'.get? a=some { cls:=.none,data:=.fields ps };exact k a _ (.inl rfl) e
 |met f y =>
  have e:h.get? a=some (methodObj (.ref f) (.ref y)):=x;show h'.get? a=some (methodObj (.ref f) (.ref y));exact k a _ (.inl rfl) e
 |ext φ=>obtain⟨p,⟨o,e⟩,st⟩:=x;exact⟨st _ _ p fun o q=>k _ _ (.inl rfl) q,⟨o,k _ _ (.inl rfl) e⟩,st⟩
theorem qG.lt (x:qG P w H h)(e:H a=some o):a<h.objs.size:=(x a o e).lt
theorem qG.fresh (x:qG P w H h)(e:h.objs.size<=a):H a=none:=by
 cases q:H a with
 |none=>rfl
 |some u=>exact absurd (Nat.lt_of_lt_of_le (x.lt q) e) (Nat.lt_irrefl _)
theorem qG.kept (x:qG P w H h)(k:∀ b u,h.get? b=some u->h'.get? b=some u):qG P w H h':=fun a o e =>
 (x a o e).stay (fun b u _ q=>k b u q) (fun _ q=>q) fun _ _ q=>q
theorem qG.laid (x:qG P w H h)(k:∀ b u,h.get? b=some u->h'.get? b=some u)(hp:h.objs.size<=a)(new:cG P w (upd H a o) h' a o):qG P w (upd H a o) h':=fun b u e=>by
 have hn:=x.fresh hp
 by_cases hb:b=a
 ·subst hb;rw[ai]at e;cases e;exact new
 ·rw[ar hb]at e;exact(x b u e).stay (fun c v _ q=>k c v q) (fun c q=>by rw[ar (aC q hn)];exact q) fun c xs q=>by rw[ar (aC q hn)];exact q
end
def Rd (H:Hp)(a:Addr)(u:HO):Prop:=H a=some u\/∃ o,H a=some (.jI o u)
theorem Rd.ok {P:Program}{w:World}{H:Hp}{h:Heap}{a:Addr}{u:HO}(r:Rd H a u)(x:qG P w H h):cG P w H h a u:=by
 rcases r with r|⟨o,r⟩
 ·exact x a u r
 ·obtain⟨_,q⟩:=x a _ r;exact q
def Z1:Option HO->Prop
 |some (.lst _)=>True
 |some (.dK _)=>True
 |some (.dT _)=>True
 |some (.set _ _)=>True
 |some (.ins _ _ _)=>True
 |some (.ext _)=>True
 |_=>False
section
variable {P:Program} {w:World} {H:Hp} {h h':Heap} {x e:Addr} {o':HO}
theorem qG.write (ok:qG P w H h)(mu:Z1 (H x))(he:e=x\/H e=some (.own x))(k:∀ b u,b≠e->h.get? b=some u->h'.get? b=some u)(heo:∃ u,h'.get? e=some u)
  (new:cG P w (upd H x o') h' x o'):qG P w (upd H x o') h':=fun b u q=>by
 have Z2:∀ c y,H c=some (.own y)->c≠x:=fun c y r z=>by subst z;rw[r]at mu;exact mu
 have ac3:∀ c xs,H c=some (.tup xs)->c≠x:=fun c xs r z=>by subst z;rw[r]at mu;exact mu
 by_cases hb:b=x
 ·subst hb;rw[ai]at q;cases q;exact new
 ·rw[ar hb]at q
  by_cases hbe:b=e
  ·have q':H b=some (.own x):=by
    rcases he with z|z
    ·exact absurd (hbe.trans z) hb
    ·rw[hbe];exact z
   rw[q]at q';cases q';obtain⟨v,hv⟩:=heo;exact⟨v,by rw[hbe];exact hv⟩
  ·refine(ok b u q).stay (fun c v hc r=>k c v ?_ r) (fun c r=>by rw[ar (Z2 c b r)];exact r) fun c xs r=>by rw[ar (ac3 c xs r)];exact r
   rcases hc with rfl|hc
   ·exact hbe
   ·rintro rfl;rcases he with z|z
    ·exact Z2 c b hc z
    ·rw[hc]at z;cases z;exact hb rfl
end
structure Un (fs ex:List Addr)(H H':Hp)(h h':Heap):Prop where
 keep:∀ b o,h.get? b=some o->H b=none->b ∉ fs->b ∉ ex->h'.get? b=some o
 slot:∀ b o,h.get? b=some o->H b=none->b∈fs->b ∉ ex->∃ sl,h'.get? b=some { o with slots:=sl }
 free:∀ b o,h.get? b=some o->H b=none->b ∉ ex->H' b=none
 there:∀ b o,h.get? b=some o->b ∉ ex->∃ o',h'.get? b=some o'
 tups:∀ b xs,H b=some (.tup xs)->H' b=some (.tup xs)
 yW:∀ b o u,H b=some (.jI o u)->H' b=some (.jI o u)
 BU:∀ b ps,H b=some (.yL ps)->∃ more,H' b=some (.yL (ps++more))
section
variable {fs fs' ex ex':List Addr} {H H1 H2:Hp} {h h1 h2 h':Heap} {a x e:Addr} {o:HO}
theorem Un.any (u:Un fs ex H H1 h h1){b:Addr}{ob:Obj}(q:h.get? b=some ob)(n:H b=none)(hx:b ∉ ex):∃ sl,h1.get? b=some { ob with slots:=sl }:=by
 by_cases hb:b∈fs
 ·exact u.slot b ob q n hb hx
 ·exact⟨ob.slots,u.keep b ob q n hb hx⟩
theorem Un.kept (k:∀ b u,h.get? b=some u->h'.get? b=some u):Un fs ex H H h h' :=
 ⟨fun b ob q _ _ _=>k b ob q,fun b ob q _ _ _=>⟨ob.slots,k b ob q⟩,fun _ _ _ n _=>n,fun b ob q _=>⟨ob,k b ob q⟩,fun _ _ q=>q,fun _ _ _ q=>q,fun _ ps q=>⟨#[],by rw[q];simp⟩⟩
theorem Un.refl:Un fs ex H H h h:=Un.kept fun _ _ q=>q
theorem Un.laid (k:∀ b u,h.get? b=some u->h'.get? b=some u)(hp:h.objs.size<=a)(hn:H a=none):Un fs ex H (upd H a o) h h' where
 keep:=fun b u q _ _ _=>k b u q
 slot:=fun b u q _ _ _=>⟨u.slots,k b u q⟩
 free:=fun b u q n _=>by rw[ar (Nat.ne_of_lt (Nat.lt_of_lt_of_le (Heap.lt_size q) hp))];exact n
 there:=fun b u q _=>⟨u,k b u q⟩
 tups:=fun b xs q=>by rw[ar (aC q hn)];exact q
 yW:=fun b u xs q=>by rw[ar (aC q hn)];exact q
 BU:=fun b ps q=>⟨#[],by rw[ar (aC q hn),q];simp⟩
theorem Un.write (mu:Z1 (H x))(he:e=x\/H e=some (.own x))(k:∀ b u,b≠e->h.get? b=some u->h'.get? b=some u)(heo:∃ u,h'.get? e=some u):Un fs ex H (upd H x o) h h':=by
 have hx:∀ b,H b=none->b≠x:=fun b n z=>by subst z;rw[n]at mu;exact mu
 have hb:∀ b,H b=none->b≠e:=fun b n z=>by
  subst z;rcases he with r|r
  ·exact hx b n r
  ·rw[n]at r;cases r
 have hm:∀ b u,H b=some u->¬ Z1 (some u)->b≠x:=fun b u q nm z=>by subst z;rw[q]at mu;exact nm mu
 refine⟨fun b u q n _ _=>k b u (hb b n) q,fun b u q n _ _=>⟨u.slots,k b u (hb b n) q⟩,fun b u q n _=>by rw[ar (hx b n)];exact n,fun b u q _=>?_,
  fun b xs q=>by rw[ar (hm b _ q fun z=>z)];exact q,fun b u xs q=>by rw[ar (hm b _ q fun z=>z)];exact q,fun b ps q=>⟨#[],by rw[ar (hm b _ q fun z=>z),q];simp⟩⟩
 by_cases hbe:b=e
 ·subst hbe;exact heo
 ·exact⟨u,k b u hbe q⟩
end
def Vq (h:Heap)(H:Hp):List Addr:=(List.range h.objs.size).filter fun a=>(H a).isSome
def HR (h:Heap)(H:Hp):Heap:=PySem.W.hideAll h (Vq h H)
theorem QH (h:Heap)(H:Hp):(HR h H).objs.size=h.objs.size:=PySem.W.hideAll_size _ _
theorem Sq {h:Heap}{H:Hp}{b:Addr}{o:Obj}(e:h.get? b=some o)(n:H b=none):(HR h H).get? b=some o :=
 PySem.W.hideAll_get _ e fun hm=>by
  have q:(H b).isSome=true:=(List.mem_filter.mp hm).2;rw[n]at q;simp at q
theorem Vr {h:Heap}{H:Hp}{b:Addr}{o:Obj}(e:(HR h H).get? b=some o):h.get? b=some o/\H b=none:=by
 have e':h.get? b=some o:=PySem.W.of_hideAll (Vq h H) e;refine⟨e',?_⟩;cases q:H b with
 |none=>rfl
 |some x =>
  have hm:b∈Vq h H:=List.mem_filter.mpr ⟨mem_range.mpr (Heap.lt_size e'),by simp[q]⟩;have z:(HR h H).get? b=none:=PySem.W.hideAll_none (Vq h H) hm;rw[z]at e;cases e
def Vs (g h:Heap)(L:Addr):List (Addr×Obj):=(List.range h.objs.size).filterMap fun a=>if a=L\/(g.get? a).isSome=true then none else(h.get? a).map fun o=>(a,o)
def rest (g h:Heap)(L d:Addr):List (Addr×Obj):=(Vs g h L).filter fun p=>decide (p.1≠d)
end L2
namespace L2
open PySem PySem.Spec PyProof.Rows
structure Mod (K:Frag)(mg:Str->Option Value)(base:Heap):Prop where
 kin:K.In base
 glob:base.Ns mainGlobals mg
 blt:∃ mb,base.Ns builtinsNs mb/\∀ x:Str,x ≠ "__name__"->mb x=bootBuiltins x
 nolimit:base.NoLimit
structure Cx where
 prog:Program
 w:World
 K:Frag
 mg:Str->Option Value
 base:Heap
 A:Around
 N:List Str
 s₀:Shared
 H₀:Hp
 env:Env
 outer:List Env
 stack:List Env
 ex:List Addr
 fn:Str->Bool
 calm:Bool
 pn:List (Addr×Obj)
 xe:Value->Shared->Prop
def frs (l:List Env):List Addr:=l.filterMap (·.frame)
abbrev Cx.fs (X:Cx):List Addr:=frs X.outer
def Vis (sc:Scope)(x:Str):Prop:=sc.names.lookup x=some .local\/sc.names.lookup x=some .cell\/sc.names.lookup x=some .free
def Loc (sc:Scope)(x:Str):Prop:=sc.names.lookup x=some .local\/sc.names.lookup x=some .cell
def Look (env:Env)(h:Heap)(m:Str->Option Value)(x:Str)(u:Value):Prop :=
 (env.kindOf x=some .local/\m x=some u)\/((env.kindOf x=some .cell\/env.kindOf x=some .free)/\∃ c,env.cells.lookup x=some c/\h.IsCell c (some u))
structure Cx.Ok (X:Cx):Prop where
 mod:Mod X.K X.mg X.base
 kind:X.env.scope.kind=.function
 glob:X.env.globals=mainGlobals
 blt:X.env.builtins=builtinsNs
 above:X.s₀.heap.objs.size<=X.env.locals
 inj:∀ x y c,X.env.cells.lookup x=some c->X.env.cells.lookup y=some c->x=y
 has:∀ x,(X.env.kindOf x=some .cell\/X.env.kindOf x=some .free)->∃ c,X.env.cells.lookup x=some c
 cab:∀ x c,X.fn x=true->X.env.cells.lookup x=some c->X.s₀.heap.objs.size<=c
 hd:X.calm=true->X.A.handled=none
 frames:X.A.frames=some X.stack
 stk:X.stack=X.outer\/(X.stack=X.env::X.outer/\X.env.frame=some X.env.locals)
 exf:∀ b∈X.ex,b≠X.env.locals/\∀ x c,X.env.cells.lookup x=some c->c≠b
 bs:∀ b o,X.base.get? b=some o->X.s₀.heap.get? b=some o/\X.H₀ b=none
 Vh:X.base.objs.size<=X.s₀.heap.objs.size
 Sr:∀ b o,X.base.get? b=some o->b ∉ X.ex
 Ss:∀ b∈X.ex,b ∉ X.fs
 BV:X.s₀.heap.FunFrames X.base X.outer
 ZK:∀ b∈X.fs,X.H₀ b=none
structure Inv (X:Cx)(pins:List (Addr×Obj))(σ:List (Option V))(H:Hp)(s:Shared):Prop where
 ok:X.Ok
 os:s.os=X.s₀.os
 bare:AllBare s.gens
 base:Un X.fs X.ex X.H₀ H X.s₀.heap s.heap
 loc:∃ m,s.heap.Ns X.env.locals m/\∀(i:Nat)(x:Str)(v:V),X.N[i]? = some x->σ[i]? = some (some v)->Vis X.env.scope x->∃ u,RelV v u/\Look X.env s.heap m x u
 cell:∀ x c,X.env.cells.lookup x=some c->∃ v,s.heap.IsCell c v
 free:H X.env.locals=none
 oM:∀ x c,X.env.cells.lookup x=some c->H c=none
 pin:∀ p∈X.pn++pins,s.heap.get? p.1=some p.2/\H p.1=none/\p.1≠X.env.locals/\p.1 ∉ X.fs/\∀ v,p.2.data≠.cell v
 hok:qG X.prog X.w H s.heap
 len:σ.length=X.N.length
section
variable {X:Cx} {pins:List (Addr×Obj)} {σ:List (Option V)} {H H':Hp} {s:Shared} {h':Heap}
theorem Cx.Ok.ac4 (ok:X.Ok){b:Addr}{o:Obj}(e:X.base.get? b=some o):b ∉ X.fs:=fun hb=>by
 have:=(ok.BV.mem hb).1;rw[e]at this;cases this
theorem Inv.bs (I:Inv X pins σ H s):∀ b o,X.base.get? b=some o->s.heap.get? b=some o/\H b=none:=fun b o e =>
 ⟨I.base.keep b o (I.ok.bs b o e).1 (I.ok.bs b o e).2 (I.ok.ac4 e) (I.ok.Sr b o e),I.base.free b o (I.ok.bs b o e).1 (I.ok.bs b o e).2 (I.ok.Sr b o e)⟩
theorem Inv.bk (I:Inv X pins σ H s):∀ b o,X.base.get? b=some o->s.heap.get? b=some o:=fun b o e=>(I.bs b o e).1
theorem Inv.mod (I:Inv X pins σ H s):Mod X.K X.mg X.base:=I.ok.mod
theorem Inv.Fl (I:Inv X pins σ H s):X.K.In s.heap:=I.ok.mod.kin.keeps I.bk
theorem Inv.lt (I:Inv X pins σ H s):X.env.locals<s.heap.objs.size:=let ⟨_,hn,_⟩:=I.loc;hn.lt
theorem Inv.sz (I:Inv X pins σ H s):X.s₀.heap.objs.size<=s.heap.objs.size:=Nat.le_trans I.ok.above (Nat.le_of_lt I.lt)
theorem Inv.ac5 (I:Inv X pins σ H s){a:Addr}(h:s.heap.objs.size<=a):a ∉ X.fs:=fun hb=>by
 obtain⟨_,o,ho,_⟩:=I.ok.BV.mem hb;exact absurd (Nat.lt_of_lt_of_le (Heap.lt_size ho) (Nat.le_trans I.sz h)) (Nat.lt_irrefl _)
theorem Inv.Yi (I:Inv X pins σ H s):∀ x c,X.env.cells.lookup x=some c->c≠X.env.locals:=fun x c e z=>by
 obtain⟨v,o,ho,hd⟩:=I.cell x c e;obtain⟨m,⟨o',es,ep,ho',hd',_⟩,_⟩:=I.loc;rw[z,ho']at ho;cases ho;rw[hd']at hd;cases hd
theorem Inv.BV (I:Inv X pins σ H s):s.heap.FunFrames X.base X.outer:=by
 have all:∀(l:List Env),(∀ b∈frs l,b∈X.fs)->X.s₀.heap.FunFrames X.base l->s.heap.FunFrames X.base l:=by
  intro l
  induction l with
  |nil=>intro _ _;trivial
  |cons env r ih =>
   intro hs hl;obtain⟨hk,⟨L,o,hf,hn,ho,hd⟩,hr⟩:=hl;have hL:L∈X.fs:=hs L (by unfold frs;rw[List.filterMap_cons,hf];exact mem_cons_self);obtain⟨sl,e⟩:=I.base.slot L o ho (I.ok.ZK L hL) hL fun z=>I.ok.Ss L z hL;exact⟨hk,⟨L,_,hf,hn,e,hd⟩,ih (fun b hb=>hs b (by unfold frs;rw[List.filterMap_cons,hf];exact mem_cons_of_mem _ hb)) hr⟩
 exact all X.outer (fun _ hb=>hb) I.ok.BV
theorem Inv.stack (I:Inv X pins σ H s):s.heap.FunFrames X.base X.stack:=by
 rcases I.ok.stk with e|⟨e,hf⟩
 ·rw[e];exact I.BV
 ·rw[e];obtain⟨m,hn,_⟩:=I.loc;refine .cons (by rw[I.ok.kind];decide) hf hn ?_ I.BV;exact Heap.get?_none_of_le (Nat.le_trans I.ok.Vh I.ok.above)
theorem Inv.M4 (I:Inv X pins σ H s):∀ b∈frs X.stack,b∈X.env.locals::X.fs:=fun b hb=>by
 rcases I.ok.stk with e|⟨e,hf⟩
 ·rw[e]at hb;exact mem_cons_of_mem _ hb
 ·rw[e]at hb;unfold frs at hb;rw[List.filterMap_cons,hf]at hb;exact hb
theorem Inv.Py (I:Inv X pins σ H s):∀ b∈frs X.stack,H b=none:=fun b hb=>by
 rcases List.mem_cons.mp (I.M4 b hb) with e|hb
 ·rw[e];exact I.free
 ·obtain⟨_,o,ho,_⟩:=I.ok.BV.mem hb;exact I.base.free b o ho (I.ok.ZK b hb) fun z=>I.ok.Ss b z hb
theorem Inv.step {g':Array GenState}{t':Nat}{d':Drawn}{ch:List Addr}(I:Inv X pins σ H s)
  (hch:∀ b∈ch,(b∈X.ex\/X.s₀.heap.objs.size<=b)/\b≠X.env.locals/\(∀ x c,X.env.cells.lookup x=some c->c≠b)/\∀ p∈X.pn++pins,p.1≠b)
  (keep:∀ b o,b≠X.env.locals->b ∉ X.fs->b ∉ ch->s.heap.get? b=some o->H b=none->h'.get? b=some o)
  (slot:∀ b o,b≠X.env.locals->b∈X.fs->b ∉ ch->s.heap.get? b=some o->H b=none->∃ sl,h'.get? b=some { o with slots:=sl }) (free:∀ b o,b ∉ ch->s.heap.get? b=some o->H b=none->H' b=none)
  (there:∀ b o,b ∉ ch->s.heap.get? b=some o->∃ o',h'.get? b=some o')
  (tups:∀ b xs,H b=some (.tup xs)->H' b=some (.tup xs)) (yW:∀ b o u,H b=some (.jI o u)->H' b=some (.jI o u)) (BU:∀ b ps,H b=some (.yL ps)->∃ more,H' b=some (.yL (ps++more)))
  (ns:∀ m,s.heap.Ns X.env.locals m->h'.Ns X.env.locals m) (hok:qG X.prog X.w H' h') (hg:AllBare g') :
  Inv X pins σ H' { s with heap:=h',gens:=g',drawn:=d',toks:=t' }:=by
 have neL:∀ b o,X.s₀.heap.get? b=some o->b≠X.env.locals:=fun b o e=>Nat.ne_of_lt (Nat.lt_of_lt_of_le (Heap.lt_size e) I.ok.above);have Xf:∀ b o,X.s₀.heap.get? b=some o->b ∉ X.ex->b ∉ ch:=fun b o e hx hb=>by
  rcases (hch b hb).1 with z|z
  ·exact hx z
  ·exact absurd (Nat.lt_of_lt_of_le (Heap.lt_size e) z) (Nat.lt_irrefl _)
 have cellK:∀ x c,X.env.cells.lookup x=some c->∀ v,s.heap.IsCell c v->h'.IsCell c v:=fun x c e v ⟨o,ho,hd⟩=>by
  have Z3:c ∉ ch:=fun z=>(hch c z).2.2.1 x c e rfl
  by_cases hc:c∈X.fs
  ·obtain⟨sl,q⟩:=slot c o (I.Yi x c e) hc Z3 ho (I.oM x c e);exact⟨_,q,hd⟩
  ·exact⟨o,keep c o (I.Yi x c e) hc Z3 ho (I.oM x c e),hd⟩
 refine⟨I.ok,I.os,hg,⟨fun b o e n hb hx=>?_,fun b o e n hb hx=>?_,fun b o e n hx=>?_,fun b o e hx=>?_,fun b xs e=>tups b xs (I.base.tups b xs e),fun b o xs e=>yW b o xs (I.base.yW b o xs e),fun b ps e=>?_⟩,?_,fun x c e=>?_,?_,fun x c e=>?_,fun p hp=>?_,hok,I.len⟩
 ·exact keep b o (neL b o e) hb (Xf b o e hx) (I.base.keep b o e n hb hx) (I.base.free b o e n hx)
 ·obtain⟨sl,e1⟩:=I.base.slot b o e n hb hx;obtain⟨sl',e2⟩:=slot b _ (neL b o e) hb (Xf b o e hx) e1 (I.base.free b o e n hx);exact⟨sl',e2⟩
 ·obtain⟨o',e1⟩:=I.base.there b o e hx;exact free b o' (Xf b o e hx) e1 (I.base.free b o e n hx)
 ·obtain⟨o',e1⟩:=I.base.there b o e hx;exact there b o' (Xf b o e hx) e1
 ·obtain⟨m1,e1⟩:=I.base.BU b ps e;obtain⟨m2,e2⟩:=BU b _ e1;exact⟨m1++m2,by rw[e2,Array.append_assoc]⟩
 ·obtain⟨m,hn,hl⟩:=I.loc;refine⟨m,ns m hn,fun i x v e1 e2 e3=>?_⟩;obtain⟨u,r,l⟩:=hl i x v e1 e2 e3;refine⟨u,r,?_⟩;rcases l with l|⟨k,c,e,z⟩
  ·exact .inl l
  ·exact .inr ⟨k,c,e,cellK x c e _ z⟩
 ·obtain⟨v,z⟩:=I.cell x c e;exact⟨v,cellK x c e v z⟩
 ·obtain⟨m,⟨o,_,_,ho,_⟩,_⟩:=I.loc;exact free _ o (fun z=>(hch _ z).2.1 rfl) ho I.free
 ·obtain⟨v,o,ho,hd⟩:=I.cell x c e;exact free c o (fun z=>(hch c z).2.2.1 x c e rfl) ho (I.oM x c e)
 ·obtain⟨e,n,ne,nf,d⟩:=I.pin p hp;have Z3:p.1 ∉ ch:=fun z=>(hch p.1 z).2.2.2 p hp rfl;exact⟨keep p.1 p.2 ne nf Z3 e n,free p.1 p.2 Z3 e n,ne,nf,d⟩
theorem Inv.un {t':Nat}(I:Inv X pins σ H s)(u:Un X.fs [] H H' s.heap h')(hok:qG X.prog X.w H' h'):Inv X pins σ H' { s with heap:=h',toks:=t' }:=by
 obtain⟨m,⟨o,es,ep,ho,r⟩,_⟩:=id I.loc;obtain⟨sl,hL⟩:=u.any ho I.free (by simp);exact I.step (g':=s.gens) (d':=s.drawn) (ch:=[]) (fun _ z=>nomatch z) (fun b o _ hb _ e n=>u.keep b o e n hb (by simp)) (fun b o _ hb _ e n=>u.slot b o e n hb (by simp)) (fun b o _ e n=>u.free b o e n (by simp)) (fun b o _ e=>u.there b o e (by simp)) u.tups u.yW u.BU (fun m' hm=>by
  obtain⟨o',es',ep',ho',r'⟩:=hm;rw[ho]at ho';cases ho';exact⟨_,es',ep',hL,r'⟩) hok I.bare
theorem Inv.call {g':Array GenState}{t':Nat}{d':Drawn}{ch:List Addr}(I:Inv X pins σ H s)(u:Un (frs X.stack) ch H H' s.heap h')(hok:qG X.prog X.w H' h')(hg:AllBare g')
  (hch:∀ b∈ch,(b∈X.ex\/X.s₀.heap.objs.size<=b)/\b≠X.env.locals/\(∀ x c,X.env.cells.lookup x=some c->c≠b)/\∀ p∈X.pn++pins,p.1≠b) :
  Inv X pins σ H' { s with heap:=h',gens:=g',drawn:=d',toks:=t' }:=by
 obtain⟨m,⟨o,es,ep,ho,r⟩,_⟩:=id I.loc;obtain⟨sl,hL⟩:=u.any ho I.free fun z=>(hch _ z).2.1 rfl;exact I.step (ch:=ch) hch (fun b o hL hb hc e n=>u.keep b o e n (fun z=>(List.mem_cons.mp (I.M4 b z)).elim hL hb) hc) (fun b o _ _ hc e n=>u.any e n hc) (fun b o hc e n=>u.free b o e n hc) (fun b o hc e=>u.there b o e hc) u.tups u.yW u.BU (fun m' hm=>by
  obtain⟨o',es',ep',ho',r'⟩:=hm;rw[ho]at ho';cases ho';exact⟨_,es',ep',hL,r'⟩) hok hg
theorem Inv.turned {t':Nat}{it:Addr}(I:Inv X pins σ H s)(k:∀ b o,b≠it->s.heap.get? b=some o->h'.get? b=some o)(hn:H it=none)(hL:it≠X.env.locals)
  (h1:it∈X.ex\/X.s₀.heap.objs.size<=it) (h2:∀ x c,X.env.cells.lookup x=some c->c≠it) (h3:∀ p∈X.pn++pins,p.1≠it):Inv X pins σ H { s with heap:=h',toks:=t' }:=by
 have nit:∀ b u,H b=some u->b≠it:=fun b u e z=>by rw[z,hn]at e;cases e
 refine I.step (g':=s.gens) (d':=s.drawn) (ch:=[it]) (fun b hb=>?_) (fun b o _ _ hc e _=>k b o (fun z=>hc (by simp[z])) e) (fun b o _ _ hc e _=>⟨o.slots,k b o (fun z=>hc (by simp[z])) e⟩) (fun _ _ _ _ n=>n)
  (fun b o hc e=>⟨o,k b o (fun z=>hc (by simp[z])) e⟩) (fun _ _ e=>e) (fun _ _ _ e=>e) (fun b ps e=>⟨#[],by rw[e];simp⟩) (fun m hm=>?_) (fun b u e=>?_) I.bare
 ·have e:b=it:=by simpa using hb
  subst e;exact⟨h1,hL,h2,h3⟩
 ·obtain⟨o,es,ep,ho,r⟩:=hm;exact⟨o,es,ep,k _ o (Ne.symm hL) ho,r⟩
 ·refine(I.hok b u e).stay (fun c v hc q=>k c v ?_ q) (fun _ q=>q) fun _ _ q=>q;rcases hc with z|z
  ·rw[z];exact nit b u e
  ·exact nit c _ z
theorem Inv.tok (I:Inv X pins σ H s)(t:Nat):Inv X pins σ H { s with toks:=t }:=I.un (h':=s.heap) (t':=t) Un.refl I.hok
theorem Inv.kept {t':Nat}(I:Inv X pins σ H s)(k:∀ b u,s.heap.get? b=some u->h'.get? b=some u):Inv X pins σ H { s with heap:=h',toks:=t' }:=I.un (Un.kept k) (I.hok.kept k)
theorem Inv.laid {a:Addr}{o:HO}{t':Nat}(I:Inv X pins σ H s)(k:∀ b u,s.heap.get? b=some u->h'.get? b=some u)(hp:s.heap.objs.size<=a)(new:cG X.prog X.w (upd H a o) h' a o) :
  Inv X pins σ (upd H a o) { s with heap:=h',toks:=t' }:=I.un (Un.laid k hp (I.hok.fresh hp)) (I.hok.laid k hp new)
theorem Inv.write {x e:Addr}{o:HO}{t':Nat}(I:Inv X pins σ H s)(mu:Z1 (H x))(he:e=x\/H e=some (.own x))(k:∀ b u,b≠e->s.heap.get? b=some u->h'.get? b=some u)(heo:∃ u,h'.get? e=some u)
  (new:cG X.prog X.w (upd H x o) h' x o):Inv X pins σ (upd H x o) { s with heap:=h',toks:=t' }:=I.un (Un.write mu he k heo) (I.hok.write mu he k heo new)
theorem Inv.Pz {Su:List (Addr×Obj)}(I:Inv X pins σ H s)(h:∀ p∈Su,s.heap.get? p.1=some p.2/\H p.1=none/\p.1≠X.env.locals/\p.1 ∉ X.fs/\∀ v,p.2.data≠.cell v):Inv X Su σ H s :=
 ⟨I.ok,I.os,I.bare,I.base,I.loc,I.cell,I.free,I.oM,fun p hp=>(mem_append.mp hp).elim (fun z=>I.pin p (mem_append_left _ z)) (h p),I.hok,I.len⟩
theorem Lo {N:List Str}(hN:N.Nodup){i j:Nat}{x:Str}(a:N[i]? = some x)(b:N[j]? = some x):i=j:=by
 obtain⟨h1,e1⟩:=List.getElem?_eq_some_iff.mp a;obtain⟨h2,e2⟩:=List.getElem?_eq_some_iff.mp b;exact(List.getElem_inj hN).mp (e1.trans e2.symm)
theorem GR {M:Model}{A:Around}{E:Value->Shared->Prop}{i:Nat}{x:Str}{v:V}{u:Value}{Q:Unit->Shared->Prop}(I:Inv X pins σ H s)(hN:X.N.Nodup)(hi:X.N[i]? = some x)(hx:Loc X.env.scope x)(r:RelV v u)
  (h:∀ s',Inv X pins (σ.set i (some v)) H s'->(∃ a,Heap.SameBut a s.heap s'.heap/\(a=X.env.locals\/X.env.cells.lookup x=some a))->Q () s') (hf:X.fn x=true\/X.env.scope.names.lookup x=some .local:=by first|exact .inl rfl|exact .inr rfl|assumption):wpAny M A (storeName X.env x u) Q E s:=by
 obtain⟨m,hn,hl⟩:=id I.loc;have hcls:(X.env.scope.kind == .class||(X.env.scope.kind == .module&&X.env.locals != X.env.globals))=false:=by rw[I.ok.kind];rfl
 have afs:i<σ.length:=by rw[I.len];exact(List.getElem?_eq_some_iff.mp hi).1
 have Yi:=I.Yi;have tracked:∀{a:Addr} {h':Heap},(∃ o,s.heap.get? a=some o/\H a=none)->Heap.SameBut a s.heap h'->qG X.prog X.w H h':=fun {a h'} ha hs b ob e=>by
  obtain⟨_,_,hfree⟩:=ha;refine(I.hok b ob e).stay (fun c w' hc q=>(hs.2 c ?_).trans q) (fun _ q=>q) fun _ _ q=>q;rintro rfl;rcases hc with rfl|hc
  ·rw[hfree]at e;cases e
  ·rw[hfree]at hc;cases hc
 rcases hx with hk|hk
 ·refine wpAny_storeName_local hk hn (fun h' hn' hs=>?_) hcls;obtain⟨oL,_,_,hoL,_⟩:=id hn;refine h _ ⟨I.ok,I.os,I.bare,⟨fun b o e n hb hx=>?_,fun b o e n hb hx=>?_,I.base.free,fun b o e hx=>?_,I.base.tups,I.base.yW,I.base.BU⟩,⟨_,hn',fun j y v' e1 e2 e3=>?_⟩,fun y c e=>?_,I.free,I.oM,fun p hp=>?_,tracked ⟨oL,hoL,I.free⟩ hs,by simpa using I.len⟩ ⟨_,hs,.inl rfl⟩
  ·exact(hs.2 b (Nat.ne_of_lt (Nat.lt_of_lt_of_le (Heap.lt_size e) I.ok.above))).trans (I.base.keep b o e n hb hx)
  ·obtain⟨sl,e1⟩:=I.base.slot b o e n hb hx;exact⟨sl,(hs.2 b (Nat.ne_of_lt (Nat.lt_of_lt_of_le (Heap.lt_size e) I.ok.above))).trans e1⟩
  ·obtain⟨o',e1⟩:=I.base.there b o e hx;exact⟨o',(hs.2 b (Nat.ne_of_lt (Nat.lt_of_lt_of_le (Heap.lt_size e) I.ok.above))).trans e1⟩
  ·by_cases hj:j=i
   ·subst hj;rw[hi]at e1;cases e1;rw[List.getElem?_set_self afs]at e2;cases e2;exact⟨u,r,.inl ⟨hk,by simp⟩⟩
   ·rw[List.getElem?_set_ne (Ne.symm hj)]at e2;obtain⟨u',r',q⟩:=hl j y v' e1 e2 e3;refine⟨u',r',?_⟩;rcases q with ⟨k,e⟩|⟨k,c,e,z⟩
    ·refine .inl ⟨k,?_⟩;have:y≠x:=fun e=>hj (Lo hN e1 (e ▸ hi));simp[this,e]
    ·exact .inr ⟨k,c,e,z.sameBut hs (Yi y c e)⟩
  ·obtain⟨w',z⟩:=I.cell y c e;exact⟨w',z.sameBut hs (Yi y c e)⟩
  ·obtain⟨e,n,ne,nf,d⟩:=I.pin p hp;exact⟨(hs.2 p.1 ne).trans e,n,ne,nf,d⟩
 ·have hfn:X.fn x=true:=by
   rcases hf with z|z
   ·exact z
   ·rw[z]at hk;cases hk
  obtain⟨c,hc⟩:=I.ok.has x (.inl hk);obtain⟨w',z⟩:=I.cell x c hc;refine wpAny_storeName_cell I.ok.kind hk hc z (fun h' hc' hs=>?_);obtain⟨oc,hoc,ac6⟩:=id z;refine h { s with heap:=h' } ⟨I.ok,I.os,I.bare,⟨fun b o e n hb hx=>?_,fun b o e n hb hx=>?_,I.base.free,fun b o e hx=>?_,I.base.tups,I.base.yW,I.base.BU⟩,⟨m,hn.sameBut hs (Ne.symm (Yi x c hc)),fun j y v' e1 e2 e3=>?_⟩,fun y c' e=>?_,I.free,I.oM,fun p hp=>?_,tracked ⟨oc,hoc,I.oM x c hc⟩ hs,by simpa using I.len⟩ ⟨c,hs,.inr hc⟩
  ·exact(hs.2 b (Nat.ne_of_lt (Nat.lt_of_lt_of_le (Heap.lt_size e) (I.ok.cab x c hfn hc)))).trans (I.base.keep b o e n hb hx)
  ·obtain⟨sl,e1⟩:=I.base.slot b o e n hb hx;exact⟨sl,(hs.2 b (Nat.ne_of_lt (Nat.lt_of_lt_of_le (Heap.lt_size e) (I.ok.cab x c hfn hc)))).trans e1⟩
  ·obtain⟨o',e1⟩:=I.base.there b o e hx;exact⟨o',(hs.2 b (Nat.ne_of_lt (Nat.lt_of_lt_of_le (Heap.lt_size e) (I.ok.cab x c hfn hc)))).trans e1⟩
  ·by_cases hj:j=i
   ·subst hj;rw[hi]at e1;cases e1;rw[List.getElem?_set_self afs]at e2;cases e2;exact⟨u,r,.inr ⟨.inl hk,c,hc,hc'⟩⟩
   ·rw[List.getElem?_set_ne (Ne.symm hj)]at e2;obtain⟨u',r',q⟩:=hl j y v' e1 e2 e3;refine⟨u',r',?_⟩;rcases q with q|⟨k,c',e,z'⟩
    ·exact .inl q
    ·refine .inr ⟨k,c',e,z'.sameBut hs ?_⟩;rintro rfl;exact hj (Lo hN e1 (I.ok.inj _ _ _ e hc ▸ hi))
  ·by_cases hcc:c'=c
   ·subst hcc;exact⟨_,hc'⟩
   ·obtain⟨w2,z2⟩:=I.cell y c' e;exact⟨w2,z2.sameBut hs hcc⟩
  ·obtain⟨e,n,ne,nf,d⟩:=I.pin p hp;refine⟨(hs.2 p.1 ?_).trans e,n,ne,nf,d⟩;intro q;rw[q,hoc]at e;have q':oc=p.2:=Option.some.inj e;exact d w' (by rw[<-q'];exact ac6)
theorem tG {M:Model}{A:Around}{E:Value->Shared->Prop}{i:Nat}{x:Str}{v:V}{u:Value}{Q:Unit->Shared->Prop}(I:Inv X pins σ H s)(hN:X.N.Nodup)(hi:X.N[i]? = some x)(hx:Loc X.env.scope x)(r:RelV v u)
  (h:∀ s',Inv X pins (σ.set i (some v)) H s'->Q () s') (hf:X.fn x=true\/X.env.scope.names.lookup x=some .local:=by first|exact .inl rfl|exact .inr rfl|assumption):wpAny M A (storeName X.env x u) Q E s :=
 GR I hN hi hx r (fun s' I' _=>h s' I') hf
theorem Inv.call' {s':Shared}{ch:List Addr}(I:Inv X pins σ H s)(ho:s'.os=s.os)(u:Un (frs X.stack) ch H H' s.heap s'.heap)(hok:qG X.prog X.w H' s'.heap)(hg:AllBare s'.gens)
  (hch:∀ b∈ch,(b∈X.ex\/X.s₀.heap.objs.size<=b)/\b≠X.env.locals/\(∀ x c,X.env.cells.lookup x=some c->c≠b)/\∀ p∈X.pn++pins,p.1≠b):Inv X pins σ H' s':=by
 obtain⟨h',g',d',t',o'⟩:=s';have e:o'=s.os:=ho;subst e;exact I.call (g':=g') (t':=t') (d':=d') u hok hg hch
end
abbrev XK:=Value->Option Addr->Hp->Prop
abbrev St:=List (Option V)
abbrev VK:=V->Hp->Prop
abbrev TE:=St->Hp->VK->Prop
abbrev TT:=St->Hp->(Bool->Hp->Prop)->Prop
abbrev TA:=St->Hp->(List V->Hp->Prop)->Prop
structure Ends where
 nx:St->Hp->Prop
 rt:VK
 bk:St->Hp->Prop:=fun _ _=>False
 ct:St->Hp->Prop:=fun _ _=>False
abbrev TS:=Ends->St->Hp->Prop
def EP (X:Cx)(pins:List (Addr×Obj))(σ:St)(Q:VK)(u:Value)(s':Shared):Prop:=∃ v H',Inv X pins σ H' s'/\RelV v u/\Q v H'
def TP (X:Cx)(pins:List (Addr×Obj))(σ:St)(Q:Bool->Hp->Prop)(b:Bool)(s':Shared):Prop:=∃ H',Inv X pins σ H' s'/\Q b H'
def AP (X:Cx)(pins:List (Addr×Obj))(σ:St)(Q:List V->Hp->Prop)(us:List Value)(s':Shared):Prop:=∃ vs H',Inv X pins σ H' s'/\Vals vs us/\Q vs H'
def SP (X:Cx)(pins:List (Addr×Obj))(D:Ends)(f:Flow)(s':Shared):Prop :=
 match f with
 |.next=>∃ σ' H',Inv X pins σ' H' s'/\D.nx σ' H'
 |.brk=>∃ σ' H',Inv X pins σ' H' s'/\D.bk σ' H'
 |.cont=>∃ σ' H',Inv X pins σ' H' s'/\D.ct σ' H'
 |.ret u=>∃ v σ' H',Inv X pins σ' H' s'/\RelV v u/\D.rt v H'
def PE (X:Cx)(e:Expr)(t:TE):Prop :=
 ∀(pins:List (Addr×Obj)) (s:Shared) (σ:St) (H:Hp) (Q:VK),Inv X pins σ H s->t σ H Q->wpAny (model X.prog X.w) X.A (eval e X.env) (EP X pins σ Q) X.xe s
def PT (X:Cx)(e:Expr)(t:TT):Prop :=
 ∀(pins:List (Addr×Obj)) (s:Shared) (σ:St) (H:Hp) (Q:Bool->Hp->Prop),Inv X pins σ H s->t σ H Q->wpAny (model X.prog X.w) X.A (isTrue e X.env (eval e X.env)) (TP X pins σ Q) X.xe s
def PW (X:Cx)(e:Expr)(t:TT):Prop :=
 ∀(whole:Sem Value)(pins:List (Addr×Obj)) (s:Shared) (σ:St) (H:Hp) (Q:Bool->Hp->Prop),Inv X pins σ H s->t σ H Q->wpAny (model X.prog X.w) X.A (isTrue e X.env whole) (TP X pins σ Q) X.xe s
theorem PW.pt {X:Cx}{e:Expr}{t:TT}(h:PW X e t):PT X e t:=h _
def PA (X:Cx)(es:List Expr)(t:TA):Prop :=
 ∀(pos:Pos)(pins:List (Addr×Obj)) (s:Shared) (σ:St) (H:Hp) (Q:List V->Hp->Prop),Inv X pins σ H s->t σ H Q->wpAny (model X.prog X.w) X.A (spliced (backTo pos (starEach es X.env))) (AP X pins σ Q) X.xe s
def PS (X:Cx)(st:Stmt)(t:TS):Prop :=
 ∀(pins:List (Addr×Obj)) (s:Shared) (σ:St) (H:Hp) (D:Ends),Inv X pins σ H s->t D σ H->wpAny (model X.prog X.w) X.A (exec st X.env) (SP X pins D) X.xe s
def Lp (X:Cx)(st:List Stmt)(t:TS):Prop :=
 ∀(pins:List (Addr×Obj)) (s:Shared) (σ:St) (H:Hp) (D:Ends),Inv X pins σ H s->t D σ H->wpAny (model X.prog X.w) X.A (execs st X.env) (SP X pins D) X.xe s
theorem cV {α:Type}{t:Sem α}{Q Q':α->Shared->Prop}{M:Model}{A:Around}{E:Value->Shared->Prop}{s:Shared}(h:wpAny M A t Q E s)(hQ:∀ a s,Q a s->Q' a s):wpAny M A t Q' E s:=wpAny_mono h hQ fun _ _ x=>x
end L2
namespace L2
open PySem PySem.Spec PyProof.Rows
section
variable {X:Cx}
inductive Xg (i:Nat)(σ:St)(H:Hp)(Q:VK):Prop
 |mk (v:_) (qH:σ[i]? = some (some v)) (qI:Q v H):Xg i σ H Q
def Yj (i:Nat):TE:=fun σ H Q=>Xg i σ H Q
def tC (v:V):TE:=fun _ H Q=>Q v H
theorem Yk {i:Nat}{x:Str}{pos:Pos}(hN:X.N[i]? = some x)(hv:Vis X.env.scope x)(hd:(x==("__debug__":Str))=false:=by decide)(hcd:(x==("__classdict__":Str))=false:=by decide):PE X (.Name x pos) (Yj i):=by
 intro pins s σ H Q I h;obtain⟨v,e,h⟩:=h;obtain⟨m,hn,hl⟩:=I.loc;obtain⟨u,r,l⟩:=hl i x v hN e hv;have fin:EP X pins σ Q u s:=⟨v,H,I,r,h⟩;rcases l with ⟨hk,hm⟩|⟨hk,c,hc,hcell⟩
 ·exact wpAny_Name (wpAny_loadName_local I.ok.kind hk hn hm fin) hd
 ·rcases hk with hk|hk
  ·exact wpAny_Name (wpAny_loadName_cell I.ok.kind hk hc hcell fin) hd
  ·exact wpAny_Name (wpAny_loadName_free I.ok.kind hk hc hcell fin hcd) hd
theorem ag {i j pos}:PE X (.Constant (.int i) j pos) (tC (.int i)):=fun _ _ _ H _ I h=>wpAny_Constant_int ⟨.int i,H,I.tok _,⟨_,rfl⟩,h⟩
theorem Lq {b j pos}:PE X (.Constant (.bool b) j pos) (tC (.bl b)):=fun _ _ _ H _ I h=>Constant_bool ⟨.bl b,H,I,rfl,h⟩
theorem fi {j pos}:PE X (.Constant .none j pos) (tC .non):=fun _ _ _ H _ I h=>Constant_none ⟨.non,H,I,rfl,h⟩
theorem aI {x j pos}:PE X (.Constant (.str x) j pos) (tC (.str x)):=fun _ _ _ H _ I h=>Calls.Constant_str ⟨.str x,H,I.tok _,⟨_,rfl⟩,h⟩
def Gl (X:Cx)(x:Str):Prop:=X.env.kindOf x=some .globalImplicit
theorem PB {E:Value->Shared->Prop}{pins:List (Addr×Obj)}{s:Shared}{σ:St}{H:Hp}{x:Str}{u:Value}{pos:Pos}{Q:Value->Shared->Prop}(I:Inv X pins σ H s)(hg:Gl X x)(hm:X.mg x=some u)(h:Q u s)
  (hd:(x==("__debug__":Str))=false:=by decide):wpAny (model X.prog X.w) X.A (eval (.Name x pos) X.env) Q E s :=
 Calls.Name_function_global I.ok.kind hg (Calls.loadGlobal_global (by rw[I.ok.glob];exact I.mod.glob.keeps I.bk) hm h) hd
theorem vS {E:Value->Shared->Prop}{pins:List (Addr×Obj)}{s:Shared}{σ:St}{H:Hp}{x:Str}{u:Value}{pos:Pos}{Q:Value->Shared->Prop}(I:Inv X pins σ H s)(hg:Gl X x)(hm:X.mg x=none)(hv:bootBuiltins x=some u)(h:Q u s)
  (hn:x ≠ "__name__":=by decide) (hd:(x==("__debug__":Str))=false:=by decide):wpAny (model X.prog X.w) X.A (eval (.Name x pos) X.env) Q E s:=by
 obtain⟨mb,h1,h2⟩:=I.mod.blt;exact Calls.Name_function_global I.ok.kind hg (Calls.loadGlobal_builtin (by rw[I.ok.glob];exact I.mod.glob.keeps I.bk) hm (by rw[I.ok.blt];exact h1.keeps I.bk) ((h2 x hn).trans hv) h) hd
theorem b0 {x:Str}{v:V}{u:Value}{pos:Pos}(hg:Gl X x)(hm:X.mg x=some u)(r:RelV v u)(hd:(x==("__debug__":Str))=false:=by decide):PE X (.Name x pos) (tC v) :=
 fun _ _ _ H _ I h=>PB I hg hm ⟨v,H,I,r,h⟩ hd
theorem tH {x:Str}{v:V}{u:Value}{pos:Pos}(hg:Gl X x)(hm:X.mg x=none)(hv:bootBuiltins x=some u)(r:RelV v u)(hn:x ≠ "__name__":=by decide)(hd:(x==("__debug__":Str))=false:=by decide):PE X (.Name x pos) (tC v) :=
 fun _ _ _ H _ I h=>vS I hg hm hv ⟨v,H,I,r,h⟩ hn hd
variable {a b:Expr} {ta tb:TE} {pos:Pos}
def PC (X:Cx)(op:CmpOp)(a b:Expr)(t:TE):Prop :=
 ∀(pins:List (Addr×Obj)) (s:Shared) (σ:St) (H:Hp) (Q:VK),Inv X pins σ H s->t σ H Q ->
  wpAny (model X.prog X.w) X.A (eval a X.env) (fun v s₁=>wpAny (model X.prog X.w) X.A (eval b X.env) (fun u s₂=>wpAny (model X.prog X.w) X.A (compareOp op v u) (EP X pins σ Q) X.xe s₂) X.xe s₁) X.xe s
def tB (t:TE):TT:=fun σ H Q=>t σ H fun x H1=>∃ c,x=.bl c/\Q c H1
theorem Yl {op:CmpOp}{t:TE}(h:PC X op a b t)(h1:behindInMarks op b=false:=by first|exact Z4 _ (by decide) (by decide)|rfl):PT X (.Compare a [op] [b] pos) (tB t):=by
 intro pins s σ H Q I hw;refine wpAny_isTrue_Compare1 (cV (h pins s σ H _ I hw) fun v s1 h1=>cV h1 fun u s2 h2=>cV h2 fun c s3 ⟨x,H1,I1,r1,q1⟩=>?_) h1;obtain⟨d,rfl,q⟩:=q1;cases r1;exact wpAny_truthy_bool ⟨H1,I1,q⟩
theorem de {e:Expr}{t:TE}(h:PE X e t)(he:∀ whole,isTrue e X.env whole=(do let v <-whole;standAt e.pos;holding [v] (truthy v)):=by intro _;rfl):PT X e (tB t):=by
 intro pins s σ H Q I hw;refine isTrue_plain (cV (h pins s σ H _ I hw) fun v s1 ⟨x,H1,I1,r1,q1⟩=>?_) (he _);obtain⟨d,rfl,q⟩:=q1;cases r1;exact wpAny_truthy_bool ⟨H1,I1,q⟩
variable {tA tB':TT} {rest:List Expr}
def ac7 (t u:TT):TT:=fun σ H Q=>t σ H fun c H1=>if c=true then u σ H1 Q else Q false H1
def tOr (t u:TT):TT:=fun σ H Q=>t σ H fun c H1=>if c=true then Q true H1 else u σ H1 Q
def ac8 (t:TT):TT:=fun σ H Q=>t σ H fun c H1=>Q (!c) H1
theorem fe (ha:PT X a tA):PW X (.BoolOp .And [a] pos) tA:=by
 intro wh pins s σ H Q I h;refine isTrue_and (cV (ha pins s σ H Q I h) fun c s1 e=>?_);cases c with
 |true=>exact isTrue_and_nil e
 |false=>exact e
theorem jV (ha:PT X a tA):PW X (.BoolOp .Or [a] pos) tA:=by
 intro wh pins s σ H Q I h;refine isTrue_or (cV (ha pins s σ H Q I h) fun c s1 e=>?_);cases c with
 |false=>exact isTrue_or_nil e
 |true=>exact e
theorem cM (ha:PT X a tA)(hb:PW X (.BoolOp .And (b::rest) pos) tB'):PW X (.BoolOp .And (a::b::rest) pos) (ac7 tA tB'):=by
 intro wh pins s σ H Q I h;refine isTrue_and (cV (ha pins s σ H _ I h) fun c s1 ⟨H1,I1,q1⟩=>?_);cases c with
 |true=>exact hb wh pins s1 σ H1 Q I1 q1
 |false=>exact⟨H1,I1,q1⟩
theorem kX (ha:PT X a tA)(hb:PW X (.BoolOp .Or (b::rest) pos) tB'):PW X (.BoolOp .Or (a::b::rest) pos) (tOr tA tB'):=by
 intro wh pins s σ H Q I h;refine isTrue_or (cV (ha pins s σ H _ I h) fun c s1 ⟨H1,I1,q1⟩=>?_);cases c with
 |true=>exact⟨H1,I1,q1⟩
 |false=>exact hb wh pins s1 σ H1 Q I1 q1
theorem oN (ha:PT X a tA):PT X (.UnaryOp .Not a pos) (ac8 tA):=by
 intro pins s σ H Q I h;exact isTrue_not (ha pins s σ H (fun c H1=>Q (!c) H1) I h)
def Z5 (ta tb:TE):TE:=fun σ H Q=>ta σ H fun x H1=>∃ c,x=.bl c/\if c=true then tb σ H1 Q else Q (.bl false) H1
def ac9 (ta tb:TE):TE:=fun σ H Q=>ta σ H fun x H1=>∃ c,x=.bl c/\if c=true then Q (.bl true) H1 else tb σ H1 Q
def Z6 (ta:TE):TE:=fun σ H Q=>ta σ H fun x H1=>∃ c,x=.bl c/\Q (.bl (!c)) H1
theorem e9 {op}{t:TE}(h:PE X a t):PE X (.BoolOp op [a] pos) t:=fun pins s σ H Q I hw=>BoolOp_one (h pins s σ H Q I hw)
theorem mU (ha:PE X a ta)(hb:PE X (.BoolOp .And (b::rest) pos) tb):PE X (.BoolOp .And (a::b::rest) pos) (Z5 ta tb):=by
 intro pins s σ H Q I h;refine BoolOp_and (cV (ha pins s σ H _ I h) fun v s1 ⟨x,H1,I1,r1,q1⟩=>?_);obtain⟨c,rfl,q1⟩:=q1;cases r1;refine wpAny_truthy_bool ?_;cases c with
 |true=>exact hb pins s1 σ H1 Q I1 q1
 |false=>exact⟨.bl false,H1,I1,rfl,q1⟩
theorem Sv (ha:PE X a ta)(hb:PE X (.BoolOp .Or (b::rest) pos) tb):PE X (.BoolOp .Or (a::b::rest) pos) (ac9 ta tb):=by
 intro pins s σ H Q I h;refine BoolOp_or (cV (ha pins s σ H _ I h) fun v s1 ⟨x,H1,I1,r1,q1⟩=>?_);obtain⟨c,rfl,q1⟩:=q1;cases r1;refine wpAny_truthy_bool ?_;cases c with
 |false=>exact hb pins s1 σ H1 Q I1 q1
 |true=>exact⟨.bl true,H1,I1,rfl,q1⟩
theorem Ym (ha:PE X a ta):PE X (.UnaryOp .Not a pos) (Z6 ta):=by
 intro pins s σ H Q I h;refine UnaryOp_ (cV (ha pins s σ H _ I h) fun v s1 ⟨x,H1,I1,r1,q1⟩=>?_);obtain⟨c,rfl,q1⟩:=q1;cases r1;exact not_of (wpAny_truthy_bool ⟨.bl (!c),H1,I1,rfl,q1⟩)
def tIf (t:TT)(ta tb:TE):TE:=fun σ H Q=>t σ H fun c H1=>if c=true then ta σ H1 Q else tb σ H1 Q
theorem lQ {c:Expr}(hc:PT X c tA)(ha:PE X a ta)(hb:PE X b tb):PE X (.IfExp c a b pos) (tIf tA ta tb):=by
 intro pins s σ H Q I h;refine wpAny_IfExp (cV (hc pins s σ H _ I h) fun d s1 ⟨H1,I1,q1⟩=>?_);cases d with
 |true=>exact ha pins s1 σ H1 Q I1 q1
 |false=>exact hb pins s1 σ H1 Q I1 q1
end
end L2
namespace L2
open PySem PySem.Spec PyProof.Rows
def a6 (K:Frag)(H:Hp)(a:Addr)(xs:List V):Prop :=
 Rd H a (.lst xs) \/
  ∃(o:Obj)(its:Array Value)(n:Nat),K.lookup a=some o/\o.cls=.type "list"/\o.dict=none/\o.data=.seq its n/\its.size<=sizeLine/\Vals xs its.toList
def cz (K:Frag)(H:Hp)(a:Addr)(xs:List V):Prop :=
 Rd H a (.tup xs) \/
  ∃(o:Obj)(its:Array Value)(n:Nat),K.lookup a=some o/\o.cls=.type "tuple"/\o.data=.seq its n/\its.size<=sizeLine/\Vals xs its.toList
def ada:Value->Option V
 |.none=>some .non
 |.bool b=>some (.bl b)
 |.int i _=>some (.int i)
 |.str x _=>some (.str x)
 |.bytes b _=>some (.So b)
 |.float b _=>some (.flt b)
 |.ref a=>some (.ref a)
 |.type n=>some (.ty n)
 |_=>none
theorem RelV.abs {x:V}{u:Value}(r:RelV x u):ada u=some x:=by
 cases x with
 |non=>cases r;rfl
 |bl _=>cases r;rfl
 |int _=>obtain⟨t,rfl⟩:=r;rfl
 |str _=>obtain⟨t,rfl⟩:=r;rfl
 |So _=>obtain⟨t,rfl⟩:=r;rfl
 |flt _=>obtain⟨t,rfl⟩:=r;rfl
 |ref _=>cases r;rfl
 |ty _=>cases r;rfl
theorem RelV.inj {x y:V}{u:Value}(r:RelV x u)(q:RelV y u):x=y:=Option.some.inj (r.abs.symm.trans q.abs)
theorem Vals.inj:∀{xs ys:List V} {us:List Value},Vals xs us->Vals ys us->xs=ys
 |_,_,_,.nil,.nil=>rfl
 |_,_,_,.cons r t,.cons r' t'=>by rw[r.inj r',Vals.inj t t']
section
variable {X:Cx} {pins:List (Addr×Obj)} {σ:St} {H:Hp} {s:Shared} {a:Addr} {xs ys:List V}
theorem a6.of {K:Frag}(h:H a=some (.lst xs)):a6 K H a xs:=.inl (.inl h)
theorem cz.of {K:Frag}(h:H a=some (.tup xs)):cz K H a xs:=.inl (.inl h)
theorem Inv.list (I:Inv X pins σ H s)(h:a6 X.K H a xs):∃ its:List Value,Vals xs its/\PlainL s.heap a its.toArray/\xs.length<=sizeLine:=by
 rcases h with h|⟨o,its,n,hk,hc,hd,hs,hz,r⟩
 ·obtain⟨z,its,n,r,e⟩:=h.ok I.hok;exact⟨its,r,⟨_,n,e,rfl,rfl,rfl⟩,z⟩
 ·refine⟨its.toList,r,⟨o,n,I.Fl a o hk,hc,hd,by simpa using hs⟩,?_⟩;have e:=r.length;simp only [Array.length_toList]at e;omega
theorem Inv.tuple (I:Inv X pins σ H s)(h:cz X.K H a xs):∃ its:List Value,Vals xs its/\IsTup s.heap a its.toArray/\xs.length<=sizeLine:=by
 rcases h with h|⟨o,its,n,hk,hc,hs,hz,r⟩
 ·obtain⟨z,its,r,p⟩:=h.ok I.hok;exact⟨its,r,p,z⟩
 ·refine⟨its.toList,r,⟨o,I.Fl a o hk,hc,n,by simpa using hs⟩,?_⟩;have e:=r.length;simp only [Array.length_toList]at e;omega
theorem Inv.Lr (I:Inv X pins σ H s)(h:a6 X.K H a xs)(h':a6 X.K H a ys):xs=ys:=by
 obtain⟨its,r,⟨o,n,e,_,_,d⟩,_⟩:=I.list h;obtain⟨its',r',⟨o',n',e',_,_,d'⟩,_⟩:=I.list h';rw[e]at e';cases e';rw[d]at d'
 injection d' with d1 _
 have:its=its':=by simpa using congrArg Array.toList d1
 subst this;exact r.inj r'
theorem Inv.QJ (I:Inv X pins σ H s)(h:cz X.K H a xs)(h':cz X.K H a ys):xs=ys:=by
 obtain⟨its,r,⟨o,e,_,n,d⟩,_⟩:=I.tuple h;obtain⟨its',r',⟨o',e',_,n',d'⟩,_⟩:=I.tuple h';rw[e]at e';cases e';rw[d]at d'
 injection d' with d1 _
 have:its=its':=by simpa using congrArg Array.toList d1
 subst this;exact r.inj r'
end
abbrev Cx.wish (X:Cx)(E:Value->Shared->Prop):Cx:={ X with xe:=E }
abbrev Cx.Xh (X:Cx):Cx:=X.wish fun _ _=>False
theorem Cx.Ok.wish {X:Cx}(ok:X.Ok)(E:Value->Shared->Prop):(X.wish E).Ok :=
 ⟨ok.mod,ok.kind,ok.glob,ok.blt,ok.above,ok.inj,ok.has,ok.cab,ok.hd,ok.frames,ok.stk,ok.exf,ok.bs,ok.Vh,ok.Sr,ok.Ss,ok.BV,ok.ZK⟩
theorem Cx.Ok.oO {X:Cx}{E:Value->Shared->Prop}(ok:(X.wish E).Ok):X.Ok :=
 ⟨ok.mod,ok.kind,ok.glob,ok.blt,ok.above,ok.inj,ok.has,ok.cab,ok.hd,ok.frames,ok.stk,ok.exf,ok.bs,ok.Vh,ok.Sr,ok.Ss,ok.BV,ok.ZK⟩
section
variable {X:Cx} {pins:List (Addr×Obj)} {σ:St} {H:Hp} {s:Shared} {E:Value->Shared->Prop}
theorem Inv.wish (I:Inv X pins σ H s)(E:Value->Shared->Prop):Inv (X.wish E) pins σ H s:=⟨I.ok.wish E,I.os,I.bare,I.base,I.loc,I.cell,I.free,I.oM,I.pin,I.hok,I.len⟩
theorem Inv.oO (I:Inv (X.wish E) pins σ H s):Inv X pins σ H s:=⟨I.ok.oO,I.os,I.bare,I.base,I.loc,I.cell,I.free,I.oM,I.pin,I.hok,I.len⟩
theorem SP.oO {D:Ends}{f:Flow}{s':Shared}(h:SP (X.wish E) pins D f s'):SP X pins D f s':=by
 cases f with
 |next=>obtain⟨σ',H',I,q⟩:=h;exact⟨σ',H',I.oO,q⟩
 |brk=>obtain⟨σ',H',I,q⟩:=h;exact⟨σ',H',I.oO,q⟩
 |cont=>obtain⟨σ',H',I,q⟩:=h;exact⟨σ',H',I.oO,q⟩
 |ret u=>obtain⟨v,σ',H',I,r,q⟩:=h;exact⟨v,σ',H',I.oO,r,q⟩
theorem Lp.Xh {st:List Stmt}{t:TS}(h:Lp X.Xh st t):Lp X st t:=fun pins s σ H D I hw =>
 wpAny_mono (h pins s σ H D (I.wish _) hw) (fun _ _ q=>q.oO) fun _ _ z=>False.elim z
end
section
variable {X:Cx} {st:Stmt} {rest:List Stmt} {t u:TS} {e:Expr} {te:TE} {pos:Pos}
def Z7:TS:=fun D σ H=>D.nx σ H
def Vt (t u:TS):TS:=fun D σ H=>t { D with nx:=u D } σ H
theorem aF:Lp X [] Z7:=fun _ _ σ H _ I h=>wpAny_execs_nil ⟨σ,H,I,h⟩
theorem ah (h1:PS X st t)(h2:Lp X rest u):Lp X (st::rest) (Vt t u):=by
 intro pins s σ H D I h;refine wpAny_execs_cons (cV (h1 pins s σ H { D with nx:=u D } I h) fun f s1 q=>?_);cases f with
 |next =>
  obtain⟨σ',H',I',q⟩:=q;exact h2 pins s1 σ' H' D I' q
 |ret v=>exact q
 |brk=>exact q
 |cont=>exact q
theorem aq (h1:PS X st t):Lp X [st] t:=by
 intro pins s σ H D I h;refine wpAny_execs_cons (cV (h1 pins s σ H D I h) fun f s1 q=>?_);cases f with
 |next=>exact wpAny_execs_nil q
 |ret v=>exact q
 |brk=>exact q
 |cont=>exact q
theorem Inv.quiet {pins:List (Addr×Obj)}{σ:St}{H:Hp}{s:Shared}(I:Inv X pins σ H s):interactive X.env=false:=by simp[interactive,I.ok.kind]
def Z8 (te:TE):TS:=fun D σ H=>te σ H fun _ H1=>D.nx σ H1
theorem c5 (he:PE X e te)(hs:swapsWith e none pos.line X.env=pure false:=by rfl):PS X (.Expr e pos) (Z8 te):=by
 intro pins s σ H D I h;exact wpAny_Expr_any (cV (he pins s σ H _ I h) fun v s1 ⟨x,H1,I1,r1,q1⟩=>⟨σ,H1,I1,q1⟩) I.quiet hs
def adb (te:TE):TS:=fun D σ H=>te σ H D.rt
theorem aA (he:PE X e te):PS X (.Return (some e) pos) (adb te):=by
 intro pins s σ H D I h;exact wpAny_Return_some (cV (he pins s σ H _ I h) fun v s1 ⟨x,H1,I1,r1,q1⟩=>⟨x,σ,H1,I1,r1,q1⟩)
def ade (c:TT)(t u:TS):TS:=fun D σ H=>c σ H fun b H1=>if b=true then t D σ H1 else u D σ H1
theorem aX {c:Expr}{a b:List Stmt}{tc:TT}(hc:PT X c tc)(ha:Lp X a t)(hb:Lp X b u):PS X (.If c a b pos) (ade tc t u):=by
 intro pins s σ H D I h;refine wpAny_If (cV (hc pins s σ H _ I h) fun d s1 ⟨H1,I1,q1⟩=>?_);cases d with
 |true=>exact ha pins s1 σ H1 D I1 q1
 |false=>exact hb pins s1 σ H1 D I1 q1
end
abbrev TG:=V->St->Hp->(St->Hp->Prop)->Prop
abbrev Vu:=List V->St->Hp->(St->Hp->Prop)->Prop
def PG (X:Cx)(target:Expr)(t:TG):Prop :=
 ∀(pins:List (Addr×Obj)) (s:Shared) (σ:St) (H:Hp) (v:V) (u:Value) (Q:St->Hp->Prop),Inv X pins σ H s->RelV v u->t v σ H Q ->
  wpAny (model X.prog X.w) X.A (assign target X.env u) (fun _ s'=>∃ σ' H',Inv X pins σ' H' s'/\Q σ' H') X.xe s
def PGs (X:Cx)(ts:List Expr)(t:Vu):Prop :=
 ∀(pins:List (Addr×Obj)) (s:Shared) (σ:St) (H:Hp) (vs:List V) (us:List Value) (Q:St->Hp->Prop),Inv X pins σ H s->Vals vs us->t vs σ H Q ->
  wpAny (model X.prog X.w) X.A (assignInOrder ((assignEach ts X.env).map (·.2)) us) (fun _ s'=>∃ σ' H',Inv X pins σ' H' s'/\Q σ' H') X.xe s
abbrev Yn:=V->V->V->Hp->(Hp->Prop)->Prop
def Z9 (X:Cx)(t:Yn):Prop :=
 ∀(pins:List (Addr×Obj)) (s:Shared) (σ:St) (H:Hp) (o i v:V) (ov iv u:Value) (Q:Hp->Prop),Inv X pins σ H s->RelV o ov->RelV i iv->RelV v u->t o i v H Q ->
  wpAny (model X.prog X.w) X.A (setItem ov iv u) (fun _ s'=>∃ H',Inv X pins σ H' s'/\Q H') X.xe s
section
variable {X:Cx} {pos:Pos}
def Ls (i:Nat):TG:=fun v σ H Q=>Q (σ.set i (some v)) H
theorem aK {i:Nat}{x:Str}(hN:X.N.Nodup)(hi:X.N[i]? = some x)(hx:Loc X.env.scope x)(hf:X.fn x=true\/X.env.scope.names.lookup x=some .local:=by first|exact .inl rfl|exact .inr rfl|assumption):PG X (.Name x pos) (Ls i):=by
 intro pins s σ H v u Q I r h;exact wpAny_assign_Name (tG I hN hi hx r (fun s' I'=>⟨_,H,I',h⟩) hf)
def adf:Vu:=fun vs σ H Q=>vs=[]/\Q σ H
inductive Sw (t:TG)(u:Vu)(vs:List V)(σ:St)(H:Hp)(Q:(St->Hp->Prop)):Prop
 |mk (v:_) (r:_) (qH:vs=v::r) (qI:t v σ H fun σ' H'=>u r σ' H' Q):Sw t u vs σ H Q
def aaa (t:TG)(u:Vu):Vu:=fun vs σ H Q=>Sw t u vs σ H Q
theorem fN:PGs X [] adf:=by
 intro pins s σ H vs us Q I r h;obtain⟨e,h⟩:=h;subst e;cases r;exact assignInOrder_nil ⟨σ,H,I,h⟩
theorem aR {e:Expr}{es:List Expr}{t:TG}{u:Vu}(h1:PG X e t)(h2:PGs X es u)
  (hs:(assignEach (e::es) X.env).map (·.2)=assign e X.env::(assignEach es X.env).map (·.2):=by rfl):PGs X (e::es) (aaa t u):=by
 intro pins s σ H vs us Q I r h;obtain⟨v,vr,e1,h⟩:=h;subst e1;cases r with
 |cons r rr =>
  rw[hs];refine assignInOrder_cons (cV (h1 pins s σ H _ _ _ I r h) fun _ s1 ⟨σ1,H1,I1,q1⟩=>?_);exact h2 pins s1 σ1 H1 _ _ Q I1 rr q1
inductive Xi (K:Frag)(n:Nat)(t:Vu)(v:V)(σ:St)(H:Hp)(Q:(St->Hp->Prop)):Prop
 |mk (a:_) (xs:_) (qH:v=.ref a) (qI:cz K H a xs) (AY:xs.length=n) (MZ:t xs σ H Q):Xi K n t v σ H Q
def adg (K:Frag)(n:Nat)(t:Vu):TG:=fun v σ H Q=>Xi K n t v σ H Q
theorem iB {es:List Expr}{k:Nat}{t:Vu}{n:Nat}(hc:X.calm=true)(h:PGs X es t)
  (hn:(assignEach es X.env).length=n:=by rfl) (hst:(assignEach es X.env).findIdx? (·.1)=none:=by rfl):PG X (.Tuple es k pos) (adg X.K n t):=by
 intro pins s σ H v u Q I r hw;obtain⟨a,xs,e1,hq,hl,hw⟩:=hw;subst e1;cases r;obtain⟨its,rv,ht,hz⟩:=I.tuple hq;refine assign_Tuple_tuple (I.ok.hd hc) ht (by simp[hn,<-hl,rv.length]) hst fun h' hx=>?_;have I1:Inv X pins σ H { s with heap:=h' }:=I.kept (t':=s.toks) fun b o e=>hx b o (Nat.ne_of_lt (Heap.lt_size e)) e;exact h pins _ σ H xs _ Q I1 (by simpa using rv) hw
def adh (to ti:TE)(t:Yn):TG:=fun v σ H Q=>to σ H fun o H1=>ti σ H1 fun i H2=>t o i v H2 fun H3=>Q σ H3
theorem M5 {o i:Expr}{to ti:TE}{t:Yn}(ho:PE X o to)(hi:PE X i ti)(hs:Z9 X t)
  (ha:∀ v,assign (.Subscript o i pos) X.env v=(do
   let ov <-holding [v] (eval o X.env)
   let iv <-holding [v,ov] (eval i X.env)
   standAt pos
   holding [v,ov,iv] (setItem ov iv v)
   release [v,ov,iv] []):=by intro _;rfl):PG X (.Subscript o i pos) (adh to ti t):=by
 intro pins s σ H v u Q I r h;rw[ha];refine wpAny_bind (wpAny_holding (cV (ho pins s σ H _ I h) fun ov s1 ⟨x,H1,I1,r1,q1⟩=>?_));refine wpAny_bind (wpAny_holding (cV (hi pins s1 σ H1 _ I1 q1) fun iv s2 ⟨y,H2,I2,r2,q2⟩=>?_));refine wpAny_bind (wpAny_standAt (wpAny_bind (wpAny_holding (cV (hs pins s2 σ H2 x y v ov iv u _ I2 r1 r2 r q2) fun _ s3 ⟨H3,I3,q3⟩=>?_))));exact wpAny_release ⟨σ,H3,I3,q3⟩
def Yo (te:TE)(g:TG):TS:=fun D σ H=>te σ H fun x H1=>g x σ H1 D.nx
theorem oP {tg e:Expr}{te:TE}{g:TG}(he:PE X e te)(hg:PG X tg g)(hs:swapsWithSole [tg] e pos.line X.env=pure false:=by rfl)(hw:swappedStores [tg] e X.env=pure none:=by rfl)
  (h1:(assignEach [tg] X.env).map (·.2)=[assign tg X.env]:=by rfl):PS X (.Assign [tg] e pos) (Yo te g):=by
 intro pins s σ H D I h;refine wpAny_Assign_stores (cV (he pins s σ H _ I h) fun v s1 ⟨x,H1,I1,r1,q1⟩=>?_) hs hw;rw[h1];exact cV (hg pins s1 σ H1 x v _ I1 r1 q1) fun _ s2 q=>q
theorem aD {i:Nat}{x:Str}{e:Expr}{te:TE}{pos':Pos}(hN:X.N.Nodup)(hi:X.N[i]? = some x)(hx:Loc X.env.scope x)(he:PE X e te)(hs:swapsWith e (some (.Name x pos')) pos.line X.env=pure false:=by rfl)(hf:X.fn x=true\/X.env.scope.names.lookup x=some .local:=by first|exact .inl rfl|exact .inr rfl|assumption) :
  PS X (.Assign [.Name x pos'] e pos) (Yo te (Ls i)):=by
 intro pins s σ H D I h;refine wpAny_Assign_Name (cV (he pins s σ H _ I h) fun v s1 ⟨y,H1,I1,r1,q1⟩=>?_) hs;exact tG I1 hN hi hx r1 (fun s2 I2=>⟨_,H1,I2,q1⟩) hf
def adi (i j:Nat)(ta:TA):TS:=fun D σ H=>ta σ H fun vs H1=>∃ v w,vs=[v,w]/\D.nx ((σ.set i (some v)).set j (some w)) H1
theorem Yp {i j:Nat}{x y:Str}{a b:Expr}{ta:TA}{px py pt:Pos}{kt k2 pt2}(hc:X.calm=true)(hN:X.N.Nodup)(hi:X.N[i]? = some x)(hj:X.N[j]? = some y)(hij:i≠j)
  (hx:X.env.scope.names.lookup x=some .local) (hy:X.env.scope.names.lookup y=some .local) (ha:PA X [a,b] ta)
  (hw:swappedStores [.Tuple [.Name x px,.Name y py] kt pt] (.Tuple [a,b] k2 pt2) X.env=pure (some [x,y]))
  (hs:swapsWithSole [.Tuple [.Name x px,.Name y py] kt pt] (.Tuple [a,b] k2 pt2) pos.line X.env=pure false:=by rfl) :
  PS X (.Assign [.Tuple [.Name x px,.Name y py] kt pt] (.Tuple [a,b] k2 pt2) pos) (adi i j ta):=by
 intro pins s σ H D I h;rw[exec_Assign_arm];refine wpAny_bind (wpAny_standAt ?_);rw[hs];refine wpAny_bind (wpAny_pure ?_);rw[if_neg (by decide)];refine wpAny_bind (Tuple_ (cV (ha _ pins s σ H _ I h) fun us s1 ⟨vs,H1,I1,r1,q1⟩=>?_));obtain⟨v,w,e1,q1⟩:=q1;subst e1;obtain⟨u1,u2,rfl,rv,Sx⟩:∃ u1 u2,us=[u1,u2]/\RelV v u1/\RelV w u2:=by
  cases r1 with
  |cons p q =>
   cases q with
   |cons p' q' =>
    cases q';exact⟨_,_,rfl,p,p'⟩
 refine wpAny_newObj_type ?_ (by show 2<=sizeLine;decide);have I2:Inv X pins σ H1 { s1 with heap:=s1.heap.push { cls:=.type "tuple",data:=.seq [u1,u2].toArray } }:=I1.kept (t':=s1.toks) fun b o e=>Heap.get?_push_of_some _ e;rw[hw];refine wpAny_bind (wpAny_pure ?_);show wpAny (model X.prog X.w) X.A (do rule "assign.swapped-stores";let items <-unpackItems (.ref s1.heap.objs.size) 2 none;assignInOrder [fun v=>bindName X.env y v,fun v=>bindName X.env x v] items.reverse;pure Flow.next) _ _ _;refine wpAny_bind (wpAny_rule (wpAny_bind (unpackItems_tuple (items:=#[u1,u2]) (I.ok.hd hc) (IsTup.new s1.heap _) fun h' hx'=>?_)));have I3:=I2.kept (h':=h') (t':=s1.toks) fun b o e=>hx' b o (Nat.ne_of_lt (Heap.lt_size e)) e;show wpAny _ _ (assignInOrder [fun v=>bindName X.env y v,fun v=>bindName X.env x v] [u2,u1] >>= fun _=>pure Flow.next) _ _ _;refine wpAny_bind (assignInOrder_cons (wpAny_bindName (tG I3 hN hj (.inl hy) Sx (fun s2 I4=>?_) (.inr hy))));refine assignInOrder_cons (wpAny_bindName (tG I4 hN hi (.inl hx) rv (fun s3 I5=>assignInOrder_nil (wpAny_pure ?_)) (.inr hx)));rw[List.set_comm _ _ (Ne.symm hij)]at I5;exact⟨_,H1,I5,q1⟩
end
section
variable {X:Cx} {pos:Pos}
def Yq (c:TT)(tb:TS):TS:=fun D σ H=>∃ W:Nat->St->Hp->Prop,(∃ m,W m σ H)/\∀ m σ H,W m σ H ->
 c σ H fun b H1=>if b=true then ∃ N:St->Hp->Prop,(∀ σ' H',N σ' H'->∃ m',m'<m/\W m' σ' H')/\tb { D with nx:=N,ct:=N,bk:=D.nx } σ H1 else D.nx σ H1
theorem BW {c:Expr}{body:List Stmt}{tc:TT}{tb:TS}(hp:PassesOwn (model X.prog X.w) X.A X.env X.xe)(hc:PT X c tc)(hb:Lp X body tb):PS X (.While c body [] pos) (Yq tc tb):=by
 intro pins s σ H D I h;obtain⟨W,⟨m0,w0⟩,turn⟩:=h;refine wpAny_While (codeAny_whileLoop (fun n s'=>∃ σ' H',Inv X pins σ' H' s'/\W n σ' H') ?_ m0 ⟨σ,H,I,w0⟩);rintro n s1 ⟨σ1,H1,I1,w1⟩;refine wpAny_passesOwn hp (cV (hc pins s1 σ1 H1 _ I1 (turn n σ1 H1 w1)) fun b s2 ⟨H2,I2,q2⟩=>?_);cases b with
 |true =>
  obtain⟨N,hN,q2⟩:=q2;rw[if_pos rfl];refine wpAny_passesOwn hp (cV (hb pins s2 σ1 H2 _ I2 q2) fun f s3 q3=>?_);cases f with
  |next =>
   obtain⟨σ3,H3,I3,n3⟩:=q3;obtain⟨m',hm,w3⟩:=hN σ3 H3 n3;exact⟨m',hm,σ3,H3,I3,w3⟩
  |cont =>
   obtain⟨σ3,H3,I3,n3⟩:=q3;obtain⟨m',hm,w3⟩:=hN σ3 H3 n3;exact⟨m',hm,σ3,H3,I3,w3⟩
  |brk=>exact q3
  |ret v=>exact q3
 |false =>
  rw[if_neg Bool.false_ne_true];exact wpAny_execs_nil ⟨σ1,H2,I2,q2⟩
end
structure It where
 go:Nat->Hp->Prop
 Vi:Nat->Hp->V->Hp->Prop
 stop:Nat->Hp->Prop
def qE (X:Cx)(pins:List (Addr×Obj))(H:Hp)(b:Addr):Prop :=
 H b=none/\b≠X.env.locals/\b ∉ X.fs/\(b∈X.ex\/X.s₀.heap.objs.size<=b)/\(∀ x c,X.env.cells.lookup x=some c->c≠b)/\∀ p∈X.pn++pins,p.1≠b
theorem Inv.QK {X:Cx}{pins:List (Addr×Obj)}{σ:St}{H H':Hp}{s:Shared}{b:Addr}(I:Inv X pins σ H s)(hb:s.heap.objs.size<=b)(hn:H' b=none):qE X pins H' b:=by
 refine⟨hn,Nat.ne_of_gt (Nat.lt_of_lt_of_le I.lt hb),I.ac5 hb,.inr (Nat.le_trans I.sz hb),fun x c e z=>?_,fun p hp z=>?_⟩
 ·obtain⟨v,q⟩:=I.cell x c e;exact absurd (Nat.lt_of_lt_of_le q.lt (by rw[z];exact hb)) (Nat.lt_irrefl _)
 ·exact absurd (Nat.lt_of_lt_of_le (Heap.lt_size (I.pin p hp).1) (by rw[z];exact hb)) (Nat.lt_irrefl _)
structure Turn (P:Program)(w:World)(K:Frag)(tg:Expr)(J:It)(fp:List Addr)(it:Addr)(tn:Nat->Heap->Prop):Prop where
 mem:it∈fp
 obj:∀ i h,tn i h->∀ b∈fp,∃ o,h.get? b=some o/\∀ v,o.data≠.cell v
 keep:∀ i h h',tn i h->(∀ b∈fp,∀ o,h.get? b=some o->h'.get? b=some o)->tn i h'
 item:∀(X:Cx),X.prog=P->X.w=w->X.K=K->X.calm=true->∀(i:Nat)(pins:List (Addr×Obj)) (s:Shared) (σ:St) (H:Hp) (E:Value->Shared->Prop),Inv X pins σ H s->(∀ b∈fp,qE X pins H b)->tn i s.heap->J.go i H ->
  wpAny (model P w) X.A (pyNext (.ref it)) (fun r s1=>∃ u,r=some u /\
   wpAny (model P w) X.A (letOwnedTupleGo tg (.ref it) u) (fun _ s2=>∃ x H',Inv X pins σ H' s2/\RelV x u/\J.Vi i H x H'/\tn (i+1) s2.heap/\∀ b∈fp,H' b=none) E s1) E s
 done:∀(X:Cx),X.prog=P->X.w=w->X.K=K->X.calm=true->∀(i:Nat)(pins:List (Addr×Obj)) (s:Shared) (σ:St) (H:Hp) (E:Value->Shared->Prop),Inv X pins σ H s->(∀ b∈fp,qE X pins H b)->tn i s.heap->J.stop i H ->
  wpAny (model P w) X.A (pyNext (.ref it)) (fun r s1=>r=none/\Inv X pins σ H s1) E s
 self:∀(A:Around)(i:Nat)(s:Shared)(Q:Value->Shared->Prop)(E:Value->Shared->Prop),tn i s.heap->Q (.ref it) s->wpAny (model P w) A (pyIter (.ref it)) Q E s
abbrev TI:=St->Hp->(It->Hp->Prop)->Prop
def PIE (X:Cx)(pins:List (Addr×Obj))(σ:St)(tg:Expr)(R:It->Hp->Prop)(itv:Value)(s2:Shared):Prop :=
 ∃(it:Addr)(fp:List Addr)(tn:Nat->Heap->Prop)(J:It)(H':Hp),itv=.ref it/\Inv X pins σ H' s2/\Turn X.prog X.w X.K tg J fp it tn/\tn 0 s2.heap/\(∀ b∈fp,qE X pins H' b)/\R J H'
def PI (X:Cx)(tg iter:Expr)(wi:TI):Prop :=
 ∀(pins:List (Addr×Obj)) (s:Shared) (σ:St) (H:Hp) (R:It->Hp->Prop),Inv X pins σ H s->wi σ H R ->
  wpAny (model X.prog X.w) X.A (eval iter X.env) (fun v s1=>wpAny (model X.prog X.w) X.A (pyIter v) (PIE X pins σ tg R) X.xe s1) X.xe s
theorem Sy {M:Model}{A:Around}{E:Value->Shared->Prop}{s:Shared}{tg:Expr}{it:Addr}{u:Value}{o:Obj}{n:String}{vs:Array Value}{Q:Unit->Shared->Prop}(ho:s.heap.get? it=some o)(hc:o.cls=.type n)(hd:o.data=.fields vs)
  (hn:["enumerate","zip","dict_itemiterator","dict_reverseitemiterator","odict_iterator","itertools.zip_longest","itertools.pairwise"].contains n=false) (hQ:Q () s):wpAny M A (letOwnedTupleGo tg (.ref it) u) Q E s:=by
 unfold letOwnedTupleGo;cases tg <;> first
  |exact wpAny_pure hQ
  |(cases u <;> first
    |exact wpAny_pure hQ
    |(refine wpAny_bind (wpAny_load ho ?_);rw[hc,hd];show wpAny M A (if(["enumerate","zip","dict_itemiterator","dict_reverseitemiterator","odict_iterator","itertools.zip_longest","itertools.pairwise"].contains n&&vs[0]? == some (rawInt _))=true then _ else _) Q E s;rw[if_neg (by intro h;rw[hn,Bool.false_and]at h;cases h)];exact wpAny_pure hQ))
def ZL (K:Frag)(a:Addr):It :=
 ⟨fun i H=>∃ xs x,a6 K H a xs/\xs[i]? = some x,fun i H x H'=>H'=H/\∀ xs,a6 K H a xs->xs[i]? = some x,fun i H=>∃ xs,a6 K H a xs/\xs.length<=i⟩
def ZM (K:Frag)(a:Addr):It :=
 ⟨fun i H=>∃ xs x,cz K H a xs/\xs[i]? = some x,fun i H x H'=>H'=H/\∀ xs,cz K H a xs->xs[i]? = some x,fun i H=>∃ xs,cz K H a xs/\xs.length<=i⟩
def Xj (lo:Int)(n:Nat):It:=⟨fun i _=>i<n,fun i H x H'=>H'=H/\x=.int (lo+i),fun i _=>n<=i⟩
theorem QL {P:Program}{w:World}{K:Frag}{tg:Expr}(a it:Addr):Turn P w K tg (ZL K a) [it] it (fun i h=>h.IsListIter it a i) where
 mem:=by simp
 obj:=fun i h st b hb=>by
  have e:b=it:=by simpa using hb
  subst e;obtain⟨o,e,c,d⟩:=st;exact⟨o,e,fun v z=>by rw[d]at z;cases z⟩
 keep:=fun i h h' st k=>st.at fun o e=>k it (by simp) o e
 item:=by
  intro X hP hw hK hc i pins s σ H E I hf st hg;subst hP hw hK;obtain⟨xs,x,hq,hx⟩:=hg;obtain⟨its,rv,p,hz⟩:=I.list hq;obtain⟨u,hu,ru⟩:=rv.get hx;obtain⟨f0,f1,f2,f3,f4,f5⟩:=hf it (by simp);refine wpAny_pyNext_list_item st p.isList (x:=u) (by simpa using hu) fun h' st' sb=>?_;have I1:Inv X pins σ H { s with heap:=h' }:=I.turned (t':=s.toks) (fun b o hb e=>(sb.2 b hb).trans e) f0 f1 f3 f4 f5;obtain⟨o,e,c,d⟩:=id st';exact⟨u,rfl,Sy (s:={ s with heap:=h' }) e c d (by decide) ⟨x,H,I1,ru,⟨rfl,fun ys hy=>by rw[I.Lr hy hq];exact hx⟩,st',fun b hb=>(hf b hb).1⟩⟩
 done:=by
  intro X hP hw hK hc i pins s σ H E I hf st hg;subst hP hw hK;obtain⟨xs,hq,hx⟩:=hg;obtain⟨its,rv,p,hz⟩:=I.list hq;obtain⟨f0,f1,f2,f3,f4,f5⟩:=hf it (by simp);have hl:=rv.length;exact wpAny_pyNext_list_end (I.ok.hd hc) st p.isList (by simp;omega) fun h' eb=>⟨rfl,I.turned (t':=s.toks) (fun b o hb e=>eb b o hb e) f0 f1 f3 f4 f5⟩
 self:=fun _ _ _ _ _ st h=>wpAny_pyIter_listiter st h
theorem M6 {P:Program}{w:World}{K:Frag}{tg:Expr}(a it:Addr):Turn P w K tg (ZM K a) [it] it (fun i h=>h.IsTupleIter it a i) where
 mem:=by simp
 obj:=fun i h st b hb=>by
  have e:b=it:=by simpa using hb
  subst e;obtain⟨o,e,c,d⟩:=st;exact⟨o,e,fun v z=>by rw[d]at z;cases z⟩
 keep:=fun i h h' st k=>st.at fun o e=>k it (by simp) o e
 item:=by
  intro X hP hw hK hc i pins s σ H E I hf st hg;subst hP hw hK;obtain⟨xs,x,hq,hx⟩:=hg;obtain⟨its,rv,p,hz⟩:=I.tuple hq;obtain⟨u,hu,ru⟩:=rv.get hx;obtain⟨f0,f1,f2,f3,f4,f5⟩:=hf it (by simp);refine wpAny_pyNext_tuple_item st (show s.heap.IsTuple a its.toArray from p) (x:=u) (by simpa using hu) fun h' st' sb=>?_;have I1:Inv X pins σ H { s with heap:=h' }:=I.turned (t':=s.toks) (fun b o hb e=>(sb.2 b hb).trans e) f0 f1 f3 f4 f5;obtain⟨o,e,c,d⟩:=id st';exact⟨u,rfl,Sy (s:={ s with heap:=h' }) e c d (by decide) ⟨x,H,I1,ru,⟨rfl,fun ys hy=>by rw[I.QJ hy hq];exact hx⟩,st',fun b hb=>(hf b hb).1⟩⟩
 done:=by
  intro X hP hw hK hc i pins s σ H E I hf st hg;subst hP hw hK;obtain⟨xs,hq,hx⟩:=hg;obtain⟨its,rv,p,hz⟩:=I.tuple hq;obtain⟨f0,f1,f2,f3,f4,f5⟩:=hf it (by simp);have hl:=rv.length;exact wpAny_pyNext_tuple_end (I.ok.hd hc) st (show s.heap.IsTuple a its.toArray from p) (by simp;omega) fun h' eb=>⟨rfl,I.turned (t':=s.toks) (fun b o hb e=>eb b o hb e) f0 f1 f3 f4 f5⟩
 self:=fun _ _ _ _ _ st h=>wpAny_pyIter_tupleiter st h
theorem M7 {P:Program}{w:World}{K:Frag}{tg:Expr}(it:Addr)(lo:Int)(n:Nat):Turn P w K tg (Xj lo n) [it] it (fun i h=>IsRangeIter h it (lo+(i:Nat) * 1) ((n:Int)-(i:Nat)) 1) where
 mem:=by simp
 obj:=fun i h st b hb=>by
  have e:b=it:=by simpa using hb
  subst e;exact⟨_,st,fun v z=>by
   have z':Data.fields _=Data.cell v:=z;cases z'⟩
 keep:=fun i h h' st k=>k it (by simp) _ st
 item:=by
  intro X hP hw hK hc i pins s σ H E I hf st hg;subst hP hw hK;obtain⟨f0,f1,f2,f3,f4,f5⟩:=hf it (by simp);have W:=Walks.range (prog:=X.prog) (w:=X.w) (I.ok.hd hc) it lo 1 n;refine W.item i s _ _ hg st fun v h' tk hv st' kk=>?_;obtain⟨t,rfl⟩:=hv;have I1:Inv X pins σ H { s with heap:=h',toks:=tk }:=I.turned (fun b o hb e=>kk b o (by simpa using hb) e) f0 f1 f3 f4 f5;refine⟨_,rfl,Sy (s:={ s with heap:=h',toks:=tk }) (n:="range_iterator") st' rfl rfl (by decide) ⟨.int (lo+i),H,I1,⟨t,?_⟩,⟨rfl,rfl⟩,st',fun b hb=>(hf b hb).1⟩⟩;rw[Int.mul_one]
 done:=by
  intro X hP hw hK hc i pins s σ H E I hf st hg;subst hP hw hK;obtain⟨f0,f1,f2,f3,f4,f5⟩:=hf it (by simp);exact wpAny_pyNext_range_end (I.ok.hd hc) st (by have:n<=i:=hg;omega) fun h' eb=>⟨rfl,I.turned (t':=s.toks) (fun b o hb e=>eb b o hb e) f0 f1 f3 f4 f5⟩
 self:=fun _ _ _ _ _ st h=>wpAny_pyIter_rangeiter st h
end L2
namespace L2
open PySem PySem.Spec PyProof.Rows
section
variable {X:Cx} {tg:Expr}
inductive Sz (K:Frag)(R:(It->Hp->Prop))(x:V)(H1:Hp):Prop
 |mk (a:_) (qH:x=.ref a) (qI:(∃ xs,a6 K H1 a xs)/\R (ZL K a) H1):Sz K R x H1
def aab (K:Frag)(tl:TE):TI:=fun σ H R=>tl σ H fun x H1=>Sz K R x H1
inductive Xk (K:Frag)(R:(It->Hp->Prop))(x:V)(H1:Hp):Prop
 |mk (a:_) (qH:x=.ref a) (qI:(∃ xs,cz K H1 a xs)/\R (ZM K a) H1):Xk K R x H1
def adk (K:Frag)(tl:TE):TI:=fun σ H R=>tl σ H fun x H1=>Xk K R x H1
theorem mV {l:Expr}{tl:TE}(hl:PE X l tl):PI X tg l (aab X.K tl):=by
 intro pins s σ H R I h;refine cV (hl pins s σ H _ I h) fun v s1 ⟨x,H1,I1,r1,q1⟩=>?_;obtain⟨a,e,⟨xs,hq⟩,q⟩:=q1;subst e;cases r1;obtain⟨its,rv,p,hz⟩:=I1.list hq;refine wpAny_pyIter_list p.isList ?_;refine⟨s1.heap.objs.size,[s1.heap.objs.size],_,_,H1,rfl,I1.kept (t':=s1.toks) fun b o e=>Heap.get?_push_of_some _ e,QL a _,⟨_,Heap.get?_push_size _ rfl,rfl,rfl⟩,fun b hb=>?_,q⟩;have e:b=s1.heap.objs.size:=by simpa using hb
 subst e;exact I1.QK (Nat.le_refl _) (I1.hok.fresh (Nat.le_refl _))
theorem SA {l:Expr}{tl:TE}(hl:PE X l tl):PI X tg l (adk X.K tl):=by
 intro pins s σ H R I h;refine cV (hl pins s σ H _ I h) fun v s1 ⟨x,H1,I1,r1,q1⟩=>?_;obtain⟨a,e,⟨xs,hq⟩,q⟩:=q1;subst e;cases r1;obtain⟨its,rv,p,hz⟩:=I1.tuple hq;refine wpAny_pyIter_tuple (show s1.heap.IsTuple a its.toArray from p) ?_;refine⟨s1.heap.objs.size,[s1.heap.objs.size],_,_,H1,rfl,I1.kept (t':=s1.toks) fun b o e=>Heap.get?_push_of_some _ e,M6 a _,⟨_,Heap.get?_push_size _ rfl,rfl,rfl⟩,fun b hb=>?_,q⟩;have e:b=s1.heap.objs.size:=by simpa using hb
 subst e;exact I1.QK (Nat.le_refl _) (I1.hok.fresh (Nat.le_refl _))
theorem SD {pins:List (Addr×Obj)}{σ:St}{H:Hp}{s:Shared}{R:It->Hp->Prop}{E:Value->Shared->Prop}{lo hi:Int}{t u v:Tok}{tk:Nat}(I:Inv X pins σ H s)(h1:-(2 ^ 62)<=lo)(h2:lo<2 ^ 62)(h3:-(2 ^ 62)<=hi)(h4:hi<2 ^ 62)
  (q:R (Xj lo (hi-lo).toNat) H):wpAny (model X.prog X.w) X.A (pyIter (.ref s.heap.objs.size)) (PIE X pins σ tg R) E { s with heap:=s.heap.push { cls:=.type "range",data:=.fields #[.int lo t,.int hi u,.int 1 v] },toks:=tk }:=by
 refine wpAny_pyIter_range (IsRange.new ..) (small_one h1 h2 h3 h4) ?_;have I1:Inv X pins σ H { s with heap:=s.heap.push { cls:=.type "range",data:=.fields #[.int lo t,.int hi u,.int 1 v] },toks:=tk }:=I.kept fun b o e=>Heap.get?_push_of_some _ e;refine⟨(s.heap.push { cls:=.type "range",data:=.fields #[.int lo t,.int hi u,.int 1 v] }).objs.size,[(s.heap.push { cls:=.type "range",data:=.fields #[.int lo t,.int hi u,.int 1 v] }).objs.size],_,_,H,rfl,
  I1.kept (t':=tk) fun b o e=>Heap.get?_push_of_some _ e,M7 _ lo (hi-lo).toNat,?_,fun b hb=>?_,q⟩
 ·have e1:lo+((0:Nat):Int) * 1=lo:=by simp
  have e2:(((hi-lo).toNat:Nat):Int)-((0:Nat):Int)=Builtin.Range.rangeSize lo hi 1:=by rw[rangeSize_one];split <;> omega
  show IsRangeIter _ _ (lo+((0:Nat):Int) * 1) ((((hi-lo).toNat:Nat):Int)-((0:Nat):Int)) 1;rw[e1,e2];exact Heap.get?_push_size _ rfl
 ·have e:b=(s.heap.push { cls:=.type "range",data:=.fields #[.int lo t,.int hi u,.int 1 v] }).objs.size:=by simpa using hb
  subst e;exact I1.QK (Nat.le_refl _) (I1.hok.fresh (Nat.le_refl _))
inductive SE (R:(It->Hp->Prop))(vs:List V)(H1:Hp):Prop
 |mk (j:Int) (qH:vs=[.int j]) (qI:-(2 ^ 62)<=j/\j<2 ^ 62/\R (Xj 0 j.toNat) H1):SE R vs H1
def aac (ta:TA):TI:=fun σ H R=>ta σ H fun vs H1=>SE R vs H1
theorem lR {a:Expr}{ta:TA}{p pos:Pos}(hg:Gl X "range")(hm:X.mg "range"=none)(ha:PA X [a] ta)(hs:starEach [a] X.env=[(false,eval a X.env)]:=by rfl):PI X tg (.Call (.Name "range" p) [a] [] pos) (aac ta):=by
 intro pins s σ H R I h;refine Call_ (vS I hg hm boot_range (PyProof.Rows.callWith_type1 (cV (ha pos pins s σ H _ I h) fun us s1 ⟨vs,H1,I1,r1,q1⟩=>?_) hs rfl));obtain⟨j,e,q1,q2,q⟩:=q1;subst e;cases r1 with
 |cons r rr =>
  cases rr;obtain⟨t,rfl⟩:=r;exact call_range_1 (SD I1 (by omega) (by omega) q1 q2 (by simpa using q))
def adl (wi:TI)(g:TG)(tb:TS):TS:=fun D σ H=>wi σ H fun J H1=>∃ W:Nat->Nat->St->Hp->Prop,(∃ m,W 0 m σ H1)/\∀ i m σ H,W i m σ H ->
 (J.stop i H/\D.nx σ H)\/(J.go i H/\∃ N:St->Hp->Prop,(∀ σ' H',N σ' H'->∃ m',m'<m/\W (i+1) m' σ' H')/\∀ x H',J.Vi i H x H'->g x σ H' fun σ2 H2=>tb { D with nx:=N,ct:=N,bk:=D.nx } σ2 H2)
def BX (fp:List Addr)(h:Heap):List (Addr×Obj):=fp.filterMap fun b=>(h.get? b).map fun o=>(b,o)
theorem mW {fp:List Addr}{h:Heap}{b:Addr}{o:Obj}(hb:b∈fp)(e:h.get? b=some o):(b,o)∈BX fp h:=List.mem_filterMap.mpr ⟨b,hb,by rw[e];rfl⟩
theorem QM {fp:List Addr}{h:Heap}{p:Addr×Obj}(hp:p∈BX fp h):p.1∈fp/\h.get? p.1=some p.2:=by
 obtain⟨b,hb,e⟩:=List.mem_filterMap.mp hp;cases q:h.get? b with
 |none=>rw[q]at e;cases e
 |some o =>
  rw[q]at e;have e':(b,o)=p:=Option.some.inj e;subst e';exact⟨hb,q⟩
theorem Inv.pinned {pins:List (Addr×Obj)}{σ:St}{H:Hp}{s:Shared}{fp:List Addr}(I:Inv X pins σ H s)(hf:∀ b∈fp,qE X pins H b)(ho:∀ b∈fp,∃ o,s.heap.get? b=some o/\∀ v,o.data≠.cell v):Inv X (pins++BX fp s.heap) σ H s :=
 I.Pz fun p hp=>(mem_append.mp hp).elim (fun z=>I.pin p (mem_append_right _ z)) fun z=>by
  obtain⟨hb,e⟩:=QM z;obtain⟨f0,f1,f2,_⟩:=hf p.1 hb;obtain⟨o,e',d⟩:=ho p.1 hb;rw[e]at e';cases e';exact⟨e,f0,f1,f2,d⟩
theorem Inv.oQ {pins pl:List (Addr×Obj)}{σ:St}{H:Hp}{s:Shared}(I:Inv X (pins++pl) σ H s):Inv X pins σ H s:=I.Pz fun p hp=>I.pin p (mem_append_right _ (mem_append_left _ hp))
theorem iC {iter:Expr}{body:List Stmt}{wi:TI}{g:TG}{tb:TS}{pos:Pos}(hp:PassesOwn (model X.prog X.w) X.A X.env X.xe)(hc:X.calm=true)(hi:PI X tg iter wi)(hg:PG X tg g)(hb:Lp X body tb)
  (hs:∀ x,foldedSetIterable iter X.env x=pure x:=by intro _;rfl):PS X (.For tg iter body [] pos) (adl wi g tb):=by
 intro pins s σ H D I h;refine wpAny_For (cV (hi pins s σ H _ I h) fun v s1 h1=>cV h1 fun itv s2 h2=>?_) hs;obtain⟨it,fp,tn,J,H2,e,I2,T,st2,f2,W,⟨m0,w0⟩,turn⟩:=h2;subst e;have stat:∀{H':Hp},(∀ b∈fp,H' b=none)->∀ b∈fp,qE X pins H' b:=fun hn b hb=>⟨hn b hb,(f2 b hb).2⟩;refine codeAny_forLoop_any (fun n s'=>∃ i σ' H',Inv X pins σ' H' s'/\tn i s'.heap/\(∀ b∈fp,H' b=none)/\W i n σ' H') ?_ m0 ⟨0,σ,H2,I2,st2,fun b hb=>(f2 b hb).1,w0⟩;rintro n s3 ⟨i,σ3,H3,I3,st3,fr3,w3⟩;rcases turn i n σ3 H3 w3 with ⟨stop,qn⟩|⟨go,N,hN,step⟩
 ·refine wpAny_passesOwn hp (cV (T.done X rfl rfl rfl hc i pins s3 σ3 H3 X.xe I3 (stat fr3) st3 stop) fun r s4 ⟨hr,I4⟩=>?_);subst hr;exact wpAny_execs_nil ⟨σ3,H3,I4,qn⟩
 ·refine wpAny_passesOwn hp (cV (T.item X rfl rfl rfl hc i pins s3 σ3 H3 X.xe I3 (stat fr3) st3 go) fun r s4 ⟨u,hr,h4⟩=>?_);subst hr;refine wpAny_passesOwn hp (cV h4 fun _ s5 ⟨x,H5,I5,r5,y5,Ys,fr5⟩=>?_);have I5':=I5.pinned (stat fr5) (T.obj _ _ Ys);refine wpAny_passesOwn hp (cV (hg _ s5 σ3 H5 x u _ I5' r5 (step x H5 y5)) fun _ s6 ⟨σ6,H6,I6,q6⟩=>?_);refine wpAny_passesOwn hp (cV (hb _ s6 σ6 H6 _ I6 q6) fun f s7 q7=>?_);have again:∀{σ7:St} {H7:Hp},Inv X (pins++BX fp s5.heap) σ7 H7 s7->N σ7 H7->∃ m,m<n/\∃ i σ' H',Inv X pins σ' H' s7/\tn i s7.heap/\(∀ b∈fp,H' b=none)/\W i m σ' H':=fun {σ7 H7} I7 n7=>by
   obtain⟨m',hm,w7⟩:=hN σ7 H7 n7;refine⟨m',hm,i+1,σ7,H7,I7.oQ,T.keep _ _ _ Ys fun b hb o e=>(I7.pin (b,o) (mem_append_right _ (mem_append_right _ (mW hb e)))).1,fun b hb=>?_,w7⟩;obtain⟨o,e,d⟩:=T.obj _ _ Ys b hb;exact(I7.pin (b,o) (mem_append_right _ (mem_append_right _ (mW hb e)))).2.1
  cases f with
  |next=>obtain⟨σ7,H7,I7,n7⟩:=q7;exact again I7 n7
  |cont=>obtain⟨σ7,H7,I7,n7⟩:=q7;exact again I7 n7
  |brk=>obtain⟨σ7,H7,I7,q7⟩:=q7;exact⟨σ7,H7,I7.oQ,q7⟩
  |ret v=>obtain⟨x7,σ7,H7,I7,r7,q7⟩:=q7;exact⟨x7,σ7,H7,I7.oQ,r7,q7⟩
end
theorem lT {K:Frag}{a:Addr}{xs:List V}{g:TG}{tb:TS}{D:Ends}{σ:St}{H:Hp}(Pv:Nat->St->Hp->Prop)(h0:Pv 0 σ H)(hl:∀ i σ H,i<=xs.length->Pv i σ H->a6 K H a xs)
  (hs:∀ i x σ H,xs[i]? = some x->Pv i σ H->g x σ H fun σ2 H2=>tb { D with nx:=Pv (i+1),ct:=Pv (i+1),bk:=D.nx } σ2 H2) (hd:∀ σ H,Pv xs.length σ H->D.nx σ H) :
  ∃ W:Nat->Nat->St->Hp->Prop,(∃ m,W 0 m σ H)/\∀ i m σ H,W i m σ H ->
   ((ZL K a).stop i H/\D.nx σ H)\/((ZL K a).go i H/\∃ N:St->Hp->Prop,(∀ σ' H',N σ' H'->∃ m',m'<m/\W (i+1) m' σ' H')/\∀ x H',(ZL K a).Vi i H x H'->g x σ H' fun σ2 H2=>tb { D with nx:=N,ct:=N,bk:=D.nx } σ2 H2):=by
 refine⟨fun i m σ H=>m=xs.length-i/\i<=xs.length/\Pv i σ H,⟨xs.length,by simp,Nat.zero_le _,h0⟩,?_⟩;rintro i m σ H ⟨rfl,hi,p⟩;have q:=hl i σ H hi p
 by_cases hlt:i<xs.length
 ·refine .inr ⟨⟨xs,xs[i],q,by simp[hlt]⟩,Pv (i+1),fun σ' H' p'=>⟨xs.length-(i+1),by omega,rfl,hlt,p'⟩,fun x H' y=>?_⟩;obtain⟨e,y⟩:=y;subst e;exact hs i x σ _ (y xs q) p
 ·have e:i=xs.length:=by omega
  subst e;exact .inl ⟨⟨xs,q,Nat.le_refl _⟩,hd σ H p⟩
theorem Vv {K:Frag}{a:Addr}{xs:List V}{g:TG}{tb:TS}{D:Ends}{σ:St}{H:Hp}(Pv:Nat->St->Hp->Prop)(h0:Pv 0 σ H)(hl:∀ i σ H,i<=xs.length->Pv i σ H->cz K H a xs)
  (hs:∀ i x σ H,xs[i]? = some x->Pv i σ H->g x σ H fun σ2 H2=>tb { D with nx:=Pv (i+1),ct:=Pv (i+1),bk:=D.nx } σ2 H2) (hd:∀ σ H,Pv xs.length σ H->D.nx σ H) :
  ∃ W:Nat->Nat->St->Hp->Prop,(∃ m,W 0 m σ H)/\∀ i m σ H,W i m σ H ->
   ((ZM K a).stop i H/\D.nx σ H)\/((ZM K a).go i H/\∃ N:St->Hp->Prop,(∀ σ' H',N σ' H'->∃ m',m'<m/\W (i+1) m' σ' H')/\∀ x H',(ZM K a).Vi i H x H'->g x σ H' fun σ2 H2=>tb { D with nx:=N,ct:=N,bk:=D.nx } σ2 H2):=by
 refine⟨fun i m σ H=>m=xs.length-i/\i<=xs.length/\Pv i σ H,⟨xs.length,by simp,Nat.zero_le _,h0⟩,?_⟩;rintro i m σ H ⟨rfl,hi,p⟩;have q:=hl i σ H hi p
 by_cases hlt:i<xs.length
 ·refine .inr ⟨⟨xs,xs[i],q,by simp[hlt]⟩,Pv (i+1),fun σ' H' p'=>⟨xs.length-(i+1),by omega,rfl,hlt,p'⟩,fun x H' y=>?_⟩;obtain⟨e,y⟩:=y;subst e;exact hs i x σ _ (y xs q) p
 ·have e:i=xs.length:=by omega
  subst e;exact .inl ⟨⟨xs,q,Nat.le_refl _⟩,hd σ H p⟩
theorem qj {lo:Int}{n:Nat}{g:TG}{tb:TS}{D:Ends}{σ:St}{H:Hp}(Pv:Nat->St->Hp->Prop)(h0:Pv 0 σ H)
  (hs:∀ i σ H,i<n->Pv i σ H->g (.int (lo+i)) σ H fun σ2 H2=>tb { D with nx:=Pv (i+1),ct:=Pv (i+1),bk:=D.nx } σ2 H2) (hd:∀ σ H,Pv n σ H->D.nx σ H) :
  ∃ W:Nat->Nat->St->Hp->Prop,(∃ m,W 0 m σ H)/\∀ i m σ H,W i m σ H ->
   ((Xj lo n).stop i H/\D.nx σ H)\/((Xj lo n).go i H/\∃ N:St->Hp->Prop,(∀ σ' H',N σ' H'->∃ m',m'<m/\W (i+1) m' σ' H')/\∀ x H',(Xj lo n).Vi i H x H'->g x σ H' fun σ2 H2=>tb { D with nx:=N,ct:=N,bk:=D.nx } σ2 H2):=by
 refine⟨fun i m σ H=>m=n-i/\i<=n/\Pv i σ H,⟨n,by simp,Nat.zero_le _,h0⟩,?_⟩;rintro i m σ H ⟨rfl,hi,p⟩
 by_cases hlt:i<n
 ·refine .inr ⟨hlt,Pv (i+1),fun σ' H' p'=>⟨n-(i+1),by omega,rfl,hlt,p'⟩,fun x H' y=>?_⟩;obtain⟨e,y⟩:=y;subst e y;exact hs i σ _ hlt p
 ·have e:i=n:=by omega
  subst e;exact .inl ⟨Nat.le_refl _,hd σ H p⟩
end L2
namespace L2
open PySem PySem.Spec PyProof.Rows
abbrev R2:=V->V->Hp->VK->Prop
def qJ (X:Cx)(f:Value->Value->Sem Value)(r:R2):Prop :=
 ∀(pins:List (Addr×Obj)) (s:Shared) (σ:St) (H:Hp) (x y:V) (v u:Value) (Q:VK),Inv X pins σ H s->RelV x v->RelV y u->r x y H Q ->
  wpAny (model X.prog X.w) X.A (f v u) (EP X pins σ Q) X.xe s
def UnR (X:Cx)(f:Value->Sem Value)(r:V->Hp->VK->Prop):Prop :=
 ∀(pins:List (Addr×Obj)) (s:Shared) (σ:St) (H:Hp) (x:V) (v:Value) (Q:VK),Inv X pins σ H s->RelV x v->r x H Q ->
  wpAny (model X.prog X.w) X.A (f v) (EP X pins σ Q) X.xe s
def jE (X:Cx)(f:Value)(r:List V->Hp->VK->Prop):Prop :=
 ∀(pins:List (Addr×Obj)) (s:Shared) (σ:St) (H:Hp) (xs:List V) (us:List Value) (Q:VK),Inv X pins σ H s->Vals xs us->r xs H Q ->
  wpAny (model X.prog X.w) X.A (call f us) (EP X pins σ Q) X.xe s
def tOp (r:R2)(ta tb:TE):TE:=fun σ H Q=>ta σ H fun x H1=>tb σ H1 fun y H2=>r x y H2 Q
def tUn (r:V->Hp->VK->Prop)(ta:TE):TE:=fun σ H Q=>ta σ H fun x H1=>r x H1 Q
inductive rII (C:Int->Int->Prop)(g:Int->Int->V)(x:V)(y:V)(H:Hp)(Q:VK):Prop
 |mk (i:_) (j:_) (qH:x=.int i) (qI:y=.int j) (AY:C i j/\Q (g i j) H):rII C g x y H Q
def rI (C:Int->Int->Prop)(g:Int->Int->V):R2:=fun x y H Q=>rII C g x y H Q
inductive aad (g:Int->Int->V)(x:V)(y:V)(H:Hp)(Q:VK):Prop
 |mk (i:_) (j:_) (qH:x=.int i) (qI:y=.int j) (AY:Q (g i j) H):aad g x y H Q
def ZN (g:Int->Int->V):R2:=fun x y H Q=>aad g x y H Q
def rU (g:Int->V):V->Hp->VK->Prop:=fun x H Q=>∃ i,x=.int i/\Q (g i) H
section
variable {X:Cx} {a b c:Expr} {ta tb tc:TE} {pos:Pos}
theorem Yt (ha:PE X a ta)(hb:PE X b tb){pins:List (Addr×Obj)}{s:Shared}{σ:St}{H:Hp}{R:V->V->Hp->Prop}(I:Inv X pins σ H s)
  (h:ta σ H fun x H1=>tb σ H1 fun y H2=>R x y H2) {Q:Value->Shared->Prop} {f:Value->Value->Sem Value}
  (hf:∀ v u s2 x y H2,Inv X pins σ H2 s2->RelV x v->RelV y u->R x y H2->wpAny (model X.prog X.w) X.A (f v u) Q X.xe s2) :
  wpAny (model X.prog X.w) X.A (eval a X.env) (fun v s₁=>wpAny (model X.prog X.w) X.A (eval b X.env) (fun u s₂=>wpAny (model X.prog X.w) X.A (f v u) Q X.xe s₂) X.xe s₁) X.xe s:=by
 refine cV (ha pins s σ H _ I h) fun v s1 ⟨x,H1,I1,r1,q1⟩=>?_;refine cV (hb pins s1 σ H1 _ I1 q1) fun u s2 ⟨y,H2,I2,r2,q2⟩=>?_;exact hf v u s2 x y H2 I2 r1 r2 q2
theorem aM {op:Operator}{r:R2}(ho:qJ X (binaryOp op) r)(ha:PE X a ta)(hb:PE X b tb):PE X (.BinOp a op b pos) (tOp r ta tb):=by
 intro pins s σ H Q I h;exact wpAny_BinOp (Yt ha hb I h fun v u s2 x y H2 I2 rx ry q=>ho pins s2 σ H2 x y v u Q I2 rx ry q)
theorem aae {op:UnaryOp}{r:V->Hp->VK->Prop}(ho:UnR X (unaryOp op) r)(ha:PE X a ta):PE X (.UnaryOp op a pos) (tUn r ta):=by
 intro pins s σ H Q I h;exact UnaryOp_ (cV (ha pins s σ H _ I h) fun v s1 ⟨x,H1,I1,r1,q1⟩=>ho pins s1 σ H1 x v Q I1 r1 q1)
theorem opI {f:Value->Value->Sem Value}{C:Int->Int->Prop}{g:Int->Int->Int}
  (rule:∀(i j:Int)(t u:Tok)(s:Shared)(Q:Value->Shared->Prop)(E:Value->Shared->Prop),C i j->Q (.int (g i j) s.toks) { s with toks:=s.toks+1 }->wpAny (model X.prog X.w) X.A (f (.int i t) (.int j u)) Q E s) :
  qJ X f (rI C fun i j=>.int (g i j)):=by
 intro pins s σ H x y v u Q I rx ry h;obtain⟨i,j,rfl,rfl,hc,q⟩:=h;obtain⟨t,rfl⟩:=rx;obtain⟨t',rfl⟩:=ry;exact rule i j t t' s _ _ hc ⟨.int (g i j),H,I.tok _,⟨_,rfl⟩,q⟩
theorem aaf {f:Value->Value->Sem Value}{g:Int->Int->Int}
  (rule:∀(i j:Int)(t u:Tok)(s:Shared)(Q:Value->Shared->Prop)(E:Value->Shared->Prop),Q (.int (g i j) s.toks) { s with toks:=s.toks+1 }->wpAny (model X.prog X.w) X.A (f (.int i t) (.int j u)) Q E s) :
  qJ X f (ZN fun i j=>.int (g i j)):=by
 intro pins s σ H x y v u Q I rx ry h;obtain⟨i,j,rfl,rfl,q⟩:=h;obtain⟨t,rfl⟩:=rx;obtain⟨t',rfl⟩:=ry;exact rule i j t t' s _ _ ⟨.int (g i j),H,I.tok _,⟨_,rfl⟩,q⟩
theorem aag {f:Value->Value->Sem Value}{g:Int->Int->Bool}
  (rule:∀(i j:Int)(t u:Tok)(s:Shared)(Q:Value->Shared->Prop)(E:Value->Shared->Prop),Q (.bool (g i j)) s->wpAny (model X.prog X.w) X.A (f (.int i t) (.int j u)) Q E s) :
  qJ X f (ZN fun i j=>.bl (g i j)):=by
 intro pins s σ H x y v u Q I rx ry h;obtain⟨i,j,rfl,rfl,q⟩:=h;obtain⟨t,rfl⟩:=rx;obtain⟨t',rfl⟩:=ry;exact rule i j t t' s _ _ ⟨.bl (g i j),H,I,rfl,q⟩
def adp (i j:Int):Prop:=0<j/\j<1073741824
def adq (i j:Int):Prop:=0<=j/\j<=1000000/\i.natAbs<2 ^ 64
def Yu (i j:Int):Prop:=(-(2 ^ 64)<i/\i<2 ^ 64)\/(-(2 ^ 64)<j/\j<2 ^ 64)
theorem Yu.ok {i j:Int}(h:Yu i j):IntMulOk i j:=by
 rcases h with ⟨h1,h2⟩|⟨h1,h2⟩
 ·exact .of_left (intBits_le_64 h1 h2)
 ·exact .of_right (intBits_le_64 h1 h2)
theorem cN:qJ X (binaryOp .Add) (ZN fun i j=>.int (i+j)):=aaf fun _ _ _ _ _ _ _ q=>add_int q
theorem lr:qJ X (binaryOp .Sub) (ZN fun i j=>.int (i-j)):=aaf fun _ _ _ _ _ _ _ q=>sub_int q
theorem vT:qJ X (binaryOp .Mult) (rI Yu fun i j=>.int (i * j)):=opI fun _ _ _ _ _ _ _ hc q=>mul_int q hc.ok
theorem mX:qJ X (binaryOp .FloorDiv) (rI adp fun i j=>.int (i / j)):=opI fun i j _ _ _ _ _ hc q=>by
 have h1:(0:Int)<j:=hc.1;have h2:j<1073741824:=hc.2;exact floordiv_int (by omega) (by rw[Int.fdiv_eq_ediv_of_nonneg i (by omega)];exact q) (.inl (PyProof.noPylong_small (by omega)))
theorem fj:qJ X (binaryOp .Mod) (rI (fun _ j=>0<j) fun i j=>.int (i % j)):=opI fun i j _ _ _ _ _ hc q=>by
 have h1:(0:Int)<j:=hc;exact mod_int' (by omega) (by rw[Int.fmod_eq_emod_of_nonneg i (by omega)];exact q)
theorem SF:qJ X (binaryOp .Pow) (rI adq fun i j=>.int (i ^ j.toNat)):=opI fun _ _ _ _ _ _ _ hc q=>pow_int_small hc.1 hc.2.1 hc.2.2 q
theorem unI {f:Value->Sem Value}{g:Int->Int}
  (rule:∀(i:Int)(t:Tok)(s:Shared)(Q:Value->Shared->Prop)(E:Value->Shared->Prop),Q (.int (g i) s.toks) { s with toks:=s.toks+1 }->wpAny (model X.prog X.w) X.A (f (.int i t)) Q E s) :
  UnR X f (rU fun i=>.int (g i)):=by
 intro pins s σ H x v Q I rx h;obtain⟨i,rfl,q⟩:=h;obtain⟨t,rfl⟩:=rx;exact rule i t s _ _ ⟨.int (g i),H,I.tok _,⟨_,rfl⟩,q⟩
theorem Yv:UnR X (unaryOp .USub) (rU fun i=>.int (-i)):=unI fun _ _ _ _ _ q=>neg_int q
end
def aah:V->V->Bool
 |.non,.non=>true|.non,.int _=>true|.int _,.non=>true|.non,.bl _=>true|.bl _,.non=>true|.non,.str _=>true|.str _,.non=>true
 |.int _,.int _=>true|.bl _,.bl _=>true|.str _,.str _=>true|.So _,.So _=>true
 |.int _,.str _=>true|.str _,.int _=>true|.bl _,.str _=>true|.str _,.bl _=>true
 |_,_=>false
def rEq:R2:=fun x y H Q=>aah x y=true/\Q (.bl (decide (x=y))) H
def rNe:R2:=fun x y H Q=>aah x y=true/\Q (.bl (!decide (x=y))) H
theorem PD {i j:Int}:decide (V.int i=V.int j)=(i==j):=by
 rw[Bool.eq_iff_iff];simp
theorem SG {i j:Bool}:decide (V.bl i=V.bl j)=(i==j):=by
 rw[Bool.eq_iff_iff];simp
theorem PH {i j:Str}:decide (V.str i=V.str j)=(i==j):=by
 rw[Bool.eq_iff_iff];simp
theorem PJ {i j:Array UInt8}:decide (V.So i=V.So j)=(i.toList==j.toList):=by
 rw[Bool.eq_iff_iff];cases i;cases j;simp
section
variable {X:Cx} {a b c:Expr} {ta tb tc:TE} {pos:Pos}
theorem ba {pins:List (Addr×Obj)}{σ:St}{H:Hp}{s:Shared}{Q:VK}{k k':Bool}(I:Inv X pins σ H s)(q:Q (.bl k) H)(e:k=k'):EP X pins σ Q (.bool k') s:=by
 subst e;exact⟨.bl k,H,I,rfl,q⟩
theorem a4:qJ X (compareOp .Eq) rEq:=by
 intro pins s σ H x y v u Q I rx ry h;obtain⟨hs,q⟩:=h;cases x with
 |non =>
  cases rx;cases y with
  |non=>cases ry;exact PySem.EqNone.eq_none_none (ba I q (by simp))
  |bl j=>cases ry;exact PySem.EqNone.eq_none_bool (ba I q (by simp))
  |int j=>obtain⟨t',rfl⟩:=ry;exact PySem.EqNone.eq_none_int (ba I q (by simp))
  |str j=>obtain⟨t',rfl⟩:=ry;exact PySem.EqNone.eq_none_str (ba I q (by simp))
  |_=>exact absurd (show false=true from hs) Bool.false_ne_true
 |bl i =>
  cases rx;cases y with
  |non=>cases ry;exact PySem.EqNone.eq_bool_none (ba I q (by simp))
  |bl j=>cases ry;exact eq_bool (ba I q SG)
  |str j=>obtain⟨t',rfl⟩:=ry;exact PySem.EqMixed.eq_bool_str (ba I q (by simp))
  |_=>exact absurd (show false=true from hs) Bool.false_ne_true
 |int i =>
  obtain⟨t,rfl⟩:=rx;cases y with
  |non=>cases ry;exact PySem.EqNone.eq_int_none (ba I q (by simp))
  |int j=>obtain⟨t',rfl⟩:=ry;exact eq_int (ba I q PD)
  |str j=>obtain⟨t',rfl⟩:=ry;exact PySem.EqMixed.eq_int_str (ba I q (by simp))
  |_=>exact absurd (show false=true from hs) Bool.false_ne_true
 |str i =>
  obtain⟨t,rfl⟩:=rx;cases y with
  |non=>cases ry;exact PySem.EqNone.eq_str_none (ba I q (by simp))
  |bl j=>cases ry;exact PySem.EqMixed.eq_str_bool (ba I q (by simp))
  |int j=>obtain⟨t',rfl⟩:=ry;exact PySem.EqMixed.eq_str_int (ba I q (by simp))
  |str j=>obtain⟨t',rfl⟩:=ry;exact eq_str (ba I q PH)
  |_=>exact absurd (show false=true from hs) Bool.false_ne_true
 |So i =>
  obtain⟨t,rfl⟩:=rx;cases y with
  |So j=>obtain⟨t',rfl⟩:=ry;exact PySem.W.eq_bytes (ba I q PJ)
  |_=>exact absurd (show false=true from hs) Bool.false_ne_true
 |_=>cases y <;> exact absurd (show false=true from hs) Bool.false_ne_true
theorem GU:qJ X (compareOp .NotEq) rNe:=by
 intro pins s σ H x y v u Q I rx ry h;obtain⟨hs,q⟩:=h;cases x with
 |non =>
  cases rx;cases y with
  |non=>cases ry;exact PySem.EqNone.ne_none_none (ba I q (by simp))
  |bl j=>cases ry;exact PySem.EqNone.ne_none_bool (ba I q (by simp))
  |int j=>obtain⟨t',rfl⟩:=ry;exact PySem.EqNone.ne_none_int (ba I q (by simp))
  |str j=>obtain⟨t',rfl⟩:=ry;exact PySem.EqNone.ne_none_str (ba I q (by simp))
  |_=>exact absurd (show false=true from hs) Bool.false_ne_true
 |bl i =>
  cases rx;cases y with
  |non=>cases ry;exact PySem.EqNone.ne_bool_none (ba I q (by simp))
  |bl j=>cases ry;exact ne_bool (ba I q (congrArg not SG))
  |str j=>obtain⟨t',rfl⟩:=ry;exact PySem.EqMixed.ne_bool_str (ba I q (by simp))
  |_=>exact absurd (show false=true from hs) Bool.false_ne_true
 |int i =>
  obtain⟨t,rfl⟩:=rx;cases y with
  |non=>cases ry;exact PySem.EqNone.ne_int_none (ba I q (by simp))
  |int j=>obtain⟨t',rfl⟩:=ry;exact ne_int (ba I q (congrArg not PD))
  |str j=>obtain⟨t',rfl⟩:=ry;exact PySem.EqMixed.ne_int_str (ba I q (by simp))
  |_=>exact absurd (show false=true from hs) Bool.false_ne_true
 |str i =>
  obtain⟨t,rfl⟩:=rx;cases y with
  |non=>cases ry;exact PySem.EqNone.ne_str_none (ba I q (by simp))
  |bl j=>cases ry;exact PySem.EqMixed.ne_str_bool (ba I q (by simp))
  |int j=>obtain⟨t',rfl⟩:=ry;exact PySem.EqMixed.ne_str_int (ba I q (by simp))
  |str j=>obtain⟨t',rfl⟩:=ry;exact ne_str (ba I q (congrArg not PH))
  |_=>exact absurd (show false=true from hs) Bool.false_ne_true
 |So i =>
  obtain⟨t,rfl⟩:=rx;cases y with
  |So j=>obtain⟨t',rfl⟩:=ry;exact PySem.W.ne_bytes (ba I q (congrArg not PJ))
  |_=>exact absurd (show false=true from hs) Bool.false_ne_true
 |_=>cases y <;> exact absurd (show false=true from hs) Bool.false_ne_true
theorem oR:qJ X (compareOp .Lt) (ZN fun i j=>.bl (decide (i<j))):=aag fun _ _ _ _ _ _ _ q=>lt_int q
theorem BY:qJ X (compareOp .Gt) (ZN fun i j=>.bl (decide (j<i))):=aag fun _ _ _ _ _ _ _ q=>gt_int q
theorem bC:qJ X (compareOp .In) (fun x y H Q=>∃ i j,x=.str i/\y=.str j/\Q (.bl (!(Builtin.Str.occurrences j i 0 j.length 1).isEmpty)) H):=by
 intro pins s σ H x y v u Q I rx ry h;obtain⟨i,j,rfl,rfl,q⟩:=h;obtain⟨t,rfl⟩:=rx;obtain⟨t',rfl⟩:=ry;exact in_str (ba I q rfl)
theorem M8:qJ X (compareOp .Is) (fun x y H Q=>y=.non/\Q (.bl (decide (x=.non))) H):=by
 intro pins s σ H x y v u Q I rx ry h;obtain⟨rfl,q⟩:=h;cases ry;refine is_none_gen (ba I q ?_);cases x <;> first
  |(cases rx;rfl)
  |(obtain⟨t,rfl⟩:=rx;rfl)
theorem PK:qJ X (compareOp .IsNot) (fun x y H Q=>y=.non/\Q (.bl (!decide (x=.non))) H):=by
 intro pins s σ H x y v u Q I rx ry h;obtain⟨rfl,q⟩:=h;cases ry;refine isnot_none_gen (ba I q ?_);cases x <;> first
  |(cases rx;rfl)
  |(obtain⟨t,rfl⟩:=rx;rfl)
theorem qJ.or {f:Value->Value->Sem Value}{r r':R2}(h:qJ X f r)(h':qJ X f r'):qJ X f (fun x y H Q=>r x y H Q\/r' x y H Q):=by
 intro pins s σ H x y v u Q I rx ry q;rcases q with q|q
 ·exact h pins s σ H x y v u Q I rx ry q
 ·exact h' pins s σ H x y v u Q I rx ry q
theorem aw (b:Expr){op:CmpOp}(h:op≠.In:=by decide)(h2:op≠.NotIn:=by decide):behindInMarks op b=false:=by
 have e1:(op==CmpOp.In)=false:=by cases op <;> first|rfl|exact absurd rfl h
 have e2:(op==CmpOp.NotIn)=false:=by cases op <;> first|rfl|exact absurd rfl h2
 cases b <;> simp[behindInMarks,e1,e2]
theorem bR {op:CmpOp}{r:R2}(ho:qJ X (compareOp op) r)(ha:PE X a ta)(hb:PE X b tb)(hm:behindInMarks op b=false):PE X (.Compare a [op] [b] pos) (tOp r ta tb):=by
 intro pins s σ H Q I h;exact wpAny_Compare1 (Yt ha hb I h fun v u s2 x y H2 I2 rx ry q=>ho pins s2 σ H2 x y v u Q I2 rx ry q) hm
inductive SH (Q:(Bool->Hp->Prop))(x:V)(H':Hp):Prop
 |mk (k:_) (qH:x=.bl k) (qI:Q k H'):SH Q x H'
def aai (t:TE):TT:=fun σ H Q=>t σ H fun x H'=>SH Q x H'
theorem au {op:CmpOp}{r:R2}(ho:qJ X (compareOp op) r)(ha:PE X a ta)(hb:PE X b tb)(hm:behindInMarks op b=false):PT X (.Compare a [op] [b] pos) (aai (tOp r ta tb)):=by
 intro pins s σ H Q I h;refine wpAny_isTrue_Compare1 (cV (ha pins s σ H _ I h) fun v s1 ⟨x,H1,I1,r1,q1⟩=>cV (hb pins s1 σ H1 _ I1 q1) fun u s2 ⟨y,H2,I2,r2,q2⟩ =>
  cV (ho pins s2 σ H2 x y v u _ I2 r1 r2 q2) fun c s3 ⟨z,H3,I3,r3,k,e,q3⟩=>?_) hm
 subst e;cases r3;exact wpAny_truthy_bool ⟨H3,I3,q3⟩
theorem vU:(sizeLine:Nat)<2 ^ 63:=by rw[sizeLine_eq];decide
theorem aN:qJ X (binaryOp .Add) (fun x y H Q=>∃ i j,x=.str i/\y=.str j/\i.length+j.length<=sizeLine/\Q (.str (i++j)) H):=by
 intro pins s σ H x y v u Q I rx ry h;obtain⟨i,j,rfl,rfl,hz,q⟩:=h;obtain⟨t,rfl⟩:=rx;obtain⟨t',rfl⟩:=ry;exact add_str (fun t' tk=>⟨.str (i++j),H,I.tok _,⟨_,rfl⟩,q⟩) hz
theorem vals1 {x:V}{us:List Value}(r:Vals [x] us):∃ u,us=[u]/\RelV x u:=by
 cases r with
 |cons r1 r2=>cases r2;exact⟨_,rfl,r1⟩
theorem vals2 {x y:V}{us:List Value}(r:Vals [x,y] us):∃ u w',us=[u,w']/\RelV x u/\RelV y w':=by
 cases r with
 |cons r1 r2 =>
  cases r2 with
  |cons r3 r4=>cases r4;exact⟨_,_,rfl,r1,r3⟩
theorem QN (hc:X.calm=true):jE X (.builtin "max") (fun xs H Q=>∃ i j,xs=[.int i,.int j]/\Q (.int (if j > i then j else i)) H):=by
 intro pins s σ H xs us Q I r h;obtain⟨i,j,rfl,q⟩:=h;obtain⟨u,w',rfl,⟨t,rfl⟩,⟨t',rfl⟩⟩:=vals2 r;refine max_two_ints (I.ok.hd hc) fun h' tk k=>⟨_,H,I.kept k,?_,q⟩
 by_cases hj:j > i
 ·rw[if_pos hj,if_pos hj];exact⟨_,rfl⟩
 ·rw[if_neg hj,if_neg hj];exact⟨_,rfl⟩
theorem GV (hc:X.calm=true):jE X (.builtin "min") (fun xs H Q=>∃ i j,xs=[.int i,.int j]/\Q (.int (if j<i then j else i)) H):=by
 intro pins s σ H xs us Q I r h;obtain⟨i,j,rfl,q⟩:=h;obtain⟨u,w',rfl,⟨t,rfl⟩,⟨t',rfl⟩⟩:=vals2 r;refine min_two_ints (I.ok.hd hc) fun h' tk k=>⟨_,H,I.kept k,?_,q⟩
 by_cases hj:j<i
 ·rw[if_pos hj,if_pos hj];exact⟨_,rfl⟩
 ·rw[if_neg hj,if_neg hj];exact⟨_,rfl⟩
theorem qk:jE X (.type "int") (fun xs H Q=>(∃ i,xs=[.int i]/\Q (.int i) H)\/∃ k,xs=[.bl k]/\Q (.int (if k then 1 else 0)) H):=by
 intro pins s σ H xs us Q I r h;rcases h with ⟨i,rfl,q⟩|⟨k,rfl,q⟩
 ·obtain⟨u,rfl,t,rfl⟩:=vals1 r;exact call_int_int ⟨.int i,H,I,⟨_,rfl⟩,q⟩
 ·obtain⟨u,rfl,r1⟩:=vals1 r;cases r1;exact call_int_bool ⟨.int (if k then 1 else 0),H,I.tok _,⟨_,rfl⟩,q⟩
end
end L2
namespace L2
open PySem PySem.Spec PyProof.Rows
structure Yw (h:Heap)(x dx C:Addr)(mA:Str->Option Value):Prop where
 obj:h.get? x=some (instObj C dx)
 ns:h.Ns1 dx mA
 ne:dx≠x
theorem QO {h:Heap}{dx:Addr}{mA:Str->Option Value}(n:h.Ns1 dx mA):∃ od,h.get? dx=some od/\∀ name,lookIn name od=some (mA name):=by
 obtain⟨o,es,ep,ho,hd,hk,_,hm⟩:=n;refine⟨o,ho,fun name=>?_⟩;have e:=hm name;unfold nsFind findBy at e;rw[<-Array.find?_toList]at e;unfold lookIn;rw[hd];dsimp only;split
 ·rename_i y q
  rw[q]at e;exact congrArg some e
 ·rename_i q
  rw[q]at e;have a:es.toList.any (·.refKey)=false:=by
   rw[List.any_eq_false];intro y hy;obtain⟨z,t,hkey⟩:=hk y (Array.mem_toList_iff.mp hy);simp[DictEntry.refKey,hkey]
  have a':¬ es.toList.any (·.refKey)=true:=by rw[a];exact Bool.false_ne_true
  rw[if_neg a'];exact congrArg some e
theorem Yw.look {h:Heap}{x dx C:Addr}{mA:Str->Option Value}(I:Yw h x dx C mA):∃ od,PySem.W.InstAt h x (instObj C dx) C (some od)/\∀ name,lookIn name od=some (mA name) :=
 let ⟨od,ho,hl⟩:=QO I.ns
 ⟨od,⟨I.obj,rfl,rfl,ho⟩,hl⟩
section
variable {prog:Program} {w:World} {A:Around} {E:Value->Shared->Prop} {s:Shared} {K:Frag} {x dx C f:Addr} {mA:Str->Option Value} {name:Str} {v:Value}
end
theorem oz.some_of {v:V}{o:Option Value}(r:oz (some v) o):∃ u,o=some u/\RelV v u:=by
 cases o with
 |none=>exact(show False from r).elim
 |some u=>exact⟨u,rfl,r⟩
section
variable {P:Program} {w:World} {H H':Hp} {h h':Heap} {a C dx:Addr} {fs fs':List (Str×V)}
theorem Vw (hok:qG P w H h)(e:H a=some (.ins C dx fs)):∃ mA,Yw h a dx C mA/\(∀ f,oz (fs.lookup f) (mA f))/\PySem.Within mA (fs.map (·.1))/\fs.length<=1000/\H dx=some (.own a):=by
 obtain⟨d,z,ne,ob,mA,n,r,q⟩:=(show cG P w H h a (.ins C dx fs) from hok a _ e);exact⟨mA,⟨ob,n,ne⟩,r,q,z,d⟩
end
structure Cls (K:Frag)(C:Addr):Prop where
 pg:plainGet K C Str.empty=true
 hd:PySem.W.hasDictIn K C=true
 po:PySem.W.plainOver K C=true
 sa:findIn K (.ref C) "__setattr__"=some (some (.builtin "object.__setattr__"))
theorem Cls.get {K:Frag}{C:Addr}(c:Cls K C)(f:Str):plainGet K C f=true:=c.pg
section
variable {X:Cx} {pins:List (Addr×Obj)} {σ:St} {H:Hp} {s:Shared} {a C dx:Addr} {fs:List (Str×V)} {f:Str} {v:V} {A:Around} {E:Value->Shared->Prop}
end
section
variable {X:Cx} {o e value:Expr} {f:Str} {pos pos' tpos:Pos} {ta tv:TE}
end
section
variable {X:Cx} {pins:List (Addr×Obj)} {σ:St} {H:Hp} {s:Shared} {A:Around} {E:Value->Shared->Prop} {Q:Value->Shared->Prop} {c:Value} {b:Bool}
inductive oA (K:Frag)(H:Hp):V->Value->Prop where
 |non:oA K H .non (.type "NoneType")
 |bl (x:Bool):oA K H (.bl x) (.type "bool")
 |int (i:Int):oA K H (.int i) (.type "int")
 |str (x:Str):oA K H (.str x) (.type "str")
 |flt (x:UInt64):oA K H (.flt x) (.type "float")
 |lst {a:Addr} {xs:List V} (e:H a=some (.lst xs)):oA K H (.ref a) (.type "list")
 |jI {a:Addr} {o:Obj} {xs:List V} (e:H a=some (.jI o (.lst xs))):oA K H (.ref a) (.type "list")
 |tup {a:Addr} {xs:List V} (e:H a=some (.tup xs)):oA K H (.ref a) (.type "tuple")
 |dK {a:Addr} {kvs:List (Key×V)} (e:H a=some (.dK kvs)):oA K H (.ref a) (.type "dict")
 |dT {a:Addr} {kvs:List (List Key×V)} (e:H a=some (.dT kvs)):oA K H (.ref a) (.type "dict")
 |ins {a C dx:Addr} {fs:List (Str×V)} (e:H a=some (.ins C dx fs)) (cl:Cls K C) (ha:findIn K (.ref C) "__class__"=some (some (.builtin "object.__class__")))
   (hn:specialIn K (.builtin "object.__class__") "__get__"=some (some (.builtin "getset_descriptor.__get__"))) (htk:PySem.W.takesIn K (.builtin "object.__class__")=some true)
   (hm:mroIn K C (.type "object")=some true):oA K H (.ref a) (.ref C)
theorem QP {x:V}{u t:Value}(I:Inv X pins σ H s)(rx:RelV x u)(ty:oA X.K H x t)(e:kitOne X.K t c=some b)(h:∀ tk,Q (.bool b) { s with toks:=tk }) :
  wpAny (model X.prog X.w) A (call (.builtin "isinstance") [u,c]) Q E s:=by
 cases ty with
 |non=>cases (show u=Value.none from rx);exact kia_one PySem.W.kitx_none I.Fl True.intro e (fun z=>nomatch z) h
 |bl y=>cases (show u=Value.bool y from rx);exact kia_one PySem.W.kitx_bool I.Fl True.intro e (fun z=>nomatch z) h
 |int i=>obtain⟨t,q⟩:=(show ∃ t,u=Value.int i t from rx);cases q;exact kia_one PySem.W.kitx_int I.Fl True.intro e (fun z=>nomatch z) h
 |str y=>obtain⟨t,q⟩:=(show ∃ t,u=Value.str y t from rx);cases q;exact kia_one PySem.W.kitx_str I.Fl True.intro e (fun z=>nomatch z) h
 |flt y=>obtain⟨t,q⟩:=(show ∃ t,u=Value.float y t from rx);cases q;exact kia_one PySem.W.kitx_float I.Fl True.intro e (fun z=>nomatch z) h
 | @lst a xs ea =>
  cases (show u=Value.ref a from rx);obtain⟨_,_,n,_,h1⟩:=(show cG X.prog X.w H s.heap a (.lst xs) from I.hok a _ ea);exact kia_one kitx_list I.Fl ⟨_,h1,rfl⟩ e (fun z=>nomatch z) h
 | @jI a ob xs ea =>
  cases (show u=Value.ref a from rx);obtain⟨_,_,_,n,_,h1⟩:=(show cG X.prog X.w H s.heap a (.jI ob (.lst xs)) from I.hok a _ ea);exact kia_one kitx_list I.Fl ⟨_,h1,rfl⟩ e (fun z=>nomatch z) h
 | @tup a xs ea =>
  cases (show u=Value.ref a from rx);obtain⟨_,_,_,p⟩:=(show cG X.prog X.w H s.heap a (.tup xs) from I.hok a _ ea);obtain⟨o,h1,h2,_⟩:=p;exact kia_one PySem.W.kitx_tuple I.Fl ⟨o,h1,h2⟩ e (fun z=>nomatch z) h
 | @dK a kvs ea =>
  cases (show u=Value.ref a from rx);obtain⟨_,_,vs,_,p⟩:=(show cG X.prog X.w H s.heap a (.dK kvs) from I.hok a _ ea);obtain⟨o,es,ep,h1,h2,_⟩:=p;exact kia_one kitx_dict I.Fl ⟨o,h1,h2.1⟩ e (fun z=>nomatch z) h
 | @dT a kvs ea =>
  cases (show u=Value.ref a from rx);obtain⟨_,_,xs,_,o,es,ep,h1,h2,_⟩:=(show cG X.prog X.w H s.heap a (.dT kvs) from I.hok a _ ea);exact kia_one kitx_dict I.Fl ⟨o,h1,h2.1⟩ e (fun z=>nomatch z) h
 | @ins a C dx fs ea cl ha hn htk hm =>
  cases (show u=Value.ref a from rx);obtain⟨mA,O,_⟩:=Vw I.hok ea;obtain⟨od,J,_⟩:=O.look;exact kia_one (PySem.W.kitx_own (cl.get _) cl.hd ha hn htk hm) I.Fl J e (fun z=>nomatch z) h
end
end L2
namespace L2
open PySem PySem.Spec PyProof.Rows
structure kU (k:Nat)(A:Around):Prop where
 hd:A.handled=none
 dp:A.depth+3 * k+5<recursionLimit
 un:A.units+16 * k+200<cLine
theorem kU.mono {j k:Nat}{A:Around}(r:kU k A)(h:j<=k):kU j A:=⟨r.hd,by have:=r.dp;omega,by have:=r.un;omega⟩
theorem kU.deeper {k:Nat}{A:Around}(r:kU (k+1) A)(env:Env):kU k (A.deeper env) :=
 ⟨r.hd,by have:=r.dp;show A.depth+1+3 * k+5<_;omega,by have:=r.un;show A.units+3+16 * k+200<_;omega⟩
theorem kU.depth {k:Nat}{A:Around}(r:kU k A):A.depth<recursionLimit:=by have:=r.dp;omega
theorem kU.units {k:Nat}{A:Around}(r:kU k A):A.units+64<cLine:=by have:=r.un;omega
def Yx:TA:=fun _ H Q=>Q [] H
def Xl (ta:TE)(tr:TA):TA:=fun σ H Q=>ta σ H fun x H1=>tr σ H1 fun xs H2=>Q (x::xs) H2
section
variable {X:Cx} {e:Expr} {es:List Expr} {te:TE} {t:TA} {pos:Pos}
theorem ao:PA X [] Yx:=fun _ _ _ _ H Q I h=>Calls.spliced_nil ⟨[],H,I,.nil,h⟩
theorem aa (ha:PE X e te)(hr:PA X es t)(hs:starEach (e::es) X.env=(false,eval e X.env)::starEach es X.env:=by rfl):PA X (e::es) (Xl te t):=by
 intro pos pins s σ H Q I h;rw[hs];show wpAny _ _ (spliced ((false,eval e X.env)::backTo pos (starEach es X.env))) _ _ s;refine Calls.spliced_cons (cV (ha pins s σ H _ I h) fun u s1 ⟨x,H1,I1,r1,q1⟩=>?_);exact cV (hr pos pins s1 σ H1 _ I1 q1) fun us s2 ⟨xs,H2,I2,r2,q2⟩=>⟨x::xs,H2,I2,.cons r1 r2,q2⟩
def ads (t:TA):TE:=fun σ H Q=>t σ H fun xs H1=>xs.length<=sizeLine/\∀ p,H1 p=none->Q (.ref p) (upd H1 p (.tup xs))
def adt (t:TA):TE:=fun σ H Q=>t σ H fun xs H1=>xs.length<=sizeLine/\∀ p,H1 p=none->Q (.ref p) (upd H1 p (.lst xs))
theorem cY {x1}(h:PA X es t):PE X (.Tuple es x1 pos) (ads t):=by
 intro pins s σ H Q I hq;refine wpAny_Tuple_spliced (cV (h pos pins s σ H _ I hq) fun us s1 ⟨xs,H1,I1,r,z,q⟩=>⟨by rw[<-r.length];exact z,?_⟩);have hf:H1 s1.heap.objs.size=none:=I1.hok.fresh (Nat.le_refl _);refine⟨.ref s1.heap.objs.size,upd H1 s1.heap.objs.size (.tup xs),I1.laid (t':=s1.toks) (fun b u e=>Heap.get?_push_of_some _ e) (Nat.le_refl _) ?_,rfl,q _ hf⟩;exact⟨z,us,r,⟨_,Heap.get?_push_size _ rfl,rfl,_,rfl⟩⟩
theorem gm (h:PA X es t):PE X (.List es pos) (adt t):=by
 intro pins s σ H Q I hq;refine wpAny_List_spliced (cV (h pos pins s σ H _ I hq) fun us s1 ⟨xs,H1,I1,r,z,q⟩=>⟨by rw[<-r.length];exact z,?_⟩);have hf:H1 s1.heap.objs.size=none:=I1.hok.fresh (Nat.le_refl _);refine⟨.ref s1.heap.objs.size,upd H1 s1.heap.objs.size (.lst xs),I1.laid (t':=s1.toks) (fun b u e=>Heap.get?_push_of_some _ e) (Nat.le_refl _) ?_,rfl,q _ hf⟩;exact⟨z,us,0,r,Heap.get?_push_size _ rfl⟩
end
abbrev Sp:=List V->Hp->VK->XK->Prop
abbrev SJ:=List Env->Hp->Shared->XK->Value->Shared->Prop
structure Vx (P:Program)(w:World)(K:Frag)(mg:Str->Option Value)(base:Heap)(A:Around)(outer:List Env)(s:Shared)(H:Hp):Prop where
 frames:A.frames=some outer
 mod:Mod K mg base
 bs:∀ b o,base.get? b=some o->s.heap.get? b=some o/\H b=none
 Vh:base.objs.size<=s.heap.objs.size
 BV:s.heap.FunFrames base outer
 ZK:∀ b∈frs outer,H b=none
 hok:qG P w H s.heap
 bare:AllBare s.gens
def CE (outer:List Env)(P:Program)(w:World)(H:Hp)(s:Shared)(Q:VK)(u:Value)(s':Shared):Prop :=
 ∃ v H',s'.os=s.os/\AllBare s'.gens/\Un (frs outer) [] H H' s.heap s'.heap/\qG P w H' s'.heap/\RelV v u/\Q v H'
def CR (CX:SJ)(outer:List Env)(P:Program)(w:World)(H:Hp)(s:Shared)(Q:VK)(E:XK)(r:Result)(s':Shared):Prop :=
 match r with
 |.ok (.ret u)=>CE outer P w H s Q u s'
 |.ok _=>False
 |.error e=>CX outer H s E e s'
structure cA (P:Program)(w:World)(K:Frag)(mg:Str->Option Value)(base:Heap)(CX:SJ)(k:Nat)(f:Addr)(fd:FuncData)(ps:List Str)(sp:Sp):Prop where
 len:∀ vs H Q E,sp vs H Q E->vs.length=ps.length
 run:∀(A:Around)(outer:List Env)(s:Shared)(H:Hp)(args:Args)(us:List Value)(vs:List V)(Q:VK)(E:XK),kU k A->Vx P w K mg base A outer s H->BindsTo s fd args (ps.zip us)->Vals vs us->sp vs H Q E ->
  codeAny (model P w) A (.call (.ref f) args) (CR CX outer P w H s Q E) s
section
variable {X:Cx} {pins:List (Addr×Obj)} {σ:St} {H:Hp} {s s':Shared}
theorem Inv.env0 (I:Inv X pins σ H s):Vx X.prog X.w X.K X.mg X.base X.A X.stack s H :=
 ⟨I.ok.frames,I.ok.mod,I.bs,Nat.le_trans I.ok.Vh I.sz,I.stack,I.Py,I.hok,I.bare⟩
theorem Inv.after {Q:VK}{u:Value}(I:Inv X pins σ H s)(h:CE X.stack X.prog X.w H s Q u s'):EP X pins σ Q u s':=by
 obtain⟨v,H',os,bare,un,hok,r,q⟩:=h;obtain⟨hh,g,d,t,os'⟩:=s';obtain rfl:os'=s.os:=os;exact⟨v,H',I.call (h':=hh) (g':=g) (d':=d) (t':=t) (ch:=[]) un hok bare (fun b z=>absurd z (by simp)),r,q⟩
end
def aan (sp:Sp)(M0:List V)(E:XK)(t:TA):TE:=fun σ H Q=>t σ H fun vs H1=>sp (vs++M0) H1 Q E
def Binds (K:Frag)(fd:FuncData)(ps:List Str)(ds:List Value):Prop :=
 ∀(s:Shared)(us:List Value),K.In s.heap->(us++ds).length=ps.length->BindsTo s fd ⟨us,[]⟩ (ps.zip (us++ds))
theorem Binds.all {K:Frag}{fd:FuncData}{ps:List Str}(h:∀ us:List Value,us.length=ps.length->bindArgs fd ⟨us,[]⟩=pure (ps.zip us)):Binds K fd ps []:=fun s us _ hl=>by
 rw[append_nil]at hl ⊢;exact .of_eq (h us hl)
def Passes (CX:SJ)(X:Cx)(E:XK):Prop:=∀(pins:List (Addr×Obj)) (σ:St) (H:Hp) (s:Shared) (e:Value) (s':Shared),Inv X pins σ H s->CX X.stack H s E e s'->X.xe e s'
section
variable {X:Cx} {CX:SJ} {k:Nat} {f C:Addr} {fd:FuncData} {ps:List Str} {sp:Sp} {M0:List V} {ds:List Value} {E:XK} {x m:Str} {p pos apos:Pos} {e o:Expr} {es:List Expr} {ta:TE} {t:TA}
theorem Yz {pins:List (Addr×Obj)}{σ:St}{H:Hp}{s:Shared}{Q:VK}{us:List Value}{vs:List V}(F:cA X.prog X.w X.K X.mg X.base CX k f fd ps sp)(hr:kU k X.A)(hb:Binds X.K fd ps ds)(hd:Vals M0 ds)(hx:Passes CX X E)
  (I:Inv X pins σ H s) (r:Vals vs us) (h:sp (vs++M0) H Q E):wpAny (model X.prog X.w) X.A (call (.ref f) us) (EP X pins σ Q) X.xe s:=by
 have r2:Vals (vs++M0) (us++ds):=r.append hd;have hl:(us++ds).length=ps.length:=by rw[<-r2.length];exact F.len _ _ _ _ h
 refine wpAny_call (codeAny_mono (F.run X.A X.stack s H ⟨us,[]⟩ (us++ds) (vs++M0) Q E hr I.env0 (hb s us I.Fl hl) r2 h) fun r s' hq=>?_);cases r with
 |error e=>exact hx pins σ H s e s' I hq
 |ok fl =>
  cases fl with
  |ret u=>exact I.after hq
  |next=>exact False.elim hq
  |brk=>exact False.elim hq
  |cont=>exact False.elim hq
theorem av (F:cA X.prog X.w X.K X.mg X.base CX k f fd ps sp)(hr:kU k X.A)(hg:Gl X x)(hm:X.mg x=some (.ref f))(hk:keepIn X.K (.ref f)=true)(hb:Binds X.K fd ps ds)(hd:Vals M0 ds)(hx:Passes CX X E)
  (ha:PA X (e::es) t) (hdb:(x==("__debug__":Str))=false:=by decide) (he:starEach (e::es) X.env=(false,eval e X.env)::starEach es X.env:=by rfl) (hpl:(backTo pos (starEach es X.env)).any (·.1)=false:=by rfl) :
  PE X (.Call (.Name x p) (e::es) [] pos) (aan sp M0 E t):=by
 intro pins s σ H Q I h;refine wpAny_Call_Name_kw (PB I hg hm ?_ hdb);refine PySem.W.callWith_K (h₀:=X.base) I.ok.mod.kin hk (cV (ha pos pins s σ H _ I h) fun us s1 ⟨vs,H1,I1,r,q⟩=>⟨I1.Fl,?_⟩) he hpl;exact Yz F hr hb hd hx I1 r q
end
section
variable {X:Cx} {CX:SJ} {k:Nat} {f C:Addr} {fd:FuncData} {ps ks:List Str} {sp:Sp} {E:XK} {x m:Str} {p pos apos agC:Pos} {e o:Expr} {es:List Expr} {kws:List Keyword} {te ta:TE} {t tk:TA} {nm:Option Str}
variable {g:List Value->List Value->List Value} {gV:List V->List V->List V}
end
structure aG (N P:List Str)(sc:Scope):Prop where
 kind:sc.kind=.function
 co:sc.isCoroutine=false
 gen:sc.isGenerator=false
 nd:N.Nodup
 pre:N.take P.length=P
 par:∀ x∈P,sc.names.lookup x=some .local\/sc.names.lookup x=some .cell
 YA:∀ y∈sc.names,y.2≠.free
theorem GW {kindOf:Str->Option NameKind}{x:Str}:∀{binds:List (Str×Value)} {m:Str->Option Value},(∀ v,(x,v) ∉ binds)->bindL kindOf binds m x=m x
 |[],_,_=>rfl
 |(n,v)::r,m,h=>by
  unfold bindL;rw[GW fun w hw=>h w (mem_cons_of_mem _ hw)];split
  ·have:x≠n:=by rintro rfl;exact h v mem_cons_self
   simp[this]
  ·rfl
theorem GX {kindOf:Str->Option NameKind}{x:Str}:∀{binds:List (Str×Value)} {m:Str->Option Value},(∀ v,(x,v) ∉ binds)->bindC kindOf binds m x=m x
 |[],_,_=>rfl
 |(n,v)::r,m,h=>by
  unfold bindC;rw[GX fun w hw=>h w (mem_cons_of_mem _ hw)];split
  ·rfl
  ·have:x≠n:=by rintro rfl;exact h v mem_cons_self
   simp[this]
theorem GY {kindOf:Str->Option NameKind}{x:Str}{v:Value}:∀{P:List Str} {vs:List Value} {i:Nat} {m:Str->Option Value},P.Nodup->P[i]? = some x->vs[i]? = some v->kindOf x=some .local ->
  bindL kindOf (P.zip vs) m x=some v
 |[],_,_,_,_,h,_,_=>by simp at h
 |_::_,[],_,_,_,_,h,_=>by simp at h
 |p::P,w::vs,0,m,nd,h1,h2,hk=>by
  simp at h1 h2;subst h1;subst h2;show bindL kindOf ((p,w)::P.zip vs) m p=_;unfold bindL;rw[GW fun v hv=>(List.nodup_cons.mp nd).1 (List.of_mem_zip hv).1,if_pos hk];simp
 |p::P,w::vs,i+1,m,nd,h1,h2,hk=>by
  show bindL kindOf ((p,w)::P.zip vs) m x=_;unfold bindL;exact GY (i:=i) (List.nodup_cons.mp nd).2 (by simpa using h1) (by simpa using h2) hk
theorem GZ {kindOf:Str->Option NameKind}{x:Str}{v:Value}:∀{P:List Str} {vs:List Value} {i:Nat} {m:Str->Option Value},P.Nodup->P[i]? = some x->vs[i]? = some v->kindOf x≠some .local ->
  bindC kindOf (P.zip vs) m x=some v
 |[],_,_,_,_,h,_,_=>by simp at h
 |_::_,[],_,_,_,_,h,_=>by simp at h
 |p::P,w::vs,0,m,nd,h1,h2,hk=>by
  simp at h1 h2;subst h1;subst h2;show bindC kindOf ((p,w)::P.zip vs) m p=_;unfold bindC;rw[GX fun v hv=>(List.nodup_cons.mp nd).1 (List.of_mem_zip hv).1,if_neg hk];simp
 |p::P,w::vs,i+1,m,nd,h1,h2,hk=>by
  show bindC kindOf ((p,w)::P.zip vs) m x=_;unfold bindC;exact GZ (i:=i) (List.nodup_cons.mp nd).2 (by simpa using h1) (by simpa using h2) hk
def start (N:List Str)(vs:List V):St:=vs.map some++List.replicate (N.length-vs.length) none
def Lu (CX:SJ)(P:Program)(w:World)(K:Frag)(mg:Str->Option Value)(base:Heap)(N:List Str)(qual:Str)(scope:Scope)(f:Addr)(cd:Value)(A:Around)(outer:List Env)(s:Shared)(H:Hp)(E:XK):Cx where
 prog:=P
 w:=w
 K:=K
 mg:=mg
 base:=base
 A:=A.deeper (envOfC qual scope s.heap.objs.size f cd)
 N:=N
 s₀:=s
 H₀:=H
 env:=envOfC qual scope s.heap.objs.size f cd
 outer:=outer
 stack:=envOfC qual scope s.heap.objs.size f cd::outer
 ex:=[]
 calm:=true
 fn:=fun _=>true
 pn:=[]
 xe:=fun e s'=>wpAny (model P w) (A.deeper (envOfC qual scope s.heap.objs.size f cd)) (leaving (envOfC qual scope s.heap.objs.size f cd) e) (fun _ s''=>CX outer H s E e s'') (fun e' s''=>CX outer H s E e' s'') s'
theorem Lv {sc:Scope}{n:Nat}{x:Str}(h:sc.names.lookup x=some .cell):∃ c,(cellsFrom n sc.names []).lookup x=some c:=by
 have q:=PySem.W.cellsFrom_some sc.names n [] (.inl h);exact Option.isSome_iff_exists.mp q
theorem QR {CX:SJ}{P:Program}{w:World}{K:Frag}{mg:Str->Option Value}{base:Heap}{N ps:List Str}{qual:Str}{scope:Scope}{f:Addr}{cd:Value}{A:Around}{outer:List Env}{s s1:Shared}{H:Hp}{E:XK}{us:List Value}{vs:List V}
  (S:aG N ps scope) (hd:A.handled=none) (e0:Vx P w K mg base A outer s H) (hl:vs.length=ps.length) (r:Vals vs us)
  (x:InCallC s s.heap.objs.size (bindL (envOfC qual scope s.heap.objs.size f cd).kindOf (ps.zip us) fun _=>none) (cellsFrom (s.heap.objs.size+1) scope.names []) (bindC (envOfC qual scope s.heap.objs.size f cd).kindOf (ps.zip us) fun _=>none) s1) :
  Inv (Lu CX P w K mg base N qual scope f cd A outer s H E) [] (start N vs) H s1:=by
 have hpl:ps.length<=N.length:=by have:=congrArg List.length S.pre;rw[length_take]at this;omega
 obtain⟨h1,tk,rfl,hk⟩:=x.done;have noA:∀ b:Addr,b ∉ (Lu CX P w K mg base N qual scope f cd A outer s H E).ex:=fun b z=>absurd (show b∈([]:List Addr) from z) (by simp);refine⟨⟨e0.mod,S.kind,rfl,rfl,Nat.le_refl _,fun y z c h1 h2=>?_,fun y hy=>?_,fun y c _ h=>?_,fun _=>hd,Around.frames_deeper e0.frames,.inr ⟨rfl,rfl⟩,fun b z=>absurd z (noA b),e0.bs,e0.Vh,fun b _ _=>noA b,fun b z=>absurd z (noA b),e0.BV,e0.ZK⟩,
  rfl,e0.bare,Un.kept hk,⟨_,x.toInCall.ns,fun i y v h1 h2 h3=>?_⟩,fun y c h=>⟨_,x.cell y c h⟩,e0.hok.fresh (Nat.le_refl _),fun y c h=>?_,fun p hp=>absurd (show p∈([]:List (Addr×Obj)) from hp) (by simp),e0.hok.kept hk,?_⟩
 ·exact name_of_addr x.apart (PySem.mem_of_lookup h1) (PySem.mem_of_lookup h2)
 ·have hy:scope.names.lookup y=some .cell\/scope.names.lookup y=some .free:=hy;rcases hy with hy|hy
  ·exact Lv hy
  ·exact absurd rfl (S.YA _ (PySem.mem_of_lookup hy))
 ·exact Nat.le_of_lt (x.above y c (PySem.mem_of_lookup h))
 ·have hi:i<vs.length:=by
   unfold start at h2
   by_cases hi:i<vs.length
   ·exact hi
   ·rw[getElem?_append_right (by simpa using hi)]at h2;rw[List.getElem?_replicate]at h2;split at h2 <;> cases h2
  have ha:vs[i]? = some v:=by
   unfold start at h2;rw[List.getElem?_append_left (by simpa using hi),getElem?_map]at h2;cases e:vs[i]? with
   |none=>rw[e]at h2;cases h2
   |some a=>rw[e]at h2;cases h2;rfl
  obtain⟨u,hu,rv⟩:=r.get ha;have hp:ps[i]? = some y:=by
   rw[<-S.pre,List.getElem?_take_of_lt (by omega)];exact h1
  have ndP:ps.Nodup:=by rw[<-S.pre];exact S.nd.sublist (List.take_sublist _ _)
  refine⟨u,rv,?_⟩;rcases S.par y (mem_of_getElem? hp) with k|k
  ·exact .inl ⟨k,GY ndP hp hu k⟩
  ·obtain⟨c,e⟩:=Lv (n:=s.heap.objs.size+1) k;refine .inr ⟨.inl k,c,e,?_⟩;have q:=x.cell y c e;rw[GZ ndP hp hu (by show scope.names.lookup y≠_;rw[k];decide)]at q;exact q
 ·exact e0.hok.fresh (Nat.le_of_lt (x.above y c (PySem.mem_of_lookup h)))
 ·unfold start;show _=N.length;rw[length_append,length_map,List.length_replicate];omega
theorem SK {CX:SJ}{P:Program}{w:World}{K:Frag}{mg:Str->Option Value}{base:Heap}{k:Nat}{f:Addr}{name qual:Str}{params:Arguments}{body:List Stmt}{scope:Scope}{dV kV doc pm cdv ct oc:Value}{an od:Option Addr}
  {osl:Array (Option Value)} {N ps:List Str} {sp:Sp} (lk:K.lookup f=some ⟨oc,od,.func (fnOf name qual params body scope dV kV doc pm an cdv ct),osl⟩) (hcd:codeIn K cdv qual=true) (S:aG N ps scope)
  (len:∀ vs H Q E,sp vs H Q E->vs.length=ps.length)
  (hbody:∀(A:Around)(outer:List Env)(s:Shared)(H:Hp)(vs:List V)(Q:VK)(E:XK),kU k (A.deeper (envOfC qual scope s.heap.objs.size f cdv))->sp vs H Q E ->
   ∃ t,Lp (Lu CX P w K mg base N qual scope f cdv A outer s H E) body t/\t { nx:=fun _ H'=>Q .non H',rt:=Q } (start N vs) H) :
  cA P w K mg base CX (k+1) f (fnOf name qual params body scope dV kV doc pm an cdv ct) ps sp:=by
 refine⟨len,fun A outer s H args us vs Q E hr e0 hb r hsp=>?_⟩;have hl:=len _ _ _ _ hsp;have KX:K.In s.heap:=e0.mod.kin.keeps fun b o e=>(e0.bs b o e).1;have lim:s.heap.NoLimit:=e0.mod.nolimit.keeps fun b o e=>(e0.bs b o e).1;have hkind:∀ y∈ps.zip us,scope.names.lookup y.1=some .local\/(scope.names.lookup y.1=some .cell/\((cellsFrom (s.heap.objs.size+1) scope.names []).lookup y.1).isSome=true):=fun⟨n,v⟩ hy=>by
  rcases S.par n (List.of_mem_zip hy).1 with q|q
  ·exact .inl q
  ·exact .inr ⟨q,PySem.W.cellsFrom_some _ _ _ (.inl q)⟩
 refine codeAny_call_function hr.depth (KX _ _ lk) rfl S.co S.gen rfl (PySem.W.codeRec_of KX hcd) (hb _ _ _ _ ?_);refine wpAny_newFunctionEnv_cells S.kind hkind fun env he s1 x=>?_;subst he;refine⟨lim.keeps x.toInCall.keep,codeAny_func ?_⟩;obtain⟨t,ht,hq⟩:=hbody A outer s H vs Q E (hr.deeper _) hsp;have I:Inv (Lu CX P w K mg base N qual scope f cdv A outer s H E) [] (start N vs) H s1:=QR S hr.hd e0 hl r x;refine wpAny_mono (ht [] s1 (start N vs) H _ I hq) (fun fl s' hs=>?_) fun e s' hs=>hs;have fin:∀{σ':St} {H':Hp} {v:V} {u:Value},Inv (Lu CX P w K mg base N qual scope f cdv A outer s H E) [] σ' H' s'->RelV v u->Q v H'->CE outer P w H s Q u s' :=
  fun {σ' H' v u} J rv q=>⟨v,H',J.os,J.bare,J.base,J.hok,rv,q⟩
 cases fl with
 |ret u =>
  obtain⟨v,σ',H',J,rv,q⟩:=hs;exact fin J rv q
 |next =>
  obtain⟨σ',H',J,q⟩:=hs;exact fin (v:=V.non) (u:=Value.none) J rfl q
 |brk =>
  obtain⟨_,_,_,q⟩:=hs;exact False.elim q
 |cont =>
  obtain⟨_,_,_,q⟩:=hs;exact False.elim q
end L2
namespace L2
open PySem PySem.Spec PyProof.Rows
section
variable {X:Cx} {x:Str} {p pos:Pos} {e:Expr} {es:List Expr} {t:TA} {id T:String} {r:List V->Hp->VK->Prop}
def tCB (r:List V->Hp->VK->Prop)(t:TA):TE:=fun σ H Q=>t σ H fun vs H1=>r vs H1 Q
theorem bS (hc:jE X (.builtin id) r)(hg:Gl X x)(hm:X.mg x=none)(hv:bootBuiltins x=some (.builtin id))(ha:PA X (e::es) t)(hn:x ≠ "__name__":=by decide)(hdb:(x==("__debug__":Str))=false:=by decide)
  (he:starEach (e::es) X.env=(false,eval e X.env)::starEach es X.env:=by rfl) (hpl:(backTo pos (starEach es X.env)).any (·.1)=false:=by rfl):PE X (.Call (.Name x p) (e::es) [] pos) (tCB r t):=by
 intro pins s σ H Q I h;refine wpAny_Call_Name_kw (vS I hg hm hv ?_ hn hdb);exact PyProof.Rows.callWith_builtin1 (cV (ha pos pins s σ H _ I h) fun us s1 ⟨vs,H1,I1,r1,q1⟩=>hc pins s1 σ H1 vs us Q I1 r1 q1) he hpl
theorem iD (hc:jE X (.type T) r)(hg:Gl X x)(hm:X.mg x=none)(hv:bootBuiltins x=some (.type T))(ha:PA X (e::es) t)(hn:x ≠ "__name__":=by decide)(hdb:(x==("__debug__":Str))=false:=by decide)
  (he:starEach (e::es) X.env=(false,eval e X.env)::starEach es X.env:=by rfl) (hpl:(backTo pos (starEach es X.env)).any (·.1)=false:=by rfl):PE X (.Call (.Name x p) (e::es) [] pos) (tCB r t):=by
 intro pins s σ H Q I h;refine wpAny_Call_Name_kw (vS I hg hm hv ?_ hn hdb);exact PyProof.Rows.callWith_type1 (cV (ha pos pins s σ H _ I h) fun us s1 ⟨vs,H1,I1,r1,q1⟩=>hc pins s1 σ H1 vs us Q I1 r1 q1) he hpl
end
end L2
namespace HT
open PySem PyProof.Rows
section
open PySem.SeqAt
open PySem.AutoSeq1 (wpAny_loadPart')
open PySem.MeetsSeq PySem.MeetsSeq2 PySem.MeetsSeq3
end
section
variable {prog:Program} {w:World} {A:Around} {E:Value->Shared->Prop} {s:Shared}
def iE (n d:Nat):Option Int->Nat
 |none=>d
 |some v=>if v<0 then(v+(n:Int)).toNat else min v.toNat n
theorem Lx (n d:Nat):iE n d none=d:=rfl
theorem PL (n d k:Nat):iE n d (some (k:Int))=min k n:=by
 show(if(k:Int)<0 then((k:Int)+(n:Int)).toNat else min (k:Int).toNat n)=min k n;rw[if_neg (by omega),Int.toNat_natCast]
theorem YB (n d:Nat)(hd:d<=n)(o:Option Int):iE n d o<=n:=by
 cases o with
 |none=>exact hd
 |some v =>
  show(if v<0 then(v+(n:Int)).toNat else min v.toNat n)<=n
  by_cases hv:v<0
  ·rw[if_pos hv];omega
  ·rw[if_neg hv];exact Nat.min_le_right _ _
theorem PM (v:Int)(n d:Nat):(if v<0 then max (v+(n:Int)) 0 else min v (n:Int))=((iE n d (some v):Nat):Int):=by
 show(if v<0 then max (v+(n:Int)) 0 else min v (n:Int))=(((if v<0 then(v+(n:Int)).toNat else min v.toNat n):Nat):Int)
 by_cases hv:v<0
 ·simp only [if_pos hv];omega
 ·simp only [if_neg hv];omega
theorem M9 (lo hi:Option Int)(n:Nat):Builtin.Slice.sliceAdjust lo hi 1 (n:Int)=(((iE n 0 lo:Nat):Int),((iE n n hi:Nat):Int)):=by
 have h1:¬((1:Int)<0):=by omega
 unfold Builtin.Slice.sliceAdjust;simp only [h1,if_false];refine Prod.ext ?_ ?_
 ·cases lo with
  |none=>rfl
  |some v=>exact PM v n 0
 ·cases hi with
  |none=>rfl
  |some v=>exact PM v n n
theorem Na (i j:Nat):Builtin.Slice.slicePlaces (i:Int) (j:Int) 1=j-i:=by
 unfold Builtin.Slice.slicePlaces;have h1:(1:Int) > 0:=by omega
 simp only [h1,if_true,Int.ediv_one];split <;> omega
theorem BZ {v:Value}{o:Option Int}{Q:Option Int->Shared->Prop}(p:IsPart v o)(h:Q o s):wpAny (model prog w) A (Builtin.Slice.slicePartIndex v) Q E s:=by
 cases p with
 |none=>exact slicePart_none h
 |int i t=>exact slicePart_int h
theorem vV {sl:Addr}{vl vu:Value}{lo hi:Option Int}{n:Nat}{Q:Int×Int×Nat->Shared->Prop}(hs:s.heap.IsSliceOf sl vl vu .none)(pl:IsPart vl lo)(pu:IsPart vu hi)
  (h:Q (((iE n 0 lo:Nat):Int),1,iE n n hi-iE n 0 lo) s):wpAny (model prog w) A (Builtin.Slice.sliceApplied (.ref sl) (pure (n:Int))) Q E s:=by
 obtain⟨os,hos,hcs,hds⟩:=id hs;unfold Builtin.Slice.sliceApplied Builtin.Slice.sliceFields;refine wpAny_bind (wpAny_bind (wpAny_field hos hds (x:=vl) rfl (wpAny_bind (wpAny_field hos hds (x:=vu) rfl (wpAny_bind (wpAny_field hos hds (x:=.none) rfl (wpAny_pure ?_)))))));refine wpAny_bind (slicePart_none ?_);show wpAny _ _ (if((1:Int)==0)=true then _ else _) _ _ s;rw[if_neg (by decide)];refine wpAny_bind (BZ pl (wpAny_bind (BZ pu (wpAny_bind (wpAny_pure ?_)))));show wpAny _ _ (match Builtin.Slice.sliceAdjust lo hi 1 (n:Int) with|(lo,hi)=>pure (lo,(1:Int),Builtin.Slice.slicePlaces lo hi 1)) _ _ s;rw[M9 lo hi n];show wpAny _ _ (pure (((iE n 0 lo:Nat):Int),(1:Int),Builtin.Slice.slicePlaces ((iE n 0 lo:Nat):Int) ((iE n n hi:Nat):Int) 1)) _ _ s;rw[Na];exact wpAny_pure h
theorem SM (xs:Array Value)(i k:Nat):((List.range k).filterMap fun(m:Nat)=>xs[((i:Int)+(m:Int) * 1).toNat]?).toArray=((xs.toList.drop i).take k).toArray:=by
 have e:(fun(m:Nat)=>xs[((i:Int)+(m:Int) * 1).toNat]?)=fun m=>xs[i+m]?:=by
  funext m
  have:((i:Int)+(m:Int) * 1).toNat=i+m:=by omega
  rw[this]
 rw[e];have:=pick_run xs i k;rw[List.filterMap_map]at this;have e2:((fun x=>xs[x]?) ∘ fun x=>i+x)=fun m=>xs[i+m]?:=rfl;rw[e2]at this;rw[this]
theorem tI {t sl:Addr}{items:Array Value}{vl vu:Value}{lo hi:Option Int}{Q:Value->Shared->Prop}(ht:IsTup s.heap t items)(hs:s.heap.IsSliceOf sl vl vu .none)(pl:IsPart vl lo)(pu:IsPart vu hi)
  (hw:¬(iE items.size 0 lo=0/\iE items.size items.size hi=items.size))
  (h:Q (.ref s.heap.objs.size) { s with heap:=s.heap.push { cls:=.type "tuple",data:=.seq ((items.toList.drop (iE items.size 0 lo)).take (iE items.size items.size hi-iE items.size 0 lo)).toArray } })
  (hsz:items.size<=sizeLine):wpAny (model prog w) A (getItem (.ref t) (.ref sl)) Q E s:=by
 have PN:sizeOk (.seq ((items.toList.drop (iE items.size 0 lo)).take (iE items.size items.size hi-iE items.size 0 lo)).toArray):=by
  show((items.toList.drop (iE items.size 0 lo)).take (iE items.size items.size hi-iE items.size 0 lo)).toArray.size<=sizeLine;rw[size_toArray,length_take,length_drop,Array.length_toList];omega
 have hj:iE items.size items.size hi<=items.size:=YB _ _ (Nat.le_refl _) hi;obtain⟨os,hos,hcs,hds⟩:=id hs;have hTs:s.TypeIs (.ref sl) "slice":=⟨os,hos,hcs⟩;unfold getItem
 try with_reducible refine wpAny_holding ?_
 first|refine wpAny_bind (wpAny_pure ?_)|skip
 refine wpAny_bind (wpAny_sequenceKey ht.typeIs (by decide) ?_);refine wpAny_bind (wpAny_callSpecial?_slot (name:=Str.ofString "__getitem__") ht.typeIs PyProof.Rows.slot_tuple_getitem
  (wpAny_call_entry PyProof.Rows.slot_tuple_getitem ht.typeIs entry_tuple_getitem ?_ (args_tuple_getitem _ _)))
 show wpAny _ _ (Builtin.Tuple.tupleItemsOf (.ref t) >>= _) _ _ s;refine wpAny_bind (tupleItemsOf_ ht ?_);refine wpAny_bind (wpAny_typeOf hTs ?_);rw[if_pos (by decide)];refine wpAny_bind (vV hs pl pu ?_);have hno:¬((((iE items.size 0 lo:Nat):Int)==0&&(1:Int)==1&&(iE items.size items.size hi-iE items.size 0 lo)==items.size)=true):=by
  intro q;rw[Bool.and_eq_true,Bool.and_eq_true]at q;have q1:((iE items.size 0 lo:Nat):Int)=0:=eq_of_beq q.1.1;have q2:iE items.size items.size hi-iE items.size 0 lo=items.size:=eq_of_beq q.2;exact hw ⟨by omega,by omega⟩
 show wpAny _ _ (if(((iE items.size 0 lo:Nat):Int)==0&&(1:Int)==1&&(iE items.size items.size hi-iE items.size 0 lo)==items.size)=true then _ else _) _ _ s;rw[if_neg hno,SM]
 first
  |exact wpAny_bind (m:=Builtin.Tuple.tupleExact _) (wpAny_newObj_type (wpAny_pure ⟨_,rfl,wpAny_pure h⟩) PN)
  |exact wpAny_bind (m:=Builtin.Tuple.tupleExact _) (wpAny_newObj_type (wpAny_bind (wpAny_pure (wpAny_pure ⟨_,rfl,wpAny_pure h⟩))) PN)
  |exact wpAny_bind (wpAny_bind (m:=Builtin.Tuple.tupleExact _) (wpAny_newObj_type (wpAny_pure (wpAny_pure ⟨_,rfl,wpAny_pure h⟩)) PN))
  |exact wpAny_bind (wpAny_bind (m:=Builtin.Tuple.tupleExact _) (wpAny_newObj_type (wpAny_pure ⟨_,rfl,wpAny_pure h⟩) PN))
end
end HT
namespace L2
open PySem PySem.Spec PyProof.Rows
abbrev TO:=St->Hp->(Option Int->Hp->Prop)->Prop
def PO (X:Cx)(e:Option Expr)(t:TO):Prop :=
 ∀(pins:List (Addr×Obj)) (s:Shared) (σ:St) (H:Hp) (Q:Option Int->Hp->Prop),Inv X pins σ H s->t σ H Q ->
  wpAny (model X.prog X.w) X.A (evalPart e X.env) (fun u s'=>∃ o H',Inv X pins σ H' s'/\IsPart u o/\Q o H') X.xe s
def Vy:TO:=fun _ H Q=>Q none H
inductive SN (Q:(Option Int->Hp->Prop))(x:V)(H1:Hp):Prop
 |mk (i:_) (qH:x=.int i) (qI:Q (some i) H1):SN Q x H1
def aap (t:TE):TO:=fun σ H Q=>t σ H fun x H1=>SN Q x H1
section
variable {X:Cx} {e:Expr} {te:TE} {lo hi:Option Expr} {tl th:TO} {pos p2:Pos}
theorem HS:PO X none Vy:=by
 intro pins s σ H Q I h;rw[evalPart_none];exact wpAny_pure ⟨none,H,I,.none,h⟩
theorem HU (h:PE X e te):PO X (some e) (aap te):=by
 intro pins s σ H Q I hw;rw[evalPart_some];refine cV (h pins s σ H _ I hw) fun u s1 ⟨x,H1,I1,r1,q1⟩=>?_;obtain⟨i,rfl,q⟩:=q1;obtain⟨t,rfl⟩:=r1;exact⟨some i,H1,I1,.int i t,q⟩
def Xm (X:Cx)(r:V->Option Int->Option Int->Hp->VK->Prop):Prop :=
 ∀(pins:List (Addr×Obj)) (s:Shared) (σ:St) (H:Hp) (x:V) (v vl vu:Value) (lo hi:Option Int) (sl:Addr) (Q:VK),Inv X pins σ H s->RelV x v->s.heap.IsSliceOf sl vl vu .none->IsPart vl lo->IsPart vu hi->r x lo hi H Q ->
  ∃ T id,typeLookup (.type T) "__getitem__"=pure (some (.builtin id))/\s.TypeIs v T/\wpAny (model X.prog X.w) X.A (getItem v (.ref sl)) (EP X pins σ Q) X.xe s
theorem Xm.or {r r':V->Option Int->Option Int->Hp->VK->Prop}(h:Xm X r)(h':Xm X r'):Xm X (fun x lo hi H Q=>r x lo hi H Q\/r' x lo hi H Q):=by
 intro pins s σ H x v vl vu lo hi sl Q I rx hs pl pu q;rcases q with q|q
 ·exact h pins s σ H x v vl vu lo hi sl Q I rx hs pl pu q
 ·exact h' pins s σ H x v vl vu lo hi sl Q I rx hs pl pu q
def tSl (r:V->Option Int->Option Int->Hp->VK->Prop)(te:TE)(tl th:TO):TE:=fun σ H Q=>te σ H fun x H1=>tl σ H1 fun l H2=>th σ H2 fun u H3=>r x l u H3 Q
theorem B0 {r:V->Option Int->Option Int->Hp->VK->Prop}(hr:Xm X r)(he:PE X e te)(hl:PO X lo tl)(hu:PO X hi th):PE X (.Subscript e (.Slice lo hi none p2) pos) (tSl r te tl th):=by
 intro pins s σ H Q I h;refine Subscript_ (cV (he pins s σ H _ I h) fun v s1 ⟨x,H1,I1,r1,q1⟩=>?_);refine wpAny_Slice (cV (hl pins s1 σ H1 _ I1 q1) fun vl s2 ⟨l,H2,I2,pl,q2⟩=>cV (hu pins s2 σ H2 _ I2 q2) fun vu s3 ⟨u,H3,I3,pu,q3⟩=>?_);rw[evalPart_none];refine wpAny_pure ?_;have I4:Inv X pins σ H3 { s3 with heap:=s3.heap.push { cls:=.type "slice",data:=.fields #[vl,vu,.none] } }:=I3.kept (t':=s3.toks) fun b ob q=>Heap.get?_push_of_some _ q;obtain⟨T,id,hT,ht,hg⟩:=hr pins { s3 with heap:=s3.heap.push { cls:=.type "slice",data:=.fields #[vl,vu,.none] } } σ H3 x v vl vu l u s3.heap.objs.size Q I4 r1 (Heap.IsSliceOf.new ..) pl pu q3;show wpAny (model X.prog X.w) X.A (subscriptTail e (.Slice lo hi none p2) v (.ref s3.heap.objs.size)) (EP X pins σ Q) X.xe { s3 with heap:=s3.heap.push { cls:=.type "slice",data:=.fields #[vl,vu,.none] } };exact tail_any (ops:=[.ref s3.heap.objs.size,v]) ht hT hg (by with_unfolding_all rfl)
def Fm (xs:List V)(lo hi:Option Int):List V:=(xs.drop (HT.iE xs.length 0 lo)).take (HT.iE xs.length xs.length hi-HT.iE xs.length 0 lo)
theorem yM (xs:List V)(lo hi:Option Int):(Fm xs lo hi).length<=xs.length:=by
 unfold Fm;rw[length_take,length_drop];omega
inductive Xn (K:Frag)(x:V)(lo:Option Int)(hi:Option Int)(H:Hp)(Q:VK):Prop
 |mk (a:_) (xs:_) (qH:x=.ref a) (qI:cz K H a xs) (AY:¬(HT.iE xs.length 0 lo=0/\HT.iE xs.length xs.length hi=xs.length)) (MZ:∀ p,H p=none->Q (.ref p) (upd H p (.tup (Fm xs lo hi)))):Xn K x lo hi H Q
def adv (K:Frag):V->Option Int->Option Int->Hp->VK->Prop:=fun x lo hi H Q=>Xn K x lo hi H Q
theorem Nb:Xm X (adv X.K):=by
 intro pins s σ H x v vl vu lo hi sl Q I rx hs pl pu h;obtain⟨a,xs,rfl,hx,hw,q⟩:=h;cases rx;obtain⟨its,r,ht,hz⟩:=I.tuple hx;have hlen:its.toArray.size=xs.length:=by rw[size_toArray];exact r.length.symm
 refine⟨"tuple",_,PyProof.Rows.slot_tuple_getitem.lookup,ht.typeIs,?_⟩;refine HT.tI ht hs pl pu (by rw[hlen];exact hw) ?_ (by rw[hlen];exact hz);rw[hlen];refine⟨.ref s.heap.objs.size,_,I.laid (t':=s.toks) (o:=.tup (Fm xs lo hi)) (fun b ob q=>Heap.get?_push_of_some _ q) (Nat.le_refl _) ?_,rfl,q _ (I.hok.fresh (Nat.le_refl _))⟩;exact⟨Nat.le_trans (yM xs lo hi) hz,_,(r.drop (HT.iE xs.length 0 lo)).take (HT.iE xs.length xs.length hi-HT.iE xs.length 0 lo),IsTup.new _ _⟩
end
end L2
namespace L2
open PySem PySem.Spec PyProof.Rows
def Vz (n:Nat)(i:Int):Option Nat:=if 0<=i then(if i<n then some i.toNat else none) else if -(n:Int)<=i then some (i+n).toNat else none
def Xo {α:Type}(xs:List α)(i:Int):Option α:=(Vz xs.length i).bind fun j=>xs[j]?
theorem PQ {n:Nat}{i:Int}{j:Nat}(h:Vz n i=some j):seqIndex? i n=some j/\j<n/\-(n:Int)<=i/\i<n:=by
 unfold Vz at h
 by_cases h0:0<=i
 ·rw[if_pos h0]at h
  by_cases h1:i<n
  ·rw[if_pos h1]at h;have e:i.toNat=j:=Option.some.inj h;exact⟨by rw[seqIndex_of h0 h1,e],by omega,by omega,h1⟩
  ·rw[if_neg h1]at h;cases h
 ·rw[if_neg h0]at h
  by_cases h1:-(n:Int)<=i
  ·rw[if_pos h1]at h;have e:(i+n).toNat=j:=Option.some.inj h;exact⟨by rw[seqIndex_neg (by omega) h1,e],by omega,h1,by omega⟩
  ·rw[if_neg h1]at h;cases h
theorem HV {α:Type}{xs:List α}{i:Int}{v:α}(h:Xo xs i=some v):∃ j,seqIndex? i xs.length=some j/\xs[j]? = some v/\j<xs.length/\-(xs.length:Int)<=i/\i<xs.length:=by
 unfold Xo at h;cases e:Vz xs.length i with
 |none=>rw[e]at h;cases h
 |some j =>
  rw[e]at h;obtain⟨h1,h2,h3,h4⟩:=PQ e;exact⟨j,h1,h,h2,h3,h4⟩
theorem HW {α:Type}{xs:List α}{j:Nat}{v:α}(h:xs[j]? = some v):Xo xs (j:Int)=some v:=by
 have hj:j<xs.length:=(List.getElem?_eq_some_iff.mp h).1;have e:Vz xs.length (j:Int)=some j:=by
  unfold Vz;rw[if_pos (by omega),if_pos (by omega)];simp
 unfold Xo;rw[e];exact h
def VA (b:Expr):Prop:=∀ o i,subscripted b false o i=operate [o,i] (getItem o i)
def Vk (X:Cx)(r:R2):Prop :=
 ∀(value slice:Expr)(pins:List (Addr×Obj)) (s:Shared) (σ:St) (H:Hp) (x y:V) (v u:Value) (Q:VK),Inv X pins σ H s->RelV x v->RelV y u->r x y H Q ->
  subscripted slice false v u=operate [v,u] (getItem v u)->wpAny (model X.prog X.w) X.A (subscriptTail value slice v u) (EP X pins σ Q) X.xe s
def MtR (X:Cx)(id:String)(r:V->List V->Hp->VK->Prop):Prop :=
 ∀(pins:List (Addr×Obj)) (s:Shared) (σ:St) (H:Hp) (x:V) (xs:List V) (v:Value) (us:List Value) (Q:VK),Inv X pins σ H s->RelV x v->Vals xs us->r x xs H Q ->
  wpAny (model X.prog X.w) X.A (call (.builtin id) (v::us)) (EP X pins σ Q) X.xe s
section
variable {X:Cx} {a b:Expr} {ta tb:TE} {pos:Pos}
theorem Vk.or {r r':R2}(h:Vk X r)(h':Vk X r'):Vk X (fun x y H Q=>r x y H Q\/r' x y H Q):=by
 intro value slice pins s σ H x y v u Q I rx ry q hs;rcases q with q|q
 ·exact h value slice pins s σ H x y v u Q I rx ry q hs
 ·exact h' value slice pins s σ H x y v u Q I rx ry q hs
theorem aE {r:R2}(hr:Vk X r)(ha:PE X a ta)(hb:PE X b tb)(hs:VA b):PE X (.Subscript a b pos) (tOp r ta tb):=by
 intro pins s σ H Q I h;exact Subscript_ (Yt ha hb I h fun v u s2 x y H2 I2 rx ry q=>hr a b pins s2 σ H2 x y v u Q I2 rx ry q (hs _ _))
inductive Xp (K:Frag)(x:V)(y:V)(H:Hp)(Q:VK):Prop
 |mk (p:_) (xs:_) (i:_) (v:_) (qH:x=.ref p) (qI:y=.int i) (AY:a6 K H p xs) (MZ:Xo xs i=some v) (Vj:Q v H):Xp K x y H Q
def Fn (K:Frag):R2:=fun x y H Q=>Xp K x y H Q
inductive Xq (K:Frag)(x:V)(y:V)(H:Hp)(Q:VK):Prop
 |mk (p:_) (xs:_) (i:_) (v:_) (qH:x=.ref p) (qI:y=.int i) (AY:cz K H p xs) (MZ:Xo xs i=some v) (Vj:Q v H):Xq K x y H Q
def Fo (K:Frag):R2:=fun x y H Q=>Xq K x y H Q
inductive Xr (x:V)(y:V)(H:Hp)(Q:VK):Prop
 |mk (z:_) (i:_) (c:_) (qH:x=.str z) (qI:y=.int i) (AY:z.length<=sizeLine) (MZ:Xo z.cps.toList i=some c) (Vj:Q (.str ⟨#[c]⟩) H):Xr x y H Q
def Fp :R2:=fun x y H Q=>Xr x y H Q
theorem VB:Vk X (Fn X.K):=by
 intro value slice pins s σ H x y v u Q I rx ry h hs;obtain⟨p,xs,i,z,rfl,rfl,hq,he,q⟩:=h;cases rx;obtain⟨t,rfl⟩:=ry;obtain⟨its,r,pl,hz⟩:=I.list hq;obtain⟨j,h1,h2,h3,h4,h5⟩:=HV he;obtain⟨w,ew,Sx⟩:=r.get h2;have hl:=r.length;have hn:=vU;have fin:EP X pins σ Q w s:=⟨z,H,I,Sx,q⟩
 by_cases h0:0<=i
 ·have hj:i.toNat=j:=by
   rw[seqIndex_of h0 h5]at h1;exact Option.some.inj h1
  exact item_listR pl.isList h0 (by omega) (by rw[hj];simpa using ew) fin hs
 ·have hj:(i+(its.toArray.size:Int)).toNat=j:=by
   rw[seqIndex_neg (by omega) h4]at h1;rw[size_toArray,<-hl];exact Option.some.inj h1
  exact subscriptTail_builtinR (x:=w) pl.isList.typeIs slot_list_getitem.lookup
   (wpAny_getItem_list_neg (Q:=fun r s'=>r=w/\EP X pins σ Q r s') pl.isList (by omega) (by rw[size_toArray] <;> omega) (by omega) (by rw[hj];simpa using ew) ⟨rfl,fin⟩) hs
theorem YC:Vk X (Fo X.K):=by
 intro value slice pins s σ H x y v u Q I rx ry h hs;obtain⟨p,xs,i,z,rfl,rfl,hq,he,q⟩:=h;cases rx;obtain⟨t,rfl⟩:=ry;obtain⟨its,r,pl,hz⟩:=I.tuple hq;obtain⟨j,h1,h2,h3,h4,h5⟩:=HV he;obtain⟨w,ew,Sx⟩:=r.get h2;have hl:=r.length;have hn:=vU;have fin:EP X pins σ Q w s:=⟨z,H,I,Sx,q⟩;exact subscriptTail_builtinR (x:=w) pl.typeIs slot_tuple_getitem.lookup
  (getItem_tuple (j:=j) (Q:=fun r s'=>r=w/\EP X pins σ Q r s') pl (by omega) (by omega) (by rw[size_toArray,<-hl];exact h1) (by simpa using ew) ⟨rfl,fin⟩) hs
theorem YD:Vk X Fp:=by
 intro value slice pins s σ H x y v u Q I rx ry h hs;obtain⟨z,i,c,rfl,rfl,hz,he,q⟩:=h;obtain⟨t,rfl⟩:=rx;obtain⟨t',rfl⟩:=ry;obtain⟨j,h1,h2,h3,h4,h5⟩:=HV he;have hl:z.cps.toList.length=z.length:=by simp[Str.length]
 rw[hl]at h1 h4 h5;have hn:=vU;exact tail_any (typeIs_str s z t) slot_str_getitem.lookup (getItem_str (c:=c) (by
  have e1:decide (i < -(2 ^ 63:Int))=false:=decide_eq_false (by omega);have e2:decide (i ≥ 2 ^ 63)=false:=decide_eq_false (by omega);rw[e1,e2,Bool.or_false]) (by rw[h1];simpa using h2) ⟨.str ⟨#[c]⟩,H,I.tok _,⟨_,rfl⟩,q⟩) hs
def rIx (K:Frag):R2:=fun x y H Q=>Fn K x y H Q\/Fo K x y H Q\/Fp x y H Q
theorem ax:Vk X (rIx X.K):=VB.or (YC.or YD)
theorem Nc (its:List Value)(n j:Nat)(u:Value):Obj.mapSeq (·.setIfInBounds j u) { cls:=.type "list",data:=.seq its.toArray n } = { cls:=.type "list",data:=.seq (its.set j u).toArray n }:=by
 simp[Obj.mapSeq]
theorem Inv.lst {pins:List (Addr×Obj)}{σ:St}{H:Hp}{s:Shared}{p:Addr}{xs:List V}(I:Inv X pins σ H s)(h:H p=some (.lst xs)) :
  ∃(its:List Value)(n:Nat),Vals xs its/\s.heap.get? p=some { cls:=.type "list",data:=.seq its.toArray n }/\xs.length<=sizeLine:=by
 obtain⟨z,its,n,r,e⟩:=I.hok p _ h;exact⟨its,n,r,e,z⟩
theorem Inv.YE {pins:List (Addr×Obj)}{σ:St}{H:Hp}{s:Shared}{p:Addr}{xs ys:List V}{its its':List Value}{n n':Nat}{f:Obj->Obj}(I:Inv X pins σ H s)(h:H p=some (.lst xs))
  (ho:s.heap.get? p=some { cls:=.type "list",data:=.seq its.toArray n }) (hf:f { cls:=.type "list",data:=.seq its.toArray n } = { cls:=.type "list",data:=.seq its'.toArray n' }) (r:Vals ys its') (hz:ys.length<=sizeLine) (t:Nat) :
  Inv X pins σ (upd H p (.lst ys)) { s with heap:=s.heap.update p f,toks:=t }:=by
 have e:(s.heap.update p f).get? p=some { cls:=.type "list",data:=.seq its'.toArray n' }:=by
  rw[Heap.get?_update_self f ho (by rw[hf] <;> rfl),hf]
 refine I.write (x:=p) (e:=p) (by rw[h];trivial) (.inl rfl) (fun b u hb q=>(Heap.get?_update_other _ _ (Ne.symm hb)).trans q) ⟨_,e⟩ ?_;exact⟨hz,its',n',r,e⟩
inductive SO (o:V)(i:V)(v:V)(H:Hp)(Q:(Hp->Prop)):Prop
 |mk (p:_) (xs:_) (k:_) (j:_) (qH:o=.ref p) (qI:i=.int k) (AY:H p=some (.lst xs)) (MZ:Vz xs.length k=some j) (Vj:Q (upd H p (.lst (xs.set j v)))):SO o i v H Q
def aaq :V->V->V->Hp->(Hp->Prop)->Prop:=fun o i v H Q=>SO o i v H Q
theorem set_list:Z9 X aaq:=by
 intro pins s σ H o i v ov iv u Q I ro ri rv h;obtain⟨p,xs,k,j,rfl,rfl,hp,hj,q⟩:=h;cases ro;obtain⟨t,rfl⟩:=ri;obtain⟨its,n,r,ho,hz⟩:=I.lst hp;obtain⟨h1,h2,h3,h4⟩:=PQ hj;have hl:=r.length;have hn:=vU;have I':Inv X pins σ (upd H p (.lst (xs.set j v))) { s with heap:=s.heap.update p (Obj.mapSeq (·.setIfInBounds j u)) } :=
  I.YE hp ho (Nc its n j u) (r.set rv j) (by rw[List.length_set];exact hz) s.toks
 by_cases h0:0<=k
 ·have hk:k.toNat=j:=by
   rw[seqIndex_of h0 h4]at h1;exact Option.some.inj h1
  exact PySem.W.ki_setAt ho h0 (by omega) (by rw[size_toArray,<-hl];exact h4) (by rw[hk];exact⟨_,I',q⟩)
 ·have hk:(k+(its.toArray.size:Int)).toNat=j:=by
   rw[seqIndex_neg (by omega) h3]at h1;rw[size_toArray,<-hl];exact Option.some.inj h1
  exact PySem.W.ki_setBack ho (by omega) (by rw[size_toArray,<-hl];exact h3) (by omega) (by rw[hk];exact⟨_,I',q⟩)
theorem HX (lo hi:Option Int)(n:Nat):(sliceBounds lo hi none n).1=((HT.iE n 0 lo:Nat):Int)/\(sliceBounds lo hi none n).2.1=((HT.iE n n hi:Nat):Int)/\(sliceBounds lo hi none n).2.2=1:=by
 refine⟨?_,?_,rfl⟩
 ·cases lo with
  |none=>simp[sliceBounds,HT.iE]
  |some i =>
   simp only [sliceBounds,HT.iE,Option.getD_none,show(1:Int) > 0 by decide,if_true]
   by_cases h:i<0
   ·simp only [h,if_true] <;> omega
   ·simp only [h,if_false] <;> omega
 ·cases hi with
  |none=>simp[sliceBounds,HT.iE]
  |some i =>
   simp only [sliceBounds,HT.iE,Option.getD_none,show(1:Int) > 0 by decide,if_true]
   by_cases h:i<0
   ·simp only [h,if_true] <;> omega
   ·simp only [h,if_false] <;> omega
theorem Fq (its:List Value)(lo hi:Option Int):slicePick its.toArray lo hi none=((its.drop (HT.iE its.length 0 lo)).take (HT.iE its.length its.length hi-HT.iE its.length 0 lo)).toArray:=by
 obtain⟨h1,h2,h3⟩:=HX lo hi its.toArray.size;unfold slicePick;rw[h1,h2,h3];simp only [sliceRange_one,pick_run,size_toArray] <;> rfl
inductive Xs (K:Frag)(x:V)(lo:Option Int)(hi:Option Int)(H:Hp)(Q:VK):Prop
 |mk (a:_) (xs:_) (qH:x=.ref a) (qI:a6 K H a xs) (AY:∀ p,H p=none->Q (.ref p) (upd H p (.lst (Fm xs lo hi)))):Xs K x lo hi H Q
def adw (K:Frag):V->Option Int->Option Int->Hp->VK->Prop:=fun x lo hi H Q=>Xs K x lo hi H Q
theorem HY:Xm X (adw X.K):=by
 intro pins s σ H x v vl vu lo hi sl Q I rx hs pl pu h;obtain⟨a,xs,rfl,hx,q⟩:=h;cases rx;obtain⟨its,r,ht,hz⟩:=I.list hx;have hlen:=r.length;refine⟨"list",_,slot_list_getitem.lookup,ht.isList.typeIs,?_⟩;refine wpAny_getItem_list_slice ht.isList hs pl pu .none (by simp) ?_ (by rw[size_toArray] <;> omega);rw[Fq,<-hlen];refine⟨.ref s.heap.objs.size,_,I.laid (t':=s.toks) (o:=.lst (Fm xs lo hi)) (fun b ob q=>Heap.get?_push_of_some _ q) (Nat.le_refl _) ?_,rfl,q _ (I.hok.fresh (Nat.le_refl _))⟩;exact⟨Nat.le_trans (yM xs lo hi) hz,_,0,(r.drop (HT.iE xs.length 0 lo)).take (HT.iE xs.length xs.length hi-HT.iE xs.length 0 lo),Heap.get?_push_size _ rfl⟩
def qK:V->Bool
 |.non=>true
 |.bl _=>true
 |.int _=>true
 |.str _=>true
 |_=>false
def Vl:V->V->Bool
 |.non,.non=>true
 |.bl a,.bl b=>a==b
 |.bl a,.int b=>(if a then 1 else 0)==b
 |.int a,.bl b=>a==(if b then 1 else 0)
 |.int a,.int b=>a==b
 |.str a,.str b=>a==b
 |_,_=>false
theorem SQ {A:Around}{s:Shared}{y x:V}{u v:Value}(ry:RelV y u)(rx:RelV x v)(fy:qK y=true)(fx:qK x=true):SeqAt.EqAt A s u v (Vl y x):=by
 cases y with
 |non =>
  cases ry;cases x with
  |non=>cases rx;exact SeqAt.EqAt.same _
  |bl b=>cases rx;exact SeqAt.EqAt.none_bool b
  |int b=>obtain⟨t,rfl⟩:=rx;exact SeqAt.EqAt.none_int b t
  |str b=>obtain⟨t,rfl⟩:=rx;exact SeqAt.EqAt.none_str b t
  |_=>exact absurd (show false=true from fx) Bool.false_ne_true
 |bl a =>
  cases ry;cases x with
  |non=>cases rx;exact SeqAt.EqAt.bool_none a
  |bl b=>cases rx;exact SeqAt.EqAt.bool_bool a b
  |int b=>obtain⟨t,rfl⟩:=rx;exact SeqAt.EqAt.bool_int a b t
  |str b=>obtain⟨t,rfl⟩:=rx;exact SeqAt.EqAt.bool_str a b t
  |_=>exact absurd (show false=true from fx) Bool.false_ne_true
 |int a =>
  obtain⟨t',rfl⟩:=ry;cases x with
  |non=>cases rx;exact SeqAt.EqAt.int_none a t'
  |bl b=>cases rx;exact SeqAt.EqAt.int_bool a t' b
  |int b=>obtain⟨t,rfl⟩:=rx;exact SeqAt.EqAt.int_int a t' b t
  |str b=>obtain⟨t,rfl⟩:=rx;exact SeqAt.EqAt.int_str a t' b t
  |_=>exact absurd (show false=true from fx) Bool.false_ne_true
 |str a =>
  obtain⟨t',rfl⟩:=ry;cases x with
  |non=>cases rx;exact SeqAt.EqAt.str_none a t'
  |bl b=>cases rx;exact SeqAt.EqAt.str_bool a t' b
  |int b=>obtain⟨t,rfl⟩:=rx;exact SeqAt.EqAt.str_int a t' b t
  |str b=>obtain⟨t,rfl⟩:=rx;exact SeqAt.EqAt.str_str a t' b t
  |_=>exact absurd (show false=true from fx) Bool.false_ne_true
 |_=>exact absurd (show false=true from fy) Bool.false_ne_true
def Nd (x:V)(u:Value):Bool:=match u with
 |.none=>Vl .non x
 |.bool b=>Vl (.bl b) x
 |.int i _=>Vl (.int i) x
 |.str z _=>Vl (.str z) x
 |_=>false
theorem SR {x y:V}{u:Value}(r:RelV y u)(f:qK y=true):Nd x u=Vl y x:=by
 cases y with
 |non=>cases r;rfl
 |bl b=>cases r;rfl
 |int i=>obtain⟨t,rfl⟩:=r;rfl
 |str z=>obtain⟨t,rfl⟩:=r;rfl
 |_=>exact absurd (show false=true from f) Bool.false_ne_true
theorem tK {x:V}:∀{xs:List V} {us:List Value},Vals xs us->xs.all qK=true->us.any (Nd x)=xs.any fun y=>Vl y x
 |_,_,.nil,_=>rfl
 |y::xs,u::us,.cons r t,f=>by
  rw[List.all_cons,Bool.and_eq_true]at f;rw[List.any_cons,List.any_cons,SR r f.1,tK t f.2]
theorem oS {A:Around}{s:Shared}{x:V}{v:Value}(rx:RelV x v)(fx:qK x=true):∀{xs:List V} {us:List Value},Vals xs us->xs.all qK=true->∀ u∈us,SeqAt.EqAt A s u v (Nd x u)
 |_,_,.nil,_=>fun u hu=>by cases hu
 |y::xs,u::us,.cons r t,f=>fun u' hu=>by
  rw[List.all_cons,Bool.and_eq_true]at f;rcases List.mem_cons.mp hu with rfl|hu
  ·rw[SR r f.1];exact SQ r rx f.1 fx
  ·exact oS rx fx t f.2 u' hu
def inV (x:V)(xs:List V):Bool:=xs.any fun y=>Vl y x
inductive aar (K:Frag)(neg:Bool)(x:V)(y:V)(H:Hp)(Q:VK):Prop
 |mk (p:_) (xs:_) (qH:y=.ref p) (qI:(a6 K H p xs\/cz K H p xs)) (AY:qK x=true) (MZ:xs.all qK=true) (Vj:Q (.bl (if neg then !inV x xs else inV x xs)) H):aar K neg x y H Q
def rIn (K:Frag)(neg:Bool):R2:=fun x y H Q=>aar K neg x y H Q
theorem bD:qJ X (compareOp .In) (rIn X.K false):=by
 intro pins s σ H x y v u Q I rx ry h;obtain⟨p,xs,rfl,hq,fx,fs,q⟩:=h;cases ry;rcases hq with hq|hq
 ·obtain⟨its,r,pl,hz⟩:=I.list hq;refine SeqAt.in_listAt (Nd x) pl.isList (fun w hw=>oS rx fx r fs w (by simpa using hw)) ⟨.bl _,H,I,rfl,?_⟩;rw[show its.toArray.any (Nd x)=its.any (Nd x) by simp,tK r fs];exact q
 ·obtain⟨its,r,pl,hz⟩:=I.tuple hq;refine SeqAt.in_tupleAt (Nd x) pl (fun w hw=>oS rx fx r fs w (by simpa using hw)) ⟨.bl _,H,I,rfl,?_⟩;rw[show its.toArray.any (Nd x)=its.any (Nd x) by simp,tK r fs];exact q
theorem HZ:qJ X (compareOp .NotIn) (rIn X.K true):=by
 intro pins s σ H x y v u Q I rx ry h;obtain⟨p,xs,rfl,hq,fx,fs,q⟩:=h;cases ry;rcases hq with hq|hq
 ·obtain⟨its,r,pl,hz⟩:=I.list hq;refine SeqAt.notIn_listAt (Nd x) pl.isList (fun w hw=>oS rx fx r fs w (by simpa using hw)) ⟨.bl _,H,I,rfl,?_⟩;rw[show its.toArray.any (Nd x)=its.any (Nd x) by simp,tK r fs];exact q
 ·obtain⟨its,r,pl,hz⟩:=I.tuple hq;refine SeqAt.notIn_tupleAt (Nd x) pl (fun w hw=>oS rx fx r fs w (by simpa using hw)) ⟨.bl _,H,I,rfl,?_⟩;rw[show its.toArray.any (Nd x)=its.any (Nd x) by simp,tK r fs];exact q
theorem Ia:qJ X (compareOp .NotIn) (fun x y H Q=>∃ i j,x=.str i/\y=.str j/\Q (.bl (!(!(Builtin.Str.occurrences j i 0 j.length 1).isEmpty))) H):=by
 intro pins s σ H x y v u Q I rx ry h;obtain⟨i,j,rfl,rfl,q⟩:=h;obtain⟨t,rfl⟩:=rx;obtain⟨t',rfl⟩:=ry;exact notIn_str ⟨.bl _,H,I,rfl,q⟩
theorem bX:jE X (.builtin "len") (fun xs H Q=>∃ p ys,xs=[.ref p]/\(a6 X.K H p ys\/cz X.K H p ys)/\Q (.int ys.length) H):=by
 intro pins s σ H xs us Q I r h;obtain⟨p,ys,rfl,hq,q⟩:=h;obtain⟨u,rfl,rx⟩:=vals1 r;cases rx;have hn:=vU;rcases hq with hq|hq
 ·obtain⟨its,r',pl,hz⟩:=I.list hq;have hlen:=r'.length;exact Calls.call_len_list pl.isList (by simp only [size_toArray] <;> omega) ⟨.int ys.length,H,I.tok _,⟨s.toks+1,by rw[size_toArray,hlen]⟩,q⟩
 ·obtain⟨its,r',pl,hz⟩:=I.tuple hq;have hlen:=r'.length;exact len_tuple pl (by simp only [size_toArray] <;> omega) ⟨.int ys.length,H,I.tok _,⟨s.toks+1,by rw[size_toArray,hlen]⟩,q⟩
theorem bY:jE X (.builtin "len") (fun xs H Q=>∃ z,xs=[.str z]/\z.length<=sizeLine/\Q (.int z.length) H):=by
 intro pins s σ H xs us Q I r h;obtain⟨z,rfl,hz,q⟩:=h;obtain⟨u,rfl,t,rfl⟩:=vals1 r;have hn:=vU;exact len_str (by omega) ⟨.int z.length,H,I.tok _,⟨_,rfl⟩,q⟩
theorem jE.or {f:Value}{r r':List V->Hp->VK->Prop}(h:jE X f r)(h':jE X f r'):jE X f (fun xs H Q=>r xs H Q\/r' xs H Q):=by
 intro pins s σ H xs us Q I rs q;rcases q with q|q
 ·exact h pins s σ H xs us Q I rs q
 ·exact h' pins s σ H xs us Q I rs q
theorem Fs:jE X (.type "tuple") (fun xs H Q=>∃ p ys,xs=[.ref p]/\((a6 X.K H p ys/\∀ l,H l=none->Q (.ref l) (upd H l (.tup ys)))\/(cz X.K H p ys/\Q (.ref p) H))):=by
 intro pins s σ H xs us Q I r h;obtain⟨p,ys,rfl,h⟩:=h;obtain⟨u,rfl,rx⟩:=vals1 r;cases rx;rcases h with ⟨hq,q⟩|⟨hq,q⟩
 ·obtain⟨its,r',pl,hz⟩:=I.list hq;have hlen:=r'.length;refine call_tuple_list pl.isList (fun h' kp=>?_) (by simp only [size_toArray] <;> omega);have I1:Inv X pins σ H { s with heap:=h' }:=I.kept (t':=s.toks) kp;have I2:Inv X pins σ (upd H h'.objs.size (.tup ys)) { s with heap:=h'.push { cls:=.type "tuple",data:=.seq its.toArray } } :=
   I1.laid (t':=s.toks) (fun b o e=>Heap.get?_push_of_some _ e) (Nat.le_refl _) (show cG X.prog X.w _ _ _ (.tup ys) from⟨hz,its,r',IsTup.new _ _⟩)
  exact⟨.ref h'.objs.size,_,I2,rfl,q _ (I1.hok.fresh (Nat.le_refl _))⟩
 ·obtain⟨its,r',pl,hz⟩:=I.tuple hq;exact call_tuple_same pl ⟨.ref p,H,I,rfl,q⟩
def tyV (K:Frag)(T:String)(x:V)(H:Hp):Prop:=match x with
 |.str _=>T = "str"
 |.int _=>T = "int"
 |.ref p=>(T = "list"/\∃ xs,a6 K H p xs)\/(T = "tuple"/\∃ o,K.lookup p=some o/\o.cls=.type "tuple"/\o.dict=none) \/
   (T = "dict"/\((∃ kvs,H p=some (.dK kvs))\/∃ kvs,H p=some (.dT kvs)))\/(T = "set"/\∃ S n,H p=some (.set S n))
 |_=>False
theorem YF {pins:List (Addr×Obj)}{σ:St}{H:Hp}{s:Shared}{T:String}{x:V}{v:Value}(I:Inv X pins σ H s)(r:RelV x v)(ty:tyV X.K T x H) :
  s.TypeIs v T/\∀ a,v=.ref a->∃ ob,s.heap.get? a=some ob/\ob.dict=none:=by
 cases x with
 |str z =>
  obtain⟨t,rfl⟩:=r;cases (show T = "str" from ty);exact⟨typeIs_str s z t,fun _ e=>nomatch e⟩
 |int i =>
  obtain⟨t,rfl⟩:=r;cases (show T = "int" from ty);exact⟨typeIs_int s i t,fun _ e=>nomatch e⟩
 |ref p =>
  cases r;rcases ty with ⟨rfl,xs,hq⟩|⟨rfl,o,hk,hc,hd⟩|⟨rfl,hk⟩|⟨rfl,S,n,hk⟩
  ·obtain⟨its,_,pl,_⟩:=I.list hq;refine⟨pl.isList.typeIs,fun a e=>?_⟩;cases e;obtain⟨o,n,e,c,hd,_⟩:=pl;exact⟨o,e,hd⟩
  ·refine⟨⟨o,I.Fl p o hk,hc⟩,fun a e=>?_⟩;cases e;exact⟨o,I.Fl _ o hk,hd⟩
  ·have z:∃ o,s.heap.get? p=some o/\o.ExactDict:=by
    rcases hk with ⟨kvs,hk⟩|⟨kvs,hk⟩
    ·obtain⟨_,_,_,_,o,_,_,e,ex,_⟩:=I.hok p _ hk;exact⟨o,e,ex⟩
    ·obtain⟨_,_,_,_,o,_,_,e,ex,_⟩:=I.hok p _ hk;exact⟨o,e,ex⟩
   obtain⟨o,e,ex⟩:=z;refine⟨⟨o,e,ex.1⟩,fun a e2=>?_⟩;cases e2;exact⟨o,e,ex.2.1⟩
  ·obtain⟨o,_,_,_,e,ex,_⟩:=I.hok p _ hk;refine⟨⟨o,e,ex.1⟩,fun a e2=>?_⟩;cases e2;exact⟨o,e,ex.2.1⟩
 |_=>exact False.elim ty
def tBM (K:Frag)(T:String)(r:V->List V->Hp->VK->Prop)(to:TE)(t:TA):TE:=fun σ H Q=>to σ H fun x H1=>tyV K T x H1/\t σ H1 fun xs H2=>r x xs H2 Q
variable {o e:Expr} {es:List Expr} {to:TE} {t:TA} {name:Str} {apos cpos:Pos} {T id:String} {r:V->List V->Hp->VK->Prop}
theorem jW (pa:PlainAttrs T)(slot:Slot T name id)(hty:typeOf (.builtin id)=pure (.type "method_descriptor"))(hm:MtR X id r)(ho:PE X o to)(ha:PA X (e::es) t)
  (hbase:attributeBase o name X.env (eval o X.env)=eval o X.env:=by rfl)
  (hfew:((backTo cpos (starEach (e::es) X.env)).all (fun x=>!x.1)&&(backToKw cpos (keywordEach [] X.env)).all (fun x=>x.1.isSome)
   && decide ((e::es).length+([]:List Keyword).length+(if([]:List Keyword).isEmpty then 0 else 1)<30))=true:=by rfl)
  (hline:(apos.endLine==cpos.line)=true:=by rfl) (hs:starEach (e::es) X.env=(false,eval e X.env)::starEach es X.env:=by rfl) (hplain:(backTo cpos (starEach es X.env)).any (·.1)=false:=by rfl) :
  PE X (.Call (.Attribute o name apos) (e::es) [] cpos) (tBM X.K T r to t):=by
 intro pins s σ H Q I h;refine wpAny_Call_method_late hbase hfew hline rfl (cV (ho pins s σ H _ I h) fun v s1 ⟨x,H1,I1,r1,ty,q1⟩=>?_);obtain⟨h1,h2⟩:=YF I1 r1 ty;refine⟨T,id,pa,slot,hty,h1,h2,?_⟩;have hA:=ha cpos pins s1 σ H1 _ I1 q1;rw[hs]at hA ⊢;refine Calls.callWith_builtin (by show(false||(backTo cpos (starEach es X.env)).any (·.1))=false;rw[hplain] <;> rfl) (Calls.evalArgs_plain ?_);exact cV hA fun us s2 ⟨vs,H2,I2,r2,q2⟩=>hm pins s2 σ H2 x vs v us Q I2 r1 r2 q2
end
end L2
namespace L2
open PySem PySem.Spec PyProof.Rows
def MtM (X:Cx)(id:String)(r:V->List V->Hp->VK->Prop):Prop :=
 ∀(pins:List (Addr×Obj)) (s:Shared) (σ:St) (H:Hp) (x:V) (xs:List V) (v:Value) (us:List Value) (Q:VK),Inv X pins σ H s->RelV x v->Vals xs us->r x xs H Q ->
  wpAny (model X.prog X.w) X.A (call (.builtin id) (v::us)) (EP X pins σ Q) X.xe s
theorem Vals.one:∀{x:V} {us:List Value},Vals [x] us->∃ u,us=[u]/\RelV x u
 |_,_,.cons r .nil=>⟨_,rfl,r⟩
theorem Vals.two:∀{x y:V} {us:List Value},Vals [x,y] us->∃ u v,us=[u,v]/\RelV x u/\RelV y v
 |_,_,_,.cons r (.cons q .nil)=>⟨_,_,rfl,r,q⟩
theorem Vals.rep {xs:List V}{us:List Value}(h:Vals xs us):∀ k:Nat,Vals (List.replicate k xs).flatten (List.replicate k us).flatten
 |0=>.nil
 |k+1=>by
  rw[List.replicate_succ,List.replicate_succ,List.flatten_cons,List.flatten_cons];exact Vals.append h (Vals.rep h k)
theorem foldl_rep (its:List Value):∀(k:Nat)(acc:List Value),
  List.foldl (fun x1 x2=>x1++x2) acc.toArray (List.replicate k its.toArray)=(acc++(List.replicate k its).flatten).toArray
 |0,acc=>by simp
 |k+1,acc=>by
  have e:acc.toArray++its.toArray=(acc++its).toArray:=by simp
  have e2:(acc++its)++(List.replicate k its).flatten=acc++(List.replicate (k+1) its).flatten:=by
   rw[List.replicate_succ,List.flatten_cons,List.append_assoc]
  rw[<-e2,<-foldl_rep its k (acc++its),<-e,List.replicate_succ,List.foldl_cons]
section
variable {X:Cx} {pins:List (Addr×Obj)} {σ:St} {H:Hp} {s:Shared} {l b:Addr} {xs ys zs:List V}
theorem Inv.adx {its its':List Value}{n:Nat}{f:Array Value->Array Value}{t':Nat}(I:Inv X pins σ H s)(hH:H l=some (.lst xs))
  (e:s.heap.get? l=some { cls:=.type "list",data:=.seq its.toArray n }) (hf:f its.toArray=its'.toArray) (hv:Vals ys its') (hz:ys.length<=sizeLine) :
  Inv X pins σ (upd H l (.lst ys)) { s with heap:=s.heap.update l (Obj.mapSeq f),toks:=t' }:=by
 have q:=PySem.IsL.update e f;rw[hf]at q;refine I.write (x:=l) (e:=l) (by rw[hH];exact trivial) (.inl rfl) (fun b' u hb hu=>(Heap.get?_update_other s.heap (Obj.mapSeq f) (Ne.symm hb)).trans hu) ⟨_,q⟩ ?_;exact⟨hz,its',_,hv,q⟩
theorem Inv.aas {its:List Value}{t':Nat}(I:Inv X pins σ H s)(hv:Vals ys its)(hz:ys.length<=sizeLine) :
  Inv X pins σ (upd H s.heap.objs.size (.lst ys)) { s with heap:=s.heap.push { cls:=.type "list",data:=.seq its.toArray },toks:=t' } :=
 I.laid (fun _ _ q=>Heap.get?_push_of_some _ q) (Nat.le_refl _) ⟨hz,its,0,hv,Heap.get?_push_size _ rfl⟩
theorem Inv.fresh (I:Inv X pins σ H s):H s.heap.objs.size=none:=I.hok.fresh (Nat.le_refl _)
theorem Inv.VC (I:Inv X pins σ H s)(hH:H l=some (.lst xs)):xs.length<=sizeLine/\∃(its:List Value)(n:Nat),Vals xs its/\xs.length=its.length/\s.heap.get? l=some { cls:=.type "list",data:=.seq its.toArray n }:=by
 obtain⟨z,its,n,r,e⟩:=I.hok l _ hH;exact⟨z,its,n,r,r.length,e⟩
theorem SS {n:Nat}(h:n<=sizeLine):Builtin.List.listTooLong n=false:=by
 unfold Builtin.List.listTooLong;exact decide_eq_false (by omega)
end
section
variable {X:Cx}
inductive Ly (x:V)(vs:List V)(H:Hp)(Q:VK):Prop
 |mk (l:_) (xs:_) (y:_) (qH:x=.ref l) (qI:vs=[y]) (AY:H l=some (.lst xs)) (MZ:xs.length<sizeLine) (Vj:Q .non (upd H l (.lst (xs++[y])))):Ly x vs H Q
def VD :V->List V->Hp->VK->Prop:=fun x vs H Q=>Ly x vs H Q
theorem bO:MtM X "list.append" VD:=by
 intro pins s σ H x vs v us Q I rx rv h;obtain⟨l,xs,y,rfl,rfl,hH,hz,q⟩:=h;cases rx;obtain⟨u,rfl,ru⟩:=rv.one;obtain⟨z,its,n,r,hl,e⟩:=I.VC hH;refine call_meets F.slot_list_append ⟨_,e,rfl⟩ F.entry_list_append (F.args_list_append_2 _ _) (PySem.list_append l its.toArray n u (by rw[size_toArray];omega)) ⟨e,?_⟩;refine⟨.non,_,I.adx (its':=its++[u]) hH e (by simp) (r.append (.cons ru .nil)) ?_,rfl,q⟩;rw[length_append,List.length_singleton];omega
inductive Xu (x:V)(y:V)(H:Hp)(Q:VK):Prop
 |mk (l:_) (b:_) (xs:_) (zs:_) (qH:x=.ref l) (qI:y=.ref b) (AY:H l=some (.lst xs)) (MZ:H b=some (.lst zs)) (Vj:xs.length+zs.length<=sizeLine) (h5_:∀ p,H p=none->Q (.ref p) (upd H p (.lst (xs++zs)))):Xu x y H Q
def ady :R2:=fun x y H Q=>Xu x y H Q
theorem cO:qJ X (binaryOp .Add) ady:=by
 intro pins s σ H x y v u Q I rx ry h;obtain⟨l,b,xs,zs,rfl,rfl,hH,hB,hz,q⟩:=h;cases rx;cases ry;obtain⟨z,its,n,r,hl,e⟩:=I.VC hH;obtain⟨z2,its2,n2,r2,hl2,e2⟩:=I.VC hB;refine PySem.P.add_list e e2 ?_ (by rw[size_toArray,size_toArray];omega);have ea:its.toArray++its2.toArray=(its++its2).toArray:=by simp
 rw[ea];exact⟨.ref _,_,I.aas (t':=s.toks) (r.append r2) (by rw[length_append];omega),rfl,q _ I.fresh⟩
def adz:R2:=fun x y H Q=>∃ l k xs,x=.ref l/\y=.int k/\H l=some (.lst xs)/\-(2 ^ 63)<=k/\k<2 ^ 63/\xs.length * k.toNat<=sizeLine /\
 ∀ p,H p=none->Q (.ref p) (upd H p (.lst (List.replicate k.toNat xs).flatten))
theorem len_rep {α:Type}(xs:List α)(k:Nat):(List.replicate k xs).flatten.length=k * xs.length:=by
 induction k with
 |zero=>simp
 |succ k ih=>rw[List.replicate_succ,List.flatten_cons,length_append,ih,Nat.succ_mul,Nat.add_comm]
theorem vW:qJ X (binaryOp .Mult) adz:=by
 intro pins s σ H x y v u Q I rx ry h;obtain⟨l,k,xs,rfl,rfl,hH,h1,h2,hz,q⟩:=h;cases rx;obtain⟨t,rfl⟩:=ry;obtain⟨z,its,n,r,hl,e⟩:=I.VC hH;have hlen:its.toArray.size * k.toNat<=sizeLine:=by rw[size_toArray,<-hl];exact hz
 have adA:¬ its.toArray.size * k.toNat > (2 ^ 63-1) / 8:=by
  have:(sizeLine:Nat)<=(2 ^ 63-1) / 8:=by decide
  omega
 have hfit:¬(!Builtin.List.listFitsIndex k)=true:=by
  rw[fitsIndex_both h1 h2];exact Bool.false_ne_true
 have aau:¬ Builtin.List.listTooLong (its.toArray.size * k.toNat)=true:=by
  rw[SS hlen];exact Bool.false_ne_true
 have hnew:List.foldl (fun x1 x2=>x1++x2) #[] (List.replicate (if its.toArray.isEmpty=true then 0 else k.toNat) its.toArray)=(List.replicate k.toNat its).flatten.toArray:=by
  have f0:∀ m:Nat,List.foldl (fun x1 x2=>x1++x2) #[] (List.replicate m its.toArray)=(List.replicate m its).flatten.toArray:=fun m=>by
   have:=foldl_rep its m [];rw[nil_append]at this;exact this
  rw[f0];cases its with
  |nil=>simp
  |cons a r'=>rw[if_neg (by simp)]
 refine wpAny_binaryOp_repeat_ref (T:="list") (U:="int") (by decide) ⟨_,e,rfl⟩ (fun s'=>typeIs_int s' k t) noFill_list_mul F.fills_int_mul F.slot_int_rmul repeat_list F.slot_int_index.lookup
  (call_meets F.slot_int_rmul (typeIs_int s k t) F.entry_int_rmul (F.args_int_rmul_2 _ _) (int___rmul___int_list k t l its.toArray n)
   ⟨e,rfl,⟨_,e,rfl⟩,call_meets F.slot_list_mul ⟨_,e,rfl⟩ F.entry_list_mul (F.args_list_mul_2 _ _) (AutoListH.list___mul___list_int_3 l its.toArray n k t hfit adA aau) ⟨e,?_⟩⟩)
 rw[hnew];exact⟨.ref _,_,I.aas (t':=s.toks) (r.rep k.toNat) (by rw[len_rep,Nat.mul_comm];exact hz),rfl,q _ I.fresh⟩
end
section
variable {prog:Program} {w:World} {A:Around} {E:Value->Shared->Prop} {s:Shared}
set_option maxRecDepth 100000 in
end
section
variable {X:Cx}
end
end L2
namespace Att
open PySem PySem.W PySem.Calls PyProof.Rows
theorem yX {P:Params}{h:Heap}:∀(ns:List Int)(vs:List Value),WellAll P h vs (ns.map WData.int)->IntsAre vs ns:=by
 intro ns
 induction ns with
 |nil =>
  intro vs w;rw[List.map_nil]at w;cases w;exact .nil
 |cons n ns ih =>
  intro vs w;rw[map_cons]at w;cases w with
  |cons a b =>
   cases a;exact .cons _ _ (ih _ b)
theorem QT {l:OpenLaw}{n:Nat}(hn:l.most=some n){P:Params}{h:Heap}{args:List WData}{vals:List Value}
  (hpre:l.row.toRowW.claim.pre args=true) (hwl:WellAll P h vals args) :
  ∃ a vs ns,vals=[Value.ref a]/\args=[WData.list (ns.map WData.int)]/\h.get? a=some { cls:=.type "list",data:=.seq vs.toArray }/\IntsAre vs ns/\ns.length<=n:=by
 have hsh:WShape.hasAll [] args [.list .int]=true:=(pre_splitW hpre).1;have hc:l.pre.holds [] { args:=args } = true:=(pre_splitW hpre).2;obtain⟨d,r,rfl,h1,h2⟩:=hasAllW_cons hsh;obtain rfl:=hasAllW_nil h2;obtain⟨xs,rfl,h3⟩:=hasW_list h1;obtain⟨ns,rfl⟩:=items_int h3;have hlen:ns.length<=n:=by
  unfold OpenLaw.pre at hc;have h4:(WTm.not (.lt (.lit (.int (n:Int))) (.len (.arg 0)))).holds [] { args:=[.list (ns.map .int)] } = true:=by
   have h4:=(holds_andW hc).1;rw[hn]at h4;exact h4
  have h5:=condW_of h4 (w_not (w_lt w_lit (w_len_list (w_arg rfl))));rw[length_map]at h5;refine Nat.le_of_not_lt fun q=>?_;have q':(n:Int)<((ns.length:Nat):Int):=by omega
  first
   |(rw[decide_eq_true q']at h5;exact absurd h5 (by decide))
   |(simp at h5;omega)
 cases hwl with
 |cons w1 w2 =>
  cases w2;cases w1 with
  |list ho hall=>exact⟨_,_,ns,rfl,rfl,ho,yX ns _ hall,hlen⟩
theorem QU (l:OpenLaw)(args:List WData):l.row.toRowW.claim.post args (.bool true) args=true :=
 postW_of (r:=l.row.toRowW) (X:=(true==true))
  (show WShape.has [] (.bool true) .bool=true by first|rfl|decide|simp[WShape.has,WShape.arms,WShape.armsAll])
  (show(WTm.eq .res (.lit (.bool true))).value [] { args:=args,res:=some (.bool true),after:=args } = some (.bool (true==true)) from w_eq_bool (w_res rfl) w_lit) rfl
theorem Lz {l:OpenLaw}{n:Nat}{q:Program}{loose:List Str}{XP:(Str->Option Value)->Heap->Prop}{YP:World->Heap->Prop}{d:DefRec}
  (hn:l.most=some n) (hdf:d.params.defaults=[])
  (call:∀(w:World)(s₀ s₁:Shared)(mg mb:Str->Option Value)(fa:Addr)(o:Obj)(pm cd doc:Value)(a:Addr)(vs:List Value)(ns:List Int),
   Ground q loose [] XP w s₀ mg mb s₁.heap->YP w s₁.heap ->
   s₁.heap.get? fa=some o->o.data=.func (docDef d.name d.params d.body d.scope pm cd doc)->s₁.heap.CodeRec cd d.name->mg d.name=some (.ref fa) ->
   s₁.heap.get? a=some { cls:=.type "list",data:=.seq vs.toArray }->IntsAre vs ns->ns.length<=n->s₁.gens = #[] ->
   codeAny (model l.prog w) callerA (.call (.ref fa) ⟨[.ref a],[]⟩) (fun r s'=>r=.ok (.ret (.bool true))/\OldK s₁.heap s'.heap/\s'.os=s₁.os/\AllBare s'.gens) s₁) :
  WalkO q loose XP YP l.row.toRowW d [] (fun f vs=>PySem.call f vs):=by
 intro w s₀ s₁ mg mb G Y fa o pm cd doc dV kV ho hd hcd hD hmg hg args vals as hpre hlay hrd hwl hlo;obtain rfl:dV=.none:=Dflts.none hD hdf;obtain rfl:kV=.none:=Dflts.noKw hD;obtain⟨a,vs,ns,rfl,rfl,hobj,hints,hlen⟩:=QT hn hpre hwl;refine enter_call (codeAny_mono (call w s₀ s₁ mg mb fa o pm cd doc a vs ns G Y ho (fd_plain hd) hcd hmg hobj hints hlen hg) fun r s' hq=>?_);obtain⟨rfl,h2,h3,h4⟩:=hq;exact⟨.inl ⟨.bool true,.bool true,[],rfl,fun _=>rfl,.bool true,QU l _,fun _=>⟨List.Pairwise.nil,fun _ hm=>(nomatch hm)⟩⟩,h2,h3,h4⟩
section
variable {prog:Program} {w:World} {A:Around} {E:Value->Shared->Prop} {s:Shared} {K:Frag}
def vX (h:Heap):Heap:={ h with objs:=#[] }
theorem B1 (h:Heap)(b:Addr):(vX h).get? b=none:=by
 cases e:(vX h).get? b with
 |none=>rfl
 |some o=>exact absurd (Heap.lt_size e) (Nat.not_lt_zero _)
def ledger (h:Heap)(L d:Addr):List (Addr×Obj):=(List.range h.objs.size).filterMap fun a=>if a=L\/a=d then none else(h.get? a).map fun o=>(a,o)
theorem B2 {h:Heap}{L d a:Addr}{o:Obj}:(a,o)∈ledger h L d ↔ a≠L/\a≠d/\h.get? a=some o:=by
 unfold ledger;rw[List.mem_filterMap];constructor
 ·rintro⟨b,_,e⟩;split at e
  ·cases e
  ·rename_i hb
   obtain⟨o',ho,e'⟩:=Option.map_eq_some_iff.mp e;cases e';exact⟨fun q=>hb (.inl q),fun q=>hb (.inr q),ho⟩
 ·rintro⟨n1,n2,ho⟩;refine⟨a,mem_range.mpr (Heap.lt_size ho),?_⟩;rw[if_neg (show ¬(a=L\/a=d) from fun q=>q.elim n1 n2),ho] <;> rfl
theorem YG {h:Heap}{L:Addr}{m:Str->Option Value}(n:h.Ns L m):Fr (vX h) L h m :=
 ⟨n,fun b o e=>(by rw[B1]at e;cases e),Nat.zero_le _⟩
end
end Att
namespace L2
open PySem PySem.Spec PyProof.Rows
theorem G0:∀{vs:List Value} {ns:List Int},IntsAre vs ns->Vals (ns.map V.int) vs
 |_,_,.nil=>.nil
 |_,_,.cons n t h=>.cons ⟨t,rfl⟩ (G0 h)
end L2
namespace L2
open PySem PySem.Spec PyProof.Rows
end L2
namespace L2
open PySem PySem.Spec PyProof.Rows
def ak (s:Stmt):Arguments:=match s with
 |.FunctionDef _ a _ _ _ _ _ _ _ _=>a
 |_=>{ posonlyargs:=[],args:=[],vararg:=none,kwonlyargs:=[],kw_defaults:=[],kwarg:=none,defaults:=[] }
def aj (s:Stmt):List Stmt:=match s with
 |.FunctionDef _ _ b _ _ _ _ _ _ _=>b
 |_=>[]
def ae (s:Stmt):Scope:=match s with
 |.FunctionDef _ _ _ _ _ _ sc _ _ _=>sc
 |_=>{ kind:=.function,names:=[],isGenerator:=false,isCoroutine:=false }
abbrev jG:SJ:=fun _ _ _ _ _ _=>False
abbrev E0:XK:=fun _ _ _=>False
theorem aJ {X:Cx}:Passes jG X E0:=fun _ _ _ _ _ _ _ h=>h.elim
structure lO (K:Frag)(x qual:Str)(st:Stmt)(f:Addr)(fd:FuncData):Prop where
 ex:∃(oc:Value)(od:Option Addr)(kV doc pm:Value)(an:Option Addr)(cdv ct:Value)(osl:Array (Option Value)),
  fd=fnOf x qual (ak st) (aj st) (ae st) .none kV doc pm an cdv ct/\K.lookup f=some ⟨oc,od,.func fd,osl⟩/\codeIn K cdv qual=true
 kp:keepIn K (.ref f)=true
section
variable {P:Program} {w:World} {K:Frag} {mg:Str->Option Value} {base:Heap}
theorem lO.ok {x qual:Str}{st:Stmt}{f:Addr}{fd:FuncData}{N ps:List Str}{k:Nat}{sp:Sp}(F:lO K x qual st f fd)(S:aG N ps (ae st))(len:∀ vs H Q E,sp vs H Q E->vs.length=ps.length)
  (hbody:∀(cdv:Value)(A:Around)(outer:List Env)(s:Shared)(H:Hp)(vs:List V)(Q:VK)(E:XK),kU k (A.deeper (envOfC qual (ae st) s.heap.objs.size f cdv))->sp vs H Q E ->
   ∃ t,Lp (Lu jG P w K mg base N qual (ae st) f cdv A outer s H E).Xh (aj st) t/\t { nx:=fun _ H'=>Q .non H',rt:=Q } (start N vs) H):cA P w K mg base jG (k+1) f fd ps sp:=by
 obtain⟨oc,od,kV,doc,pm,an,cdv,ct,osl,rfl,lk,hcd⟩:=F.ex;refine SK lk hcd S len fun A outer s H vs Q E hr hsp=>?_;obtain⟨t,h,q⟩:=hbody cdv A outer s H vs Q E hr hsp;exact⟨t,h.Xh,q⟩
theorem lO.binds {x qual:Str}{st:Stmt}{f:Addr}{fd:FuncData}{ps:List Str}(F:lO K x qual st f fd)
  (h:∀(kV doc pm:Value)(an:Option Addr)(cdv ct:Value)(us:List Value),us.length=ps.length->bindArgs (fnOf x qual (ak st) (aj st) (ae st) .none kV doc pm an cdv ct) ⟨us,[]⟩=pure (ps.zip us)):Binds K fd ps []:=by
 obtain⟨oc,od,kV,doc,pm,an,cdv,ct,osl,rfl,lk,hcd⟩:=F.ex;exact .all (h kV doc pm an cdv ct)
theorem aY {x qual:Str}{st:Stmt}{f:Addr}{oc:Value}{od an:Option Addr}{osl:Array (Option Value)}{kV doc pm cdv ct:Value}(l:K.lookup f=some ⟨oc,od,.func (fnOf x qual (ak st) (aj st) (ae st) .none kV doc pm an cdv ct),osl⟩)
  (c:codeIn K cdv qual=true) (k:keepIn K (.ref f)=true):lO K x qual st f (fnOf x qual (ak st) (aj st) (ae st) .none kV doc pm an cdv ct):=⟨⟨oc,od,kV,doc,pm,an,cdv,ct,osl,rfl,l,c⟩,k⟩
end
theorem G1 {A:Around}{k:Nat}(hr:kU k A):A.units+1<cLine:=Nat.lt_of_le_of_lt (Nat.add_le_add_left (by decide:1<=64) _) hr.units
theorem cK {n:Nat}(h:n<=1000):n<sizeLine:=Nat.lt_of_le_of_lt h (by decide)
section
variable {X:Cx}
theorem pv (i:Nat){x:Str}{pos:Pos}(hN:X.N[i]? = some x:=by rfl)(hv:Vis X.env.scope x:=by first|exact Or.inl rfl|exact Or.inr (Or.inl rfl)|exact Or.inr (Or.inr rfl))(hd:(x==("__debug__":Str))=false:=by decide)
  (hcd:(x==("__classdict__":Str))=false:=by decide):PE X (.Name x pos) (Yj i):=Yk hN hv hd hcd
end
theorem jq {A B:Prop}(h:B):if false=true then A else B:=by
 rw[if_neg Bool.false_ne_true];exact h
theorem mY {A B:Prop}(h:A):if true=true then A else B:=by
 rw[if_pos rfl];exact h
theorem aU {c A B:Prop}[Decidable c](h1:c->A)(h2:¬ c->B):if c then A else B:=by
 by_cases h:c
 ·rw[if_pos h];exact h1 h
 ·rw[if_neg h];exact h2 h
def ay (H H':Hp):Prop:=∀ b o,H b=some o->H' b=some o
theorem ay.refl (H:Hp):ay H H:=fun _ _ h=>h
theorem ay.trans {H H1 H2:Hp}(a:ay H H1)(b:ay H1 H2):ay H H2:=fun c o h=>b c o (a c o h)
theorem ay.free {H H':Hp}(e:ay H H'){l:Addr}(h:H' l=Option.none):H l=Option.none:=by
 cases q:H l with
 |none=>rfl
 |some o =>
  rw[e l o q]at h;cases h
theorem ay.seq {K:Frag}{H H':Hp}{a:Addr}{xs:List V}(e:ay H H')(h:a6 K H a xs):a6 K H' a xs:=by
 rcases h with (h|⟨o,h⟩)|h
 ·exact .inl (.inl (e _ _ h))
 ·exact .inl (.inr ⟨o,e _ _ h⟩)
 ·exact .inr h
end L2
set_option maxHeartbeats 4000000
namespace L2
open PySem PySem.Spec PyProof.Rows
def fb (env:Env):List (Str×NameKind)->List (Str×Addr)->List (Str×Addr)
 |[],acc=>acc
 |p::l,acc=>fb env l (if p.2 == .free then(p.1,(env.cells.lookup p.1).getD 0)::acc else acc)
theorem PR {env:Env}{scope:Scope}(h:∀ p∈scope.names,p.2=.free->∃ c,env.cells.lookup p.1=some c):closureFor scope env=pure (fb env scope.names []):=by
 have go:∀(l:List (Str×NameKind)) (acc:List (Str×Addr)),(∀ p∈l,p.2=.free->∃ c,env.cells.lookup p.1=some c) ->
   (forIn l acc fun(p:Str×NameKind) cs=>if(p.2==NameKind.free)=true then(cellOf env p.1 >>= fun a=>pure (ForInStep.yield ((p.1,a)::cs))) else pure (ForInStep.yield cs))=(pure (fb env l acc):Sem (List (Str×Addr))):=by
  intro l
  induction l with
  |nil=>intro acc _;rfl
  |cons p l ih =>
   intro acc hl;rw[List.forIn_cons];have hr:=fun q hq=>hl q (mem_cons_of_mem _ hq)
   by_cases hk:p.2=.free
   ·obtain⟨c,hc⟩:=hl p mem_cons_self hk;have e1:(p.2==NameKind.free)=true:=by rw[hk];rfl
    rw[if_pos e1];have e2:cellOf env p.1=pure c:=by unfold cellOf;rw[hc]
    rw[e2,pure_bind,pure_bind];show forIn l ((p.1,c)::acc) _=_;rw[ih _ hr];show _=pure (fb env l (if p.2 == .free then(p.1,(env.cells.lookup p.1).getD 0)::acc else acc));rw[if_pos e1,hc];rfl
   ·have e1:¬(p.2==NameKind.free)=true:=by intro z;exact hk (by simpa using z)
    rw[if_neg e1,pure_bind];show forIn l acc _=_;rw[ih _ hr];show _=pure (fb env l (if p.2 == .free then(p.1,(env.cells.lookup p.1).getD 0)::acc else acc));rw[if_neg e1]
 have e:=go scope.names [] h;unfold closureFor;show(forIn scope.names ([]:List (Str×Addr)) _ >>= fun r=>pure r)=_;rw[bind_pure];exact e
theorem G2 {env:Env}{x:Str}:∀(l:List (Str×NameKind)) (acc:List (Str×Addr)) {c:Addr},(fb env l acc).lookup x=some c->acc.lookup x=some c\/((x,NameKind.free)∈l/\c=(env.cells.lookup x).getD 0)
 |[],acc,c,h=>.inl h
 |p::l,acc,c,h=>by
  rcases G2 l _ h with z|⟨z,e⟩
  ·by_cases hk:(p.2==NameKind.free)=true
   ·rw[if_pos hk,List.lookup_cons]at z
    by_cases hx:(x==p.1)=true
    ·rw[hx]at z;have e:x=p.1:=by simpa using hx
     have e2:p.2=.free:=by simpa using hk
     refine .inr ⟨?_,?_⟩
     ·rw[e,<-e2];exact mem_cons_self
     ·rw[e];exact(Option.some.inj z).symm
    ·have hx':(x==p.1)=false:=by simpa using hx
     rw[hx']at z;exact .inl z
   ·rw[if_neg hk]at z;exact .inl z
  ·exact .inr ⟨mem_cons_of_mem _ z,e⟩
theorem B3 {env:Env}{x:Str}:∀(l:List (Str×NameKind)) (acc:List (Str×Addr)),((acc.lookup x).isSome=true\/(x,NameKind.free)∈l)->((fb env l acc).lookup x).isSome=true
 |[],acc,h=>by
  rcases h with h|h
  ·exact h
  ·cases h
 |p::l,acc,h=>by
  refine B3 l _ ?_;rcases h with h|h
  ·left
   by_cases hk:(p.2==NameKind.free)=true
   ·rw[if_pos hk,List.lookup_cons];cases (x==p.1) with
    |true=>rfl
    |false=>exact h
   ·rw[if_neg hk];exact h
  ·rcases List.mem_cons.mp h with e|h
   ·left
    have e1:p.1=x:=by rw[<-e]
    have e2:(p.2==NameKind.free)=true:=by rw[<-e];rfl
    rw[if_pos e2,List.lookup_cons,e1];simp
   ·exact .inr h
theorem jX {env:Env}{x:Str}{k:NameKind}:∀(l:List (Str×NameKind)),
  (l.map fun(n,k)=>if(k==NameKind.free&&env.scope.kind == .function&&env.kindOf n==some .cell) then(n,NameKind.cell) else(n,k)).lookup x=some k ->
   l.lookup x=some k\/(k=.cell/\l.lookup x=some .free)
 |[],h=>by cases h
 |(n,q)::l,h=>by
  rw[map_cons]at h;cases hx:(x==n) with
  |true =>
   rw[List.lookup_cons,hx]
   by_cases hc:(q==NameKind.free&&env.scope.kind == .function&&env.kindOf n==some .cell)=true
   ·simp only [hc,if_true,List.lookup_cons,hx]at h;have e:q=.free:=by
     have:=(Bool.and_eq_true_iff.mp (Bool.and_eq_true_iff.mp hc).1).1
     simpa using this
    right
    exact⟨(Option.some.inj h).symm,by rw[e]⟩
   ·have hc':(q==NameKind.free&&env.scope.kind == .function&&env.kindOf n==some .cell)=false:=by simpa using hc
    simp only [hc',Bool.false_eq_true,if_false,List.lookup_cons,hx]at h;exact .inl h
  |false =>
   rw[List.lookup_cons,hx];refine jX (env:=env) l ?_
   by_cases hc:(q==NameKind.free&&env.scope.kind == .function&&env.kindOf n==some .cell)=true
   ·simp only [hc,if_true,List.lookup_cons,hx]at h;exact h
   ·have hc':(q==NameKind.free&&env.scope.kind == .function&&env.kindOf n==some .cell)=false:=by simpa using hc
    simp only [hc',Bool.false_eq_true,if_false,List.lookup_cons,hx]at h;exact h
structure Bk where
 C:Addr
 s₂:Shared
 aiA:Hp
 fp:List Addr
 xe:Value->Shared->Prop
def bV (X:Cx)(cn:List Str)(scope:Scope)(b:Bk):Cx where
 prog:=X.prog
 w:=X.w
 K:=X.K
 mg:=X.mg
 base:=X.base
 A:=X.A
 N:=cn++X.N
 s₀:=b.s₂
 H₀:=b.aiA
 env:=compEnvC scope (fb X.env scope.names []) b.C X.env
 outer:=X.stack
 stack:=X.stack
 ex:=b.fp
 fn:=fun _=>false
 calm:=X.calm
 pn:=[]
 xe:=b.xe
def SU (sc:Scope)(N:List Str)(scope:Scope):Bool :=
 (scope.kind == .function) &&
 (scope.names.all fun p=>(p.2 != .cell)&&((p.2 != .free)||(sc.names.lookup p.1==some .cell)||(sc.names.lookup p.1==some .free))&&((p.2 != .local)||(scope.names.lookup p.1==some .local))) &&
 (N.all fun x=>scope.names.lookup x != some .local)
structure gi (sc:Scope)(N:List Str)(scope:Scope):Prop where
 kind:scope.kind=.function
 SV:∀ p∈scope.names,p.2≠.cell
 free:∀ p∈scope.names,p.2=.free->sc.names.lookup p.1=some .cell\/sc.names.lookup p.1=some .free
 loc:∀ p∈scope.names,p.2=.local->scope.names.lookup p.1=some .local
 apart:∀ x∈N,scope.names.lookup x≠some .local
theorem gi.of {sc:Scope}{N:List Str}{scope:Scope}(h:SU sc N scope=true):gi sc N scope:=by
 unfold SU at h;rw[Bool.and_eq_true,Bool.and_eq_true]at h;obtain⟨⟨h1,h2⟩,h3⟩:=h;rw[all_eq_true]at h2 h3;refine⟨by simpa using h1,fun p hp=>?_,fun p hp e=>?_,fun p hp e=>?_,fun x hx=>?_⟩
 ·have:=h2 p hp;rw[Bool.and_eq_true,Bool.and_eq_true]at this
  simpa using this.1.1
 ·have:=h2 p hp;rw[Bool.and_eq_true,Bool.and_eq_true]at this;have q:=this.1.2;rw[e]at q;rw[Bool.or_eq_true,Bool.or_eq_true]at q;rcases q with (q|q)|q
  ·exact absurd q (by decide)
  ·exact .inl (by simpa using q)
  ·exact .inr (by simpa using q)
 ·have:=h2 p hp;rw[Bool.and_eq_true,Bool.and_eq_true]at this;have q:=this.2;rw[e]at q;rw[Bool.or_eq_true]at q;rcases q with q|q
  ·exact absurd q (by decide)
  ·simpa using q
 ·have:=h3 x hx
  simpa using this
section
variable {X:Cx} {pins:List (Addr×Obj)} {σ:St} {H:Hp}
theorem oT {l:List (Str×NameKind)}{x:Str}{k:NameKind}(h:l.lookup x=some k):(x,k)∈l:=PySem.mem_of_lookup h
theorem Inv.block {s₂:Shared}{h₁:Heap}{tk:Nat}{cn:List Str}{scope:Scope}{fp:List Addr}{xe:Value->Shared->Prop}{C D:Addr}{m:Str->Option Value}
  (I:Inv X pins σ H s₂) (F:gi X.env.scope X.N scope) (hc:X.calm=true) (hf:∀ b∈fp,qE X pins H b) (hfl:∀ b∈fp,b<s₂.heap.objs.size)
  (hC:s₂.heap.objs.size<=C) (hD:s₂.heap.objs.size<=D) (hDC:D≠C) (hn:h₁.Ns C m) (old:∀ b o,s₂.heap.get? b=some o->h₁.get? b=some o)
  (hacc:h₁.get? D=some { cls:=.type "list",data:=.seq ([]:List Value).toArray 0 }) :
  Inv (bV X cn scope ⟨C,s₂,H,fp,xe⟩) [] (List.replicate cn.length none++σ) (upd H D (.lst [])) { s₂ with heap:=h₁,toks:=tk }:=by
 have Ib:∀ x,((bV X cn scope ⟨C,s₂,H,fp,xe⟩).env.kindOf x=some .cell\/(bV X cn scope ⟨C,s₂,H,fp,xe⟩).env.kindOf x=some .free)->(x,NameKind.free)∈scope.names:=by
  intro x hx;have hx':(relabel scope X.env).names.lookup x=some .cell\/(relabel scope X.env).names.lookup x=some .free:=hx;rcases hx' with z|z
  ·rcases jX scope.names z with z|⟨_,z⟩
   ·exact absurd rfl (F.SV _ (oT z))
   ·exact oT z
  ·rcases jX scope.names z with z|⟨e,_⟩
   ·exact oT z
   ·cases e
 have PU:∀ x,(x,NameKind.free)∈scope.names->X.env.kindOf x=some .cell\/X.env.kindOf x=some .free:=fun x hx=>F.free _ hx rfl;have mZ:∀ x c,(fb X.env scope.names []).lookup x=some c->X.env.cells.lookup x=some c:=by
  intro x c e;rcases G2 _ _ e with z|⟨z,e2⟩
  ·cases z
  ·obtain⟨c',hc'⟩:=I.ok.has x (PU x z);rw[hc']at e2 ⊢;rw[e2];rfl
 have agI:(bV X cn scope ⟨C,s₂,H,fp,xe⟩).fs=frs X.stack:=rfl;have adC:∀ b∈fp,b ∉ frs X.stack:=by
  intro b hb z;obtain⟨_,f1,f2,_⟩:=hf b hb;rcases List.mem_cons.mp (I.M4 b z) with e|e
  ·exact f1 e
  ·exact f2 e
 have YH:∀ x c,X.env.cells.lookup x=some c->c<s₂.heap.objs.size:=by
  intro x c e;obtain⟨v,o,ho,_⟩:=I.cell x c e;exact Heap.lt_size ho
 have ok:(bV X cn scope ⟨C,s₂,H,fp,xe⟩).Ok:=by
  refine⟨I.ok.mod,?_,I.ok.glob,I.ok.blt,hC,fun x y c h1 h2=>I.ok.inj x y c (mZ x c h1) (mZ y c h2),fun x hx=>?_,fun x c z=>?_,fun _=>I.ok.hd hc,I.ok.frames,.inl rfl,fun b hb=>⟨?_,fun x c e=>?_⟩,
   fun b o e=>I.bs b o e,Nat.le_trans I.ok.Vh I.sz,fun b o e hb=>?_,fun b hb=>?_,I.stack,I.Py⟩
  ·show(relabel scope X.env).kind=.function;exact F.kind
  ·have:=B3 (env:=X.env) (x:=x) scope.names [] (.inr (Ib x hx));exact Option.isSome_iff_exists.mp this
  ·cases z
  ·exact Nat.ne_of_lt (Nat.lt_of_lt_of_le (hfl b hb) hC)
  ·exact(hf b hb).2.2.2.2.1 x c (mZ x c e)
  ·have:X.base.objs.size<=X.s₀.heap.objs.size:=I.ok.Vh;rcases (hf b hb).2.2.2.1 with z|z
   ·exact I.ok.Sr b o e z
   ·exact absurd (Nat.lt_of_lt_of_le (Heap.lt_size e) (Nat.le_trans I.ok.Vh z)) (Nat.lt_irrefl _)
  ·exact adC b hb
 have hDn:H D=none:=I.hok.fresh hD;have adD:qG X.prog X.w (upd H D (.lst [])) h₁:=I.hok.laid old hD ⟨Nat.zero_le _,[],0,.nil,hacc⟩;refine⟨ok,rfl,I.bare,Un.laid old hD hDn,⟨m,hn,fun i x v e1 e2 e3=>?_⟩,fun x c e=>?_,?_,fun x c e=>?_,fun p hp=>absurd (show p∈([]:List (Addr×Obj)) from hp) (by simp),adD,?_⟩
 ·have hi:¬ i<cn.length:=by
   intro hi;rw[List.getElem?_append_left (by simpa using hi),List.getElem?_replicate]at e2;split at e2 <;> cases e2
  rw[getElem?_append_right (by simpa using hi),List.length_replicate]at e2;have e1':(cn++X.N)[i]? = some x:=e1;rw[getElem?_append_right (by omega)]at e1';obtain⟨m0,hm0,hl⟩:=I.loc;have hxN:x∈X.N:=mem_of_getElem? e1';have hfr:(x,NameKind.free)∈scope.names:=by
   have e3':(relabel scope X.env).names.lookup x=some .local\/(relabel scope X.env).names.lookup x=some .cell\/(relabel scope X.env).names.lookup x=some .free:=e3;rcases e3' with z|z|z
   ·rcases jX scope.names z with z|⟨e,_⟩
    ·exact absurd z (F.apart x hxN)
    ·cases e
   ·exact Ib x (.inl z)
   ·exact Ib x (.inr z)
  have hk:=PU x hfr;have vis:Vis X.env.scope x:=by
   rcases hk with z|z
   ·exact .inr (.inl z)
   ·exact .inr (.inr z)
  obtain⟨u,r,lk⟩:=hl (i-cn.length) x v e1' e2 vis;refine⟨u,r,?_⟩;rcases lk with ⟨z,_⟩|⟨_,c,ec,z⟩
  ·rcases hk with q|q
   ·rw[z]at q;cases q
   ·rw[z]at q;cases q
  ·have hcl:(fb X.env scope.names []).lookup x=some c:=by
    obtain⟨c',e'⟩:=Option.isSome_iff_exists.mp (B3 (env:=X.env) (x:=x) scope.names [] (.inr hfr));rw[e'];have:=mZ x c' e';rw[ec]at this;exact this.symm
   refine .inr ⟨?_,c,hcl,?_⟩
   ·have e3':(relabel scope X.env).names.lookup x=some .local\/(relabel scope X.env).names.lookup x=some .cell\/(relabel scope X.env).names.lookup x=some .free:=e3;rcases e3' with y|y|y
    ·rcases jX scope.names y with y|⟨e,_⟩
     ·exact absurd y (F.apart x hxN)
     ·cases e
    ·exact .inl y
    ·exact .inr y
   ·obtain⟨o,ho,hd⟩:=z;exact⟨o,old c o ho,hd⟩
 ·obtain⟨v,o,ho,hd⟩:=I.cell x c (mZ x c e);exact⟨v,o,old c o ho,hd⟩
 ·show upd H D (.lst []) C=none;rw[ar (Ne.symm hDC)];exact I.hok.fresh hC
 ·rw[ar (Nat.ne_of_lt (Nat.lt_of_lt_of_le (YH x c (mZ x c e)) hD))];exact I.oM x c (mZ x c e)
 ·show(List.replicate cn.length none++σ).length=(cn++X.N).length;rw[length_append,List.length_replicate,length_append,I.len]
theorem Inv.PV {s₂ s':Shared}{h':Heap}{cn:List Str}{scope:Scope}{fp:List Addr}{xe:Value->Shared->Prop}{C:Addr}{H':Hp}{σ':St}{pl:List (Addr×Obj)}
  (I:Inv X pins σ H s₂) (hf:∀ b∈fp,qE X pins H b) (hC:s₂.heap.objs.size<=C) (J:Inv (bV X cn scope ⟨C,s₂,H,fp,xe⟩) pl σ' H' s') (sb:Heap.SameBut C s'.heap h') :
  Inv X pins σ H' { s' with heap:=h' }:=by
 have Xf:∀ b o,s₂.heap.get? b=some o->b≠C:=fun b o e=>Nat.ne_of_lt (Nat.lt_of_lt_of_le (Heap.lt_size e) hC);have u:Un (frs X.stack) fp H H' s₂.heap s'.heap:=J.base;have un:Un (frs X.stack) fp H H' s₂.heap h' :=
  ⟨fun b o e n hb hx=>(sb.2 b (Xf b o e)).trans (u.keep b o e n hb hx),
   fun b o e n hb hx=>by
   obtain⟨sl,q⟩:=u.slot b o e n hb hx;exact⟨sl,(sb.2 b (Xf b o e)).trans q⟩,
   u.free,fun b o e hx=>by
   obtain⟨o',q⟩:=u.there b o e hx;exact⟨o',(sb.2 b (Xf b o e)).trans q⟩,u.tups,u.yW,u.BU⟩
 have fC:H' C=none:=J.free;have hok:qG X.prog X.w H' h':=fun b o e=>by
  refine(J.hok b o e).stay (fun c v hc q=>(sb.2 c ?_).trans q) (fun _ q=>q) fun _ _ q=>q;rintro rfl;rcases hc with z|z
  ·rw[<-z,fC]at e;cases e
  ·rw[fC]at z;cases z
 have os:s'.os=s₂.os:=J.os;refine I.call' (s':={ s' with heap:=h' }) os un hok J.bare fun b hb=>?_;obtain⟨_,f1,_,f3,f4,f5⟩:=hf b hb;exact⟨f3,f1,f4,f5⟩
end
end L2
set_option maxHeartbeats 4000000
namespace L2
open PySem PySem.Spec PyProof.Rows
theorem QV {prog:Program}{w:World}{A:Around}{R:Result->Shared->Prop}{s:Shared}{elt tg iter:Expr}{ifs:List Expr}{scope:Scope}{pos:Pos}{it acc:Value}{env:Env}(J:Nat->Shared->Prop)
  (turn:∀ n s,J n s->wpAny (model prog w) A (pyNext it) (fun r s₁=>(r=none/\R (.ok .next) s₁)\/∃ v,r=some v /\
   wpAny (model prog w) A (letOwnedTupleGo tg it v) (fun _ s₂=>wpAny (model prog w) A (assign tg env v) (fun _ s₃ =>
    wpAny (model prog w) A (forIn ifs true fun c r=>if r=true then do let ok <-isTrue c env (eval c env);pure (ForInStep.yield ok) else pure (ForInStep.yield r)) (fun ok s₄ =>
     if ok=true then wpAny (model prog w) A (eval elt env) (fun x s₅=>wpAny (model prog w) A (call (.builtin "list.append") [acc,x]) (fun _ s₆=>∃ m,m<n/\J m s₆) (notedBy (model prog w) A env fun e s'=>R (.error e) s') s₅)
      (notedBy (model prog w) A env fun e s'=>R (.error e) s') s₄
     else ∃ m,m<n/\J m s₄) (notedBy (model prog w) A env fun e s'=>R (.error e) s') s₃) (notedBy (model prog w) A env fun e s'=>R (.error e) s') s₂) (notedBy (model prog w) A env fun e s'=>R (.error e) s') s₁)
   (notedBy (model prog w) A env fun e s'=>R (.error e) s') s)
  (n:Nat) (h:J n s):codeAny (model prog w) A (.compLoop (.ListComp elt [⟨tg,iter,ifs,0⟩] scope pos) 0 it acc env) R s:=by
 refine codeAny_loop rfl J (fun n s hJ=>?_) n h;refine wpAny_noted (A:=A) (m:=compTurn (.ListComp elt [⟨tg,iter,ifs,0⟩] scope pos) 0 it acc env) (env:=env) ?_;rw[compTurn_list];refine wpAny_bind (wpAny_standAt (wpAny_bind (cV (turn n s hJ) fun r s₁ h₁=>?_)));rcases h₁ with ⟨e,h₁⟩|⟨v,e,h₁⟩
 ·subst e;exact wpAny_pure h₁
 ·subst e;refine wpAny_bind (cV h₁ fun _ s₂ h₂=>wpAny_bind (cV h₂ fun _ s₃ h₃=>wpAny_bind (cV h₃ fun ok s₄ h₄=>?_)));cases ok with
  |false=>exact wpAny_pure ⟨rfl,h₄⟩
  |true=>exact wpAny_bind (wpAny_bind (cV h₄ fun x s₅ h₅=>wpAny_bind (cV h₅ fun _ s₆ h₆=>wpAny_pure (wpAny_pure ⟨rfl,h₆⟩))))
def PF (X:Cx)(ifs:List Expr)(t:TT):Prop :=
 ∀(pins:List (Addr×Obj)) (s:Shared) (σ:St) (H:Hp) (Q:Bool->Hp->Prop),Inv X pins σ H s->t σ H Q ->
  wpAny (model X.prog X.w) X.A (forIn ifs true fun c r=>if r=true then do let ok <-isTrue c X.env (eval c X.env);pure (ForInStep.yield ok) else pure (ForInStep.yield r)) (TP X pins σ Q) X.xe s
def YI:TT:=fun _ H Q=>Q true H
theorem Ic {X:Cx}:PF X [] YI:=by
 intro pins s σ H Q I h;rw[List.forIn_nil];exact wpAny_pure ⟨H,I,h⟩
theorem YJ {X:Cx}{c:Expr}{t:TT}(hc:PT X c t):PF X [c] t:=by
 intro pins s σ H Q I h;rw[List.forIn_cons];refine wpAny_bind ?_;rw[if_pos rfl];refine wpAny_bind (cV (hc pins s σ H Q I h) fun ok s1 q=>wpAny_pure ?_);show wpAny _ _ (forIn [] ok _) _ _ _;rw[List.forIn_nil];exact wpAny_pure q
def Nf (X:Cx)(C:Addr)(e:Value)(s':Shared):Prop :=
 ∃ m,s'.heap.Ns C m/\∀ h',Heap.SameBut C s'.heap h'->∀ cenv:Env,cenv.locals=C->wpAny (model X.prog X.w) X.A (passOn "comprehension.variables-let-go" e cenv:Sem Value) (fun _ _=>False) X.xe { s' with heap:=h' }
def lU (X:Cx)(scope:Scope)(C:Addr):Value->Shared->Prop :=
 notedBy (model X.prog X.w) X.A (compEnvC scope (fb X.env scope.names []) C X.env) (Nf X C)
def SW (n:Nat)(wi:TI)(g:Bk->TG)(tc:Bk->TT)(te:Bk->TE):TE:=fun σ H Q=>wi σ H fun J H1=>∀(D:Addr)(b:Bk),H1 D=none->∃ W:Nat->Nat->List V->St->Hp->Prop,
 (∃ m,W 0 m [] (List.replicate n none++σ) (upd H1 D (.lst [])))/\∀ i m ys σ H,W i m ys σ H ->
  (J.stop i H/\Q (.ref D) H)\/(J.go i H/\∀ x H',J.Vi i H x H'->g b x σ H' fun σ2 H2=>tc b σ2 H2 fun ok H3 =>
   if ok=true then te b σ2 H3 fun y H4=>H4 D=some (.lst ys)/\ys.length<sizeLine/\∃ m',m'<m/\W (i+1) m' (ys++[y]) σ2 (upd H4 D (.lst (ys++[y])))
   else ∃ m',m'<m/\W (i+1) m' ys σ2 H3)
section
variable {X:Cx} {tg iter elt:Expr} {ifs:List Expr} {scope:Scope} {pos:Pos} {cn:List Str} {wi:TI} {g:Bk->TG} {tc:Bk->TT} {te:Bk->TE} {TH:Bk->Prop}
theorem LA {pins:List (Addr×Obj)}{σ:St}{H:Hp}{s₂:Shared}{it:Addr}{fp:List Addr}{tn:Nat->Heap->Prop}{J:It}{RR:Value->Addr->Result->Shared->Prop}{QQ:Addr->Hp->Prop}{EE:Value->Shared->Prop}
  (hcalm:X.calm=true) (F:gi X.env.scope X.N scope) (hg:∀ b,TH b->PG (bV X cn scope b) tg (g b)) (ht:∀ b,TH b->PF (bV X cn scope b) ifs (tc b)) (he:∀ b,TH b->PE (bV X cn scope b) elt (te b))
  (hTH:∀ C,s₂.heap.objs.size<=C->TH ⟨C,s₂,H,fp,lU X scope C⟩)
  (I:Inv X pins σ H s₂) (T:Turn X.prog X.w X.K tg J fp it tn) (st:tn 0 s₂.heap) (hf:∀ b∈fp,qE X pins H b)
  (h:∀(D:Addr)(b:Bk),H D=none->∃ W:Nat->Nat->List V->St->Hp->Prop,(∃ m,W 0 m [] (List.replicate cn.length none++σ) (upd H D (.lst [])))/\∀ i m ys σ H,W i m ys σ H ->
   (J.stop i H/\QQ D H)\/(J.go i H/\∀ x H',J.Vi i H x H'->g b x σ H' fun σ2 H2=>tc b σ2 H2 fun ok H3 =>
    if ok=true then te b σ2 H3 fun y H4=>H4 D=some (.lst ys)/\ys.length<sizeLine/\∃ m',m'<m/\W (i+1) m' (ys++[y]) σ2 (upd H4 D (.lst (ys++[y])))
    else ∃ m',m'<m/\W (i+1) m' ys σ2 H3))
  (hR:∀ C D σ' H' s',s₂.heap.objs.size<=C->Inv (bV X cn scope ⟨C,s₂,H,fp,lU X scope C⟩) [] σ' H' s'->QQ D H'->RR (.ref D) C (.ok .next) s')
  (hE:∀ C D e s',Nf X C e s'->RR (.ref D) C (.error e) s') :
  wpAny (model X.prog X.w) X.A (newList []) (fun acc s₃=>wpAny (model X.prog X.w) X.A (newFunctionEnv scope X.env.globals (fb X.env scope.names []) [] X.env.qual none .none (some X.env)) (fun cenv s₄ =>
   codeAny (model X.prog X.w) X.A (.compStart (.ListComp elt [⟨tg,iter,ifs,0⟩] scope pos) 0 (.ref it) acc { cenv with scope:=relabel scope X.env }) (RR acc cenv.locals) s₄) EE s₃) EE s₂:=by
 refine wpAny_newObj_type (wpAny_newFunctionEnv F.SV (by intro y hy;simp at hy) (fun h₁ hns₁ hsb₁=>?_) F.kind);dsimp only at hns₁ hsb₁ ⊢;generalize hH2:s₂.heap.push { cls:=.type "list",dict:=none,data:=.seq ([]:List Value).toArray } = H2 at hns₁ hsb₁ ⊢;have hC:H2.objs.size=s₂.heap.objs.size+1:=by rw[<-hH2,Heap.size_push]
 have hDC:s₂.heap.objs.size≠H2.objs.size:=by omega
 have hCle:s₂.heap.objs.size<=H2.objs.size:=by omega
 have hfl:∀ b∈fp,b<s₂.heap.objs.size:=fun b hb=>by
  obtain⟨o,e,_⟩:=T.obj 0 _ st b hb;exact Heap.lt_size e
 have adF:∀ b o,s₂.heap.get? b=some o->H2.get? b=some o:=fun b o e=>hH2 ▸ Heap.get?_push_of_some _ e;have old:∀ b o,s₂.heap.get? b=some o->h₁.get? b=some o:=fun b o e=>by
  have hb:=Heap.lt_size e;refine hsb₁.extBut b o (Nat.ne_of_lt (Nat.lt_of_lt_of_le hb hCle)) (Heap.get?_push_of_some _ (adF b o e))
 have hacc:h₁.get? s₂.heap.objs.size=some { cls:=.type "list",data:=.seq ([]:List Value).toArray 0 } :=
  hsb₁.extBut _ _ hDC (Heap.get?_push_of_some _ (hH2 ▸ Heap.get?_push_size _ rfl))
 have I0:=Inv.block (cn:=cn) (xe:=lU X scope H2.objs.size) (tk:=s₂.toks+([]:List (Str×Value)).length) I F hcalm hf hfl hCle (Nat.le_refl _) hDC hns₁ old hacc;have th:=hTH _ hCle;obtain⟨W,⟨m0,w0⟩,turn⟩:=h s₂.heap.objs.size ⟨H2.objs.size,s₂,H,fp,lU X scope H2.objs.size⟩ (I.hok.fresh (Nat.le_refl _));have fpx:∀{H':Hp},(∀ b∈fp,H' b=none)->∀ b∈fp,qE (bV X cn scope ⟨H2.objs.size,s₂,H,fp,lU X scope H2.objs.size⟩) [] H' b:=fun {H'} hn b hb=>by
  refine⟨hn b hb,(I0.ok.exf b hb).1,I0.ok.Ss b hb,.inl hb,(I0.ok.exf b hb).2,fun p hp=>absurd (show p∈([]:List (Addr×Obj)) from hp) (by simp)⟩
 have Xv:(bV X cn scope ⟨H2.objs.size,s₂,H,fp,lU X scope H2.objs.size⟩).calm=true:=hcalm;have loop:∀ s₃:Shared,s₃ = { s₂ with heap:=h₁,toks:=s₂.toks+([]:List (Str×Value)).length } ->
   codeAny (model X.prog X.w) X.A (.compLoop (.ListComp elt [⟨tg,iter,ifs,0⟩] scope pos) 0 (.ref it) (.ref s₂.heap.objs.size) (compEnvC scope (fb X.env scope.names []) H2.objs.size X.env))
    (RR (.ref s₂.heap.objs.size) H2.objs.size) s₃:=by
  rintro s₃ rfl;have toE:∀ e s',(bV X cn scope ⟨H2.objs.size,s₂,H,fp,lU X scope H2.objs.size⟩).xe e s' ->
    notedBy (model X.prog X.w) X.A (compEnvC scope (fb X.env scope.names []) H2.objs.size X.env) (fun e s'=>RR (.ref s₂.heap.objs.size) H2.objs.size (.error e) s') e s':=fun e s' z =>
   wpAny_mono (show notedBy (model X.prog X.w) X.A (compEnvC scope (fb X.env scope.names []) H2.objs.size X.env) (Nf X H2.objs.size) e s' from z) (fun _ _ q=>hE _ _ _ _ q) fun _ _ q=>hE _ _ _ _ q
  refine QV (env:=compEnvC scope (fb X.env scope.names []) H2.objs.size X.env)
   (fun n s'=>∃ i ys σ' H',Inv (bV X cn scope ⟨H2.objs.size,s₂,H,fp,lU X scope H2.objs.size⟩) [] σ' H' s'/\tn i s'.heap/\(∀ b∈fp,H' b=none)/\W i n ys σ' H') ?_ m0
   ⟨0,[],_,_,I0,T.keep _ _ _ st fun b _ o e=>old b o e,fun b hb=>?_,w0⟩
  ·rintro n s' ⟨i,ys,σ',H',I',st',fr',w'⟩;rcases turn i n ys σ' H' w' with ⟨stop,qn⟩|⟨go,step⟩
   ·refine wpAny_mono (T.done (bV X cn scope ⟨H2.objs.size,s₂,H,fp,lU X scope H2.objs.size⟩) rfl rfl rfl Xv i [] s' σ' H' (fun _ _=>False) I' (fpx fr') st' stop) (fun r s4 ⟨hr,I4⟩=>?_) fun _ _ z=>z.elim;exact .inl ⟨hr,hR _ _ _ _ _ hCle I4 qn⟩
   ·refine wpAny_mono (T.item (bV X cn scope ⟨H2.objs.size,s₂,H,fp,lU X scope H2.objs.size⟩) rfl rfl rfl Xv i [] s' σ' H' (fun _ _=>False) I' (fpx fr') st' go) (fun r s4 ⟨u,hr,h4⟩=>?_) fun _ _ z=>z.elim;refine .inr ⟨u,hr,wpAny_mono h4 (fun _ s5 ⟨x,H5,I5,r5,y5,Ys,fr5⟩=>?_) fun _ _ z=>z.elim⟩;have I5':=I5.pinned (fpx fr5) (T.obj _ _ Ys);refine wpAny_mono (hg _ th _ s5 σ' H5 x u _ I5' r5 (step x H5 y5)) (fun _ s6 ⟨σ6,H6,I6,q6⟩=>?_) toE;refine wpAny_mono (ht _ th _ s6 σ6 H6 _ I6 q6) (fun ok s7 ⟨H7,I7,q7⟩=>?_) toE;have back:∀{σ8:St} {H8:Hp} {s8:Shared},Inv (bV X cn scope ⟨H2.objs.size,s₂,H,fp,lU X scope H2.objs.size⟩) ([]++BX fp s5.heap) σ8 H8 s8->tn (i+1) s8.heap/\∀ b∈fp,H8 b=none:=fun {σ8 H8 s8} I8=>by
     refine⟨T.keep _ _ _ Ys fun b hb o e=>(I8.pin (b,o) (mem_append_right _ (mem_append_right _ (mW hb e)))).1,fun b hb=>?_⟩;obtain⟨o,e,d⟩:=T.obj _ _ Ys b hb;exact(I8.pin (b,o) (mem_append_right _ (mem_append_right _ (mW hb e)))).2.1
    cases ok with
    |false =>
     rw[if_neg Bool.false_ne_true]at q7 ⊢;obtain⟨m',hm,w7⟩:=q7;obtain⟨t8,f8⟩:=back I7;exact⟨m',hm,i+1,ys,σ6,H7,I7.oQ,t8,f8,w7⟩
    |true =>
     rw[if_pos rfl]at q7 ⊢;refine wpAny_mono (he _ th _ s7 σ6 H7 _ I7 q7) (fun v s8 ⟨y,H8,I8,r8,hl,hz,m',hm,w8⟩=>?_) toE;refine wpAny_mono (bO (X:=bV X cn scope ⟨H2.objs.size,s₂,H,fp,lU X scope H2.objs.size⟩) _ s8 σ6 H8 (.ref s₂.heap.objs.size) [y] (.ref s₂.heap.objs.size) [v] (fun _ H9=>W (i+1) m' (ys++[y]) σ6 H9) I8 rfl (.cons r8 .nil) ⟨_,ys,y,rfl,rfl,hl,hz,w8⟩)
      (fun _ s9 ⟨_,H9,I9,_,w9⟩=>?_) toE
     obtain⟨t9,f9⟩:=back I9;exact⟨m',hm,i+1,_,σ6,H9,I9.oQ,t9,f9,w9⟩
  ·rw[ar (Nat.ne_of_lt (hfl b hb))];exact(hf b hb).1
 exact codeAny_compStart_list (loop _ rfl) (T.self _ 0 _ _ _ (T.keep _ _ _ st fun b _ o e=>old b o e) (loop _ rfl))
theorem SX (hcalm:X.calm=true)(F:gi X.env.scope X.N scope)(hi:PI X tg iter wi)(hg:∀ b,TH b->PG (bV X cn scope b) tg (g b))(ht:∀ b,TH b->PF (bV X cn scope b) ifs (tc b))
  (he:∀ b,TH b->PE (bV X cn scope b) elt (te b))
  (hTH:∀ pins σ H s₂ fp C,Inv X pins σ H s₂->(∀ b∈fp,qE X pins H b)->s₂.heap.objs.size<=C->TH ⟨C,s₂,H,fp,lU X scope C⟩)
  (hs:∀ x,foldedSetIterable iter X.env x=pure x:=by intro _;rfl):PE X (.ListComp elt [⟨tg,iter,ifs,0⟩] scope pos) (SW cn.length wi g tc te):=by
 intro pins s σ H Q I h;rw[eval_ListComp];have hcl:closureFor scope X.env=pure (fb X.env scope.names []):=PR fun p hp e=>I.ok.has p.1 (F.free p hp e);refine wpAny_comprehension_free (use:=none) rfl hs hcl F.kind F.loc (cV (hi pins s σ H _ I h) fun xv s₁ h₁=>cV h₁ fun itv s₂ h₂=>?_);obtain⟨it,fp,tn,J,H2,rfl,I2,T,st,f2,R⟩:=h₂;refine LA (QQ:=fun D H'=>Q (.ref D) H') (RR:=fun acc C=>compPost (model X.prog X.w) X.A X.xe none (EP X pins σ Q) acc C) hcalm F hg ht he (fun C hC=>hTH pins σ H2 s₂ fp C I2 f2 hC) I2 T st f2 R ?_ ?_
 ·intro C D σ' H' s' hC I' q;obtain⟨m,hm,_⟩:=I'.loc;exact⟨m,hm,fun h' sb=>⟨.ref D,H',I2.PV f2 hC I' sb,rfl,q⟩⟩
 ·intro C D e s' z;exact z
theorem AZ (hcalm:X.calm=true)(F:gi X.env.scope X.N scope)(hi:PI X tg iter wi)(hg:∀ b,PG (bV X cn scope b) tg (g b))(ht:∀ b,PF (bV X cn scope b) ifs (tc b))(he:∀ b,PE (bV X cn scope b) elt (te b))
  (hs:∀ x,foldedSetIterable iter X.env x=pure x:=by intro _;rfl):PE X (.ListComp elt [⟨tg,iter,ifs,0⟩] scope pos) (SW cn.length wi g tc te) :=
 SX (TH:=fun _=>True) hcalm F hi (fun b _=>hg b) (fun b _=>ht b) (fun b _=>he b) (fun _ _ _ _ _ _ _ _ _=>trivial) hs
end
end L2
set_option maxHeartbeats 4000000
namespace L2
open PySem PySem.Spec PyProof.Rows
section
variable {X:Cx} {e:Expr} {es:List Expr} {te:TE} {pos:Pos}
abbrev TP1:=St->Hp->(Str->Hp->Prop)->Prop
abbrev YK:=Str->St->Hp->(Str->Hp->Prop)->Prop
def adH (X:Cx)(pins:List (Addr×Obj))(σ:St)(Q:Str->Hp->Prop)(u:Value)(s':Shared):Prop:=∃ y t H',u=.str y t/\Inv X pins σ H' s'/\Q y H'
def PP (X:Cx)(e:Expr)(t:TP1):Prop :=
 ∀(pins:List (Addr×Obj)) (s:Shared) (σ:St) (H:Hp) (Q:Str->Hp->Prop),Inv X pins σ H s->t σ H Q->wpAny (model X.prog X.w) X.A (eval e X.env) (adH X pins σ Q) X.xe s
def PPs (X:Cx)(es:List Expr)(t:YK):Prop :=
 ∀(pins:List (Addr×Obj)) (s:Shared) (σ:St) (H:Hp) (acc:Str) (Q:Str->Hp->Prop),Inv X pins σ H s->t acc σ H Q ->
  Joins (model X.prog X.w) X.A X.xe (evalEach es X.env) acc (fun out s₁=>∃ H',Inv X pins σ H' s₁/\Q out H') s
def tPC (x:Str):TP1:=fun _ H Q=>Q x H
def tPV (te:TE):TP1:=fun σ H Q=>te σ H fun v H1=>(∃ z,v=.str z/\z.length<=sizeLine/\Q z H1)\/∃ i:Int,v=.int i/\i.natAbs.log2<1920/\Q (toString i) H1
theorem SY {x j}:PP X (.Constant (.str x) j pos) (tPC x):=fun _ _ _ H _ I h=>Calls.Constant_str ⟨x,_,H,rfl,I.tok _,h⟩
theorem Ng (he:PE X e te):PP X (.FormattedValue e (-1) none pos) (tPV te):=by
 intro pins s σ H Q I h;refine FormattedValue_plain (cV (he pins s σ H _ I h) fun v s1 ⟨x,H1,I1,r1,q1⟩=>?_);rcases q1 with ⟨z,rfl,hz,q⟩|⟨i,rfl,hi,q⟩
 ·obtain⟨t,rfl⟩:=r1;exact formatField_str (fun t' tk=>⟨z,t',H1,rfl,I1.tok _,q⟩) hz
 ·obtain⟨t,rfl⟩:=r1;exact formatField_int_small hi ⟨_,_,H1,rfl,I1.tok _,q⟩
def tJ0:YK:=fun acc _ H Q=>Q acc H
def tJ (t:TP1)(u:YK):YK:=fun acc σ H Q=>t σ H fun y H1=>(acc++y).length<=sizeLine/\u (acc++y) σ H1 Q
theorem VF:PPs X [] tJ0:=fun _ _ _ H _ _ I h=>⟨H,I,h⟩
theorem tL {t:TP1}{u:YK}(h1:PP X e t)(h2:PPs X es u):PPs X (e::es) (tJ t u):=by
 intro pins s σ H acc Q I h;refine wpAny_mono (h1 pins s σ H _ I h) (fun v s1 q=>?_) fun _ _ z=>z;obtain⟨y,tk,H1,rfl,I1,hz,q⟩:=q;exact⟨y,tk,rfl,hz,h2 pins s1 σ H1 _ Q I1 q⟩
def tF (u:YK):TE:=fun σ H Q=>u Str.empty σ H fun out H1=>out.length<=sizeLine/\Q (.str out) H1
theorem VG {e2:Expr}{u:YK}(h:PPs X (e::e2::es) u):PE X (.JoinedStr (e::e2::es) pos) (tF u):=by
 intro pins s σ H Q I hw;refine wpAny_JoinedStr ?_;have mono:∀(l:List (Sem Value)) (acc:Str) (Q1 Q2:Str->Shared->Prop) (s:Shared),(∀ o s,Q1 o s->Q2 o s)->Joins (model X.prog X.w) X.A X.xe l acc Q1 s->Joins (model X.prog X.w) X.A X.xe l acc Q2 s:=by
  intro l
  induction l with
  |nil=>intro acc Q1 Q2 s hm h;exact hm _ _ h
  |cons a l ih =>
   intro acc Q1 Q2 s hm h;refine wpAny_mono h (fun v s1 q=>?_) fun _ _ z=>z;obtain⟨y,t,e1,hz,q⟩:=q;exact⟨y,t,e1,hz,ih _ _ _ _ hm q⟩
 refine mono _ _ _ _ _ (fun out s1 q=>?_) (h pins s σ H _ _ I hw);obtain⟨H1,I1,hz,q⟩:=q;exact⟨hz,.str out,H1,I1.tok _,⟨_,rfl⟩,q⟩
theorem i7:jE X (.type "int") (fun xs H Q=>∃ z n,xs=[.str z]/\PySem.intText? z=some n/\z.length<=640/\Q (.int n) H):=by
 intro pins s σ H xs us Q I r h;obtain⟨z,n,rfl,hn,hl,q⟩:=h;obtain⟨u,rfl,t,rfl⟩:=r.one;exact PySem.W.KIN.call_text hn hl ⟨.int n,H,I.tok _,⟨_,rfl⟩,q⟩
def adI:V->Option Int->Option Int->Hp->VK->Prop:=fun x lo hi H Q=>∃ z,x=.str z/\z.length<=sizeLine/\Q (.str (Txt.slice z lo hi)) H
theorem G3 {v:Value}{o:Option Int}(p:IsPart v o):∃ l:Option (Int×Tok),v=partValue l/\l.map (·.1)=o:=by
 cases p with
 |none=>exact⟨none,rfl,rfl⟩
 |int i t=>exact⟨some (i,t),rfl,rfl⟩
theorem Nh:Xm X adI:=by
 intro pins s σ H x v vl vu lo hi sl Q I rx hs pl pu h;obtain⟨z,rfl,hz,q⟩:=h;obtain⟨t,rfl⟩:=rx;obtain⟨l,rfl,el⟩:=G3 pl;obtain⟨u,rfl,eu⟩:=G3 pu;subst el eu;refine⟨"str",_,F.slot_str_getitem.lookup,typeIs_str _ _ _,?_⟩;obtain⟨o,ho,hc,hd⟩:=hs;refine wpAny_getItem_str_slice (l:=l) (u:=u) (st:=none) ⟨o,ho,hc,hd⟩ rfl ?_;exact post_val_or_str ⟨Nat.le_trans (Txt.slice_le z _ _) hz,fun t' k=>⟨.str _,H,I.tok _,⟨t',rfl⟩,q⟩⟩
end
end L2
set_option maxHeartbeats 4000000
namespace L2
open PySem PySem.Spec PyProof.Rows PySem.SeqAt
inductive VH (K:Frag)(H:Hp):Nat->V->V->Prop where
 |flat {n:Nat} {x:V} (f:qK x=true):VH K H n x x
 |tup {n:Nat} {a b:Addr} {xs ys:List V} (ha:cz K H a xs) (hb:cz K H b ys) (hl:xs.length=ys.length) (h:∀(i:Nat) x y,xs[i]? = some x->ys[i]? = some y->VH K H n x y):VH K H (n+1) (.ref a) (.ref b)
 |lst {n:Nat} {a b:Addr} {xs ys:List V} (ha:a6 K H a xs) (hb:a6 K H b ys) (hl:xs.length=ys.length) (h:∀(i:Nat) x y,xs[i]? = some x->ys[i]? = some y->VH K H n x y):VH K H (n+1) (.ref a) (.ref b)
section
variable {X:Cx} {pins:List (Addr×Obj)} {σ:St} {H:Hp} {s:Shared}
theorem S0:∀{x:V},qK x=true->Vl x x=true:=by
 intro x f;cases x <;> first|(simp[Vl];done)|(cases f)
theorem oU (n:Nat):(List.range n).all (fun _=>true)=true:=by simp
theorem VH.at {n:Nat}{x y:V}(d:VH X.K H n x y)(I:Inv X pins σ H s):∀{A:Around} {u v:Value},A.units+n<cLine->RelV x u->RelV y v ->
  EqAt A s u v true/\(∀ a b,x=.ref a->y=.ref b->RcAt A s u v true/\RcNeAt A s u v false):=by
 induction d with
 | @flat n x f =>
  intro A u v hu ru rv;refine⟨?_,fun a b e _=>?_⟩
  ·have:=SQ (A:=A) (s:=s) ru rv f f;rw[S0 f]at this;exact this
  ·subst e;cases f
 | @tup n a b xs ys ha hb hl h ih =>
  intro A u v hu ru rv;cases ru;cases rv;obtain⟨its,r,p,_⟩:=I.tuple ha;obtain⟨its',r',p',_⟩:=I.tuple hb;have e1:=r.length;have e2:=r'.length;have he:∀ j (h1:j<its.toArray.size) (h2:j<its'.toArray.size),EqAt A.in1 s its.toArray[j] its'.toArray[j] true:=by
   intro j h1 h2;have h1':j<its.length:=by simpa using h1
   have h2':j<its'.length:=by simpa using h2
   have g1:xs[j]? = some xs[j]:=getElem?_eq_getElem (by omega);have g2:ys[j]? = some ys[j]:=getElem?_eq_getElem (by omega);obtain⟨u1,q1,k1⟩:=r.get g1;obtain⟨u2,q2,k2⟩:=r'.get g2;have z1:its.toArray[j]=u1:=by
    rw[getElem?_eq_getElem h1']at q1
    simpa using q1
   have z2:its'.toArray[j]=u2:=by
    rw[getElem?_eq_getElem h2']at q2
    simpa using q2
   rw[z1,z2];exact(ih j _ _ g1 g2 (by show A.units+1+n<cLine;omega) k1 k2).1
  have bt:((List.range (min its.toArray.size its'.toArray.size)).all (fun _=>true)&&its.toArray.size==its'.toArray.size)=true:=by
   rw[oU];simp;omega
  have rc:RcAt A s (.ref a) (.ref b) true:=by
   have:=RcAt.tuples (A:=A) (e:=fun _=>true) (show s.heap.IsTuple a its.toArray from p) (show s.heap.IsTuple b its'.toArray from p') (by omega) he;rw[bt]at this;exact this
  have rn:RcNeAt A s (.ref a) (.ref b) false:=by
   have:=RcNeAt.tuples (A:=A) (e:=fun _=>true) (show s.heap.IsTuple a its.toArray from p) (show s.heap.IsTuple b its'.toArray from p') (by omega) he;rw[bt]at this;exact this
  refine⟨?_,fun _ _ _ _=>⟨rc,rn⟩⟩
  by_cases e:a=b
  ·subst e;exact EqAt.same _
  ·exact EqAt.of_refs e rc
 | @lst n a b xs ys ha hb hl h ih =>
  intro A u v hu ru rv;cases ru;cases rv;obtain⟨its,r,p,_⟩:=I.list ha;obtain⟨its',r',p',_⟩:=I.list hb;have e1:=r.length;have e2:=r'.length;have he:∀ j (h1:j<its.toArray.size) (h2:j<its'.toArray.size),EqAt A.in1 s its.toArray[j] its'.toArray[j] true:=by
   intro j h1 h2;have h1':j<its.length:=by simpa using h1
   have h2':j<its'.length:=by simpa using h2
   have g1:xs[j]? = some xs[j]:=getElem?_eq_getElem (by omega);have g2:ys[j]? = some ys[j]:=getElem?_eq_getElem (by omega);obtain⟨u1,q1,k1⟩:=r.get g1;obtain⟨u2,q2,k2⟩:=r'.get g2;have z1:its.toArray[j]=u1:=by
    rw[getElem?_eq_getElem h1']at q1
    simpa using q1
   have z2:its'.toArray[j]=u2:=by
    rw[getElem?_eq_getElem h2']at q2
    simpa using q2
   rw[z1,z2];exact(ih j _ _ g1 g2 (by show A.units+1+n<cLine;omega) k1 k2).1
  have bt:(List.range its.toArray.size).all (fun _=>true)=true:=oU _;have rc:RcAt A s (.ref a) (.ref b) true:=by
   have:=RcAt.lists (A:=A) (e:=fun _=>true) p.isList p'.isList (by simp;omega) (by omega) he;rw[bt]at this;exact this
  have rn:RcNeAt A s (.ref a) (.ref b) false:=by
   have:=RcNeAt.lists (A:=A) (e:=fun _=>true) p.isList p'.isList (by simp;omega) (by omega) he;rw[bt]at this;exact this
  refine⟨?_,fun _ _ _ _=>⟨rc,rn⟩⟩
  by_cases e:a=b
  ·subst e;exact EqAt.same _
  ·exact EqAt.of_refs e rc
inductive Xw (K:Frag)(b:Bool)(x:V)(y:V)(H:Hp)(Q:VK):Prop
 |mk (a:_) (c:_) (qH:x=.ref a) (qI:y=.ref c) (AY:VH K H 60 x y/\Q (.bl b) H):Xw K b x y H Q
def aaw (K:Frag)(b:Bool):R2:=fun x y H Q=>Xw K b x y H Q
theorem aL (hu:X.A.units+64<cLine):qJ X (compareOp .Eq) (aaw X.K true):=by
 intro pins s σ H x y v u Q I r1 r2 h;obtain⟨a,c,rfl,rfl,d,q⟩:=h;exact(((d.at I (A:=X.A) (by omega) r1 r2).2 a c rfl rfl).1) X.prog X.w X.xe _ ⟨.bl true,H,I,rfl,q⟩
theorem vY (hu:X.A.units+64<cLine):qJ X (compareOp .NotEq) (aaw X.K false):=by
 intro pins s σ H x y v u Q I r1 r2 h;obtain⟨a,c,rfl,rfl,d,q⟩:=h;exact(((d.at I (A:=X.A) (by omega) r1 r2).2 a c rfl rfl).2) X.prog X.w X.xe _ ⟨.bl false,H,I,rfl,q⟩
theorem oV:jE X (.builtin "isinstance") (fun xs H Q=>∃ x T t b,xs=[x,.ty T]/\oA X.K H x t/\kitOne X.K t (.type T)=some b/\Q (.bl b) H):=by
 intro pins s σ H xs us Q I r h;obtain⟨x,T,t,b,rfl,ty,e,q⟩:=h;obtain⟨u,v,rfl,r1,r2⟩:=r.two;cases r2;exact QP I r1 ty e fun tk=>⟨.bl b,H,I.tok _,rfl,q⟩
def Itz (K:Frag)(a b:Addr):It :=
 ⟨fun i H=>∃ xs ys x y,a6 K H a xs/\a6 K H b ys/\xs[i]? = some x/\ys[i]? = some y,
  fun i H p H'=>∃ x y t,p=.ref t/\H t=none/\(∀ xs,a6 K H a xs->xs[i]? = some x)/\(∀ ys,a6 K H b ys->ys[i]? = some y)/\H'=upd H t (.tup [x,y]),
  fun i H=>∃ xs ys,a6 K H a xs/\a6 K H b ys/\min xs.length ys.length=i⟩
theorem m5 {a:Addr}{K:Frag}{X:Cx}{pins:List (Addr×Obj)}{σ:St}{H:Hp}{s:Shared}{xs:List V}{b:Addr}{o:Obj}(I:Inv X pins σ H s)(hq:a6 X.K H a xs)(e:s.heap.get? b=some o)(hc:o.cls≠.type "list"):a≠b:=by
 rintro rfl;obtain⟨its,_,p,_⟩:=I.list hq;obtain⟨o',e',c',_⟩:=p.isList;rw[e]at e';cases e';exact hc c'
theorem Inv.LB {tk:Nat}{h':Heap}{wr:List Addr}{T:Addr}{xs:List V}{vals:List Value}(I:Inv X pins σ H s)(hw:∀ b∈wr,qE X pins H b)(hT:s.heap.objs.size<=T)(ht:h'.IsTuple T vals.toArray)(rv:Vals xs vals)(hz:xs.length<=sizeLine)
  (kk:∀ b o,b ∉ wr->s.heap.get? b=some o->h'.get? b=some o) (there:∀ b∈wr,∃ o,h'.get? b=some o):Inv X pins σ (upd H T (.tup xs)) { s with heap:=h',toks:=tk }:=by
 have VI:H T=none:=I.hok.fresh hT;have nT:∀ b o,s.heap.get? b=some o->b≠T:=fun b o e=>Nat.ne_of_lt (Nat.lt_of_lt_of_le (Heap.lt_size e) hT);refine I.step (g':=s.gens) (d':=s.drawn) (ch:=wr) (fun b hb=>?_) (fun b o _ _ hc e _=>kk b o hc e) (fun b o _ _ hc e _=>⟨o.slots,kk b o hc e⟩) (fun b o _ e n=>by rw[ar (nT b o e)];exact n)
  (fun b o hc e=>⟨o,kk b o hc e⟩) (fun b ys e=>by rw[ar (aC e VI)];exact e) (fun b o u e=>by rw[ar (aC e VI)];exact e) (fun b ps e=>⟨#[],by rw[ar (aC e VI),e];simp⟩) (fun m hm=>?_) (fun b u e=>?_) I.bare
 ·obtain⟨_,f1,_,f3,f4,f5⟩:=hw b hb;exact⟨f3,f1,f4,f5⟩
 ·obtain⟨o,es,ep,ho,r⟩:=hm;exact⟨o,es,ep,kk _ o (fun z=>(hw _ z).2.1 rfl) ho,r⟩
 ·by_cases hb:b=T
  ·subst hb;rw[ai]at e;cases e;exact⟨hz,vals,rv,ht⟩
  ·rw[ar hb]at e;refine(I.hok b u e).stay (fun c v hc q=>kk c v (fun z=>?_) q) (fun c q=>by rw[ar (aC q VI)];exact q) fun c ys q=>by rw[ar (aC q VI)];exact q
   have hn:=(hw c z).1;rcases hc with hc|hc
   ·rw[hc,e]at hn;cases hn
   ·rw[hc]at hn;cases hn
theorem Inv.m6 {tk:Nat}{h':Heap}{wr:List Addr}(I:Inv X pins σ H s)(hw:∀ b∈wr,qE X pins H b)(kk:∀ b o,b ∉ wr->s.heap.get? b=some o->h'.get? b=some o):Inv X pins σ H { s with heap:=h',toks:=tk }:=by
 refine I.step (g':=s.gens) (d':=s.drawn) (ch:=wr) (fun b hb=>?_) (fun b o _ _ hc e _=>kk b o hc e) (fun b o _ _ hc e _=>⟨o.slots,kk b o hc e⟩) (fun b o _ e n=>n)
  (fun b o hc e=>⟨o,kk b o hc e⟩) (fun b ys e=>e) (fun b o u e=>e) (fun b ps e=>⟨#[],by rw[e];simp⟩) (fun m hm=>?_) (fun b u e=>?_) I.bare
 ·obtain⟨_,f1,_,f3,f4,f5⟩:=hw b hb;exact⟨f3,f1,f4,f5⟩
 ·obtain⟨o,es,ep,ho,r⟩:=hm;exact⟨o,es,ep,kk _ o (fun z=>(hw _ z).2.1 rfl) ho,r⟩
 ·refine(I.hok b u e).stay (fun c v hc q=>kk c v (fun z=>?_) q) (fun c q=>q) fun c ys q=>q;have hn:=(hw c z).1;rcases hc with hc|hc
  ·rw[hc,e]at hn;cases hn
  ·rw[hc]at hn;cases hn
end
end L2
set_option maxHeartbeats 4000000
namespace L2
open PySem PySem.Spec PyProof.Rows PySem.SeqAt
section
variable {X:Cx}
theorem az {k:Nat}{A:Around}(hr:kU k A):A.units+64<cLine:=hr.units
theorem lu:bootBuiltins "len"=some (.builtin "len"):=by lk
theorem S4:bootBuiltins "min"=some (.builtin "min"):=by lk
theorem YL:bootBuiltins "max"=some (.builtin "max"):=by lk
theorem YM:bootBuiltins "zip"=some (.type "zip"):=by lk
theorem fZ:bootBuiltins "isinstance"=some (.builtin "isinstance"):=by lk
theorem B4:bootBuiltins "int"=some (.type "int"):=by lk
theorem VJ:bootBuiltins "bool"=some (.type "bool"):=by lk
theorem PX:bootBuiltins "list"=some (.type "list"):=by lk
theorem B5:bootBuiltins "tuple"=some (.type "tuple"):=by lk
theorem VL:bootBuiltins "dict"=some (.type "dict"):=by lk
end
end L2
namespace L2
open PySem PySem.Spec PyProof.Rows
end L2
namespace L2
open PySem
theorem tM {K:Frag}{H:Hp}{a l:Addr}{o:HO}{xs:List V}(h:a6 K H a xs)(hn:H l=none):a6 K (upd H l o) a xs:=by
 have ne:∀{u},H a=some u->a≠l:=fun e=>aC e hn;rcases h with (h|⟨u,h⟩)|h
 ·exact .inl (.inl (by rw[ar (ne h)];exact h))
 ·exact .inl (.inr ⟨u,by rw[ar (ne h)];exact h⟩)
 ·exact .inr h
theorem ay.tup {K:Frag}{H H':Hp}{a:Addr}{xs:List V}(e:ay H H')(h:cz K H a xs):cz K H' a xs:=by
 rcases h with (h|⟨o,h⟩)|h
 ·exact .inl (.inl (e _ _ h))
 ·exact .inl (.inr ⟨o,e _ _ h⟩)
 ·exact .inr h
theorem ay.upd {H:Hp}{l:Addr}{o:HO}(hn:H l=none):ay H (upd H l o):=fun b u e=>by
 rw[ar (aC e hn)];exact e
end L2
namespace L2
theorem aV {X:Cx}{b:List PySem.Stmt}{t:TS}{D:Ends}{σ:St}{H:Hp}(h:Lp X b t)(q:t D σ H):∃ t,Lp X b t/\t D σ H:=⟨t,h,q⟩
theorem oW (i j:Int):decide (V.int i=V.int j)=decide (i=j):=by
 by_cases h:i=j
 ·subst h;simp
 ·rw[decide_eq_false h];exact decide_eq_false fun e=>h (V.int.inj e)
end L2
namespace L2
open PySem
end L2
namespace L2
open PySem
end L2
set_option maxHeartbeats 4000000
namespace L2
open PySem PySem.Spec PyProof.Rows
section
variable {X:Cx} {tg:Expr}
theorem G4 {pins:List (Addr×Obj)}{σ:St}{H:Hp}{s:Shared}{a:Addr}{xs:List V}{i:Nat}{y:V}(I:Inv X pins σ H s)(hq:a6 X.K H a xs)(hy:xs[i]? = some y):∀ ys,a6 X.K H a ys->ys[i]? = some y:=fun ys h=>by
 rw[I.Lr h hq];exact hy
end
end L2
set_option maxHeartbeats 4000000
namespace L2
open PySem PySem.Spec PyProof.Rows
structure Ni (z TI TO i1 i2:Addr):Prop where
 TIz:TI≠z
 TOz:TO≠z
 i1z:i1≠z
 i2z:i2≠z
 TITO:TI≠TO
 TIi1:TI≠i1
 TIi2:TI≠i2
 TOi1:TO≠i1
 TOi2:TO≠i2
 i12:i1≠i2
section
variable {X:Cx}
def Xx (z TI TO i1 i2 a b:Addr)(i:Nat)(h:Heap):Prop:=IsZip h z TI TO .none/\IsPair h TI (.ref i1) (.ref i2)/\(∃ x y,IsPair h TO x y)/\h.IsListIter i1 a i/\h.IsListIter i2 b i
theorem G5 {pins:List (Addr×Obj)}{σ:St}{H:Hp}{s:Shared}{z TI TO i1 i2 a b:Addr}{i:Nat}{xs ys:List V}(I:Inv X pins σ H s)(O:Ni z TI TO i1 i2)(st:Xx z TI TO i1 i2 a b i s.heap)(ha:a6 X.K H a xs)(hb:a6 X.K H b ys) :
  ZipApart z TI TO i1 i2 a b:=by
 obtain⟨hz,hTI,⟨x,y,hTO⟩,⟨o1,e1,c1,_⟩,⟨o2,e2,c2,_⟩⟩:=st;have nz:∀{c:Addr} {zs:List V},a6 X.K H c zs->c≠z:=fun h=>m5 (K:=X.K) I h hz (by intro q;injection q with q;exact absurd q (by decide));have nT:∀{c:Addr} {zs:List V},a6 X.K H c zs->c≠TO:=fun h=>m5 (K:=X.K) I h hTO (by intro q;injection q with q;exact absurd q (by decide));have n1:∀{c:Addr} {zs:List V},a6 X.K H c zs->c≠i1:=fun h=>m5 (K:=X.K) I h e1 (by rw[c1];intro q;injection q with q;exact absurd q (by decide));have n2:∀{c:Addr} {zs:List V},a6 X.K H c zs->c≠i2:=fun h=>m5 (K:=X.K) I h e2 (by rw[c2];intro q;injection q with q;exact absurd q (by decide));exact⟨O.TIz,O.TOz,O.i1z,O.i2z,O.TITO,O.TIi1,O.TIi2,O.TOi1,O.TOi2,O.i12,nz ha,nT ha,n1 ha,n2 ha,nz hb,nT hb,n1 hb,n2 hb⟩
theorem S5 {P:Program}{w:World}{K:Frag}{es:List Expr}{k:Nat}{tp:Pos}{z TI TO i1 i2:Addr}(a b:Addr)(O:Ni z TI TO i1 i2) :
  Turn P w K (.Tuple es k tp) (Itz K a b) [z,TI,TO,i1,i2] z (Xx z TI TO i1 i2 a b) where
 mem:=by simp
 obj:=fun i h st c hc=>by
  obtain⟨hz,hTI,⟨x,y,hTO⟩,⟨o1,e1,_,d1⟩,⟨o2,e2,_,d2⟩⟩:=st;have hc':c=z\/c=TI\/c=TO\/c=i1\/c=i2:=by simpa using hc
  rcases hc' with rfl|rfl|rfl|rfl|rfl
  ·exact⟨_,hz,fun v q=>by
    have q':Data.fields _=Data.cell v:=q;cases q'⟩
  ·exact⟨_,hTI,fun v q=>by
    have q':Data.seq _ _=Data.cell v:=q;cases q'⟩
  ·exact⟨_,hTO,fun v q=>by
    have q':Data.seq _ _=Data.cell v:=q;cases q'⟩
  ·exact⟨o1,e1,fun v q=>by rw[d1]at q;cases q⟩
  ·exact⟨o2,e2,fun v q=>by rw[d2]at q;cases q⟩
 keep:=fun i h h' st kp=>by
  obtain⟨hz,hTI,⟨x,y,hTO⟩,h1,h2⟩:=st;exact⟨kp z (by simp) _ hz,kp TI (by simp) _ hTI,⟨x,y,kp TO (by simp) _ hTO⟩,h1.at fun o q=>kp i1 (by simp) o q,h2.at fun o q=>kp i2 (by simp) o q⟩
 item:=by
  intro X hP hw hK hc i pins s σ H E I hf st hg;subst hP hw hK;obtain⟨xs,ys,x,y,hq,hq2,hx,hy⟩:=hg;have D:=G5 I O st hq hq2;obtain⟨its,rv,p,_⟩:=I.list hq;obtain⟨its2,rv2,p2,_⟩:=I.list hq2;obtain⟨u,hu,ru⟩:=rv.get hx;obtain⟨u2,hu2,ru2⟩:=rv2.get hy;have h1:i<its.length:=(List.getElem?_eq_some_iff.mp hu).1;have h2:i<its2.length:=(List.getElem?_eq_some_iff.mp hu2).1;have W:=WalksT.zip2 (prog:=X.prog) (w:=X.w) (I.ok.hd hc) z TI TO i1 i2 a b D its.toArray its2.toArray;obtain⟨hz,hTI,hTO,g1,g2⟩:=st;refine W.item i s _ _ (by simp;omega) ⟨hz,hTI,hTO,g1,g2,p.isList,p2.isList⟩ fun T vals h' tk hv hT ht mid kk=>?_;refine⟨_,rfl,?_⟩;obtain⟨x',y',hx',hy',rfl⟩:=hv;have ex:x'=u:=by
   have:its[i]? = some x':=by simpa using hx'
   rw[hu]at this;exact(Option.some.inj this).symm
  have ey:y'=u2:=by
   have:its2[i]? = some y':=by simpa using hy'
   rw[hu2]at this;exact(Option.some.inj this).symm
  subst ex ey;have sub:∀ c∈[z,TO,i1,i2],c∈[z,TI,TO,i1,i2]:=fun c hc=>by
   have:c=z\/c=TO\/c=i1\/c=i2:=by simpa using hc
   simp;rcases this with r|r|r|r <;> simp[r]
  have fw:∀ c∈[z,TO,i1,i2],qE X pins H c:=fun c hc=>hf c (sub c hc);have I1:Inv X pins σ (upd H T (.tup [x,y])) { s with heap:=h',toks:=tk }:=by
   refine I.LB (vals:=[x',y']) fw hT (by simpa using ht) (.cons ru (.cons ru2 .nil)) (by show 2<=sizeLine;decide) kk fun c hc=>?_;obtain⟨m1,_,⟨_,_,m2⟩,⟨o1,m3,_⟩,⟨o2,m4,_⟩,_⟩:=mid;have:c=z\/c=TO\/c=i1\/c=i2:=by simpa using hc
   rcases this with rfl|rfl|rfl|rfl
   ·exact⟨_,m1⟩
   ·exact⟨_,m2⟩
   ·exact⟨_,m3⟩
   ·exact⟨_,m4⟩
  have VI:H T=none:=I.hok.fresh hT;have neT:∀ c∈[z,TI,TO,i1,i2],c≠T:=fun c hc q=>by
   subst q;have:c=TI\/c∈[z,TO,i1,i2]:=by
    have:c=z\/c=TI\/c=TO\/c=i1\/c=i2:=by simpa using hc
    simp;rcases this with r|r|r|r|r <;> simp[r]
   rcases this with r|r
   ·subst r;exact absurd (Nat.lt_of_lt_of_le (Heap.lt_size hTI) hT) (Nat.lt_irrefl _)
   ·exact W.apart i c _ mid r
  refine W.go es k tp i T _ _ _ mid fun h'' st'' adJ=>?_;have hf2:∀ c∈[z,TI,TO,i1,i2],qE X pins (upd H T (.tup [x,y])) c:=fun c hc=>by
   obtain⟨f0,fr⟩:=hf c hc;exact⟨by rw[ar (neT c hc)];exact f0,fr⟩
  obtain⟨s1,s2,s3,s4,s5,_⟩:=st'';refine⟨.ref T,upd H T (.tup [x,y]),I1.m6 (tk:=tk) (fun c hc=>hf2 c (sub c hc)) adJ,rfl,⟨x,y,T,rfl,VI,G4 I hq hx,G4 I hq2 hy,rfl⟩,⟨s1,s2,s3,s4,s5⟩,fun c hc=>(hf2 c hc).1⟩
 done:=by
  intro X hP hw hK hc i pins s σ H E I hf st hg;subst hP hw hK;obtain⟨xs,ys,hq,hq2,hx⟩:=hg;have D:=G5 I O st hq hq2;obtain⟨its,rv,p,_⟩:=I.list hq;obtain⟨its2,rv2,p2,_⟩:=I.list hq2;have W:=WalksT.zip2 (prog:=X.prog) (w:=X.w) (I.ok.hd hc) z TI TO i1 i2 a b D its.toArray its2.toArray;obtain⟨hz,hTI,hTO,g1,g2⟩:=st;have e:min its.toArray.size its2.toArray.size=i:=by
   rw[size_toArray,size_toArray,<-rv.length,<-rv2.length];exact hx
  refine W.done s _ _ (by rw[e];exact⟨hz,hTI,hTO,g1,g2,p.isList,p2.isList⟩) fun h' tk kk=>?_;refine⟨rfl,I.m6 (tk:=tk) (wr:=[z,TO,i1,i2]) (fun c hc=>hf c ?_) kk⟩;have:c=z\/c=TO\/c=i1\/c=i2:=by simpa using hc
  simp;rcases this with r|r|r|r <;> simp[r]
 self:=fun _ i s _ _ st h=>by
  obtain⟨hz,_⟩:=st;exact wpAny_pyIter_zip hz h
inductive Xy (K:Frag)(R:(It->Hp->Prop))(x:V)(y:V)(H2:Hp):Prop
 |mk (a:_) (b:_) (qH:x=.ref a) (qI:y=.ref b) (AY:(∃ xs,a6 K H2 a xs)/\(∃ ys,a6 K H2 b ys)/\R (Itz K a b) H2):Xy K R x y H2
def adK (K:Frag)(tl tm:TE):TI:=fun σ H R=>tl σ H fun x H1=>tm σ H1 fun y H2=>Xy K R x y H2
theorem YO {l m:Expr}{tl tm:TE}(hl:PE X l tl)(hm:PE X m tm)(hs:starEach [l,m] X.env=[(false,eval l X.env),(false,eval m X.env)])(hs2:starEach [m] X.env=[(false,eval m X.env)])(pos:Pos)(pins:List (Addr×Obj))(s:Shared)(σ:St)(H:Hp){Q:V->V->Hp->Prop}(I:Inv X pins σ H s)(h:tl σ H fun x H1=>tm σ H1 fun y H2=>Q x y H2) :
  wpAny (model X.prog X.w) X.A (spliced (backTo pos (starEach [l,m] X.env))) (fun us s1=>∃ x y u v H1,Inv X pins σ H1 s1/\us=[u,v]/\RelV x u/\RelV y v/\Q x y H1) X.xe s:=by
 have he:PE X l (fun σ' H' Q'=>σ'=σ/\H'=H/\∀ x H1,(tm σ H1 fun y H2=>Q x y H2)->Q' x H1):=by
  intro pins s σ' H' Q' I' hw;obtain⟨rfl,rfl,k⟩:=hw;exact cV (hl pins s σ' H' _ I' h) fun u s1 ⟨v,H1,I1,r,q⟩=>⟨v,H1,I1,r,k v H1 q⟩
 have hf:PE X m (fun σ' H' Q'=>∃ x,σ'=σ/\(tm σ H' fun y H2=>Q x y H2)/\∀ y H2,Q x y H2->Q' y H2):=by
  intro pins s σ' H' Q' I' hw;obtain⟨x,rfl,hh,k⟩:=hw;exact cV (hm pins s σ' H' _ I' hh) fun u s1 ⟨v,H1,I1,r,q⟩=>⟨v,H1,I1,r,k v H1 q⟩
 have main:=aa he (aa hf ao hs2) (by rw[hs,hs2]) pos pins s σ H (fun vs H2=>∃ x y,vs=[x,y]/\Q x y H2) I ⟨rfl,rfl,fun x H1 q=>⟨x,rfl,q,fun y H2 q2=>⟨x,y,rfl,q2⟩⟩⟩;refine cV main fun us s1 ⟨vs,H1,I1,r,x,y,e,q⟩=>?_;subst e;obtain⟨u,v,rfl,r1,r2⟩:=r.two;exact⟨x,y,u,v,H1,I1,rfl,r1,r2,q⟩
theorem YQ {l m:Expr}{tl tm:TE}{p pos tp:Pos}{es:List Expr}{k:Nat}(hg:Gl X "zip")(hz:X.mg "zip"=none)(hl:PE X l tl)(hm:PE X m tm)(hs:starEach [l,m] X.env=[(false,eval l X.env),(false,eval m X.env)]:=by rfl)(hs2:starEach [m] X.env=[(false,eval m X.env)]:=by rfl) :
  PI X (.Tuple es k tp) (.Call (.Name "zip" p) [l,m] [] pos) (adK X.K tl tm):=by
 intro pins s σ H R I h;refine Call_ (vS I hg hz YM (PyProof.Rows.callWith_type1 (cV (YO hl hm hs hs2 pos pins s σ H I h) fun us s1 ⟨x,y,u,v,H1,I1,e1,r1,r2,q1⟩=>?_) (by rw[hs,hs2]) (by rw[hs2];rfl)));obtain⟨a,b,rfl,rfl,⟨xs,hq⟩,⟨ys,hq2⟩,q⟩:=q1;subst e1;cases r1;cases r2;obtain⟨its,rv,pl,_⟩:=I1.list hq;obtain⟨its2,rv2,pl2,_⟩:=I1.list hq2;refine call_zip_2 pl.isList pl2.isList fun h' z1 z2 z3 z4 z5 hsz kk=>?_;refine wpAny_pyIter_zip z1 ?_;have O:Ni (s1.heap.objs.size+4) (s1.heap.objs.size+2) (s1.heap.objs.size+3) s1.heap.objs.size (s1.heap.objs.size+1):=by
  constructor <;> exact(by intro q;have q':(_:Nat)=_:=q;omega)
 refine⟨_,[s1.heap.objs.size+4,s1.heap.objs.size+2,s1.heap.objs.size+3,s1.heap.objs.size,s1.heap.objs.size+1],_,_,H1,rfl,I1.kept (t':=s1.toks) kk,S5 a b O,⟨z1,z2,⟨_,_,z3⟩,z4,z5⟩,fun c hc=>?_,q⟩;have hc':s1.heap.objs.size<=c:=by
  have:c=s1.heap.objs.size+4\/c=s1.heap.objs.size+2\/c=s1.heap.objs.size+3\/c=s1.heap.objs.size\/c=s1.heap.objs.size+1:=by simpa using hc
  rcases this with r|r|r|r|r <;> (rw[r];first|exact Nat.le_add_right _ _|exact Nat.le_refl _)
 exact I1.QK hc' (I1.hok.fresh hc')
end
end L2
set_option maxHeartbeats 4000000
namespace L2
open PySem
abbrev PY (J:It)(g:TG)(tc:TT)(te:TE)(D:Addr)(R:Hp->Prop)(σ:St)(H:Hp):Prop:=∃ W:Nat->Nat->List V->St->Hp->Prop,(∃ m,W 0 m [] σ H)/\∀ i m ys σ H,W i m ys σ H ->
  (J.stop i H/\R H)\/(J.go i H/\∀ x H',J.Vi i H x H'->g x σ H' fun σ2 H2=>tc σ2 H2 fun ok H3 =>
   if ok=true then te σ2 H3 fun y H4=>H4 D=some (.lst ys)/\ys.length<sizeLine/\∃ m',m'<m/\W (i+1) m' (ys++[y]) σ2 (upd H4 D (.lst (ys++[y])))
   else ∃ m',m'<m/\W (i+1) m' ys σ2 H3)
abbrev G6 (g:TG)(tc:TT)(te:TE)(D:Addr)(ys:List V)(x:V)(σ:St)(H:Hp)(N:List V->St->Hp->Prop):Prop :=
 g x σ H fun σ2 H2=>tc σ2 H2 fun ok H3=>if ok=true then te σ2 H3 fun y H4=>H4 D=some (.lst ys)/\ys.length<sizeLine/\N (ys++[y]) σ2 (upd H4 D (.lst (ys++[y]))) else N ys σ2 H3
theorem Nj {lo:Int}{n:Nat}{g:TG}{tc:TT}{te:TE}{D:Addr}{R:Hp->Prop}{σ:St}{H:Hp}(Pv:Nat->List V->St->Hp->Prop)(h0:Pv 0 [] σ H)
  (hs:∀ i ys σ H,i<n->Pv i ys σ H->∀ N:List V->St->Hp->Prop,(∀ ys σ H,Pv (i+1) ys σ H->N ys σ H)->G6 g tc te D ys (.int (lo+i)) σ H N) (hd:∀ ys σ H,Pv n ys σ H->R H):PY (Xj lo n) g tc te D R σ H:=by
 refine⟨fun i m ys σ H=>m=n-i/\i<=n/\Pv i ys σ H,⟨n,by simp,Nat.zero_le _,h0⟩,?_⟩;rintro i m ys σ H ⟨rfl,hi,p⟩
 by_cases hlt:i<n
 ·refine .inr ⟨hlt,fun x H' y=>?_⟩;obtain⟨e,y⟩:=y;subst e y;exact hs i ys σ _ hlt p (fun ys' σ' H'=>∃ m',m'<n-i/\m'=n-(i+1)/\i+1<=n/\Pv (i+1) ys' σ' H') fun ys' σ' H' q=>⟨n-(i+1),by omega,rfl,hlt,q⟩
 ·have e:i=n:=by omega
  subst e;exact .inl ⟨Nat.le_refl _,hd ys σ H p⟩
theorem QW {K:Frag}{a:Addr}{xs:List V}{g:TG}{tc:TT}{te:TE}{D:Addr}{R:Hp->Prop}{σ:St}{H:Hp}(Pv:Nat->List V->St->Hp->Prop)(h0:Pv 0 [] σ H)(hl:∀ i ys σ H,Pv i ys σ H->a6 K H a xs)
  (hs:∀ i ys x σ H,xs[i]? = some x->Pv i ys σ H->∀ N:List V->St->Hp->Prop,(∀ ys σ H,Pv (i+1) ys σ H->N ys σ H)->G6 g tc te D ys x σ H N) (hd:∀ ys σ H,Pv xs.length ys σ H->R H):PY (ZL K a) g tc te D R σ H:=by
 refine⟨fun i m ys σ H=>m=xs.length-i/\i<=xs.length/\Pv i ys σ H,⟨xs.length,by simp,Nat.zero_le _,h0⟩,?_⟩;rintro i m ys σ H ⟨rfl,hi,p⟩;have q:=hl i ys σ H p
 by_cases hlt:i<xs.length
 ·refine .inr ⟨⟨xs,xs[i],q,by simp[hlt]⟩,fun x H' y=>?_⟩;obtain⟨e,y⟩:=y;subst e;exact hs i ys x σ _ (y xs q) p (fun ys' σ' H'=>∃ m',m'<xs.length-i/\m'=xs.length-(i+1)/\i+1<=xs.length/\Pv (i+1) ys' σ' H') fun ys' σ' H' q=>⟨xs.length-(i+1),by omega,rfl,hlt,q⟩
 ·have e:i=xs.length:=by omega
  subst e;exact .inl ⟨⟨xs,q,Nat.le_refl _⟩,hd ys σ H p⟩
theorem VM {K:Frag}{a b:Addr}{xs ys:List V}{g:TG}{tb:TS}{D:Ends}{σ:St}{H:Hp}(Pv:Nat->St->Hp->Prop)(he:xs.length=ys.length)(h0:Pv 0 σ H)(hl:∀ i σ H,Pv i σ H->a6 K H a xs/\a6 K H b ys)
  (hs:∀ i x y t σ H,xs[i]? = some x->ys[i]? = some y->Pv i σ H->H t=none->g (.ref t) σ (upd H t (.tup [x,y])) fun σ2 H2=>tb { D with nx:=Pv (i+1),ct:=Pv (i+1),bk:=D.nx } σ2 H2) (hd:∀ σ H,Pv xs.length σ H->D.nx σ H) :
  ∃ W:Nat->Nat->St->Hp->Prop,(∃ m,W 0 m σ H)/\∀ i m σ H,W i m σ H ->
   ((Itz K a b).stop i H/\D.nx σ H)\/((Itz K a b).go i H/\∃ N:St->Hp->Prop,(∀ σ' H',N σ' H'->∃ m',m'<m/\W (i+1) m' σ' H')/\∀ x H',(Itz K a b).Vi i H x H'->g x σ H' fun σ2 H2=>tb { D with nx:=N,ct:=N,bk:=D.nx } σ2 H2):=by
 refine⟨fun i m σ H=>m=xs.length-i/\i<=xs.length/\Pv i σ H,⟨xs.length,by simp,Nat.zero_le _,h0⟩,?_⟩;rintro i m σ H ⟨rfl,hi,p⟩;obtain⟨q,q2⟩:=hl i σ H p
 by_cases hlt:i<xs.length
 ·have hlt2:i<ys.length:=by omega
  refine .inr ⟨⟨xs,ys,xs[i],ys[i],q,q2,by simp[hlt],by simp[hlt2]⟩,Pv (i+1),fun σ' H' p'=>⟨xs.length-(i+1),by omega,rfl,hlt,p'⟩,fun x H' y=>?_⟩;obtain⟨x0,y0,t,rfl,hn,hx,hy,rfl⟩:=y;exact hs i x0 y0 t σ H (hx xs q) (hy ys q2) p hn
 ·have e:i=xs.length:=by omega
  subst e;exact .inl ⟨⟨xs,ys,q,q2,by omega⟩,hd σ H p⟩
end L2
namespace L2
open PySem
theorem qW {j:Nat}{te:TE}{D:Addr}{ys:List V}{x:V}{σ:St}{H:Hp}{N:List V->St->Hp->Prop}
  (h:te (σ.set j (some x)) H fun y H4=>H4 D=some (.lst ys)/\ys.length<sizeLine/\N (ys++[y]) (σ.set j (some x)) (upd H4 D (.lst (ys++[y])))):G6 (Ls j) YI te D ys x σ H N:=by
 unfold G6 Ls YI;exact(if_pos (rfl:true=true)).mpr h
end L2
set_option maxHeartbeats 4000000
namespace L2
open PySem PySem.Spec PyProof.Rows
open Sem (wp)
section
variable {prog:Program} {w:World} {A:Around} {E:Value->Shared->Prop} {s:Shared}
end
end L2
set_option maxHeartbeats 4000000
namespace L2
open PySem PySem.Spec PyProof.Rows
section
variable {X:Cx} {pins:List (Addr×Obj)} {σ:St} {H:Hp} {s:Shared}
end
end L2
set_option maxHeartbeats 4000000
namespace L2
open PySem PySem.Spec PyProof.Rows
structure Ie (K:Frag)(x qual:Str)(st:Stmt)(f:Addr)(fd:FuncData)(dV:Value):Prop where
 ex:∃(oc:Value)(od:Option Addr)(kV doc pm:Value)(an:Option Addr)(cdv ct:Value)(osl:Array (Option Value)),
  fd=fnOf x qual (ak st) (aj st) (ae st) dV kV doc pm an cdv ct/\K.lookup f=some ⟨oc,od,.func fd,osl⟩/\codeIn K cdv qual=true
 kp:keepIn K (.ref f)=true
section
variable {P:Program} {w:World} {K:Frag} {mg:Str->Option Value} {base:Heap}
theorem Ie.ok {x qual:Str}{st:Stmt}{f:Addr}{fd:FuncData}{dV:Value}{N ps:List Str}{k:Nat}{sp:Sp}(F:Ie K x qual st f fd dV)(S:aG N ps (ae st))(len:∀ vs H Q E,sp vs H Q E->vs.length=ps.length)
  (hbody:∀(cdv:Value)(A:Around)(outer:List Env)(s:Shared)(H:Hp)(vs:List V)(Q:VK)(E:XK),kU k (A.deeper (envOfC qual (ae st) s.heap.objs.size f cdv))->sp vs H Q E ->
   ∃ t,Lp (Lu jG P w K mg base N qual (ae st) f cdv A outer s H E).Xh (aj st) t/\t { nx:=fun _ H'=>Q .non H',rt:=Q } (start N vs) H):cA P w K mg base jG (k+1) f fd ps sp:=by
 obtain⟨oc,od,kV,doc,pm,an,cdv,ct,osl,rfl,lk,hcd⟩:=F.ex;refine SK lk hcd S len fun A outer s H vs Q E hr hsp=>?_;obtain⟨t,h,q⟩:=hbody cdv A outer s H vs Q E hr hsp;exact⟨t,h.Xh,q⟩
theorem Ie.binds {x qual:Str}{st:Stmt}{f:Addr}{fd:FuncData}{T:Addr}{o:Obj}{items:Array Value}{n:Nat}{ps:List Str}{ds:List Value}(F:Ie K x qual st f fd (.ref T))(lk:K.lookup T=some o)(hs:o.data=.seq items n)
  (h:∀(kV doc pm:Value)(an:Option Addr)(cdv ct:Value)(us:List Value),(us++ds).length=ps.length->∃ k,bindArgs (fnOf x qual (ak st) (aj st) (ae st) (.ref T) kV doc pm an cdv ct) ⟨us,[]⟩=seqItems? (.ref T) >>= k/\k (some items)=pure (ps.zip (us++ds))):Binds K fd ps ds:=by
 obtain⟨oc,od,kV,doc,pm,an,cdv,ct,osl,rfl,lkf,hcd⟩:=F.ex;intro s us KI hl;obtain⟨k,h1,h2⟩:=h kV doc pm an cdv ct us hl;exact BindsTo.of_defaults rfl (KI _ _ lk) hs h1 h2
theorem PZ {x qual:Str}{st:Stmt}{f:Addr}{oc:Value}{od an:Option Addr}{osl:Array (Option Value)}{dV kV doc pm cdv ct:Value}(l:K.lookup f=some ⟨oc,od,.func (fnOf x qual (ak st) (aj st) (ae st) dV kV doc pm an cdv ct),osl⟩)
  (c:codeIn K cdv qual=true) (k:keepIn K (.ref f)=true):Ie K x qual st f (fnOf x qual (ak st) (aj st) (ae st) dV kV doc pm an cdv ct) dV:=⟨⟨oc,od,kV,doc,pm,an,cdv,ct,osl,rfl,l,c⟩,k⟩
end
inductive Nk (w:World):List DictEntry->List (Str×V)->Prop
 |nil:Nk w [] []
 |cons {x:Str} {t:Tok} {u:Value} {v:V} {es:List DictEntry} {kvs:List (Str×V)}:RelV v u->Nk w es kvs->Nk w (⟨PyData.keyHash w.params x,.str x t,u⟩::es) ((x,v)::kvs)
structure KD (K:Frag)(w:World)(a:Addr)(kvs:List (Str×V)):Prop where
 sys:(a==sysModules)=false
 ok:∃ es n,K.lookup a=some ⟨.type "dict",none,.dict es n,#[]⟩/\Nk w es.toList kvs/\(kvs.map (·.1)).Nodup
theorem Nk.vs (P:Program){w:World}:∀{es:List DictEntry} {kvs:List (Str×V)},Nk w es kvs->∃ vs:List (Key×Value),Pairs (a5 P w) es vs/\vs.map (·.1)=kvs.map (fun p=>(Sum.inr p.1:Key)) /\
  (∀ e∈es,∃ k,(a5 P w).is k e.key=true/\e.hash=(a5 P w).hash k)/\∀ x,oz (kvs.lookup x) (valueAt vs (Sum.inr x))
 |_,_,.nil=>⟨[],.nil,rfl,fun e h=>by simp at h,fun x=>True.intro⟩
 |_,_,.cons (x:=x) (t:=t) (u:=u) (v:=v) r q=>by
  obtain⟨vs,h1,h2,h3,h4⟩:=Nk.vs P q;refine⟨(Sum.inr x,u)::vs,.cons (je P w x t) rfl h1,by rw[map_cons,map_cons,h2],fun e he=>?_,fun y=>?_⟩
  ·rcases List.mem_cons.mp he with rfl|he
   ·exact⟨Sum.inr x,je P w x t,rfl⟩
   ·exact h3 e he
  ·by_cases hy:y=x
   ·subst hy;unfold valueAt;simp only [List.lookup_cons,List.find?_cons];simp;exact r
   ·unfold valueAt;have h5:=h4 y;unfold valueAt at h5;have e1:(y==x)=false:=by simpa using hy
    have e2:decide ((Sum.inr x:Key)=Sum.inr y)=false:=decide_eq_false fun e=>hy (Sum.inr.inj e).symm;simp only [List.lookup_cons,e1,List.find?_cons,e2];exact h5
theorem G7:∀{l:List Str},l.Nodup->(l.map (fun p=>(Sum.inr p:Key))).Nodup
 |[],_=>.nil
 |x::l,h=>by
  rw[map_cons,List.nodup_cons];obtain⟨h1,h2⟩:=List.nodup_cons.mp h;refine⟨fun z=>?_,G7 h2⟩;obtain⟨y,hy,e⟩:=mem_map.mp z;cases e;exact h1 hy
theorem KD.dict (P:Program){K:Frag}{w:World}{a:Addr}{kvs:List (Str×V)}{h:Heap}(d:KD K w a kvs)(hi:K.In h):∃ vs,h.DictOf (a5 P w) a vs/\∀ x,oz (kvs.lookup x) (valueAt vs (Sum.inr x)):=by
 obtain⟨es,n,lk,ok,nd⟩:=d.ok;obtain⟨vs,h1,h2,h3,h4⟩:=ok.vs P;refine⟨vs,⟨_,es,n,hi _ _ lk,⟨rfl,rfl,rfl⟩,rfl,fun e he=>h3 e (by simpa using he),h1,?_⟩,h4⟩;rw[h2];have:=G7 nd;rw[List.map_map]at this;exact this
theorem oz.aay {o:Option V}{u:Option Value}{d:V}{d':Value}(r:oz o u)(rd:RelV d d'):RelV (o.getD d) (u.getD d'):=by
 cases o with
 |none=>cases u with
  |none=>exact rd
  |some _=>exact False.elim r
 |some v=>cases u with
  |none=>exact False.elim r
  |some _=>exact r
section
variable {X:Cx}
theorem aaz:Vk X (fun x y H Q=>∃ a z kvs r,x=.ref a/\y=.str z/\KD X.K X.w a kvs/\kvs.lookup z=some r/\Q r H):=by
 intro value slice pins s σ H x y v u Q I rx ry h hs;obtain⟨a,z,kvs,r,rfl,rfl,d,l,q⟩:=h;cases rx;obtain⟨t,rfl⟩:=ry;obtain⟨vs,dd,rel⟩:=d.dict X.prog I.Fl;have hr:=rel z;rw[l]at hr;cases hv:valueAt vs (Sum.inr z) with
 |none=>rw[hv]at hr;exact False.elim hr
 |some rv =>
  rw[hv]at hr;exact subscriptTail_builtinR (x:=rv) dd.typeIs PySem.F.slot_dict_getitem.lookup
   (wpAny_getItem_of (knd:=a5 X.prog X.w) (k:=Sum.inr z) (je _ _ z t) dd.mapOf hv ⟨rfl,⟨r,H,I.tok _,hr,q⟩⟩) hs
end
end L2
set_option maxHeartbeats 4000000
namespace L2
open PySem PySem.Spec PyProof.Rows
def aaA (t:TE):TE:=fun σ H Q=>∃ R:V->Hp->Prop,t σ H R/\∀ v H',R v H'->Q v H'
def aaB (t:TT):TT:=fun σ H Q=>∃ R:Bool->Hp->Prop,t σ H R/\∀ v H',R v H'->Q v H'
def aaC (t:TS):TS:=fun D σ H=>∃ R:St->Hp->Prop,t { D with nx:=R } σ H/\∀ σ' H',R σ' H'->D.nx σ' H'
section
variable {X:Cx}
theorem cB {e:Expr}{t:TE}(h:PE X e t):PE X e (aaA t):=by
 intro pins s σ H Q I ⟨R,hR,hQ⟩;exact cV (h pins s σ H R I hR) fun u s1 ⟨v,H1,I1,r,q⟩=>⟨v,H1,I1,r,hQ v H1 q⟩
theorem cj {e:Expr}{t:TT}(h:PT X e t):PT X e (aaB t):=by
 intro pins s σ H Q I ⟨R,hR,hQ⟩;exact cV (h pins s σ H R I hR) fun u s1 ⟨H1,I1,q⟩=>⟨H1,I1,hQ u H1 q⟩
theorem lz {st:Stmt}{t:TS}(h:PS X st t):PS X st (aaC t):=by
 intro pins s σ H D I ⟨R,hR,hQ⟩;refine cV (h pins s σ H _ I hR) fun f s1 q=>?_;cases f with
 |next=>exact let ⟨σ',H',I',q'⟩:=q;⟨σ',H',I',hQ _ _ q'⟩
 |brk=>exact q
 |cont=>exact q
 |ret u=>exact q
end
theorem lA {t:TE}{σ:St}{H:Hp}{Q:VK}(v:V)(h:t σ H fun x H1=>x=v/\H1=H)(q:Q v H):∃ R:V->Hp->Prop,t σ H R/\∀ v H',R v H'->Q v H':=⟨_,h,by rintro _ _ ⟨rfl,rfl⟩;exact q⟩
theorem lB {t:TT}{σ:St}{H:Hp}{Q:Bool->Hp->Prop}(b:Bool)(h:t σ H fun x H1=>x=b/\H1=H)(q:Q b H):∃ R:Bool->Hp->Prop,t σ H R/\∀ v H',R v H'->Q v H':=⟨_,h,by rintro _ _ ⟨rfl,rfl⟩;exact q⟩
theorem Nl {t:TS}{σ:St}{H:Hp}{D:Ends}(σ':St)(H':Hp)(h:t { D with nx:=fun σ1 H1=>σ1=σ'/\H1=H' } σ H)(q:D.nx σ' H'):∃ R:St->Hp->Prop,t { D with nx:=R } σ H/\∀ σ' H',R σ' H'->D.nx σ' H' :=
 ⟨_,h,by rintro _ _ ⟨rfl,rfl⟩;exact q⟩
theorem jf {x v:V}{H:Hp}(e:x=v):x=v/\H=H:=⟨e,rfl⟩
theorem eU {x v:Bool}{H:Hp}(e:x=v):x=v/\H=H:=⟨e,rfl⟩
end L2
set_option maxHeartbeats 4000000
namespace L2
open PySem PySem.Spec PyProof.Rows
abbrev Cx.names (X:Cx)(N:List Str):Cx:={ X with N:=N }
section
variable {X:Cx} {pins:List (Addr×Obj)} {σ:St} {H:Hp} {s:Shared}
end
end L2
set_option maxHeartbeats 4000000
namespace L2
open PySem PySem.Spec PyProof.Rows
section
variable {X:Cx} {tg iter elt:Expr} {ifs:List Expr} {scope:Scope} {pos:Pos} {cn:List Str} {wi:TI} {g:Bk->TG} {tc:Bk->TT} {te:Bk->TE}
theorem Nm {i:Nat}{x:Str}{pos' spos:Pos}(hN:X.N.Nodup)(hix:X.N[i]? = some x)(hx:X.env.scope.names.lookup x=some .local)(hcalm:X.calm=true)(F:gi X.env.scope X.N scope)(hi:PI X tg iter wi)
  (hg:∀ b,PG (bV X cn scope b) tg (g b)) (ht:∀ b,PF (bV X cn scope b) ifs (tc b)) (he:∀ b,PE (bV X cn scope b) elt (te b))
  (hsw:swapsWith (.ListComp elt [⟨tg,iter,ifs,0⟩] scope pos) (some (.Name x pos')) spos.line X.env=pure true:=by rfl)
  (hs:∀ x,foldedSetIterable iter X.env x=pure x:=by intro _;rfl):PS X (.Assign [.Name x pos'] (.ListComp elt [⟨tg,iter,ifs,0⟩] scope pos) spos) (Yo (SW cn.length wi g tc te) (Ls i)):=by
 intro pins s σ H D I h;rw[exec_Assign_Name_used _ _ _ _ hsw];refine wpAny_bind (wpAny_standAt (wpAny_bind ?_));rw[arm_evalThenUse_ListComp];refine wpAny_bind ?_;have hcl:closureFor scope X.env=pure (fb X.env scope.names []):=PR fun p hp e=>I.ok.has p.1 (F.free p hp e);refine wpAny_comprehension_free (use:=some (assign (.Name x pos') X.env)) rfl hs hcl F.kind F.loc (cV (hi pins s σ H _ I h) fun xv s₁ h₁=>cV h₁ fun itv s₂ h₂=>?_);obtain⟨it,fp,tn,J,H2,rfl,I2,T,st,f2,R⟩:=h₂;refine LA (TH:=fun _=>True) (QQ:=fun D' H'=>D.nx (σ.set i (some (.ref D'))) H') (RR:=fun acc C=>compPost (model X.prog X.w) X.A X.xe (some (assign (.Name x pos') X.env)) _ acc C) hcalm F (fun b _=>hg b) (fun b _=>ht b) (fun b _=>he b) (fun _ _=>trivial) I2 T st f2 R ?_ ?_
 ·intro C D' σ' H' s' hC I' q;obtain⟨m,hm,_⟩:=I'.loc;have hCn:H' C=none:=I'.free;have fC:qE X pins H' C:=I2.QK hC hCn;have I3:Inv X pins σ H' s':=I2.PV f2 hC I' ⟨rfl,fun _ _=>rfl⟩;show wpAny (model X.prog X.w) X.A (assign (.Name x pos') X.env (.ref D')) _ X.xe s';refine wpAny_assign_Name (GR I3 hN hix (.inl hx) (v:=.ref D') rfl (fun s'' I4 ⟨a,sa,ha⟩=>?_) (.inr hx));have hne:C≠a:=by
   rcases ha with e|e
   ·rw[e];exact fC.2.1
   ·exact fun z=>fC.2.2.2.2.1 _ _ e z.symm
  obtain⟨o,es,ep,ho,r⟩:=hm;refine⟨m,⟨o,es,ep,(sa.2 C hne).trans ho,r⟩,fun h' sb=>?_⟩;refine wpAny_pure (wpAny_pure ⟨_,H',?_,q⟩);exact I4.m6 (tk:=s''.toks) (wr:=[C]) (fun b hb=>by
   have:b=C:=by simpa using hb
   rw[this];exact fC) fun b o hb e=>(sb.2 b (fun z=>hb (by simp[z]))).trans e
 ·intro C D' e s' z;exact z
end
end L2
set_option maxHeartbeats 4000000
namespace L2
open PySem PySem.Spec PyProof.Rows PySem.SeqAt
section
variable {X:Cx}
inductive Xz (K:Frag)(neg:Bool)(x:V)(y:V)(H:Hp)(Q:VK):Prop
 |mk (a:_) (c:_) (xs:_) (qH:x=.ref a) (qI:y=.ref c) (AY:a6 K H a xs) (MZ:a6 K H c []) (Vj:Q (.bl (if neg then !xs.isEmpty else xs.isEmpty)) H):Xz K neg x y H Q
def adN (K:Frag)(neg:Bool):R2:=fun x y H Q=>Xz K neg x y H Q
theorem YR {pins:List (Addr×Obj)}{σ:St}{H:Hp}{s:Shared}{a c:Addr}{xs:List V}(hu:X.A.units+64<cLine)(I:Inv X pins σ H s)(ha:a6 X.K H a xs)(hc:a6 X.K H c []):RcAt X.A s (.ref a) (.ref c) xs.isEmpty/\RcNeAt X.A s (.ref a) (.ref c) (!xs.isEmpty):=by
 obtain⟨its,r,p,_⟩:=I.list ha;obtain⟨its',r',p',_⟩:=I.list hc;have e1:=r.length;have e2:=r'.length;simp at e2;cases xs with
 |nil =>
  simp at e1;have z1:its=[]:=by simpa using e1.symm
  have z2:its'=[]:=by simpa using e2.symm
  subst z1 z2;constructor
  ·have:=RcAt.lists (A:=X.A) (e:=fun _=>true) p.isList p'.isList rfl (by omega) (fun j h1 _=>absurd h1 (by simp))
   simpa using this
  ·have:=RcNeAt.lists (A:=X.A) (e:=fun _=>true) p.isList p'.isList rfl (by omega) (fun j h1 _=>absurd h1 (by simp))
   simpa using this
 |cons x t =>
  have hne:(its.toArray.size != its'.toArray.size)=true:=by
   simp at e1;have z2:its'=[]:=by simpa using e2.symm
   subst z2;have:its.length≠0:=by omega
   simpa using this
  exact⟨RcAt.lists_lengths p.isList p'.isList hne (by omega),RcNeAt.lists_lengths p.isList p'.isList hne (by omega)⟩
theorem S8 (hu:X.A.units+64<cLine):qJ X (compareOp .Eq) (adN X.K false):=by
 intro pins s σ H x y v u Q I r1 r2 h;obtain⟨a,c,xs,rfl,rfl,ha,hc,q⟩:=h;cases r1;cases r2;exact(YR hu I ha hc).1 X.prog X.w X.xe _ ⟨.bl _,H,I,rfl,q⟩
end
end L2
set_option maxHeartbeats 4000000
namespace L2
open PySem PySem.Spec PyProof.Rows
end L2
set_option maxHeartbeats 4000000
namespace L2
open PySem PySem.Spec PyProof.Rows
abbrev XSt:=St->Value->Hp->Prop
section
variable {X:Cx} {pins:List (Addr×Obj)} {σ:St} {H H':Hp} {s s':Shared}
end
section
variable {P:Program} {w:World} {K:Frag} {mg:Str->Option Value} {base:Heap}
end
section
variable {X:Cx} {W:Value->Shared->Prop} {XS:XSt} {k:Nat} {f C:Addr} {fd:FuncData} {ps:List Str} {sp:Sp} {M0:List V} {ds:List Value} {x m:Str} {p pos apos:Pos} {e o:Expr} {es:List Expr} {ta:TE} {t:TA}
end
section
variable {X:Cx} {pins Su:List (Addr×Obj)} {σ:St} {H H':Hp} {s:Shared}
end
end L2
set_option maxHeartbeats 4000000
namespace L2
open PySem PySem.Spec PyProof.Rows
section
variable {prog:Program} {w:World} {A:Around} {E:Value->Shared->Prop} {h:Heap} {g:Array GenState} {d:Drawn} {t:Nat} {os:OsState} {a:Addr} {o:Obj} {vs:Array Value} {K:Frag}
 {nm q:Str} {C N:Addr} {bs bm:List Value} {hdct:Bool} {sn:List Str} {sub:List Value} {ab:Bool} {col:Option Bool} {dd:Option Addr} {k0 k1 k2 k3 k5:Option Value} {newId:String}
end
section
variable {X:Cx}
end
end L2
set_option maxHeartbeats 4000000
namespace L2
open PySem PySem.Spec PyProof.Rows
section
variable {P:Program} {w:World} {K:Frag} {mg:Str->Option Value} {base:Heap}
end
section
variable {X:Cx} {tg iter elt:Expr} {ifs:List Expr} {scope:Scope} {pos:Pos} {cn:List Str} {wi:TI} {g:Bk->TG} {tc:Bk->TT} {te:Bk->TE} {TH:Bk->Prop}
end
end L2
set_option maxHeartbeats 4000000
namespace L2
open PySem PySem.Spec PyProof.Rows
end L2
namespace L2
open PySem PySem.Spec PyProof.Rows
section
variable {X:Cx}
end
end L2
namespace L2
open PySem PySem.Spec PyProof.Rows
section
variable {κ:Type} [DecidableEq κ]
def vZ (kvs:List (κ×V))(k:κ):Option V:=(kvs.find? fun kv=>decide (kv.1=k)).map (·.2)
def putK (kvs:List (κ×V))(k:κ)(v:V):List (κ×V) :=
 if(kvs.any fun kv=>decide (kv.1=k))=true then kvs.map (fun kv=>if kv.1=k then(kv.1,v) else kv) else kvs++[(k,v)]
theorem tN {p:κ×V}{r:List (κ×V)}{k:κ}(e:p.1=k):vZ (p::r) k=some p.2:=by simp[vZ,List.find?_cons,e]
theorem tO {p:κ×V}{r:List (κ×V)}{k:κ}(e:¬ p.1=k):vZ (p::r) k=vZ r k:=by simp[vZ,List.find?_cons,e]
theorem tQ (k:κ):∀ kvs:List (κ×V),(kvs.any fun kv=>decide (kv.1=k))=(vZ kvs k).isSome
 |[]=>rfl
 |p::r=>by
  rw[List.any_cons]
  by_cases e:p.1=k
  ·simp only [tN e,decide_eq_true e,Bool.true_or,Option.isSome_some]
  ·rw[tO e,decide_eq_false e,Bool.false_or];exact tQ k r
theorem oX (kvs:List (κ×V))(k:κ)(v:V):(putK kvs k v).length<=kvs.length+1:=by
 unfold putK;split
 ·rw[length_map];omega
 ·rw[length_append,length_cons,List.length_nil];omega
theorem oz.v8 {o:Option V}{u:Option Value}(r:oz o u):o.isSome=u.isSome:=by
 cases o with
 |none=>cases u with
  |none=>rfl
  |some _=>exact(show False from r).elim
 |some _=>cases u with
  |none=>exact(show False from r).elim
  |some _=>rfl
theorem KV.val {kvs:List (κ×V)}{vs:List (κ×Value)}(r:KV kvs vs)(k:κ):oz (vZ kvs k) (valueAt vs k):=by
 unfold KV at r
 induction r with
 |nil=>exact True.intro
 | @cons p q ps qs h t ih =>
  obtain⟨h1,h2⟩:=h
  by_cases e:p.1=k
  ·have e':q.1=k:=h1.symm.trans e;have b:valueAt (q::qs) k=some q.2:=by simp[valueAt,List.find?_cons,e']
   rw[tN e,b];exact h2
  ·have e':¬ q.1=k:=fun z=>e (h1.trans z);have b:valueAt (q::qs) k=valueAt qs k:=by simp[valueAt,List.find?_cons,e']
   rw[tO e,b];exact ih
theorem KV.any {kvs:List (κ×V)}{vs:List (κ×Value)}(r:KV kvs vs)(k:κ):(kvs.any fun kv=>decide (kv.1=k))=vs.any fun kv=>decide (kv.1=k):=by
 unfold KV at r
 induction r with
 |nil=>rfl
 |cons h t ih=>rw[List.any_cons,List.any_cons,ih,h.1]
theorem KV.repl {kvs:List (κ×V)}{vs:List (κ×Value)}(r:KV kvs vs)(k:κ){y:V}{u:Value}(ry:RelV y u) :
  KV (kvs.map fun kv=>if kv.1=k then(kv.1,y) else kv) (vs.map fun kv=>if kv.1=k then(kv.1,u) else kv):=by
 unfold KV at r ⊢
 induction r with
 |nil=>exact .nil
 | @cons p q ps qs h t ih =>
  rw[map_cons,map_cons];refine .cons ?_ ih;obtain⟨h1,h2⟩:=h
  by_cases e:p.1=k
  ·rw[if_pos e,if_pos (h1.symm.trans e)];exact⟨h1,ry⟩
  ·rw[if_neg e,if_neg (fun z=>e (h1.trans z))];exact⟨h1,h2⟩
theorem KV.put {kvs:List (κ×V)}{vs:List (κ×Value)}(r:KV kvs vs)(k:κ){y:V}{u:Value}(ry:RelV y u):KV (putK kvs k y) (stored vs k u):=by
 unfold putK stored;rw[r.any k]
 by_cases e:(vs.any fun kv=>decide (kv.1=k))=true
 ·rw[if_pos e,if_pos e];exact r.repl k ry
 ·rw[if_neg e,if_neg e];exact Paired.snoc r ⟨rfl,ry⟩
theorem KV.keys {kvs:List (κ×V)}{vs:List (κ×Value)}(r:KV kvs vs):kvs.map (·.1)=vs.map (·.1):=by
 unfold KV at r
 induction r with
 |nil=>rfl
 |cons h t ih=>rw[map_cons,map_cons,ih,h.1]
theorem KV.length {kvs:List (κ×V)}{vs:List (κ×Value)}(r:KV kvs vs):kvs.length=vs.length:=Paired.length r
end
theorem LC {P:Program}{w:World}{k:Key}{u:Value}(r:RelV (kV k) u):(a5 P w).is k u=true:=by
 cases k with
 |inl i=>obtain⟨t,e⟩:=(show ∃ t,u=Value.int i t from r);subst e;exact yK P w i t
 |inr x=>obtain⟨t,e⟩:=(show ∃ t,u=Value.str x t from r);subst e;exact je P w x t
theorem G8 {P:Program}{w:World}:∀{ks:List Key} {us:List Value},Vals (ks.map kV) us->ItemsAre (a5 P w) ks us
 |[],_,r=>by rw[List.map_nil]at r;cases r;exact .nil
 |k::ks,_,r=>by
  rw[map_cons]at r;cases r with
  |cons h t=>exact .cons (LC h) (G8 t)
abbrev KT (H:Hp):List (List Key×V)->List (List Key×Addr×Value)->Prop:=Paired fun p q=>p.1=q.1/\H q.2.1=some (.tup (p.1.map kV))/\RelV p.2 q.2.2
theorem KT.val {H:Hp}{kvs:List (List Key×V)}{xs:List (List Key×Addr×Value)}(r:KT H kvs xs)(k:List Key):oz (vZ kvs k) ((atKey xs k).map (·.2)):=by
 induction r with
 |nil=>exact True.intro
 | @cons p q ps qs h t ih =>
  obtain⟨h1,_,h2⟩:=h
  by_cases e:p.1=k
  ·have e':q.1=k:=h1.symm.trans e;have b:atKey (q::qs) k=some q.2:=by simp[atKey,List.find?_cons,e']
   rw[tN e,b];exact h2
  ·have e':¬ q.1=k:=fun z=>e (h1.trans z);have b:atKey (q::qs) k=atKey qs k:=by simp[atKey,List.find?_cons,e']
   rw[tO e,b];exact ih
theorem KT.repl {H:Hp}{kvs:List (List Key×V)}{xs:List (List Key×Addr×Value)}(r:KT H kvs xs)(k:List Key){y:V}{u:Value}(ry:RelV y u) :
  KT H (kvs.map fun kv=>if kv.1=k then(kv.1,y) else kv) (xs.map (putAt k u)):=by
 induction r with
 |nil=>exact .nil
 | @cons p q ps qs h t ih =>
  rw[map_cons,map_cons];refine .cons ?_ ih;obtain⟨h1,h2,h3⟩:=h;unfold putAt
  by_cases e:p.1=k
  ·rw[if_pos e,if_pos (h1.symm.trans e)];exact⟨h1,h2,ry⟩
  ·rw[if_neg e,if_neg (fun z=>e (h1.trans z))];exact⟨h1,h2,h3⟩
theorem KT.put {H:Hp}{kvs:List (List Key×V)}{xs:List (List Key×Addr×Value)}(r:KT H kvs xs)(k:List Key){b:Addr}{y:V}{u:Value}(hb:H b=some (.tup (k.map kV)))(ry:RelV y u) :
  KT H (putK kvs k y) (storedH xs k b u):=by
 have e:(kvs.any fun kv=>decide (kv.1=k))=(atKey xs k).isSome:=by
  rw[tQ,(r.val k).v8,Option.isSome_map]
 unfold putK storedH;rw[e]
 by_cases q:(atKey xs k).isSome=true
 ·rw[if_pos q,if_pos q];exact r.repl k ry
 ·rw[if_neg q,if_neg q];exact Paired.snoc r ⟨rfl,hb,ry⟩
theorem KT.keeps {H H':Hp}{kvs:List (List Key×V)}{xs:List (List Key×Addr×Value)}(r:KT H kvs xs)(ht:∀ b ys,H b=some (.tup ys)->H' b=some (.tup ys)):KT H' kvs xs :=
 Paired.Yh r fun _ _ z=>⟨z.1,ht _ _ z.2.1,z.2.2⟩
section
variable {P:Program} {w:World} {H:Hp} {h:Heap} {a:Addr}
theorem XA {u:HO}(ok:qG P w H h)(e:Rd H a u):cG P w H h a u:=e.ok ok
theorem G9 {kvs:List (Key×V)}(ok:qG P w H h)(e:Rd H a (.dK kvs)):kvs.length<=sizeLine/\(a==sysModules)=false/\∃ vs,KV kvs vs/\h.DictOf (a5 P w) a vs :=
 show cG P w H h a (.dK kvs) from XA ok e
theorem S9 {kvs:List (Key×V)}(ok:qG P w H h)(e:H a=some (.dK kvs)):kvs.length<=sizeLine/\(a==sysModules)=false/\∃ vs,KV kvs vs/\h.DictOf (a5 P w) a vs:=G9 ok (.inl e)
theorem Ig {ks:List Key}(ok:qG P w H h)(e:H a=some (.tup (ks.map kV))):(tupleKind (a5 P w)).is h ks a:=by
 obtain⟨_,its,r,o,h1,h2,n,h3⟩:=(show cG P w H h a (.tup (ks.map kV)) from ok a _ e);exact⟨o,its.toArray,n,h1,h2,h3,by simpa using G8 r⟩
theorem P0 {kvs:List (List Key×V)}(ok:qG P w H h)(e:Rd H a (.dT kvs)):kvs.length<=sizeLine/\(a==sysModules)=false /\
  ∃ xs,KT H kvs xs/\h.DictOfH (tupleKind (a5 P w)) a xs:=by
 obtain⟨z,y,xs,r,o,es,ep,h1,h2,h3,h4,h5⟩:=(show cG P w H h a (.dT kvs) from XA ok e);refine⟨z,y,xs,r,o,es,ep,h1,h2,h3,h4,fun x hx=>?_,h5⟩;have all:∀{l:List (List Key×V)} {m:List (List Key×Addr×Value)},KT H l m->∀ x∈m,(tupleKind (a5 P w)).is h x.1 x.2.1:=by
  intro l m q
  induction q with
  |nil=>intro x hx;exact nomatch hx
  | @cons p q ps qs hq t ih =>
   intro x hx;rcases List.mem_cons.mp hx with e|hx
   ·subst e;exact Ig ok (by rw[<-hq.1];exact hq.2.1)
   ·exact ih x hx
 exact all r x hx
theorem aaE {kvs:List (List Key×V)}(ok:qG P w H h)(e:H a=some (.dT kvs)):kvs.length<=sizeLine/\(a==sysModules)=false /\
  ∃ xs,KT H kvs xs/\h.DictOfH (tupleKind (a5 P w)) a xs:=P0 ok (.inl e)
end
def B6 (H:Hp)(a:Addr)(y:V)(r:Option V):Prop :=
 (∃ kvs k,Rd H a (.dK kvs)/\y=kV k/\r=vZ kvs k)\/∃ kvs k b,Rd H a (.dT kvs)/\y=.ref b/\H b=some (.tup (k.map kV))/\r=vZ kvs k
def QX (H:Hp)(a:Addr)(y v:V)(H':Hp):Prop :=
 (∃ kvs k,H a=some (.dK kvs)/\y=kV k/\kvs.length<sizeLine/\H'=upd H a (.dK (putK kvs k v))) \/
 ∃ kvs k b,H a=some (.dT kvs)/\y=.ref b/\H b=some (.tup (k.map kV))/\kvs.length<sizeLine/\H'=upd H a (.dT (putK kvs k v))
theorem B6.k {H:Hp}{a:Addr}{kvs:List (Key×V)}{k:Key}(e:H a=some (.dK kvs)):B6 H a (kV k) (vZ kvs k):=.inl ⟨kvs,k,.inl e,rfl,rfl⟩
theorem QX.k {H:Hp}{a:Addr}{kvs:List (Key×V)}{k:Key}{v:V}(e:H a=some (.dK kvs))(hl:kvs.length<sizeLine):QX H a (kV k) v (upd H a (.dK (putK kvs k v))):=.inl ⟨kvs,k,e,rfl,hl,rfl⟩
section
variable {X:Cx} {pins:List (Addr×Obj)} {σ:St} {H:Hp} {s:Shared} {a:Addr} {y v:V} {u r:Value} {o:Option V} {A:Around} {E:Value->Shared->Prop}
theorem Inv.big (I:Inv X pins σ H s):sysModules<s.heap.objs.size:=by
 have h:mainGlobals<s.heap.objs.size:=(I.mod.glob.keeps I.bk).lt;exact Nat.lt_trans (by decide) h
theorem QY {Q:Value->Shared->Prop}(hu:A.units+1<cLine)(I:Inv X pins σ H s)(g:B6 H a y (some v))(ry:RelV y u)(h:∀ w' s',Inv X pins σ H s'->RelV v w'->Q w' s') :
  wpAny (model X.prog X.w) A (getItem (.ref a) u) Q E s:=by
 rcases g with ⟨kvs,k,e,ey,l⟩|⟨kvs,k,b,e,ey,eb,l⟩
 ·subst ey;obtain⟨z,hd,vs,rel,dd⟩:=G9 I.hok e;obtain⟨w',hw,Sx⟩:=oz.some_of (v:=v) (o:=valueAt vs k) (by rw[l];exact rel.val k);exact wpAny_getItem_of (LC ry) dd.mapOf hw (h w' _ (I.tok _) Sx)
 ·subst ey;cases (show u=Value.ref b from ry);obtain⟨z,hd,xs,rel,dd⟩:=P0 I.hok e;obtain⟨w',hw,Sx⟩:=oz.some_of (v:=v) (o:=(atKey xs k).map (·.2)) (by rw[l];exact rel.val k);obtain⟨p,hp,hp2⟩:=Option.map_eq_some_iff.mp hw;refine wpAny_getItem_heap (tupleKind_room_in1 hu) (Ig I.hok eb) dd hp ?_;rw[hp2];exact h w' _ (I.tok _) Sx
theorem VO {Q:Value->Shared->Prop}(hu:A.units+1<cLine)(I:Inv X pins σ H s)(g:B6 H a y o)(ry:RelV y u)(h:∀ s',Inv X pins σ H s'->Q (.bool (!o.isSome)) s') :
  wpAny (model X.prog X.w) A (compareOp .NotIn u (.ref a)) Q E s:=by
 rcases g with ⟨kvs,k,e,ey,l⟩|⟨kvs,k,b,e,ey,eb,l⟩
 ·subst ey;obtain⟨z,hd,vs,rel,dd⟩:=G9 I.hok e;refine wpAny_notIn_of (LC ry) hd dd.mapOf ?_;rw[<-(rel.val k).v8,<-l];exact h _ (I.tok _)
 ·subst ey;cases (show u=Value.ref b from ry);obtain⟨z,hd,xs,rel,dd⟩:=P0 I.hok e;refine wpAny_notIn_heap (tupleKind_room_in1 hu) (Ig I.hok eb) hd dd ?_;have q:=(rel.val k).v8;rw[Option.isSome_map]at q;rw[<-q,<-l];exact h _ (I.tok _)
theorem Ih {h':Heap}{t':Nat}{ob:HO}(I:Inv X pins σ H s)(mu:Z1 (H a))(hs:Heap.SameBut a s.heap h')(he:∃ q,h'.get? a=some q)(new:cG X.prog X.w (upd H a ob) h' a ob) :
  Inv X pins σ (upd H a ob) { s with heap:=h',toks:=t' } :=
 I.write (x:=a) (e:=a) mu (.inl rfl) (fun b q hb z=>(hs.2 b hb).trans z) he new
theorem Nn {P:Program}{w:World}{H':Hp}{h':Heap}{kvs:List (Key×V)}{vs:List (Key×Value)}(z:kvs.length<=sizeLine)(hd:(a==sysModules)=false)(rel:KV kvs vs)(dd:h'.DictOf (a5 P w) a vs) :
  cG P w H' h' a (.dK kvs):=⟨z,hd,vs,rel,dd⟩
theorem QZ {H':Hp}{Q:Unit->Shared->Prop}(hu:A.units+1<cLine)(I:Inv X pins σ H s)(g:QX H a y v H')(ry:RelV y u)(rv:RelV v r)(h:∀ s',Inv X pins σ H' s'->Q () s') :
  wpAny (model X.prog X.w) A (setItem (.ref a) u r) Q E s:=by
 rcases g with ⟨kvs,k,e,ey,l,eH⟩|⟨kvs,k,b,e,ey,eb,l,eH⟩
 ·subst ey eH;obtain⟨z,hd,vs,rel,dd⟩:=S9 I.hok e;have hz:vs.length<=sizeLine:=by rw[<-rel.length];exact z
  have hl:(putK kvs k v).length<=sizeLine:=by have:=oX kvs k v;omega
  refine wpAny_setItem_pairs (hsz:=hz) (LC ry) dd fun h' VP hs=>h _ ?_;have he:∃ q,h'.get? a=some q:=let ⟨q,_,_,hq,_⟩:=VP;⟨q,hq⟩;exact Ih I (by rw[e];exact True.intro) hs he (Nn hl hd (rel.put k rv) VP)
 ·subst ey eH;cases (show u=Value.ref b from ry);obtain⟨z,hd,xs,rel,dd⟩:=aaE I.hok e;have hz:xs.length<=sizeLine:=by rw[<-Paired.length rel];exact z
  have hl:(putK kvs k v).length<=sizeLine:=by have:=oX kvs k v;omega
  refine wpAny_setItem_heap (hsz:=hz) (tupleKind_room_in1 hu) (Ig I.hok eb) dd fun h' VP hs=>h _ ?_;obtain⟨q,es,ep,hq,h2,h3,h4,_,h5⟩:=VP;refine Ih I (by rw[e];exact True.intro) hs ⟨q,hq⟩ ⟨hl,hd,_,(rel.put k eb rv).keeps fun c ys ec=>?_,q,es,ep,hq,h2,h3,h4,h5⟩;rw[ar (qF ec e (fun z=>nomatch z))];exact ec
end
section
variable {X:Cx} {pins:List (Addr×Obj)} {σ:St} {H:Hp} {s:Shared} {a:Addr} {kvs:List (Key×V)} {k:Key} {u:Value} {A:Around} {E:Value->Shared->Prop}
end
def aaF (i:Expr):Prop:=∀ ov iv,subscripted i false ov iv=operate [ov,iv] (getItem ov iv)
theorem VQ {prog:Program}{w:World}{A:Around}{E:Value->Shared->Prop}{s:Shared}{env:Env}{value slice:Expr}{pos:Pos}{T id:String}{Q:Value->Shared->Prop}
  (hl:typeLookup (.type T) "__getitem__"=pure (some (.builtin id))) (hs:aaF slice)
  (h:wpAny (model prog w) A (eval value env) (fun o s₁=>wpAny (model prog w) A (eval slice env) (fun i s₂=>s₂.TypeIs o T/\wpAny (model prog w) A (getItem o i) Q E s₂) E s₁) E s) :
  wpAny (model prog w) A (eval (.Subscript value slice pos) env) Q E s:=by
 refine Subscript_ (wpAny_mono h (fun o s₁ h₁=>wpAny_mono h₁ (fun i s₂ h₂=>?_) fun _ _ x=>x) fun _ _ x=>x);obtain⟨hT,h₂⟩:=h₂;unfold subscriptTail;refine wpAny_bind ?_;rw[getitemInPython_of_ne hT.not_modules];refine wpAny_bind (wpAny_specialOf hT hl ?_);have fin:wpAny (model prog w) A (subscripted slice false o i) (fun r s₃=>wpAny (model prog w) A (letTemporaryGo value o r >>= fun _=>pure r) Q E s₃) E s₂:=by
  rw[hs o i];exact wpAny_operating (wpAny_mono h₂ (fun r s₃ h₃=>wpAny_bind (wpAny_letTemporaryGo (wpAny_pure h₃))) fun _ _ x=>x)
 first
  |exact wpAny_pure (wpAny_bind fin)
  |exact wpAny_bind (wpAny_pure (wpAny_bind fin))
  |exact wpAny_bind fin
theorem LD {X:Cx}{pins:List (Addr×Obj)}{σ:St}{H:Hp}{s:Shared}{a:Addr}{y:V}{o:Option V}(I:Inv X pins σ H s)(g:B6 H a y o):s.TypeIs (.ref a) "dict":=by
 rcases g with ⟨kvs,k,e,_,_⟩|⟨kvs,k,b,e,_,_,_⟩
 ·obtain⟨_,_,vs,_,dd⟩:=G9 I.hok e;exact dd.typeIs
 ·obtain⟨_,_,xs,_,dd⟩:=P0 I.hok e;exact dd.typeIs
def aaG (td ty:TE):TE:=fun σ H Q=>td σ H fun x H1=>ty σ H1 fun y H2=>∃ a v,x=.ref a/\B6 H2 a y (some v)/\Q v H2
def VR (ty td:TE):TE:=fun σ H Q=>ty σ H fun y H1=>td σ H1 fun x H2=>∃ a o,x=.ref a/\B6 H2 a y o/\Q (.bl (!o.isSome)) H2
def aaH (td ty tv:TE):TS:=fun D σ H=>tv σ H fun v H1=>td σ H1 fun x H2=>ty σ H2 fun y H3=>∃ a H4,x=.ref a/\QX H3 a y v H4/\D.nx σ H4
section
variable {X:Cx} {o i e value:Expr} {pos pos' tpos:Pos} {td ty tv:TE}
theorem P1 (hu:X.A.units+1<cLine)(ho:PE X o td)(hi:PE X i ty)(hs:aaF i):PE X (.Subscript o i pos) (aaG td ty):=by
 intro pins s σ H Q I h;refine VQ PySem.F.slot_dict_getitem.lookup hs (cV (ho pins s σ H _ I h) fun u s1 ⟨x,H1,I1,rx,q1⟩=>cV (hi pins s1 σ H1 _ I1 q1) fun iv s2 ⟨y,H2,I2,ry,a,v,ex,g,q2⟩=>?_);subst ex;obtain rfl:u=Value.ref a:=rx;exact⟨LD I2 g,QY hu I2 g ry fun w' s3 I3 Sx=>⟨v,H2,I3,Sx,q2⟩⟩
theorem Q0 (hu:X.A.units+1<cLine)(hi:PE X i ty)(ho:PE X o td):PC X .NotIn i o (VR ty td):=by
 intro pins s σ H Q I h;refine cV (hi pins s σ H _ I h) fun iv s1 ⟨y,H1,I1,ry,q1⟩=>cV (ho pins s1 σ H1 _ I1 q1) fun u s2 ⟨x,H2,I2,rx,a,ov,ex,g,q2⟩=>?_;subst ex;obtain rfl:u=Value.ref a:=rx;exact VO hu I2 g ry fun s3 I3=>⟨.bl (!ov.isSome),H2,I3,rfl,q2⟩
theorem VS (hu:X.A.units+1<cLine)(ho:PE X o td)(hi:PE X i ty)(hv:PE X value tv)(hs:swapsWith value (some (.Subscript o i pos')) pos.line X.env=pure false) :
  PS X (.Assign [.Subscript o i pos'] value pos) (aaH td ty tv):=by
 intro pins s σ H D I h;refine wpAny_Assign_Subscript (cV (hv pins s σ H _ I h) fun r s1 ⟨v,H1,I1,rv,q1⟩=>cV (ho pins s1 σ H1 _ I1 q1) fun u s2 ⟨x,H2,I2,rx,q2⟩=>cV (hi pins s2 σ H2 _ I2 q2) fun iv s3 ⟨y,H3,I3,ry,a,H4,ex,g,q3⟩=>?_) hs;subst ex;obtain rfl:u=Value.ref a:=rx;exact QZ hu I3 g ry rv fun s4 I4=>⟨σ,H4,I4,q3⟩
end
theorem LF {P:Program}{w:World}{H:Hp}(h:Heap)(hb:sysModules<h.objs.size):cG P w H (h.push { cls:=.type "dict",data:=.dict #[] }) h.objs.size (.dK []) :=
 ⟨Nat.zero_le _,beq_eq_false_iff_ne.mpr (Ne.symm (Nat.ne_of_lt hb)),[],.nil,Heap.DictOf.new h⟩
def YS:TE:=fun _ H Q=>∀ p,H p=none->Q (.ref p) (upd H p (.dK []))
section
variable {X:Cx} {pos:Pos}
theorem Ta:PE X (.Dict [] [] pos) YS:=fun pins s σ H Q I h =>
 wpAny_Dict_empty ⟨.ref s.heap.objs.size,_,I.laid (a:=s.heap.objs.size) (o:=.dK []) (t':=s.toks) (fun _ _ q=>Heap.get?_push_of_some _ q) (Nat.le_refl _) (LF s.heap I.big),rfl,h _ (I.hok.fresh (Nat.le_refl _))⟩
end
def Np:List (TE×TE)->St->Hp->(List (V×V)->Hp->Prop)->Prop
 |[],_,H,Q=>Q [] H
 |(tk,tv)::r,σ,H,Q=>tk σ H fun x H1=>tv σ H1 fun y H2=>Np r σ H2 fun ps H3=>Q ((x,y)::ps) H3
abbrev VV:List (V×V)->List (Value×Value)->Prop:=Paired fun p q=>RelV p.1 q.1/\RelV p.2 q.2
def PDs (X:Cx)(pos:Pos)(keys:List (Option Expr))(values:List Expr)(VT:List (TE×TE)):Prop :=
 ∀(pins:List (Addr×Obj)) (s:Shared) (σ:St) (H:Hp) (Q:List (V×V)->Hp->Prop),Inv X pins σ H s->Np VT σ H Q ->
  wpAny (model X.prog X.w) X.A (evalPairs (pairTrees keys values X.env pos)) (fun vs s'=>∃ ps H',Inv X pins σ H' s'/\VV ps vs/\Q ps H') X.xe s
theorem VU {X:Cx}{pos:Pos}:PDs X pos [] [] []:=fun pins s σ H Q I h=>pairTrees_nil_walk ⟨[],H,I,.nil,h⟩
theorem Tb {X:Cx}{pos:Pos}{k v:Expr}{ks:List (Option Expr)}{vs:List Expr}{tk tv:TE}{VT:List (TE×TE)}(hk:PE X k tk)(hv:PE X v tv)(hr:PDs X pos ks vs VT) :
  PDs X pos (some k::ks) (v::vs) ((tk,tv)::VT):=fun pins s σ H Q I h =>
 pairTrees_cons_walk (cV (hk pins s σ H _ I h) fun u s1 ⟨x,H1,I1,rx,q1⟩=>cV (hv pins s1 σ H1 _ I1 q1) fun w2 s2 ⟨y,H2,I2,ry,q2⟩ =>
  cV (hr pins s2 σ H2 _ I2 q2) fun ws s3 ⟨ps,H3,I3,rel,q3⟩=>⟨(x,y)::ps,H3,I3,.cons ⟨rx,ry⟩ rel,q3⟩)
def B7 (kvs more:List (Key×V)):List (Key×V):=more.foldl (fun acc kv=>putK acc kv.1 kv.2) kvs
theorem KV.merge:∀{more:List (Key×V)} {rs:List (Key×Value)} {kvs:List (Key×V)} {vs:List (Key×Value)},KV more rs->KV kvs vs->KV (B7 kvs more) (merged vs rs):=by
 intro more rs kvs vs r;unfold KV at r
 induction r generalizing kvs vs with
 |nil=>intro q;exact q
 | @cons p q ps qs h t ih =>
  intro r0;have e:KV (putK kvs p.1 p.2) (stored vs q.1 q.2):=by
   have:=r0.put p.1 h.2;rw[<-h.1];exact this
  exact ih e
theorem qL:∀(more kvs:List (Key×V)),(B7 kvs more).length<=kvs.length+more.length
 |[],kvs=>by show kvs.length<=kvs.length+0;omega
 |p::r,kvs=>by
  have h1:=qL r (putK kvs p.1 p.2);have h2:=oX kvs p.1 p.2;show(B7 (putK kvs p.1 p.2) r).length<=_;rw[length_cons];omega
theorem B8 {P:Program}{w:World}:∀{kvs:List (Key×V)} {ws:List (Value×Value)},VV (kvs.map fun kv=>(kV kv.1,kv.2)) ws->∃ rs,Carries (a5 P w) ws rs/\KV kvs rs
 |[],_,r=>by rw[List.map_nil]at r;cases r;exact⟨[],True.intro,.nil⟩
 |p::kvs,_,r=>by
  rw[map_cons]at r;cases r with
  | @cons a b as bs h t =>
   obtain⟨rs,c,q⟩:=B8 (P:=P) (w:=w) t;obtain⟨b1,b2⟩:=b;exact⟨(p.1,b2)::rs,⟨LC h.1,rfl,c⟩,.cons ⟨rfl,h.2⟩ q⟩
def aaI (VT:List (TE×TE)):TE:=fun σ H Q=>∀ p,H p=none->Np VT σ (upd H p (.dK [])) fun ps H2=>H2 p=some (.dK [])/\∃ kvs:List (Key×V),ps=kvs.map (fun kv=>(kV kv.1,kv.2))/\kvs.length<=15/\Q (.ref p) (upd H2 p (.dK (B7 [] kvs)))
theorem VW {X:Cx}{pos:Pos}{keys:List (Option Expr)}{values:List Expr}{VT:List (TE×TE)}(h:PDs X pos keys values VT)(hall:keys.all (·.isSome)=true)(hl:keys.length=values.length)(h0:keys≠[])
  (h15:keys.length<=15):PE X (.Dict keys values pos) (aaI VT):=by
 intro pins s σ H Q I q;have hn:=I.hok.fresh (Nat.le_refl s.heap.objs.size);have I1:=I.laid (a:=s.heap.objs.size) (o:=.dK []) (h':=s.heap.push { cls:=.type "dict",data:=.dict #[] }) (t':=s.toks) (fun _ _ q=>Heap.get?_push_of_some _ q) (Nat.le_refl _) (LF s.heap I.big);refine wpAny_Dict_walk (knd:=a5 X.prog X.w) hall hl h0 h15 (cV (h pins _ σ _ _ I1 (q _ hn)) fun ws s2 ⟨ps,H2,I2,rel,e,kvs,ep,lk,q2⟩=>?_);subst ep;obtain⟨rs,c,rk⟩:=B8 (P:=X.prog) (w:=X.w) rel;obtain⟨z,hd,vs0,r0,dd⟩:=S9 I2.hok e;cases r0;refine⟨rs,c,dd,fun h' VP hs=>⟨.ref s.heap.objs.size,_,?_,rfl,q2⟩⟩;have hz:(B7 [] kvs).length<=sizeLine:=by
  have h1:=qL kvs [];rw[List.length_nil]at h1;rw[sizeLine_eq];omega
 have he:∃ q,h'.get? s.heap.objs.size=some q:=let ⟨q,_,_,hq,_⟩:=VP;⟨q,hq⟩;exact Ih I2 (by rw[e];exact True.intro) hs he (Nn hz hd (rk.merge .nil) VP)
section
variable {X:Cx} {pins:List (Addr×Obj)} {σ:St} {H:Hp} {s:Shared} {a:Addr} {y d:V} {u r:Value} {o:Option V} {A:Around} {E:Value->Shared->Prop}
end
section
variable {X:Cx} {o e f:Expr} {apos cpos:Pos} {td ty tx:TE}
end
section
variable {X:Cx} {pins:List (Addr×Obj)} {σ:St} {H:Hp} {s:Shared} {a:Addr} {kvs:List (Key×V)} {A:Around} {E:Value->Shared->Prop}
theorem Tc {Q:Value->Shared->Prop}(I:Inv X pins σ H s)(e:Rd H a (.dK kvs))(h:∀ p s',H p=none->Inv X pins σ (upd H p (.dK kvs)) s'->Q (.ref p) s'):wpAny (model X.prog X.w) A (call (.type "dict") [.ref a]) Q E s:=by
 obtain⟨z,hd,vs,rel,dd⟩:=G9 I.hok e;refine kt_call_dict hd dd (by rw[<-rel.length];exact z) fun h' VP hs=>?_;refine h _ _ (I.hok.fresh (Nat.le_refl _)) (I.laid (a:=s.heap.objs.size) (o:=.dK kvs) (t':=s.toks) (fun b q hq=>?_) (Nat.le_refl _) (Nn z (beq_eq_false_iff_ne.mpr (Ne.symm (Nat.ne_of_lt I.big))) rel VP));exact(hs.2 b (Nat.ne_of_lt (Heap.lt_size hq))).trans (Heap.get?_push_of_some _ hq)
end
section
variable {X:Cx} {pins:List (Addr×Obj)} {σ:St} {H:Hp} {s:Shared} {a:Addr} {y:V} {u:Value} {A:Around} {E:Value->Shared->Prop}
end
end L2
namespace L2
open PySem PySem.Spec PyProof.Rows
section
variable {X:Cx}
end
section
variable {κ:Type} [DecidableEq κ]
end
end L2
set_option maxHeartbeats 4000000
namespace L2
open PySem PySem.Spec PyProof.Rows
theorem XB {P:Program}{w:World}{k:Key}{u:Value}(h:(a5 P w).is k u=true):RelV (kV k) u:=by
 rcases cF (show BS k u=true from h) with ⟨i,t,rfl,rfl⟩|⟨x,t,rfl,rfl⟩
 ·exact⟨t,rfl⟩
 ·exact⟨t,rfl⟩
theorem XC:∀{xs:List V} {us:List Value},xs.length=us.length->(∀(i:Nat)(x:V)(u:Value),xs[i]? = some x->us[i]? = some u->RelV x u)->Vals xs us
 |[],[],_,_=>.nil
 |x::xs,u::us,hl,h=>.cons (h 0 x u rfl rfl) (XC (by simpa using hl) fun i y v e1 e2=>h (i+1) y v (by simpa using e1) (by simpa using e2))
 |[],_::_,hl,_=>by simp at hl
 |_::_,[],hl,_=>by simp at hl
section
variable {X:Cx}
theorem Nq:jE X (.type "list") (fun xs H Q=>X.calm=true/\∃ p kvs,xs=[.ref p]/\Rd H p (.dK kvs)/\∀ l,H l=none->Q (.ref l) (upd H l (.lst (kvs.map fun kv=>kV kv.1)))):=by
 intro pins s σ H xs us Q I r h;obtain⟨hc,p,kvs,rfl,hp,q⟩:=h;obtain⟨u,rfl,rx⟩:=vals1 r;cases rx;obtain⟨z,hd,vs,rel,dd⟩:=G9 I.hok hp;obtain⟨ep,da⟩:=dd.dictAt;have hl:=rel.length;refine PySem.W.kdl_call (PySem.W.kdl_dict (knd:=a5 X.prog X.w) (kvs:=vs) (ep:=ep) hd) (I.ok.hd hc) da (by omega) fun h' tk acc' c' kp e it=>?_;refine⟨.ref s.heap.objs.size,_,I.laid (t':=tk) kp (Nat.le_refl _) (show cG X.prog X.w _ h' _ (.lst (kvs.map fun kv=>kV kv.1)) from⟨by rw[length_map];exact z,acc'.toList,c',?_,by rw[Array.toArray_toList];exact e⟩),rfl,q _ (I.hok.fresh (Nat.le_refl _))⟩;have hk:=rel.keys;have h1:acc'.toList.length=vs.length:=by rw[Array.length_toList];exact it.1
 refine XC (by rw[length_map,h1,hl]) fun i x u e1 e2=>?_;obtain⟨k,y,e3,e4⟩:=it.2 i u (by rw[<-Array.getElem?_toList];exact e2);have e5:(kvs.map (·.1))[i]? = some k:=by rw[hk,getElem?_map,e3];rfl
 have e6:(kvs.map fun kv=>kV kv.1)[i]? = some (kV k):=by
  rw[getElem?_map]at e5 ⊢;cases e7:kvs[i]? with
  |none=>rw[e7]at e5;cases e5
  |some w=>rw[e7]at e5;cases e5;rfl
 rw[e6]at e1;cases e1;exact XB e4
theorem Nr:jE X (.type "dict") (fun xs H Q=>∃ p kvs,xs=[.ref p]/\Rd H p (.dK kvs)/\∀ l,H l=none->Q (.ref l) (upd H l (.dK kvs))):=by
 intro pins s σ H xs us Q I r h;obtain⟨p,kvs,rfl,hp,q⟩:=h;obtain⟨u,rfl,rx⟩:=vals1 r;cases rx;exact Tc I hp fun l s' hl I'=>⟨.ref l,_,I',rfl,q l hl⟩
end
section
variable {P:Program} {w:World} {K:Frag} {mg:Str->Option Value} {base:Heap}
end
end L2
set_option maxHeartbeats 4000000
namespace L2
open PySem PySem.Spec PyProof.Rows
section
variable {prog:Program} {w:World} {A:Around} {E:Value->Shared->Prop} {s:Shared}
end
section
variable {X:Cx}
end
end L2
set_option maxHeartbeats 4000000
def Hd.th (P:PySem.Params)(x:PySem.Str)(n:Int):Int:=PySem.reduceHash (PySem.Builtin.Tuple.tupleHashOf [PySem.PyData.keyHash P x,PySem.hashInt n])
namespace L2
open PySem PySem.Spec PyProof.Rows
inductive Nt (K:Frag)(w:World):List DictEntry->List ((Str×Int)×V)->Prop
 |nil:Nt K w [] []
 |cons {x:Str} {n:Int} {b:Addr} {ob:Option Addr} {ta tb:Tok} {nb:Nat} {sb:Array (Option Value)} {u:Value} {v:V} {es:List DictEntry} {kvs:List ((Str×Int)×V)}:K.lookup b=some ⟨.type "tuple",ob,.seq #[.str x ta,.int n tb] nb,sb⟩->RelV v u->Nt K w es kvs->Nt K w (⟨Hd.th w.params x n,.ref b,u⟩::es) (((x,n),v)::kvs)
structure KP (K:Frag)(w:World)(a:Addr)(kvs:List ((Str×Int)×V)):Prop where
 sys:(a==sysModules)=false
 ok:∃ es n,K.lookup a=some ⟨.type "dict",none,.dict es n,#[]⟩/\Nt K w es.toList kvs/\(kvs.map (·.1)).Nodup
abbrev kp (x:Str)(n:Int):List Key:=[Sum.inr x,Sum.inl n]
theorem P4 {P:Program}{w:World}{h:Heap}{a:Addr}{x:Str}{n:Int}{ta tb:Tok}(t:IsTup h a #[.str x ta,.int n tb]):(tupleKind (a5 P w)).is h (kp x n) a:=by
 obtain⟨o,e,c,m,d⟩:=t;exact⟨o,_,m,e,c,d,.cons (je P w x ta) (.cons (yK P w n tb) .nil)⟩
theorem Nt.xs (P:Program){K:Frag}{w:World}{h:Heap}(hi:K.In h):∀{es:List DictEntry} {kvs:List ((Str×Int)×V)},Nt K w es kvs->∃ xs:List (List Key×Addr×Value),es=xs.map (entryOfKey (tupleKind (a5 P w)))/\xs.map (·.1)=kvs.map (fun p=>kp p.1.1 p.1.2) /\
  (∀ x∈xs,(tupleKind (a5 P w)).is h x.1 x.2.1)/\∀ x n,oz (kvs.lookup (x,n)) ((atKey xs (kp x n)).map (·.2))
 |_,_,.nil=>⟨[],rfl,rfl,(fun e z=>nomatch z),fun x n=>True.intro⟩
 |_,_,.cons (x:=x) (n:=n) (b:=b) (u:=u) (v:=v) lb r q=>by
  obtain⟨xs,h1,h2,h3,h4⟩:=Nt.xs P hi q;refine⟨(kp x n,b,u)::xs,by rw[map_cons,<-h1];rfl,by rw[map_cons,map_cons,h2],fun e he=>?_,fun y m=>?_⟩
  ·rcases List.mem_cons.mp he with rfl|he
   ·exact P4 ⟨_,hi _ _ lb,rfl,_,rfl⟩
   ·exact h3 e he
  ·by_cases hy:(y,m)=(x,n)
   ·cases hy;unfold atKey;simp only [List.lookup_cons,List.find?_cons];simp;exact r
   ·unfold atKey;have h5:=h4 y m;unfold atKey at h5;have e1:((y,m)==(x,n))=false:=by simpa using hy
    have e2:decide (kp x n=kp y m)=false:=decide_eq_false fun e=>hy (by
     injection e with e1 e2
     injection e2 with e2 _
     cases e1;cases e2;rfl)
    simp only [List.lookup_cons,e1,List.find?_cons,e2];exact h5
theorem LG:∀{l:List (Str×Int)},l.Nodup->(l.map (fun p=>kp p.1 p.2)).Nodup
 |[],_=>.nil
 |x::l,h=>by
  rw[map_cons,List.nodup_cons];obtain⟨h1,h2⟩:=List.nodup_cons.mp h;refine⟨fun z=>?_,LG h2⟩;obtain⟨y,hy,e⟩:=mem_map.mp z
  injection e with e1 e2
  injection e2 with e2 _
  obtain⟨a,b⟩:=x;obtain⟨c,d⟩:=y;cases e1;cases e2;exact h1 hy
theorem KP.dict (P:Program){K:Frag}{w:World}{a:Addr}{kvs:List ((Str×Int)×V)}{h:Heap}(d:KP K w a kvs)(hi:K.In h):∃ xs,h.DictOfH (tupleKind (a5 P w)) a xs/\∀ x n,oz (kvs.lookup (x,n)) ((atKey xs (kp x n)).map (·.2)):=by
 obtain⟨es,n,lk,ok,nd⟩:=d.ok;obtain⟨xs,h1,h2,h3,h4⟩:=ok.xs P hi;refine⟨xs,⟨_,es,n,hi _ _ lk,⟨rfl,rfl,rfl⟩,rfl,h1,h3,?_⟩,h4⟩;rw[h2];have:=LG nd;rw[List.map_map]at this;exact this
section
variable {X:Cx}
def YT (K:Frag)(w:World)(td ty:TE):TE:=fun σ H Q=>td σ H fun x H1=>∃ a kvs,x=.ref a/\KP K w a kvs/\ty σ H1 fun y H2=>∃ p k n,y=.ref p/\H2 p=some (.tup [.str k,.int n])/\Q ((kvs.lookup (k,n)).getD .non) H2
theorem LH {o e:Expr}{apos cpos:Pos}{td ty:TE}(hu:X.A.units+1<cLine)(ho:PE X o td)(he:PE X e ty)
  (base:attributeBase o "get" X.env (eval o X.env)=eval o X.env:=by rfl)
  (few:((backTo cpos (starEach [e] X.env)).all (fun x=>!x.1)&&(backToKw cpos (keywordEach [] X.env)).all (fun x=>x.1.isSome)
   && decide (([e]:List Expr).length+([]:List Keyword).length+(if([]:List Keyword).isEmpty then 0 else 1)<30))=true:=by rfl)
  (line:(apos.endLine==cpos.line)=true:=by rfl) (trees:backTo cpos (starEach [e] X.env)=[(false,eval e X.env)]:=by rfl) :
  PE X (.Call (.Attribute o "get" apos) [e] [] cpos) (YT X.K X.w td ty):=by
 intro pins s σ H Q I h;refine wpAny_Call_method base few line PySem.F.plainAttrs_dict slot_dict_get PySem.F.type_dict_get (cV (ho pins s σ H _ I h) fun u s1 ⟨x,H1,I1,rx,a,kvs,ex,d,q1⟩=>?_);subst ex;obtain rfl:u=Value.ref a:=rx;obtain⟨xs,dd,rel⟩:=d.dict X.prog I1.Fl;refine⟨dd.typeIs,fun b q=>?_,?_⟩
 ·cases q;obtain⟨ob,_,_,h1,h2,_⟩:=dd;exact⟨ob,h1,h2.2.1⟩
 rw[trees];refine Calls.callWith_builtin rfl (Calls.evalArgs_plain (Calls.spliced_cons (cV (he pins s1 σ H1 _ I1 q1) fun iv s2 ⟨y,H2,I2,ry,p,k,n,ek,hp,q2⟩=>Calls.spliced_nil ?_)));subst ek;obtain rfl:iv=Value.ref p:=ry;obtain⟨YU,dd3,adO⟩:=d.dict X.prog I2.Fl;obtain⟨_,its,vs,tp⟩:=I2.hok _ _ hp;rcases vs with _|⟨⟨ta,rfl⟩,_|⟨⟨tb,rfl⟩,_|_⟩⟩
 exact call_meetsIn slot_dict_get dd3.typeIs PySem.F.entry_dict_get (PySem.F.args_dict_get_2 _ _) (meetsH_dict_get (tupleKind (a5 X.prog X.w)) a p d.sys) ⟨hu,kp k n,YU,P4 tp,dd3,_,H2,I2.tok _,oz.aay (d:=V.non) (adO k n) rfl,q2⟩
end
end L2
set_option maxHeartbeats 4000000
namespace Hd
open PySem PySem.W
section
variable {p:Program} {w:World} {n₀:Nat} {ann:Option Value} {q:Pos} {c:Code}
theorem Td {b:Nat}:∀{n m:Nat} {s s1:Shared} {t t1:Thread} {r:Option (Shared×Thread)},segGo treeTable p w n₀ ann b n s t=some (s1,t1)->segGo treeTable p w n₀ ann b m s1 t1=r->segGo treeTable p w n₀ ann b (n+m) s t=r
 |0,m,s,s1,t,t1,r,h,k=>by
  cases h;rw[Nat.zero_add];exact k
 |n+1,m,s,s1,t,t1,r,h,k=>by
  rw[Nat.add_right_comm];unfold segGo at h ⊢;split at h
  ·cases h
  ·split at h
   ·cases h
   ·split at h
    ·exact Td h k
    ·cases h
def Go (p:Program)(w:World)(n₀:Nat)(ann:Option Value)(m:Nat)(s:Shared)(t:Thread)(s':Shared)(t':Thread):Prop:=∃ n,n<=m/\segGo treeTable p w n₀ ann 1 n s t=some (s',t')
theorem Go.trans {m m':Nat}{s s1 s2:Shared}{t t1 t2:Thread}(h:Go p w n₀ ann m s t s1 t1)(h':Go p w n₀ ann m' s1 t1 s2 t2):Go p w n₀ ann (m+m') s t s2 t2:=by
 obtain⟨n,l,e⟩:=h;obtain⟨n',l',e'⟩:=h';exact⟨n+n',Nat.add_le_add l l',Td e e'⟩
def RT {α:Type}(p:Program)(w:World)(n₀:Nat)(ann:Option Value)(q:Pos)(c:Code)(m:Nat)(x:Sem α)(s s':Shared)(a:α):Prop :=
 ∀(K:α->Sem Fin)(H:Value->Sem Fin)(gd:Bool->Bool)(lv:List Value->List Value)(pos:Pos),∃ pos',Go p w n₀ ann m s ⟨x.wrap K H gd lv,c,pos,[topFrame q]⟩ s' ⟨K a,c,pos',[topFrame q]⟩
def XD {α:Type}(p:Program)(w:World)(n₀:Nat)(ann:Option Value)(q:Pos)(c:Code)(m:Nat)(x:Sem α)(s s':Shared)(a:α)(p':Pos):Prop :=
 ∀(K:α->Sem Fin)(H:Value->Sem Fin)(gd:Bool->Bool)(lv:List Value->List Value)(pos:Pos),Go p w n₀ ann m s ⟨x.wrap K H gd lv,c,pos,[topFrame q]⟩ s' ⟨K a,c,p',[topFrame q]⟩
variable {α β:Type} {x:Sem α} {f:α->Sem β} {s s1 s2:Shared} {a:α} {b:β} {m m':Nat} {p':Pos}
theorem Ha (x:Sem α)(f:α->Sem β)(K:β->Sem Fin)(H gd lv):(x >>= f).wrap K H gd lv=x.wrap (fun a=>(f a).wrap K H gd lv) H gd lv:=by
 rw[Sem.bind_eq_wrap',Sem.wrap_wrap];rfl
theorem RT.bind (h:RT p w n₀ ann q c m x s s1 a)(h':RT p w n₀ ann q c m' (f a) s1 s2 b):RT p w n₀ ann q c (m+m') (x >>= f) s s2 b:=fun K H gd lv pos=>by
 rw[Ha];obtain⟨p1,g⟩:=h (fun a=>(f a).wrap K H gd lv) H gd lv pos;obtain⟨p2,g'⟩:=h' K H gd lv p1;exact⟨p2,g.trans g'⟩
theorem RT.XE (h:RT p w n₀ ann q c m x s s1 a)(h':XD p w n₀ ann q c m' (f a) s1 s2 b p'):XD p w n₀ ann q c (m+m') (x >>= f) s s2 b p':=fun K H gd lv pos=>by
 rw[Ha];obtain⟨p1,g⟩:=h (fun a=>(f a).wrap K H gd lv) H gd lv pos;exact g.trans (h' K H gd lv p1)
theorem RT.hold (vs:List Value)(h:RT p w n₀ ann q c m x s s1 a):RT p w n₀ ann q c m (holding vs x) s s1 a:=by
 unfold holding;split
 ·exact h
 ·intro K H gd lv pos;rw[Sem.keep_eq_wrap,Sem.wrap_wrap];exact h _ _ _ _ _
theorem RT.pure:RT p w n₀ ann q c 0 (Pure.pure a:Sem α) s s a:=fun K H gd lv pos=>⟨pos,0,Nat.le_refl _,rfl⟩
theorem RT.more (h:RT p w n₀ ann q c m x s s1 a)(l:m<=m'):RT p w n₀ ann q c m' x s s1 a:=fun K H gd lv pos=>by
 obtain⟨p1,n,l1,e⟩:=h K H gd lv pos;exact⟨p1,n,Nat.le_trans l1 l,e⟩
theorem LI:∀(k n:Nat) {s:Shared} {t:Thread} {r},segRun treeTable p w n₀ ann 1 n s t=some r->segRun treeTable p w n₀ ann 1 (n+k) s t=some r
 |k,0,s,t,r,h=>by cases h
 |k,n+1,s,t,r,h=>by
  rw[Nat.add_right_comm];unfold segRun at h ⊢;split at h
  ·exact h
  ·split at h
   ·cases h
   ·split at h
    ·exact LI k n h
    ·cases h
theorem XD.piece {st:Stmt}{env:Env}{pos:Pos}(h:XD p w n₀ ann q c m (exec st env) s s1 .next p'):segRun treeTable p w n₀ ann 1 (m+1) s (pieceOf st env c pos [topFrame q])=some (.next,s1,c,p'):=by
 obtain⟨n,l,e⟩:=h doneF deadEnd id id pos;have z:segRun treeTable p w n₀ ann 1 (n+1) s (pieceOf st env c pos [topFrame q])=some (.next,s1,c,p'):=seg_go e rfl;have:=LI (m-n) _ z
 rwa [show n+1+(m-n)=m+1 by omega]at this
end
section
variable {p:Program} {w:World} {n₀:Nat} {ann:Option Value} {q:Pos} {c:Code} {s:Shared}
theorem bJ (i:Int):RT p w n₀ ann q c 1 (pyHashByItsType.reduced i) s s (reduceHash i):=by
 unfold pyHashByItsType.reduced reduceHash;split
 ·exact RT.pure.more (Nat.zero_le _)
 ·intro K H gd lv pos;exact⟨pos,1,Nat.le_refl _,rfl⟩
variable {α β:Type} {x y:Sem α} {s':Shared} {a:α} {m e:Nat}
theorem RT.Vm {b:Bool}(hb:b=false)(h:RT p w n₀ ann q c m y s s' a):RT p w n₀ ann q c m (if b=true then x else y) s s' a:=by
 subst hb;exact h
theorem RT.ift {b:Bool}(hb:b=true)(h:RT p w n₀ ann q c m x s s' a):RT p w n₀ ann q c m (if b=true then x else y) s s' a:=by
 subst hb;exact h
theorem RT.ifc {b:Bool}(h:RT p w n₀ ann q c m x s s' a)(h':RT p w n₀ ann q c m y s s' a):RT p w n₀ ann q c m (if b=true then x else y) s s' a:=by
 cases b
 ·exact h'
 ·exact h
theorem Nu {β γ:Type}{f:γ->β->Sem (ForInStep β)}{r:β}:∀{l:List γ},(∀ i∈l,RT p w n₀ ann q c e (f i r) s s (.yield r))->RT p w n₀ ann q c (l.length * e) (forIn l r f) s s r
 |[],_=>by
  rw[List.forIn_nil,List.length_nil,Nat.zero_mul];exact RT.pure
 |i::l,h=>by
  rw[List.forIn_cons,length_cons,Nat.succ_mul,Nat.add_comm];exact RT.bind (h i (mem_cons_self ..)) (Nu fun j hj=>h j (mem_cons_of_mem _ hj))
theorem VX {key:Value}{l:List Value}(hk:RT p w n₀ ann q c e (eqIsQuiet 8 key) s s true)(h:∀ v∈l,RT p w n₀ ann q c e (eqIsQuiet 8 v) s s true):RT p w n₀ ann q c (e+(l.length * e+0)) (tableMayTell key l) s s false:=by
 unfold tableMayTell;dsimp only;cases hl:l.isEmpty with
 |true=>exact RT.ift rfl (RT.pure.more (Nat.zero_le _))
 |false =>
  refine RT.Vm rfl ?_;refine RT.bind hk ?_;refine RT.Vm rfl ?_;refine RT.bind (Nu fun v hv=>?_) ?_
  ·exact RT.bind (m':=0) (h v hv) (RT.Vm rfl RT.pure)
  ·exact RT.pure
theorem YV {key:Value}{l:List Value}(h:∀ v∈l,(v==key)=false):(l == [key])=false:=by
 cases l with
 |nil=>rfl
 |cons v l=>rw[List.cons_beq_cons,h v (mem_cons_self ..)];rfl
theorem Hb {es:Array DictEntry}{ps:List Nat}{v:Value}(h:v∈ps.filterMap fun i=>Option.map (fun x=>x.key) es[i]?):v∈es.toList.map (·.key):=by
 obtain⟨i,_,e⟩:=List.mem_filterMap.mp h;obtain⟨z,e1,rfl⟩:=Option.map_eq_some_iff.mp e;exact mem_map.mpr ⟨z,by simpa using Array.mem_of_getElem? e1,rfl⟩
theorem Q3 {n:Nat}{g:Nat->Option Int}{h:Int}{i:Nat}(hi:i∈placesWithHash n g h):i<n:=mem_range.mp (List.mem_filter.mp hi).1
theorem places_len {n:Nat}{g:Nat->Option Int}{h:Int}:(placesWithHash n g h).length<=n:=by
 have:=List.length_filter_le (fun i=>g i==some h) (List.range n);rw[length_range]at this;exact this
theorem ff {d a n:Nat}{h:Int}{es:Array DictEntry}{e1 e2 e3:Nat}(hes:RT p w n₀ ann q c e1 (dictEntries d (keyPart (.ref a))) s s es)(hany:(es.any fun e=>e.key == .ref a&&e.hash != h)=false)
  (hne:∀ v∈es.toList.map (·.key),(v == .ref a)=false) (hq:RT p w n₀ ann q c e2 (eqIsQuiet 8 (.ref a)) s s true) (hqs:∀ v∈es.toList.map (·.key),RT p w n₀ ann q c e2 (eqIsQuiet 8 v) s s true)
  (hep:RT p w n₀ ann q c 1 (dictEpoch d (keyPart (.ref a))) s s n) (heq:∀ v∈es.toList.map (·.key),RT p w n₀ ann q c e3 (eqBool v (.ref a)) s s false):RT p w n₀ ann q c (e1+((e2+(es.size * e2+0))+(es.size * (1+(e3+(1+(1+0))))+0))) (dictFind d (.ref a) h) s s none:=by
 unfold dictFind;refine RT.hold _ ?_;refine RT.bind hes ?_;dsimp only;generalize hp:placesWithHash _ _ _=places;have pl:∀ i∈places,i<es.size:=fun i hi=>Q3 (hp ▸ hi);have pn:places.length<=es.size:=by rw[<-hp];exact places_len
 clear hp;refine RT.Vm (by rw[List.all_cons];rfl) ?_;refine RT.Vm hany ?_;refine RT.Vm (YV fun v hv=>hne v (Hb hv)) ?_;refine RT.bind ((VX hq fun v hv=>hqs v (Hb hv)).more ?_) ?_
 ·have l1:(places.filterMap fun i=>Option.map (fun x=>x.key) es[i]?).length<=es.size:=Nat.le_trans (List.length_filterMap_le _ _) pn;have:=Nat.mul_le_mul_right e2 l1;omega
 refine RT.Vm rfl ?_;refine RT.bind ((Nu fun i hi=>?_).more (Nat.mul_le_mul_right _ pn)) RT.pure;have hi:=pl i hi;rw[Array.getElem?_eq_getElem hi];dsimp only;have hv:(es[i]'hi).key∈es.toList.map (·.key):=mem_map.mpr ⟨_,by simp,rfl⟩;generalize es[i]'hi=en at hv;refine RT.ifc ?_ (RT.pure.more (Nat.zero_le _));refine RT.bind hep ?_;refine RT.bind (heq _ hv) ?_;refine RT.bind hep ?_;refine RT.Vm (by simp) ?_;refine RT.Vm rfl ?_;refine RT.bind (m:=1) (a:=()) (s1:=s) (fun K H gd lv pos=>⟨pos,1,Nat.le_refl _,rfl⟩) ?_;exact RT.Vm rfl RT.pure
theorem gL {d a:Nat}{h:Int}{v:Value}{s1 s2:Shared}{e1 e2 e3:Nat}(hh:RT p w n₀ ann q c e1 (pyHash (.ref a)) s s1 h)(hf:RT p w n₀ ann q c e2 (dictFind d (.ref a) h) s1 s1 none)
  (hu:RT p w n₀ ann q c e3 (updateDictKeys d (fun es=>es.push ⟨h,.ref a,v⟩) (keyPart (.ref a))) s1 s2 ()):RT p w n₀ ann q c (e1+(e2+(1+e3))) (dictSet d (.ref a) v) s s2 ():=by
 unfold dictSet dictSetHashed;refine RT.hold _ ?_;refine RT.bind hh ?_;refine RT.hold _ ?_;refine RT.bind hf ?_;exact RT.bind (m:=1) (a:=()) (s1:=s1) (fun K H gd lv pos=>⟨pos,1,Nat.le_refl _,rfl⟩) hu
inductive Puts (p:Program)(w:World)(n₀:Nat)(ann:Option Value)(q:Pos)(c:Code)(d:Nat):Nat->Shared->List (Value×Value)->Shared->Prop
 |nil {s:Shared}:Puts p w n₀ ann q c d 0 s [] s
 |cons {s s1 s2:Shared} {k v:Value} {l:List (Value×Value)} {m m':Nat}:RT p w n₀ ann q c m (dictSet d k v) s s1 ()->Puts p w n₀ ann q c d m' s1 l s2->Puts p w n₀ ann q c d (m+m') s ((k,v)::l) s2
theorem Puts.for {d:Nat}{l:List (Value×Value)}{f:Value×Value->PUnit->Sem (ForInStep PUnit)}(hf:∀ k v,f (k,v) ⟨⟩=dictSet d k v >>= fun _=>pure (.yield ⟨⟩))(h:Puts p w n₀ ann q c d m s l s'):RT p w n₀ ann q c m (forIn l PUnit.unit f) s s' ⟨⟩:=by
 induction h with
 |nil=>rw[List.forIn_nil];exact RT.pure
 |cons a b ih =>
  rw[List.forIn_cons,hf];exact RT.bind (RT.bind (m':=0) a RT.pure) ih
theorem aS {α:Type}{P:α->Prop}:∀ v∈([]:List α),P v:=fun _ z=>nomatch z
theorem af {α:Type}{P:α->Prop}{a:α}{l:List α}(h:P a)(t:∀ v∈l,P v):∀ v∈a::l,P v:=fun v hv=>by
 rcases List.mem_cons.mp hv with rfl|hv
 ·exact h
 ·exact t v hv
theorem YW {pairs:List (Sem Value×Sem Value)}{vs:List (Value×Value)}{d e1:Nat}{s1 s2 s3:Shared}(hl:pairs.length<=15)(ha:RT p w n₀ ann q c 1 (alloc { cls:=.type "dict",data:=.dict #[] }) s s1 d)(he:RT p w n₀ ann q c e1 (evalPairs pairs) s1 s2 vs)
  (hc:Puts p w n₀ ann q c d m s2 vs s3):RT p w n₀ ann q c (1+((e1+(m+0))+0)) (subDict pairs) s s3 d:=by
 unfold subDict;refine RT.bind ha ?_;dsimp only;refine RT.bind (a:=()) (RT.hold _ ?_) RT.pure;rw[if_pos hl];refine RT.bind he ?_;refine RT.hold _ ?_;refine RT.bind (Puts.for (fun k v=>rfl) hc) RT.pure
theorem Te {x:Str}{px dp pos p':Pos}{ks:List (Option Expr)}{us:List Expr}{env:Env}{vs:List (Value×Value)}{d e1 e2:Nat}{s1 s2 s3 s4:Shared}(hall:ks.all (·.isSome)=true)(hlen:ks.length=us.length)(h0:(pairTrees ks us env dp).length<=15)(hn:pairTrees ks us env dp≠[])
  (ha:RT p w n₀ ann q c 1 (alloc { cls:=.type "dict",data:=.dict #[] }) s s1 d) (he:RT p w n₀ ann q c e1 (evalPairs (pairTrees ks us env dp)) s1 s2 vs) (hc:Puts p w n₀ ann q c d m s2 vs s3)
  (hb:XD p w n₀ ann q c e2 (do standAt px;bindName env x (.ref d);pure Flow.next) s3 s4 .next p') :
  XD p w n₀ ann q c (1+((1+((1+((e1+(m+0))+0))+0))+e2)) (exec (.Assign [.Name x px] (.Dict ks us dp) pos) env) s s4 .next p':=by
 rw[exec_Assign_Name env x px _ pos rfl];have at_:∀(ps:Pos)(z:Shared),RT p w n₀ ann q c 1 (standAt ps) z z ():=fun ps z K H gd lv pos=>⟨_,1,Nat.le_refl _,rfl⟩;refine RT.XE (at_ pos s) (RT.XE (RT.bind (at_ dp s) ?_) hb);rw[zip_pairTrees ks us env dp hall hlen,dictDisplay_pairs _ hn (by omega)];exact RT.bind (YW h0 ha he hc) RT.pure
end
abbrev rw:String:="special-get-raises"
theorem gb {P:World->Prop}(h:∀(w:World)(b:Bool),P (w.withFollow rw b))(w:World):P w:=byRow2 (rw) (fun w=>h w false) (fun w=>h w true) w
theorem Hc {α:Type}{l:List α}(h:l.isEmpty=false):l≠[]:=fun z=>by subst z;cases h
abbrev stt (H:Params->Heap)(d:Drawn)(k:Nat)(w:World)(os:OsState):Shared:=⟨H w.params,#[],d,k,os⟩
end Hd
set_option maxHeartbeats 4000000
namespace L2
open PySem PySem.Spec PyProof.Rows PySem.SeqAt
section
variable {X:Cx}
end
end L2
set_option maxHeartbeats 4000000
namespace L2
open PySem PySem.Spec PyProof.Rows
section
variable {X:Cx} {pins:List (Addr×Obj)} {σ:St} {H:Hp} {s:Shared}
theorem Inv.Tf {a:Addr}{u u':HO}(I:Inv X pins σ H s)(e:H a=some u)(h1:∀ y,u≠.own y)(h2:∀ xs,u≠.tup xs)(h3:∀ ps,u≠.yL ps)(h4:∀ o v,X.H₀ a≠some (.jI o v))(new:cG X.prog X.w (upd H a u') s.heap a u'):Inv X pins σ (upd H a u') s:=by
 refine⟨I.ok,I.os,I.bare,⟨I.base.keep,I.base.slot,fun b ob eb n hx=>?_,I.base.there,fun b xs q=>?_,fun b ob v q=>?_,fun b ps q=>?_⟩,I.loc,I.cell,?_,fun x c ec=>?_,fun p hp=>?_,fun b v eb=>?_,I.len⟩
 ·have:=I.base.free b ob eb n hx;rw[ar (fun z=>by rw[z,e]at this;cases this)];exact this
 ·have:=I.base.tups b xs q;rw[ar (fun z=>by rw[z,e]at this;exact h2 _ (Option.some.inj this))];exact this
 ·have:=I.base.yW b ob v q;rw[ar (fun z=>by rw[z]at q;exact h4 ob v q)];exact this
 ·obtain⟨m,this⟩:=I.base.BU b ps q;exact⟨m,by rw[ar (fun z=>by rw[z,e]at this;exact h3 _ (Option.some.inj this))];exact this⟩
 ·have:=I.free;rw[ar (fun z=>by rw[z,e]at this;cases this)];exact this
 ·have:=I.oM x c ec;rw[ar (fun z=>by rw[z,e]at this;cases this)];exact this
 ·obtain⟨q1,q2,q3⟩:=I.pin p hp;exact⟨q1,by rw[ar (fun z=>by rw[z,e]at q2;cases q2)];exact q2,q3⟩
 ·by_cases hb:b=a
  ·subst hb;rw[ai]at eb;cases eb;exact new
  ·rw[ar hb]at eb;refine(I.hok b v eb).stay (fun _ _ _ q=>q) (fun c q=>?_) fun c xs q=>?_
   ·rw[ar (fun z=>by rw[z,e]at q;exact h1 _ (Option.some.inj q))];exact q
   ·rw[ar (fun z=>by rw[z,e]at q;exact h2 _ (Option.some.inj q))];exact q
theorem Inv.Nv {a:Addr}{o:Obj}{kvs:List (Key×V)}(I:Inv X pins σ H s)(e:H a=some (.jI o (.dK kvs)))(h:∀ o v,X.H₀ a≠some (.jI o v)):Inv X pins σ (upd H a (.dK kvs)) s :=
 I.Tf e (fun _ z=>nomatch z) (fun _ z=>nomatch z) (fun _ z=>nomatch z) h (I.hok a _ e).2
theorem Inv.freeze {a:Addr}{o:Obj}{kvs:List (Key×V)}(I:Inv X pins σ H s)(e:H a=some (.dK kvs))(ho:s.heap.get? a=some o):Inv X pins σ (upd H a (.jI o (.dK kvs))) s :=
 I.Tf e (fun _ z=>nomatch z) (fun _ z=>nomatch z) (fun _ z=>nomatch z) (fun o v z=>by rw[I.base.yW a o v z]at e;cases e) ⟨ho,I.hok a _ e⟩
end
def ZO (d:Addr)(o:Obj)(kvs:List (Key×V)):It :=
 ⟨fun i H=>H d=some (.jI o (.dK kvs))/\∃ kv,kvs[i]? = some kv,
  fun i H x H'=>∃ kv t,kvs[i]? = some kv/\x=.ref t/\H t=none/\H'=upd H t (.tup [kV kv.1,kv.2]),
  fun i H=>H d=some (.jI o (.dK kvs))/\kvs.length<=i⟩
theorem adP:∀{kvs:List (Key×V)} {vs:List (Key×Value)},KV kvs vs->∀{i:Nat} {kv:Key×V},kvs[i]? = some kv->∃ u,vs[i]? = some (kv.1,u)/\RelV kv.2 u:=by
 intro kvs vs r;unfold KV at r
 induction r with
 |nil=>intro i kv h;simp at h
 | @cons p q ps qs h0 _ ih =>
  intro i kv h;cases i with
  |zero =>
   have e:p=kv:=by simpa using h
   subst e;exact⟨q.2,by rw[h0.1];rfl,h0.2⟩
  |succ i=>exact ih (by simpa using h)
theorem B9:entryFor table "dict_itemiterator.__iter__" = some Builtin.«dict_keyiterator.__iter__»:=entryFor_alias (id':="dict_keyiterator.__iter__") (by kernel_rfl) rfl (by lk) (by kernel_rfl)
theorem Nw {P:Program}{w:World}{K:Frag}{es:List Expr}{k:Nat}{tp:Pos}(d it:Addr)(o:Obj)(kvs:List (Key×V))(ep:Nat)(he:∃ dt,o.data=.dict dt ep) :
  Turn P w K (.Tuple es k tp) (ZO d o kvs) [it] it (fun i h=>∃ a b,IsItemIter h it d i kvs.length ep a b) where
 mem:=by simp
 obj:=fun i h st b hb=>by
  obtain⟨a,c,e⟩:=st;have:b=it:=by simpa using hb
  subst this;exact⟨_,e,fun v z=>by
   have z':Data.fields _=Data.cell v:=z;cases z'⟩
 keep:=fun i h h' st kp=>by
  obtain⟨a,c,e⟩:=st;exact⟨a,c,kp it (by simp) _ e⟩
 item:=by
  intro X hP hw hK hc i pins s σ H E I hf st hg;subst hP hw hK;obtain⟨hd,kv,hkv⟩:=hg;obtain⟨a,c,hit⟩:=st;obtain⟨ho,z,hsm,vs,rel,dd⟩:=(show cG X.prog X.w H s.heap d (.jI o (.dK kvs)) from I.hok d _ hd);obtain⟨ep',da⟩:=dd.dictAt;obtain⟨dt,hdt⟩:=he;have eep:ep'=ep:=by
   obtain⟨o',es',q1,q2,q3,_⟩:=da;rw[ho]at q1;cases q1;rw[hdt]at q3;cases q3;rfl
  subst eep;have hl:=rel.length;obtain⟨u,hu,ru⟩:=adP rel hkv;rw[hl]at hit;refine wpAny_pyNext_items_item hit da hu fun key h' hkey hout htup hsz kk=>?_;refine⟨_,rfl,wpAny_letOwnedTupleGo_items hout fun h'' XF hs''=>?_⟩;have fit:=hf it (by simp);have VI:H s.heap.objs.size=none:=I.hok.fresh (Nat.le_refl _);have hne:it≠s.heap.objs.size:=Nat.ne_of_lt (Heap.lt_size hit);have I1:Inv X pins σ (upd H s.heap.objs.size (.tup [kV kv.1,kv.2])) { s with heap:=h'',toks:=s.toks }:=by
   refine I.LB (wr:=[it]) (vals:=[key,u]) (fun b hb=>by rw[mem_singleton.mp hb];exact fit) (Nat.le_refl _) ?_ (.cons (XB hkey) (.cons ru .nil)) (by show 2<=sizeLine;decide) (fun b ob hb e=>?_) fun b hb=>?_
   ·exact⟨_,(hs''.2 _ (Ne.symm hne)).trans htup,rfl,_,rfl⟩
   ·have hb':b≠it:=fun z=>hb (by simp[z]);exact(hs''.2 b hb').trans (kk b ob hb' e)
   ·rw[mem_singleton.mp hb];exact⟨_,XF⟩
  refine⟨.ref s.heap.objs.size,_,I1,rfl,⟨kv,_,hkv,rfl,VI,rfl⟩,⟨key,u,by rw[hl];exact XF⟩,fun b hb=>?_⟩;rw[mem_singleton.mp hb,ar hne];exact fit.1
 done:=by
  intro X hP hw hK hc i pins s σ H E I hf st hg;subst hP hw hK;obtain⟨hd,hi⟩:=hg;obtain⟨a,c,hit⟩:=st;obtain⟨ho,z,hsm,vs,rel,dd⟩:=(show cG X.prog X.w H s.heap d (.jI o (.dK kvs)) from I.hok d _ hd);obtain⟨ep',da⟩:=dd.dictAt;obtain⟨dt,hdt⟩:=he;have eep:ep'=ep:=by
   obtain⟨o',es',q1,q2,q3,_⟩:=da;rw[ho]at q1;cases q1;rw[hdt]at q3;cases q3;rfl
  subst eep;have hl:=rel.length;rw[hl]at hit hi;refine wpAny_pyNext_items_end (I.ok.hd hc) hit da (List.getElem?_eq_none hi) fun h' hx'=>?_;exact⟨rfl,I.m6 (tk:=s.toks) hf fun b ob hb q=>hx' b ob (fun z=>hb (by simp[z])) q⟩
 self:=fun A i s Q E st h=>by
  obtain⟨a,c,hit⟩:=st;refine wpAny_pyIter_slot ⟨_,hit,rfl⟩ PySem.F.slot_dict_itemiterator_iter (wpAny_call_entry PySem.F.slot_dict_itemiterator_iter ⟨_,hit,rfl⟩ B9 ?_ (PySem.F.args_dict_itemiterator_iter_1 _));show wpAny _ _ (ret (.ref it)) _ _ s;exact wpAny_pure ⟨_,rfl,"dict_itemiterator",_,⟨_,hit,rfl⟩,PySem.F.slot_dict_itemiterator_next.lookup,h⟩
section
variable {X:Cx}
inductive P5 (R:(It->Hp->Prop))(x:V)(H1:Hp):Prop
 |mk (d:_) (kvs:_) (qH:x=.ref d) (qI:H1 d=some (.dK kvs)) (AY:∀ o,R (ZO d o kvs) (upd H1 d (.jI o (.dK kvs)))):P5 R x H1
def YX (td:TE):TI:=fun σ H R=>td σ H fun x H1=>P5 R x H1
theorem Ca {o:Expr}{td:TE}{apos cpos tp:Pos}{es:List Expr}{k:Nat}(ho:PE X o td)(hbase:attributeBase o "items" X.env (eval o X.env)=eval o X.env:=by rfl)(hline:(apos.endLine==cpos.line)=true:=by rfl) :
  PI X (.Tuple es k tp) (.Call (.Attribute o "items" apos) [] [] cpos) (YX td):=by
 intro pins s σ H R I h;refine wpAny_Call_method0_late hbase hline (cV (ho pins s σ H _ I h) fun v s1 ⟨x,H1,I1,r1,d,kvs,ex,hd,q⟩=>?_);subst ex;cases r1;obtain⟨z,hsm,vs,rel,dd⟩:=S9 I1.hok hd;refine⟨"dict","dict.items",PySem.F.plainAttrs_dict,PySem.F.slot_dict_items,PySem.F.type_dict_items,dd.typeIs,dd.mapOf.noDict,Calls.callWith_builtin rfl (PySem.evalArgs_none ?_)⟩;refine call_meetsIn PySem.F.slot_dict_items dd.typeIs PySem.F.entry_dict_items (PySem.F.args_dict_items_1 _) (meets_dict_items (a5 X.prog X.w) d hsm) ⟨⟨vs,dd⟩,?_⟩;obtain⟨ep,da⟩:=dd.dictAt;have up:∀(p:Obj) b ob,s1.heap.get? b=some ob->(s1.heap.push p).get? b=some ob:=fun p b ob e=>Heap.get?_push_of_some _ e;refine wpAny_pyIter_items (v:=s1.heap.objs.size) (d:=d) ⟨_,Heap.get?_push_size _ rfl,rfl,rfl⟩ (da.at' fun ob e=>up _ _ _ e) ?_;obtain⟨od,des,hod,hc,hdt,_⟩:=id da;have I2:Inv X pins σ H1 { s1 with heap:=(s1.heap.push { cls:=.type "dict_items",data:=.fields #[.ref d] }).push { cls:=.type "dict_itemiterator",data:=.fields #[.none,.bool false,.ref d,.int 0 0,.int vs.length 0,.int ep 0,.none,.none] } } :=
  I1.kept (t':=s1.toks) fun b ob e=>Heap.get?_push_of_some _ (Heap.get?_push_of_some _ e)
 have I3:=I2.freeze hd (Heap.get?_push_of_some _ (Heap.get?_push_of_some _ hod));have hsz:(s1.heap.push { cls:=.type "dict_items",data:=.fields #[.ref d] }).objs.size=s1.heap.objs.size+1:=Heap.size_push ..;refine⟨_,[(s1.heap.push { cls:=.type "dict_items",data:=.fields #[.ref d] }).objs.size],_,_,_,rfl,I3,Nw d _ od kvs ep ⟨des,hdt⟩,⟨.none,.none,?_⟩,fun b hb=>?_,q od⟩
 ·rw[rel.length];exact Heap.get?_push_size _ rfl
 ·have e:b=(s1.heap.push { cls:=.type "dict_items",data:=.fields #[.ref d] }).objs.size:=by simpa using hb
  subst e;have hb1:s1.heap.objs.size<=(s1.heap.push { cls:=.type "dict_items",data:=.fields #[.ref d] }).objs.size:=by rw[hsz];exact Nat.le_succ _
  have hn:=I1.hok.fresh hb1;exact I1.QK hb1 (by rw[ar (fun z=>by rw[z,hd]at hn;cases hn)];exact hn)
def LJ (X:Cx)(R:Hp->Prop)(H:Hp):Prop:=∃ d o kvs,H d=some (.jI o (.dK kvs))/\(∀ o v,X.H₀ d≠some (.jI o v))/\R (upd H d (.dK kvs))
def YY (X:Cx)(te:TE):TE:=fun σ H Q=>te σ H fun v H1=>LJ X (Q v) H1
theorem VY {e:Expr}{te:TE}(h:PE X e te):PE X e (YY X te):=by
 intro pins s σ H Q I q;refine cV (h pins s σ H _ I q) fun u s1 ⟨v,H1,I1,r,d,o,kvs,e1,e2,z⟩=>?_;exact⟨v,_,I1.Nv e1 e2,r,z⟩
def Ends.Nv (X:Cx)(D:Ends):Ends:={ nx:=fun σ=>LJ X (D.nx σ),rt:=fun v=>LJ X (D.rt v),bk:=fun σ=>LJ X (D.bk σ),ct:=fun σ=>LJ X (D.ct σ) }
def aaK (X:Cx)(t:TS):TS:=fun D σ H=>t (D.Nv X) σ H
theorem P6 {st:Stmt}{t:TS}(h:PS X st t):PS X st (aaK X t):=by
 intro pins s σ H D I q;refine wpAny_mono (h pins s σ H _ I q) (fun f s1 z=>?_) fun _ _ z=>z;cases f with
 |next=>obtain⟨σ1,H1,I1,d,o,kvs,e1,e2,w⟩:=z;exact⟨σ1,_,I1.Nv e1 e2,w⟩
 |brk=>obtain⟨σ1,H1,I1,d,o,kvs,e1,e2,w⟩:=z;exact⟨σ1,_,I1.Nv e1 e2,w⟩
 |cont=>obtain⟨σ1,H1,I1,d,o,kvs,e1,e2,w⟩:=z;exact⟨σ1,_,I1.Nv e1 e2,w⟩
 |ret u=>obtain⟨v,σ1,H1,I1,r,d,o,kvs,e1,e2,w⟩:=z;exact⟨v,σ1,_,I1.Nv e1 e2,r,w⟩
end
theorem Q4 {d:Addr}{o:Obj}{kvs:List (Key×V)}{g:TG}{tb:TS}{D:Ends}{σ:St}{H:Hp}(Pv:Nat->St->Hp->Prop)(h0:Pv 0 σ H)(hl:∀ i σ H,Pv i σ H->H d=some (.jI o (.dK kvs)))
  (hs:∀ i kv t σ H,kvs[i]? = some kv->Pv i σ H->H t=none->g (.ref t) σ (upd H t (.tup [kV kv.1,kv.2])) fun σ2 H2=>tb { D with nx:=Pv (i+1),ct:=Pv (i+1),bk:=D.nx } σ2 H2) (hd:∀ σ H,Pv kvs.length σ H->D.nx σ H) :
  ∃ W:Nat->Nat->St->Hp->Prop,(∃ m,W 0 m σ H)/\∀ i m σ H,W i m σ H ->
   ((ZO d o kvs).stop i H/\D.nx σ H)\/((ZO d o kvs).go i H/\∃ N:St->Hp->Prop,(∀ σ' H',N σ' H'->∃ m',m'<m/\W (i+1) m' σ' H')/\∀ x H',(ZO d o kvs).Vi i H x H'->g x σ H' fun σ2 H2=>tb { D with nx:=N,ct:=N,bk:=D.nx } σ2 H2):=by
 refine⟨fun i m σ H=>m=kvs.length-i/\i<=kvs.length/\Pv i σ H,⟨kvs.length,by simp,Nat.zero_le _,h0⟩,?_⟩;rintro i m σ H ⟨rfl,hi,p⟩;have q:=hl i σ H p;rcases Nat.lt_or_ge i kvs.length with hlt|hge
 ·refine .inr ⟨⟨q,kvs[i],getElem?_eq_getElem hlt⟩,Pv (i+1),fun σ' H' p'=>⟨_,Nat.sub_lt_sub_left hlt (Nat.lt_succ_self i),rfl,hlt,p'⟩,fun x H' y=>?_⟩;obtain⟨kv,t,e1,rfl,hn,rfl⟩:=y;exact hs i kv t σ H e1 p hn
 ·obtain rfl:i=kvs.length:=Nat.le_antisymm hi hge;exact .inl ⟨⟨q,hge⟩,hd σ H p⟩
theorem Cb {d:Addr}{o:Obj}{kvs:List (Key×V)}{g:TG}{tc:TT}{te:TE}{D:Addr}{R:Hp->Prop}{σ:St}{H:Hp}(Pv:Nat->List V->St->Hp->Prop)(h0:Pv 0 [] σ H)(hl:∀ i ys σ H,Pv i ys σ H->H d=some (.jI o (.dK kvs)))
  (hs:∀ i ys kv t σ H,kvs[i]? = some kv->Pv i ys σ H->H t=none->∀ N:List V->St->Hp->Prop,(∀ ys σ H,Pv (i+1) ys σ H->N ys σ H)->G6 g tc te D ys (.ref t) σ (upd H t (.tup [kV kv.1,kv.2])) N) (hd:∀ ys σ H,Pv kvs.length ys σ H->R H):PY (ZO d o kvs) g tc te D R σ H:=by
 refine⟨fun i m ys σ H=>m=kvs.length-i/\i<=kvs.length/\Pv i ys σ H,⟨kvs.length,by simp,Nat.zero_le _,h0⟩,?_⟩;rintro i m ys σ H ⟨rfl,hi,p⟩;have q:=hl i ys σ H p;rcases Nat.lt_or_ge i kvs.length with hlt|hge
 ·refine .inr ⟨⟨q,kvs[i],getElem?_eq_getElem hlt⟩,fun x H' y=>?_⟩;obtain⟨kv,t,e1,rfl,hn,rfl⟩:=y;exact hs i ys kv t σ H e1 p hn (fun ys' σ' H'=>∃ m',m'<kvs.length-i/\m'=kvs.length-(i+1)/\i+1<=kvs.length/\Pv (i+1) ys' σ' H') fun ys' σ' H' z=>⟨_,Nat.sub_lt_sub_left hlt (Nat.lt_succ_self i),rfl,hlt,z⟩
 ·obtain rfl:i=kvs.length:=Nat.le_antisymm hi hge;exact .inl ⟨⟨q,hge⟩,hd ys σ H p⟩
theorem Tg {K:Frag}{a:Addr}{xs:List V}{g:TG}{tc:TT}{te:TE}{D:Addr}{R:Hp->Prop}{σ:St}{H:Hp}(Pv:Nat->List V->St->Hp->Prop)(h0:Pv 0 [] σ H)(hl:∀ i ys σ H,Pv i ys σ H->cz K H a xs)
  (hs:∀ i ys x σ H,xs[i]? = some x->Pv i ys σ H->∀ N:List V->St->Hp->Prop,(∀ ys σ H,Pv (i+1) ys σ H->N ys σ H)->G6 g tc te D ys x σ H N) (hd:∀ ys σ H,Pv xs.length ys σ H->R H):PY (ZM K a) g tc te D R σ H:=by
 refine⟨fun i m ys σ H=>m=xs.length-i/\i<=xs.length/\Pv i ys σ H,⟨xs.length,by simp,Nat.zero_le _,h0⟩,?_⟩;rintro i m ys σ H ⟨rfl,hi,p⟩;have q:=hl i ys σ H p;rcases Nat.lt_or_ge i xs.length with hlt|hge
 ·refine .inr ⟨⟨xs,xs[i],q,getElem?_eq_getElem hlt⟩,fun x H' y=>?_⟩;obtain⟨rfl,e1⟩:=y;exact hs i ys x σ _ (e1 xs q) p (fun ys' σ' H'=>∃ m',m'<xs.length-i/\m'=xs.length-(i+1)/\i+1<=xs.length/\Pv (i+1) ys' σ' H') fun ys' σ' H' z=>⟨_,Nat.sub_lt_sub_left hlt (Nat.lt_succ_self i),rfl,hlt,z⟩
 ·obtain rfl:i=xs.length:=Nat.le_antisymm hi hge;exact .inl ⟨⟨xs,q,hge⟩,hd ys σ H p⟩
end L2
set_option maxHeartbeats 4000000
namespace L2
open PySem PySem.Spec PyProof.Rows
theorem Ie.okL {P:Program}{w:World}{K:Frag}{mg:Str->Option Value}{base:Heap}{x qual:Str}{st:Stmt}{f:Addr}{fd:FuncData}{dV:Value}{N ps:List Str}{k:Nat}{sp:Sp}(F:Ie K x qual st f fd dV)(S:aG N ps (ae st))(len:∀ vs H Q E,sp vs H Q E->vs.length=ps.length)
  (hbody:∀(cdv:Value)(A:Around)(outer:List Env)(s:Shared)(H:Hp)(vs:List V)(Q:VK)(E:XK),cdv=fd.code->kU k (A.deeper (envOfC qual (ae st) s.heap.objs.size f cdv))->sp vs H Q E ->
   ∃ t,Lp (Lu jG P w K mg base N qual (ae st) f cdv A outer s H E).Xh (aj st) t/\t { nx:=fun _ H'=>Q .non H',rt:=Q } (start N vs) H):cA P w K mg base jG (k+1) f fd ps sp:=by
 obtain⟨oc,od,kV,doc,pm,an,cdv,ct,osl,rfl,lk,hcd⟩:=F.ex;refine SK lk hcd S len fun A outer s H vs Q E hr hsp=>?_;obtain⟨t,h,q⟩:=hbody cdv A outer s H vs Q E rfl hr hsp;exact⟨t,h.Xh,q⟩
section
variable {prog:Program} {w:World} {A:Around} {E:Value->Shared->Prop} {s:Shared}
theorem Th {env:Env}{x:Str}{p1 p2 p3:Pos}{j:Nat}{t:Addr}{its:Array Value}{k:Int}{tk:Tok}{m:Str->Option Value}{Q:Value->Shared->Prop}
  (hk:env.scope.kind=.function) (hl:env.kindOf x=some .local) (hn:s.heap.Ns env.locals m) (hm:m x=some (.ref t)) (ht:IsTup s.heap t its) (h0:its[0]? = some (.int k tk)) (hd:(x==("__debug__":Str))=false)
  (h:∀ tk',Q (.int k tk) { s with toks:=tk' }):wpAny (model prog w) A (eval (.Subscript (.Name x p1) (.Constant (.int 0) j p2) p3) env) Q E s:=by
 refine Subscript_ (wpAny_Name (wpAny_loadName_local hk hl hn hm (wpAny_Constant_int ?_)) hd);have hs:0<its.size:=by
  rcases Nat.lt_or_ge 0 its.size with z|z
  ·exact z
  ·rw[Array.getElem?_eq_none z]at h0;cases h0
 exact subscriptTail_builtinR (x:=.int k tk) (IsTup.typeIs (s:={ s with toks:=s.toks+1 }) ht) slot_tuple_getitem.lookup
  (getItem_tuple (j:=0) (Q:=fun r s'=>r=.int k tk/\Q r s') ht (by decide) (by decide) (by unfold seqIndex?;simp[hs]) h0 ⟨rfl,h _⟩)
def jJ (x:Str)(pa:Pos):Arguments:={ posonlyargs:=[],args:=[{ arg:=x,annotation:=none,pos:=pa }],vararg:=none,kwonlyargs:=[],kw_defaults:=[],kwarg:=none,defaults:=[] }
def lV (x:Str):Scope:={ kind:=.function,names:=[(x,.local)],isGenerator:=false,isCoroutine:=false }
def m7 (x:Str)(p1 p2 p3:Pos):Expr:=.Subscript (.Name x p1) (.Constant (.int 0) 0 p2) p3
theorem Ti {x:Str}{pa p1 p2 p3:Pos}{name qual:Str}{pm ctv:Value}{f c' t:Addr}{its:Array Value}{k:Int}{tk:Tok}{Q:Value->Shared->Prop}(hd:(x==("__debug__":Str))=false)
  (hbind:∀(name qual:Str)(pm cv ctv v:Value),bindArgs (kla_fn name qual (jJ x pa) (m7 x p1 p2 p3) (lV x) [] pm cv ctv) ⟨[v],[]⟩=pure [(x,v)])
  (hf:s.heap.get? f=some (kla_obj name qual (jJ x pa) (m7 x p1 p2 p3) (lV x) [] pm c' ctv)) (hrec:s.heap.CodeRec (.ref c') qual) (hroom:A.depth<recursionLimit) (hlim:s.heap.NoLimit) (ht:IsTup s.heap t its) (h0:its[0]? = some (.int k tk))
  (h:∀ h' tk',(∀ b o,s.heap.get? b=some o->h'.get? b=some o)->Q (.int k tk) { s with heap:=h',toks:=tk' }):wpAny (model prog w) A (call (.ref f) [.ref t]) Q E s:=by
 refine wpAny_call (PySem.W.kla_callFunE (body:=m7 x p1 p2 p3) hroom hf rfl rfl rfl rfl hrec ?_);rw[hbind];refine wpAny_pure (wpAny_newFunctionEnv ?_ ?_ (fun h₁ hns hsb=>⟨hlim.fresh _ hsb,?_⟩) rfl)
 ·intro y hy;rw[mem_singleton.mp hy];exact fun z=>nomatch z
 ·intro y hy;rw[mem_singleton.mp hy];show List.lookup x [(x,NameKind.local)]=_;simp[List.lookup]
 have old:∀ b o,s.heap.get? b=some o->h₁.get? b=some o:=fun b o e=>hsb.extBut b o (Nat.ne_of_lt (Heap.lt_size e)) (Heap.get?_push_of_some _ e);refine PySem.W.kla_codeExpr ?_;refine Th (t:=t) (its:=its) (k:=k) (tk:=tk) rfl ?_ hns ?_ ?_ h0 hd fun tk'=>h h₁ tk' old
 ·show List.lookup x [(x,NameKind.local)]=_;simp[List.lookup]
 ·simp[List.lookup]
 ·obtain⟨o,e,r⟩:=ht;exact⟨o,old _ _ e,r⟩
end
theorem YZ {h:Heap}{a:Addr}{m m':Str->Option Value}(x:h.Ns a m)(y:h.Ns a m'):m=m':=by
 obtain⟨o,es,ep,e1,e2,_,e3⟩:=x;obtain⟨o',es',ep',f1,f2,_,f3⟩:=y;rw[e1]at f1;cases f1;rw[e2]at f2;cases f2
 funext n
 rw[<-e3,<-f3]
def Cc (c:Addr)(q:Str):HO:=.ext fun h=>h.CodeRec (.ref c) q
theorem Tj {P:Program}{w:World}{H:Hp}{h:Heap}{c:Addr}{q:Str}(x:h.CodeRec (.ref c) q):cG P w H h c (Cc c q):=by
 refine⟨x,?_,fun h1 h2 y k=>?_⟩
 ·obtain⟨c',o,vs,t,e,e1,_⟩:=x;cases e;exact⟨o,e1⟩
 ·obtain⟨c',o,vs,t,e,e1,r⟩:=y;cases e;exact⟨c,o,vs,t,rfl,k o e1,r⟩
def P7 (P:Addr)(lp:Pos)(q:Str)(H:Hp):Prop:=∃(ps:Array Value)(c:Addr),H P=some (.yL ps)/\TriplesOk ps.toList/\codeAmong lp ps.toList=some (.ref c)/\H c=some (Cc c q)
def Tn (P:Addr)(lp:Pos)(H:Hp):Prop:=∃ ps:Array Value,H P=some (.yL ps)/\TriplesOk ps.toList/\codeAmong lp ps.toList=none
def LK (K:Frag)(mg:Str->Option Value)(cv:Value)(P:Addr):Prop:=∃ c:Addr,cv=.ref c/\(∀ h:Heap,K.In h->CodeHd h c P)/\∃(bm:Addr)(ob:Obj),mg "__builtins__"=some (.ref bm)/\bm≠builtinsNs/\K.lookup bm=some ob/\ob.cls=.type "module"/\ob.dict=some builtinsNs/\ob.data=.plain
section
variable {X:Cx} {pins:List (Addr×Obj)} {σ:St} {H:Hp} {s:Shared} {E:Value->Shared->Prop} {P:Addr} {lp:Pos} {params:Arguments} {body:Expr} {scope:Scope} {Q:Value->Shared->Prop}
theorem To (I:Inv X pins σ H s)(hK:LK X.K X.mg X.env.code P)(hL:P7 P lp (X.env.qual ++ "<lambda>") H\/Tn P lp H)(hdef:defaultsOf params X.env=([],[]))(hfree:∀ x∈scope.names,x.2≠.free)
  (h:∀(f c':Addr)(ps ps':Array Value)(ctv pm:Value)(h':Heap)(tk:Nat),H P=some (.yL ps)->(∃ more,ps'=ps++more)->(∀ b o,b≠P->s.heap.get? b=some o->h'.get? b=some o)->h'.get? P=some (tabObj ps')->TriplesOk ps'.toList->codeAmong lp ps'.toList=some (.ref c') ->
   h'.CodeRec (.ref c') (X.env.qual ++ "<lambda>")->(H c'=some (Cc c' (X.env.qual ++ "<lambda>"))\/s.heap.objs.size<=c')->h'.get? f=some (kla_obj "<lambda>" (X.env.qual ++ "<lambda>") params body scope [] pm c' ctv) ->
   Q (.ref f) { s with heap:=h',toks:=tk }):wpAny (model X.prog X.w) X.A (eval (.Lambda params body scope lp) X.env) Q E s:=by
 obtain⟨c,hc,hC,bm,ob,b1,b2,b3,b4,b5,b6⟩:=hK;refine PySem.W.kla_eval hdef ?_;have hg:s.heap.Ns mainGlobals X.mg:=I.mod.glob.keeps I.bk;have C:=hC _ I.Fl;have hcl:=closureFor_none (env:=X.env) hfree;have nP:∀{b:Addr} {o:Obj},X.base.get? b=some o->H P≠none->b≠P:=fun {b o} e n z=>n (z ▸ (I.bs b o e).2);have hbm:=I.mod.kin _ _ b3;have hgm:bm≠mainGlobals:=fun z=>by
  obtain⟨o,es,ep,e,d,_⟩:=I.mod.glob;rw[z,e]at hbm;cases hbm;rw[d]at b6;cases b6
 rcases hL with ⟨ps,c',h1,h2,h3,h4⟩|⟨ps,h1,h2,h3⟩
 ·have hP:s.heap.get? P=some (tabObj ps):=I.hok P _ h1;have hrec:s.heap.CodeRec (.ref c') (X.env.qual ++ "<lambda>"):=(I.hok c' _ h4).1;refine PySem.W.kla_makeFunctionHit (mg:=X.mg) hcl I.ok.glob hg hc C hP h2 h3 ⟨bm,ob,b1,b2,hgm,nP hbm (by rw[h1];exact Option.some_ne_none _),I.bk _ _ hbm,b4,b5,b6⟩ fun ctv h' tk hk hsz=>?_;refine h _ c' ps ps ctv _ _ tk h1 ⟨#[],by simp⟩ (fun b o _ e=>Heap.get?_push_of_some _ (hk b o e)) (Heap.get?_push_of_some _ (hk _ _ hP)) h2 h3 ?_ (.inl h4) (Heap.get?_push_size _ rfl);obtain⟨d,o,vs,t,e,e1,r⟩:=hrec;exact⟨d,o,vs,t,e,Heap.get?_push_of_some _ (hk _ _ e1),r⟩
 ·have hP:s.heap.get? P=some (tabObj ps):=I.hok P _ h1;have gP:mainGlobals≠P:=by
   obtain⟨o,es,ep,e,d,_⟩:=I.mod.glob;exact nP e (by rw[h1];exact Option.some_ne_none _)
  refine PySem.W.kla_makeFunction (mg:=X.mg) hcl I.ok.glob hg hc C hP h2 h3 gP ⟨bm,ob,b1,b2,hgm,nP hbm (by rw[h1];exact Option.some_ne_none _),I.bk _ _ hbm,b4,b5,b6⟩ fun c' ctv h' tk hx hge hlt hrec htb=>?_;have hl:(ps ++ #[rawInt lp.line,rawInt lp.col,Value.ref c']).toList=ps.toList++[rawInt lp.line,rawInt lp.col,.ref c']:=by simp
  refine h _ c' ps _ ctv _ _ tk h1 ⟨_,rfl⟩ (fun b o n e=>Heap.get?_push_of_some _ (hx b o n e)) (Heap.get?_push_of_some _ htb) (by rw[hl];exact TriplesOk_snoc _ _ _ _ h2) (by rw[hl];exact codeAmong_snoc _ h2 h3) ?_ (.inr hge) (Heap.get?_push_size _ rfl);obtain⟨d,o,vs,t,e,e1,r⟩:=hrec;exact⟨d,o,vs,t,e,Heap.get?_push_of_some _ e1,r⟩
end
section
open Att
variable {X:Cx} {P:Addr} {lp:Pos}
def VZ (P:Addr)(lp:Pos)(q:Str)(te:TA):TE:=fun σ H Q=>te σ H fun xs H1=>∃(a:Addr)(vs:List V)(kf:Nat->Int),xs=[.ref a]/\H1 a=some (.lst vs)/\0<vs.length/\(P7 P lp q H1\/Tn P lp H1) /\
 (∀ i v,vs[i]? = some v->∃(p:Addr)(r:List V),v=.ref p/\H1 p=some (.tup (.int (kf i)::r))) /\
 ∀ i v H',vs[i]? = some v->(∀ j,j<vs.length->kf i<=kf j/\(j<i->kf i<kf j))->(∀ b o,H1 b=some o->b≠P->H' b=some o)->(∀ b,H' b=none->H1 b=none)->P7 P lp q H'->Q v H'
theorem Q5 {e:Expr}{te:TA}{x:Str}{pa p1 p2 p3 p kp pos:Pos}{k:Nat}(hr:kU k X.A)(hg:Gl X "min")(hm:X.mg "min"=none)(hK:LK X.K X.mg X.env.code P)(he:PA X [e] te)
  (hd:(x==("__debug__":Str))=false) (hbind:∀(name qual:Str)(pm cv ctv v:Value),bindArgs (kla_fn name qual (jJ x pa) (m7 x p1 p2 p3) (lV x) [] pm cv ctv) ⟨[v],[]⟩=pure [(x,v)])
  (h1:starEach [e] X.env=(false,eval e X.env)::starEach [] X.env:=by rfl) (h2:(backTo pos (starEach [e] X.env)).any (·.1)=false:=by rfl)
  (h3:(backToKw pos (keywordEach [⟨some "key",.Lambda (jJ x pa) (m7 x p1 p2 p3) (lV x) lp,kp⟩] X.env)).all (·.1.isSome)=true:=by rfl) (h4:(backToKw pos (keywordEach [⟨some "key",.Lambda (jJ x pa) (m7 x p1 p2 p3) (lV x) lp,kp⟩] X.env)).any (·.1.isNone)=false:=by rfl) :
  PE X (.Call (.Name "min" p) [e] [⟨some "key",.Lambda (jJ x pa) (m7 x p1 p2 p3) (lV x) lp,kp⟩] pos) (VZ P lp (X.env.qual ++ "<lambda>") te):=by
 intro pins s σ H Q I h;refine wpAny_Call_Name_kw (vS I hg hm boot_min (callWith_builtin_kwB h2 h4 (evalArgs_kw2 h3 (cV (he pos pins s σ H _ I h) fun us s1 ⟨vs0,H1,I1,r1,a,vs,kf,e1,ha,hne,hL,htup,q⟩=>kwAll_cons ?_) h1)) (by decide) (by decide));subst e1;obtain⟨u,rfl,rfl⟩:=r1.one;refine To I1 hK hL rfl (fun y hy=>?_) fun f c' ps ps' ctv pm h' tk hPs hmore old hP' htr hca hrec hc' hf=>kwAll_nil ?_
 ·rw[mem_singleton.mp hy];exact fun z=>nomatch z
 show wpAny (model X.prog X.w) X.A (call (.builtin "min") [.ref a] [(Str.ofString "key",.ref f)]) (EP X pins σ Q) X.xe { s1 with heap:=h',toks:=tk };obtain⟨m,hn,hl⟩:=id I1.loc;have hLn:H1 X.env.locals=none:=I1.free;have LP:X.env.locals≠P:=fun z=>by rw[z,hPs]at hLn;cases hLn
 have hn':h'.Ns X.env.locals m:=by
  obtain⟨o,es,ep,e,r⟩:=hn;exact⟨o,es,ep,old _ _ LP e,r⟩
 have Vq:∀{b u},H1 b=some u->b≠X.env.locals:=fun {b u} e z=>by rw[z,hLn]at e;cases e
 have N0:News (vX h') X.env.locals h' (ledger h' X.env.locals X.env.locals):=fun⟨b,o⟩ hp=>by
  obtain⟨n1,_,e⟩:=B2.mp hp;exact⟨e,n1,B1 _ _⟩
 have XG:∀{h'':Heap} {own:List (Addr×Obj)},News (vX h') X.env.locals h'' (ledger h' X.env.locals X.env.locals++own)->∀ b o,b≠X.env.locals->h'.get? b=some o->h''.get? b=some o:=fun {h'' own} N b o n e=>(N (b,o) (mem_append_left _ (B2.mpr ⟨n,n,e⟩))).1;have Tp:∀{h'':Heap},News (vX h') X.env.locals h'' (ledger h' X.env.locals X.env.locals)->∀ b o,b≠X.env.locals->h'.get? b=some o->h''.get? b=some o:=fun {h''} N=>XG (own:=[]) (by rw[append_nil];exact N);obtain⟨hz,its,nn,rv,hit⟩:=I1.hok a _ ha;have aP:a≠P:=fun z=>by rw[z,hPs]at ha;cases ha
 have hlen:=rv.length;have fP:f≠X.env.locals:=fun z=>by
  obtain⟨o,es,ep,e,d,_⟩:=hn';rw[<-z,hf]at e;cases e;cases d
 have cP:c'≠X.env.locals:=fun z=>by
  obtain⟨o,es,ep,e,d,_⟩:=hn';obtain⟨c2,o2,vs2,t2,e2,g2,d2,_⟩:=hrec;cases e2;rw[z,e]at g2;cases g2;rw[d]at d2;cases d2
 have aaL:∀{g:Heap},(∀ b o,b≠X.env.locals->h'.get? b=some o->g.get? b=some o)->g.NoLimit:=fun {g} k=>I1.mod.nolimit.keeps fun b o e=>by
  have e1:=I1.bs b o e;refine k b o (fun z=>?_) (old b o (fun z=>?_) e1.1)
  ·exact absurd (Nat.lt_of_lt_of_le (Heap.lt_size e) (Nat.le_trans I1.ok.Vh I1.ok.above)) (by rw[z];exact Nat.lt_irrefl _)
  ·rw[z,hPs]at e1;cases e1.2
 refine kmk_min (s:={ s1 with heap:=h',toks:=tk }) (vs:=its) kf hr.hd (YG hn') N0 (fun g F N=>?_) (by rw[<-hlen];exact hne) (fun i v hv g tk2 own F N=>?_) fun i v g tk2 hv hbest F N=>?_
 ·exact⟨_,Tp N _ _ (Vq ha) (old _ _ aP hit),rfl,_,rfl⟩
 ·obtain⟨y,hy,ry⟩:∃ y,vs[i]? = some y/\RelV y v:=by
   have hi:i<vs.length:=by rw[hlen];exact(List.getElem?_eq_some_iff.mp hv).1
   obtain⟨u,hu,ru⟩:=rv.get (getElem?_eq_getElem hi);rw[hv]at hu;cases hu;exact⟨_,getElem?_eq_getElem hi,ru⟩
  obtain⟨t,r,rfl,ht⟩:=htup i y hy;obtain rfl:v=.ref t:=ry;obtain⟨_,aaM,tr,to,te1,te2⟩:=I1.hok t _ ht;have tP:t≠P:=fun z=>by rw[z,hPs]at ht;cases ht
  obtain⟨z,zr,hzc,rz⟩:∃ z zr,aaM=z::zr/\RelV (.int (kf i)) z:=by
   cases tr with
   |cons h _=>exact⟨_,_,rfl,h⟩
  obtain⟨tz,rfl⟩:=rz;have kp:=XG N;refine Ti (s:={ s1 with heap:=g,toks:=tk2 }) (t:=t) (its:=aaM.toArray) (k:=kf i) (tk:=tz) hd hbind (kp _ _ fP hf) ?_ ?_ (aaL kp) ⟨to,kp _ _ (Vq ht) (old _ _ tP te1),te2⟩ (by rw[hzc];rfl) fun g2 tk3 k2=>?_
  ·obtain⟨d,o,vs2,t2,e,e1,r2⟩:=hrec;cases e;exact⟨_,o,vs2,t2,rfl,kp _ _ cP e1,r2⟩
  ·have:=hr.dp;show X.A.depth<recursionLimit;omega
  ·exact⟨g2,tk3,tz,rfl,rfl,⟨F.ns.keeps k2,fun b o e=>k2 b o (F.keep b o e),F.above⟩,fun p hp=>⟨k2 _ _ (N p hp).1,(N p hp).2⟩⟩
 ·obtain⟨y,hy,ry⟩:∃ y,vs[i]? = some y/\RelV y v:=by
   have hi:i<vs.length:=by rw[hlen];exact(List.getElem?_eq_some_iff.mp hv).1
   obtain⟨u,hu,ru⟩:=rv.get (getElem?_eq_getElem hi);rw[hv]at hu;cases hu;exact⟨_,getElem?_eq_getElem hi,ru⟩
  have kp:=Tp N;have all:∀ b o,b≠P->b≠X.env.locals->s1.heap.get? b=some o->g.get? b=some o:=fun b o n1 n2 e=>kp b o n2 (old b o n1 e);have hc2:∀{b u},H1 b=some u->(∀ q,u≠Cc c' q)->b≠c':=fun {b u} e n z=>by
   rcases hc' with w1|w1
   ·rw[z,w1]at e;exact n _ (Option.some.inj e).symm
   ·rw[z,I1.hok.fresh w1]at e;cases e
  have cPt:c'≠P:=fun z=>by
   rcases hc' with w1|w1
   ·rw[z,hPs]at w1;cases w1
   ·have:=I1.hok.fresh w1;rw[z,hPs]at this;cases this
  obtain⟨more,rfl⟩:=hmore;have hHP:upd (upd H1 P (.yL (ps++more))) c' (Cc c' (X.env.qual ++ "<lambda>")) P=some (.yL (ps++more)):=by rw[ar (Ne.symm cPt),ai]
  have He:∀ b u,H1 b=some u->b≠P->upd (upd H1 P (.yL (ps++more))) c' (Cc c' (X.env.qual ++ "<lambda>")) b=some u:=fun b u e n=>by
   by_cases hb:b=c'
   ·subst hb;rcases hc' with w1|w1
    ·rw[w1]at e;rw[ai];exact e
    ·rw[I1.hok.fresh w1]at e;cases e
   ·rw[ar hb,ar n];exact e
  refine⟨y,upd (upd H1 P (.yL (ps++more))) c' (Cc c' (X.env.qual ++ "<lambda>")),?_,ry,q i y _ hy (fun j hj=>hbest j (by rw[<-hlen];exact hj)) He (fun b hb=>?_) ⟨_,c',hHP,htr,hca,ai⟩⟩
  ·refine Inv.step (s:=s1) (h':=g) (t':=tk2) I1 (g':=s1.gens) (d':=s1.drawn) (ch:=[]) (fun _ z=>nomatch z) (fun b o n _ _ e z=>all b o (fun w1=>by rw[w1,hPs]at z;cases z) n e) (fun b o n _ _ e z=>⟨o.slots,all b o (fun w1=>by rw[w1,hPs]at z;cases z) n e⟩) (fun b o _ e z=>?_) (fun b o _ e=>?_)
    (fun b xs e=>He b _ e fun w1=>by rw[w1,hPs]at e;cases e) (fun b o u e=>He b _ e fun w1=>by rw[w1,hPs]at e;cases e) (fun b qs e=>?_) (fun m' hm'=>?_) (fun b u e=>?_) I1.bare
   ·rw[ar,ar]
    ·exact z
    ·intro w1;rw[w1,hPs]at z;cases z
    ·intro w1;rcases hc' with w2|w2
     ·rw[w1,w2]at z;cases z
     ·exact absurd (Nat.lt_of_lt_of_le (Heap.lt_size e) (w1 ▸ w2)) (Nat.lt_irrefl _)
   ·by_cases b1:b=P
    ·rw[b1];exact⟨_,kp _ _ (Ne.symm LP) hP'⟩
    ·by_cases b2:b=X.env.locals
     ·obtain⟨o',es,ep,e',_⟩:=F.ns;rw[b2];exact⟨o',e'⟩
     ·exact⟨o,all b o b1 b2 e⟩
   ·by_cases b1:b=P
    ·subst b1;rw[hPs]at e;cases e;exact⟨more,hHP⟩
    ·exact⟨#[],by rw[He b _ e b1];simp⟩
   ·rw[<-YZ hn hm'];exact F.ns
   ·by_cases b1:b=c'
    ·subst b1;rw[ai]at e;cases e;obtain⟨d,o,vs2,t2,e0,e1,r2⟩:=hrec;cases e0;exact Tj ⟨_,o,vs2,t2,rfl,kp _ _ cP e1,r2⟩
    ·rw[ar b1]at e
     by_cases b2:b=P
     ·subst b2;rw[ai]at e;cases e;exact kp _ _ (Ne.symm LP) hP'
     ·rw[ar b2]at e;refine(I1.hok b u e).stay (fun d o hd' e'=>all d o ?_ ?_ e') (fun d e'=>He d _ e' ?_) fun d xs e'=>He d _ e' ?_
      ·rcases hd' with rfl|hd'
       ·exact b2
       ·intro w1;rw[w1,hPs]at hd';cases hd'
      ·rcases hd' with rfl|hd'
       ·exact Vq e
       ·exact Vq hd'
      ·intro w1;rw[w1,hPs]at e';cases e'
      ·intro w1;rw[w1,hPs]at e';cases e'
  ·by_cases b1:b=c'
   ·rw[b1,ai]at hb;cases hb
   ·rw[ar b1]at hb
    by_cases b2:b=P
    ·rw[b2,ai]at hb;cases hb
    ·rw[ar b2]at hb;exact hb
end
def P8 (P:Addr)(ps:Array Value)(H:Hp):Prop:=H P=some (.yL ps)/\∀ b,b≠P->H b=none\/∃ o xs,H b=some (.jI o (.lst xs))
theorem Q6 {P:Program}{w:World}{K:Frag}{mg mb:Str->Option Value}{CX:SJ}{k:Nat}{fa a T:Addr}{ps:Array Value}{fd:FuncData}{x:Str}{sp:Sp}{s₁:Shared}{vs:List Value}{ns:List Int}
  (KX:K.In s₁.heap) (hKT:K.lookup T=none) (hT:s₁.heap.get? T=some (tabObj ps)) (hct:isCodeTable s₁.heap T)
  (hns:s₁.heap.Ns mainGlobals mg) (hb:s₁.heap.Ns builtinsNs mb) (hbb:∀ x:Str,x ≠ "__name__"->mb x=bootBuiltins x) (hlim:s₁.heap.NoLimit) (hg:s₁.gens = #[])
  (ha:s₁.heap.get? a=some { cls:=.type "list",data:=.seq vs.toArray }) (hi:IntsAre vs ns) (hl:ns.length<=sizeLine) (hr:kU k callerA)
  (F:∀ base:Heap,K.In base->base.Ns mainGlobals mg->cA P w K mg base CX k fa fd [x] sp) (hbind:∀(s:Shared)(u:Value),BindsTo s fd ⟨[u],[]⟩ [(x,u)])
  (hsp:∀ H:Hp,P8 T ps H->a6 K H a (ns.map V.int)->sp [.ref a] H (fun v _=>v=.bl true) fun _ _ _=>False)
  (hCX:∀ H e s',CX [] H s₁ (fun _ _ _=>False) e s'->False) :
  codeAny (model P w) callerA (.call (.ref fa) ⟨[.ref a],[]⟩) (fun r s'=>r=.ok (.ret (.bool true))/\OldK s₁.heap s'.heap/\s'.os=s₁.os/\AllBare s'.gens) s₁:=by
 have rv:=G0 hi;have lenV:=hi.length;have aT:a≠T:=fun z=>by rw[z,hT]at ha;cases ha
 have core:∀ H:Hp,P8 T ps H->a6 K H a (ns.map V.int)->qG P w H s₁.heap->(∀ b,H b≠none->b=a\/b=T)->(H a≠none->K.lookup a=none) ->
   codeAny (model P w) callerA (.call (.ref fa) ⟨[.ref a],[]⟩) (fun r s'=>r=.ok (.ret (.bool true))/\OldK s₁.heap s'.heap/\s'.os=s₁.os/\AllBare s'.gens) s₁:=by
  intro H hO hS hok hA hK;have P9:∀{b:Addr} {o:Obj},s₁.heap.get? b=some o->H b=none->(HR s₁.heap H).get? b=some o:=fun e n=>Sq e n;have noA:∀{b:Addr} {o:Obj} {es:Array DictEntry} {ep:Nat},s₁.heap.get? b=some o->o.data=.dict es ep->H b=none:=fun {b o es ep} e d=>by
   cases q:H b with
   |none=>rfl
   |some u =>
    rcases hA b (by rw[q];simp) with e'|e'
    ·subst e';rw[ha]at e;cases e;have d':Data.seq vs.toArray _=Data.dict es ep:=d;cases d'
    ·subst e';rw[hT]at e;cases e;have d':Data.fields ps=Data.dict es ep:=d;cases d'
  have nsK:∀{b:Addr} {m:Str->Option Value},s₁.heap.Ns b m->(HR s₁.heap H).Ns b m:=fun {b m} ⟨o,es,ep,e,d,r⟩=>⟨o,es,ep,P9 e (noA e d),d,r⟩;have hKb:K.In (HR s₁.heap H):=fun b o e=>P9 (KX b o e) (by
   cases q:H b with
   |none=>rfl
   |some u =>
    rcases hA b (by rw[q];simp) with e'|e'
    ·subst e';rw[hK (by rw[q];simp)]at e;cases e
    ·subst e';rw[hKT]at e;cases e)
  have hM:Mod K mg (HR s₁.heap H):=⟨hKb,nsK hns,⟨mb,nsK hb,hbb⟩,let ⟨mc,h1,h2⟩:=hlim;⟨mc,nsK h1,h2⟩⟩;have e0:Vx P w K mg (HR s₁.heap H) callerA [] s₁ H:=⟨rfl,hM,fun b o e=>Vr e,Nat.le_of_eq (QH _ _),trivial,fun b hb=>absurd (show b∈([]:List Addr) from hb) (by simp),hok,.of_eq hg⟩;refine codeAny_mono ((F _ hKb (nsK hns)).run callerA [] s₁ H ⟨[.ref a],[]⟩ [.ref a] [.ref a] _ _ hr e0 (hbind s₁ (.ref a)) (.cons rfl .nil) (hsp H hO hS)) fun r s' h=>?_;cases r with
  |error e=>exact(hCX H e s' h).elim
  |ok fl =>
   cases fl with
   |next=>exact False.elim h
   |brk=>exact False.elim h
   |cont=>exact False.elim h
   |ret u =>
    obtain⟨v,H',os,bare,un,hok',r',q⟩:=h;have q':v=.bl true:=q;subst q';obtain rfl:u=Value.bool true:=r';refine⟨rfl,⟨fun b o e=>?_,fun b o e=>un.there b o e (by simp)⟩,os,bare⟩;cases q:H b with
    |none=>exact .inl (un.keep b o e q (by intro z;exact absurd (show b∈([]:List Addr) from z) (by simp)) (by simp))
    |some u =>
     by_cases bT:b=T
     ·subst bT;obtain⟨more,hm⟩:=un.BU _ _ hO.1;have e2:s'.heap.get? b=some { cls:=.none,data:=.fields (ps++more) }:=hok' _ _ hm;rw[hT]at e;cases e;exact .inr (.inl ⟨hct,rfl,ps,more,rfl,e2⟩)
     ·rcases hO.2 b bT with z|⟨ob,xs,z⟩
      ·rw[q]at z;cases z
      ·have z2:=un.yW b ob _ z;obtain⟨e1,_⟩:=hok b _ z;obtain⟨e2,_⟩:=hok' b _ z2;rw[e]at e1;cases e1;exact .inl e2
 have tOk:∀{H:Hp},cG P w H s₁.heap T (.yL ps):=hT;cases hk:K.lookup a with
 |some o =>
  have e:=KX a o hk;rw[ha]at e;cases e;refine core (upd (fun _=>none) T (.yL ps)) ⟨ai,fun b n=>.inl (by rw[ar n])⟩ (.inr ⟨_,vs.toArray,_,hk,rfl,rfl,rfl,by rw[size_toArray,lenV];exact hl,by simpa using rv⟩) (fun b u z=>?_) (fun b z=>?_) fun z=>absurd (by rw[ar aT]) z
  ·by_cases hb:b=T
   ·subst hb;rw[ai]at z;cases z;exact tOk
   ·rw[ar hb]at z;cases z
  ·by_cases hb:b=T
   ·exact .inr hb
   ·exact absurd (by rw[ar hb]) z
 |none =>
  have fz:upd (upd (fun _=>none) T (.yL ps)) a (.jI { cls:=.type "list",data:=.seq vs.toArray } (.lst (ns.map V.int))) a=some (.jI { cls:=.type "list",data:=.seq vs.toArray } (.lst (ns.map V.int))):=ai;refine core (upd (upd (fun _=>none) T (.yL ps)) a (.jI { cls:=.type "list",data:=.seq vs.toArray } (.lst (ns.map V.int)))) ⟨by rw[ar (Ne.symm aT),ai],fun b n=>?_⟩ (.inl (.inr ⟨{ cls:=.type "list",data:=.seq vs.toArray },fz⟩)) (fun b u z=>?_) (fun b z=>?_) fun _=>hk
  ·by_cases hb:b=a
   ·exact .inr ⟨_,_,by rw[hb];exact fz⟩
   ·exact .inl (by rw[ar hb,ar n])
  ·by_cases hb:b=a
   ·subst hb;rw[ai]at z;cases z;exact⟨ha,by rw[length_map];exact hl,vs,_,rv,ha⟩
   ·rw[ar hb]at z
    by_cases hb2:b=T
    ·subst hb2;rw[ai]at z;cases z;exact tOk
    ·rw[ar hb2]at z;cases z
  ·by_cases hb:b=a
   ·exact .inl hb
   ·by_cases hb2:b=T
    ·exact .inr hb2
    ·exact absurd (by rw[ar hb,ar hb2]) z
theorem Tq {l:OpenLaw}{n k:Nat}{q:Program}{loose:List Str}{XP:(Str->Option Value)->Heap->Prop}{YP:World->Heap->Prop}{d:DefRec}{K K':Params->Frag}{CX:World->SJ}{sp:World->Sp}{x:Str}{T:Addr}{ps:Array Value}
  (hn:l.most=some n) (hn2:n<=sizeLine) (hdf:d.params.defaults=[]) (hr:kU k callerA)
  (hY:∀(w:World)(h:Heap),YP w h->(K' w.params).In h) (hKK:∀(p:Params) a o,(K p).lookup a=some o->(K' p).lookup a=some o) (hT:∀ p:Params,(K' p).lookup T=some (tabObj ps)) (hKT:∀ p:Params,(K p).lookup T=none)
  (F:∀(w:World)(mg:Str->Option Value)(fa:Addr)(h:Heap),(K w.params).In h->h.Ns mainGlobals mg->mg d.name=some (.ref fa) ->
   ∃ fd:FuncData,(∀(s:Shared)(u:Value),BindsTo s fd ⟨[u],[]⟩ [(x,u)])/\(∃ cv,LK (K w.params) mg cv T) /\
    ∀ base:Heap,(K w.params).In base->base.Ns mainGlobals mg->cA l.prog w (K w.params) mg base (CX w) k fa fd [x] (sp w))
  (hsp:∀(w:World)(H:Hp)(a:Addr)(ns:List Int),ns.length<=n->P8 T ps H->a6 (K w.params) H a (ns.map V.int)->sp w [.ref a] H (fun v _=>v=.bl true) fun _ _ _=>False)
  (hCX:∀(w:World)(H:Hp)(s:Shared)(e:Value)(s':Shared),CX w [] H s (fun _ _ _=>False) e s'->False) :
  WalkO q loose XP YP l.row.toRowW d [] (fun f vs=>PySem.call f vs):=by
 refine Att.Lz hn hdf fun w s₀ s₁ mg mb fa o pm cd doc a vs ns G Y ho hd hcd hmg hobj hints hlen hg=>?_;have KX':=hY w _ Y;have KX:(K w.params).In s₁.heap:=fun a o e=>KX' a o (hKK _ a o e);obtain⟨fd,hb,⟨cv,c,_,hC,_⟩,hF⟩:=F w mg fa _ KX G.T.g hmg;obtain⟨oc,vc,_,_,_,_,_,_,_,c1,c2,c3,c4,_⟩:=hC _ KX;exact Q6 KX (hKT _) (KX' _ _ (hT _)) ⟨c,oc,vc,c1,c2,c3,c4⟩ G.T.g G.T.b G.T.builtins G.T.nolimit hg hobj hints (Nat.le_trans hlen hn2) hr hF hb (fun H hO hS=>hsp w H a ns hlen hO hS) fun H e s'=>hCX w H s₁ e s'
def adT (ta tb:TE):TE:=fun σ H Q=>ta σ H fun x H1=>(x=.non/\tb σ H1 Q)\/∃ n:Int,x=.int n/\((n≠0/\Q (.int n) H1)\/(n=0/\tb σ H1 Q))
theorem m8 {X:Cx}{a b:Expr}{rest:List Expr}{pos:Pos}{ta tb:TE}(ha:PE X a ta)(hb:PE X (.BoolOp .Or (b::rest) pos) tb):PE X (.BoolOp .Or (a::b::rest) pos) (adT ta tb):=by
 intro pins s σ H Q I h;refine BoolOp_or (cV (ha pins s σ H _ I h) fun v s1 ⟨x,H1,I1,r1,q1⟩=>?_);rcases q1 with ⟨rfl,q1⟩|⟨n,rfl,q1⟩
 ·cases (show v=Value.none from r1);exact truthy_none (hb pins s1 σ H1 Q I1 q1)
 ·obtain⟨t,rfl⟩:=r1;refine truthy_int ?_;rcases q1 with ⟨h0,q1⟩|⟨rfl,q1⟩
  ·have e:(n != 0)=true:=by simpa using h0
   rw[e];exact⟨.int n,H1,I1,⟨t,rfl⟩,q1⟩
  ·exact hb pins s1 σ H1 Q I1 q1
end L2
set_option maxHeartbeats 1000000
namespace jY
open PySem L2
inductive Kd where
 |G|D|R|s|d|r|dot|three|two
 deriving DecidableEq,Repr
def Kd.str:Kd->Str
 |.G=>"G" | .D=>"D" | .R=>"R" | .s=>"s" | .d=>"d" | .r=>"r" | .dot=>"." | .three=>"3" | .two=>"2"
def Kd.cp:Kd->Nat
 |.G=>71|.D=>68|.R=>82|.s=>115|.d=>100|.r=>114|.dot=>46|.three=>51|.two=>50
def Kd.great:Kd->Bool
 |.G=>true|.D=>true|.R=>true|_=>false
def Kd.small:Kd->Bool
 |.s=>true|.d=>true|.r=>true|_=>false
def Kd.parting:Kd->Bool
 |.dot=>true|.three=>true|.two=>true|_=>false
def Kd.meas:Kd->Bool
 |.three=>true|.two=>true|_=>false
def Kd.gn:Kd->Bool
 |.G=>true|.D=>true|.s=>true|.d=>true|_=>false
abbrev Sg:=Kd×Int
def Ts (x y:Str):Bool:=!(Builtin.Str.occurrences y x 0 y.length 1).isEmpty
theorem aaO (k:Kd):k.str=⟨#[k.cp]⟩:=by cases k <;> decide +kernel
theorem str_inj {a b:Kd}:a.str=b.str ↔ a=b:=by
 constructor
 ·revert a b
  have:∀ a b:Kd,a.str=b.str->a=b:=by
   intro a b;cases a <;> cases b <;> first|(intro _;rfl)|(intro h;exact absurd h (by lk))
  exact fun {a b}=>this a b
 ·exact fun h=>by rw[h]
theorem adU (a b:Str):decide (V.str a=V.str b)=decide (a=b):=by
 by_cases h:a=b
 ·rw[h];simp
 ·rw[decide_eq_false h];exact decide_eq_false fun e=>h (V.str.inj e)
theorem Q7 (a b:Kd):decide (V.str a.str=V.str b.str)=decide (a=b):=by
 rw[adU];exact decide_eq_decide.mpr str_inj
theorem k_G (k:Kd):decide (V.str k.str=V.str "G")=decide (k=.G):=Q7 k .G
theorem k_D (k:Kd):decide (V.str k.str=V.str "D")=decide (k=.D):=Q7 k .D
theorem k_s (k:Kd):decide (V.str k.str=V.str "s")=decide (k=.s):=Q7 k .s
theorem Tt (k:Kd):decide (V.str k.str=V.str ".")=decide (k=.dot):=Q7 k .dot
theorem Qa (k:Kd):decide (V.str k.str=V.str "3")=decide (k=.three):=Q7 k .three
theorem XH (k:Kd):decide (V.str k.str=V.str "2")=decide (k=.two):=Q7 k .two
def Q8 (H:Hp)(v:V)(s:Sg):Prop:=∃ p,v=.ref p/\H p=some (.tup [.str s.1.str,.int s.2])
theorem Q8.same {H H':Hp}{v:V}{s:Sg}(e:ay H H')(h:Q8 H v s):Q8 H' v s:=by
 obtain⟨p,rfl,q⟩:=h;exact⟨p,rfl,e _ _ q⟩
abbrev Qb (H:Hp):List V->List Sg->Prop:=Paired (Q8 H)
theorem Qb.same {H H':Hp}(e:ay H H'):∀{xs:List V} {ss:List Sg},Qb H xs ss->Qb H' xs ss
 |_,_,.nil=>.nil
 |_,_,.cons a b=>.cons (a.same e) (Qb.same e b)
theorem qX {α β:Type}{F:α->β->Prop}:∀{xs:List α} {ys:List β} {i:Nat} {x:α},Paired F xs ys->xs[i]? = some x->∃ y,ys[i]? = some y/\F x y
 |_,_,_,_,.nil,e=>by simp at e
 |_,_,0,_,.cons r _,e=>by simp at e;subst e;exact⟨_,rfl,r⟩
 |_,_,i+1,x,.cons _ t,e=>by
  obtain⟨u,h1,h2⟩:=qX (i:=i) (x:=x) t (by simpa using e);exact⟨u,by simpa using h1,h2⟩
theorem XI {α β:Type}{F:α->β->Prop}:∀{xs:List α} {ys:List β} {i:Nat} {y:β},Paired F xs ys->ys[i]? = some y->∃ x,xs[i]? = some x/\F x y
 |_,_,_,_,.nil,e=>by simp at e
 |_,_,0,_,.cons r _,e=>by simp at e;subst e;exact⟨_,rfl,r⟩
 |_,_,i+1,x,.cons _ t,e=>by
  obtain⟨u,h1,h2⟩:=XI (i:=i) t (by simpa using e);exact⟨u,by simpa using h1,h2⟩
theorem d4 {α β:Type}{F:α->β->Prop}{xs:List α}{ys:List β}(h:Paired F xs ys):xs.length=ys.length:=Paired.length h
theorem og {α β:Type}{F:α->β->Prop}:∀{xs:List α} {ys:List β} {x:α} {y:β},Paired F xs ys->F x y->Paired F (xs++[x]) (ys++[y])
 |_,_,_,_,.nil,h=>.cons h .nil
 |_,_,_,_,.cons a b,h=>.cons a (og b h)
theorem aaP {α β:Type}{F:α->β->Prop}:∀{xs:List α} {ys:List β} {xs':List α} {ys':List β},Paired F xs ys->Paired F xs' ys'->Paired F (xs++xs') (ys++ys')
 |_,_,_,_,.nil,h=>h
 |_,_,_,_,.cons a b,h=>.cons a (aaP b h)
theorem XJ {α β:Type}{F:α->β->Prop}:∀{xs:List α} {ys:List β} (n:Nat),Paired F xs ys->Paired F (xs.drop n) (ys.drop n)
 |_,_,0,h=>h
 |_,_,n+1,.nil=>.nil
 |_,_,n+1,.cons a b=>XJ n b
theorem Tu {α β:Type}{F:α->β->Prop}:∀{xs:List α} {ys:List β} (n:Nat),Paired F xs ys->Paired F (xs.take n) (ys.take n)
 |_,_,0,h=>.nil
 |_,_,n+1,.nil=>.nil
 |_,_,n+1,.cons a b=>.cons a (Tu n b)
theorem bK {α β:Type}{F G:α->β->Prop}(h:∀ x y,F x y->G x y):∀{xs:List α} {ys:List β},Paired F xs ys->Paired G xs ys
 |_,_,.nil=>.nil
 |_,_,.cons a b=>.cons (h _ _ a) (bK h b)
theorem i8 {H0 H:Hp}{l:Addr}{o:HO}(s:ay H0 H)(hl:H0 l=none):ay H0 (upd H l o):=fun b u e=>by
 rw[ar (aC e hl)];exact s b u e
theorem XM {H:Hp}{D:Addr}{o:HO}{zs:List V}{v:V}{s:Sg}(hD:H D=some (.lst zs))(h:Q8 H v s):Q8 (upd H D o) v s:=by
 obtain⟨p,e,q⟩:=h;exact⟨p,e,by rw[ar (qF q hD (by intro z;cases z))];exact q⟩
theorem Tv {H:Hp}{D:Addr}{o:HO}{zs:List V}{xs:List V}{ss:List Sg}(hD:H D=some (.lst zs))(h:Qb H xs ss):Qb (upd H D o) xs ss:=bK (fun _ _ q=>XM hD q) h
theorem aaQ {K:Frag}{H:Hp}{a l:Addr}{o:HO}{xs:List V}(h:a6 K H a xs)(hn:a≠l):a6 K (upd H l o) a xs:=by
 rcases h with (h|⟨u,h⟩)|h
 ·exact .inl (.inl (by rw[ar hn];exact h))
 ·exact .inl (.inr ⟨u,by rw[ar hn];exact h⟩)
 ·exact .inr h
theorem Tw {ms:List Int}{i:Nat}{x:V}(h:(ms.map V.int)[i]? = some x):∃ z,ms[i]? = some z/\x=V.int z:=by
 rw[getElem?_map]at h;cases e:ms[i]? with
 |none=>rw[e]at h;cases h
 |some z=>rw[e]at h;exact⟨z,rfl,(Option.some.inj h).symm⟩
section
variable {K:Frag} {H:Hp} {p:Addr} {Q:VK}
theorem ix0 {a b:V}(h:H p=some (.tup [a,b]))(q:Q a H):Fn K (.ref p) (.int 0) H Q\/Fo K (.ref p) (.int 0) H Q\/Fp (.ref p) (.int 0) H Q:=.inr (.inl ⟨p,_,0,a,rfl,rfl,cz.of h,rfl,q⟩)
theorem ix1 {a b:V}(h:H p=some (.tup [a,b]))(q:Q b H):Fn K (.ref p) (.int 1) H Q\/Fo K (.ref p) (.int 1) H Q\/Fp (.ref p) (.int 1) H Q:=.inr (.inl ⟨p,_,1,b,rfl,rfl,cz.of h,rfl,q⟩)
theorem ZP {xs:List V}{i:Int}{n:Nat}{v:V}(h:a6 K H p xs)(hn:i=n)(e:xs[n]? = some v)(q:Q v H):Fn K (.ref p) (.int i) H Q\/Fo K (.ref p) (.int i) H Q\/Fp (.ref p) (.int i) H Q:=.inl ⟨p,xs,i,v,rfl,rfl,h,by rw[hn];exact HW e,q⟩
theorem adW {ns:List Int}{i:Int}{n:Nat}{z:Int}(h:a6 K H p (ns.map V.int))(hn:i=n)(e:ns[n]? = some z)(q:Q (.int z) H):Fn K (.ref p) (.int i) H Q\/Fo K (.ref p) (.int i) H Q\/Fp (.ref p) (.int i) H Q :=
 ZP h hn (by rw[getElem?_map,e];rfl) q
end
set_option maxHeartbeats 1000000
def nm (m:Int):Kd->Int
 |.three=>3
 |.two=>2
 |_=>m
def Ms (m:Int):Prop:=m=3\/m=2
theorem Ms.nm {m:Int}(h:Ms m)(k:Kd):Ms (nm m k):=by
 cases k <;> first|exact h|exact .inl rfl|exact .inr rfl
def pw:Kd->Int->Int
 |.G,m=>if m=2 then 2 else 3
 |.R,m=>if m=2 then 2 else 3
 |.D,_=>2
 |.s,_=>1
 |.d,_=>1
 |.r,_=>1
 |_,_=>0
def bw (m:Int)(k:Kd)(n:Option Kd):Int:=if m=2/\k=.G/\n=some .dot then 3 else pw k m
def aH (m:Int):List Kd->List Int
 |[]=>[]
 |k::t=>bw (nm m k) k t.head? :: aH (nm m k) t
theorem cL (m:Int)(ks:List Kd):(aH m ks).length=ks.length:=by
 induction ks generalizing m with
 |nil=>rfl
 |cons k t ih=>simp[aH,ih]
def inR (m:Int)(k:Kd):Bool:=decide (m≠2)&&k.small
def c6 (m:Int):List Kd->List Bool
 |[]=>[]
 |k::t=>inR (nm m k) k::c6 (nm m k) t
theorem oY (m:Int)(ks:List Kd):(c6 m ks).length=ks.length:=by
 induction ks generalizing m with
 |nil=>rfl
 |cons k t ih=>simp[c6,ih]
def aQ (at' first:Nat):List Bool->List (Nat×Nat)
 |[]=>if first<at' then [(first,at')] else []
 |true::t=>aQ (at'+1) first t
 |false::t=>(if first<at' then [(first,at')] else [])++aQ (at'+1) (at'+1) t
def bc (m:Int)(ks:List Kd):List (Nat×Nat):=aQ 0 0 (c6 m ks)
def Sk (ks:List Kd)(i:Int):Option Kd:=if 0<=i then ks[i.toNat]? else none
theorem V0 (ks:List Kd)(n:Nat):Sk ks (n:Int)=ks[n]?:=by
 unfold Sk;rw[if_pos (by omega)];rfl
def eA:Option Kd->Bool
 |some k=>k.great
 |none=>false
def bA (ks:List Kd)(f:List Int)(a:Nat):Bool:=decide (Sk ks ((a:Int)-1)=some .G)&&decide (f.getD (a-1) 0=3)
def bQ (ks:List Kd)(z:Nat):Bool:=decide (ks[z]? = some .G) && !eA ks[z+1]?
def i9 (ks:List Kd)(f:List Int)(a z:Nat):Bool×List Int:=if bA ks f a then(true,f.set (a-1) 2) else if bQ ks z then(true,f.set z 2) else(false,f)
def ja (ks:List Kd)(f:List Int)(a z:Nat):Bool×List Int:=if eA ks[z]? && decide (ks[z-1]? = some .s) then(true,f.set (z-1) 2) else if bA ks f a&&bQ ks z then(true,(f.set (a-1) 2).set z 2) else(false,f)
def settle (ks:List Kd)(f:List Int)(a z:Nat):Bool×List Int:=if(z-a) % 3=1 then i9 ks f a z else if(z-a) % 3=2 then ja ks f a z else(true,f)
theorem nc (ks:List Kd)(f:List Int)(a z:Nat):(settle ks f a z).2.length=f.length:=by
 unfold settle i9 ja
 repeat' split
 all_goals simp
abbrev Tx:=List Int×List (Nat×Nat)
def iF (ks:List Kd)(c:Tx)(p:Nat×Nat):Tx:=((settle ks c.1 p.1 p.2).2,if(settle ks c.1 p.1 p.2).1 then c.2 else c.2++[p])
def b7 (m:Int)(ks:List Kd):Tx:=(bc m ks).foldl (iF ks) (aH m ks,[])
theorem Tz (ks:List Kd)(rs:List (Nat×Nat))(c:Tx):(rs.foldl (iF ks) c).1.length=c.1.length:=by
 induction rs generalizing c with
 |nil=>rfl
 |cons p t ih=>rw[List.foldl_cons,ih];exact nc ..
theorem v9 (m:Int)(ks:List Kd):(b7 m ks).1.length=ks.length:=by
 unfold b7;rw[Tz,cL]
theorem jZ:∀(bs:List Bool)(at' first:Nat),first<=at'->∀ p∈aQ at' first bs,first<=p.1/\p.1<p.2/\p.2<=at'+bs.length
 |[],at',first,h,p,hp=>by
  unfold aQ at hp;split at hp
  ·have:p=(first,at'):=by simpa using hp
   subst this;exact⟨Nat.le_refl _,by assumption,by simp⟩
  ·cases hp
 |true::t,at',first,h,p,hp=>by
  have:=jZ t (at'+1) first (by omega) p hp
  simp only [length_cons];omega
 |false::t,at',first,h,p,hp=>by
  unfold aQ at hp;simp only [length_cons];rcases mem_append.mp hp with hp|hp
  ·split at hp
   ·have:p=(first,at'):=by simpa using hp
    subst this;exact⟨Nat.le_refl _,by assumption,by simp⟩
   ·cases hp
  ·have:=jZ t (at'+1) (at'+1) (Nat.le_refl _) p hp;omega
theorem bL (m:Int)(ks:List Kd):∀ p∈bc m ks,p.1<p.2/\p.2<=ks.length:=by
 intro p hp;have:=jZ (c6 m ks) 0 0 (Nat.le_refl _) p hp;rw[oY]at this;omega
theorem oZ:∀(bs:List Bool)(at' first:Nat),(aQ at' first bs).length<=bs.length+1
 |[],at',first=>by unfold aQ;split <;> simp
 |true::t,at',first=>by
  unfold aQ;have:=oZ t (at'+1) first
  simp only [length_cons];omega
 |false::t,at',first=>by
  unfold aQ;have:=oZ t (at'+1) (at'+1);simp only [length_cons,length_append];split <;> simp <;> omega
def Q9 (H:Hp)(v:V)(q:Nat×Nat):Prop:=∃ p,v=.ref p/\H p=some (.tup [.int (q.1:Int),.int (q.2:Int)])
abbrev XN (H:Hp):List V->List (Nat×Nat)->Prop:=Paired (Q9 H)
theorem Q9.same {H H':Hp}{v:V}{q:Nat×Nat}(e:ay H H')(h:Q9 H v q):Q9 H' v q:=by
 obtain⟨p,rfl,z⟩:=h;exact⟨p,rfl,e _ _ z⟩
theorem Ii {H H':Hp}(e:ay H H'){xs:List V}{qs:List (Nat×Nat)}(h:XN H xs qs):XN H' xs qs:=bK (fun _ _ z=>z.same e) h
theorem XO {H:Hp}{D:Addr}{o:HO}{zs:List V}{v:V}{q:Nat×Nat}(hD:H D=some (.lst zs))(h:Q9 H v q):Q9 (upd H D o) v q:=by
 obtain⟨p,e,z⟩:=h;exact⟨p,e,by rw[ar (qF z hD (by intro z;cases z))];exact z⟩
theorem Nx {H:Hp}{D:Addr}{o:HO}{zs:List V}{xs:List V}{qs:List (Nat×Nat)}(hD:H D=some (.lst zs))(h:XN H xs qs):XN (upd H D o) xs qs:=bK (fun _ _ q=>XO hD q) h
theorem TB {H:Hp}{a:Addr}{o:HO}(h:H a=some o):upd H a o=H:=by
 funext b
 unfold upd;split
 ·rename_i e;rw[e,h]
 ·rfl
theorem wa {ks:List Kd}{f:List Int}{a:Nat}(h:bA ks f a=true):1<=a/\a-1<ks.length:=by
 unfold bA at h;have h1:=of_decide_eq_true (Bool.and_eq_true_iff.mp h).1;unfold Sk at h1;split at h1
 ·have:=(List.getElem?_eq_some_iff.mp h1).1;omega
 ·cases h1
theorem Ny {ks:List Kd}{z:Nat}(h:bQ ks z=true):z<ks.length:=by
 unfold bQ at h;have h1:=of_decide_eq_true (Bool.and_eq_true_iff.mp h).1;exact(List.getElem?_eq_some_iff.mp h1).1
theorem Ij {n:Nat}{i:Int}{j:Nat}(e:i=j)(h:j<n):Vz n i=some j:=by
 unfold Vz;subst e;rw[if_pos (by omega),if_pos (by omega)];rfl
theorem qm {α:Type}{l:List α}{i:Nat}{x:α}(h:l[i]? = some x):l.drop i=x::l.drop (i+1):=by
 obtain⟨hi,e⟩:=List.getElem?_eq_some_iff.mp h;rw[List.drop_eq_getElem_cons hi,e]
theorem wb {α β:Type}{l:List α}{f:α->β}{i:Nat}{x:α}(h:l[i]? = some x):(l.map f)[i]? = some (f x):=by rw[getElem?_map,h];rfl
abbrev a9 (ss:List Sg):List Kd:=ss.map Prod.fst
theorem Ik {fs:List Int}{j:Nat}{v:Int}:(fs.map V.int).set j (V.int v)=(fs.set j v).map V.int:=by rw[List.map_set]
theorem big {n:Nat}(h:n<=1000):n<=sizeLine:=Nat.le_of_lt (cK h)
theorem head_drop {α:Type}(l:List α)(i:Nat):(l.drop i).head? = l[i]?:=by
 rw[List.head?_drop]
def gp (m:Int):List Kd->List Bool
 |[]=>[]
 |k::t=>decide (nm m k=3)::gp (nm m k) t
theorem Nz (m:Int)(ks:List Kd):(gp m ks).length=ks.length:=by
 induction ks generalizing m with
 |nil=>rfl
 |cons k t ih=>simp[gp,ih]
def lead:List Bool->Nat
 |true::t=>lead t+1
 |_=>0
theorem Qc:∀ bs:List Bool,lead bs<=bs.length
 |[]=>Nat.le_refl _
 |true::t=>by simp only [lead,length_cons];have:=Qc t;omega
 |false::t=>Nat.zero_le _
theorem Cd:∀(bs:List Bool)(at' first:Nat),first<at'+lead bs\/lead bs=0->first<=at'->aQ at' first bs=(if first<at'+lead bs then [(first,at'+lead bs)] else [])++aQ (at'+lead bs) (at'+lead bs) (bs.drop (lead bs))
 |[],at',first,_,h=>by
  show(if first<at' then [(first,at')] else [])=(if first<at' then [(first,at')] else [])++aQ at' at' [];rw[show aQ at' at' []=[] by unfold aQ;rw[if_neg (Nat.lt_irrefl _)],append_nil]
 |true::t,at',first,h0,h=>by
  have ih:=Cd t (at'+1) first (.inl (by omega)) (by omega)
  have e:at'+1+lead t=at'+(lead t+1):=by omega
  rw[e]at ih;simp only [aQ,lead,List.drop_succ_cons];exact ih
 |false::t,at',first,_,h=>by
  show(if first<at' then [(first,at')] else [])++aQ (at'+1) (at'+1) t=(if first<at' then [(first,at')] else [])++((if at'<at' then [(at',at')] else [])++aQ (at'+1) (at'+1) t);rw[if_neg (Nat.lt_irrefl at'),nil_append]
theorem Qd {m:Int}(h:Ms m):∀(ks:List Kd)(i:Nat)(k:Kd),ks[i]? = some k->∃ b,(gp m ks)[i]? = some b/\(c6 m ks)[i]? = some (k.small&&b)
 |[],i,k,e=>by simp at e
 |c::t,0,k,e=>by
  have:c=k:=by simpa using e
  subst this;refine⟨decide (nm m c=3),rfl,?_⟩;simp only [c6,List.getElem?_cons_zero,inR];have hm:=h.nm c;rcases hm with e|e <;> rw[e] <;> cases c <;> rfl
 |c::t,i+1,k,e=>by
  obtain⟨b,h1,h2⟩:=Qd (h.nm c) t i k (by simpa using e);exact⟨b,by simpa [gp] using h1,by simpa [c6] using h2⟩
theorem Qe:∀(bs:List Bool)(j:Nat),j<=lead bs->(j<lead bs ↔ bs[j]? = some true)
 |[],j,h=>by simp[lead]
 |true::t,0,h=>by simp[lead]
 |true::t,j+1,h=>by
  have:=Qe t j (by simp only [lead]at h;omega);simp only [lead,List.getElem?_cons_succ];rw[<-this];omega
 |false::t,j,h=>by
  have:j=0:=by simp only [lead]at h;omega
  subst this;simp[lead]
theorem Y0 {m:Int}{ks:List Kd}{low j:Nat}:((c6 m ks).drop low)[j]? = (c6 m ks)[low+j]?:=by rw[List.getElem?_drop]
set_option maxHeartbeats 1000000
theorem XQ (xs:List V)(n:Nat):Fm xs none (some (n:Int))=xs.take n:=by
 unfold Fm;have e:HT.iE xs.length xs.length (some (n:Int))=min n xs.length:=HT.PL xs.length xs.length n;rw[HT.Lx,e,Nat.sub_zero,List.drop_zero];rcases Nat.le_total n xs.length with h|h
 ·rw[Nat.min_eq_left h]
 ·rw[Nat.min_eq_right h,take_length,List.take_of_length_le h]
theorem V1 (xs:List V)(n:Nat)(h:n<=xs.length):Fm xs (some (n:Int)) none=xs.drop n:=by
 unfold Fm;have e:HT.iE xs.length 0 (some (n:Int))=min n xs.length:=HT.PL xs.length 0 n;rw[HT.Lx,e,Nat.min_eq_left h];exact List.take_of_length_le (by rw[length_drop];omega)
def PrI (H:Hp)(v:V)(q:Int×Int):Prop:=∃ p,v=.ref p/\H p=some (.tup [.int q.1,.int q.2])
abbrev Ce (H:Hp):List V->List (Int×Int)->Prop:=Paired (PrI H)
theorem tR {H H':Hp}(e:ay H H'){xs:List V}{qs:List (Int×Int)}(h:Ce H xs qs):Ce H' xs qs:=bK (fun _ _ ⟨p,a,z⟩=>⟨p,a,e _ _ z⟩) h
theorem TC {H:Hp}{D:Addr}{o:HO}{zs:List V}{v:V}{q:Int×Int}(hD:H D=some (.lst zs))(h:PrI H v q):PrI (upd H D o) v q:=by
 obtain⟨p,e,z⟩:=h;exact⟨p,e,by rw[ar (qF z hD (by intro z;cases z))];exact z⟩
theorem Qf {H:Hp}{D:Addr}{o:HO}{zs:List V}{xs:List V}{qs:List (Int×Int)}(hD:H D=some (.lst zs))(h:Ce H xs qs):Ce (upd H D o) xs qs:=bK (fun _ _ q=>TC hD q) h
set_option maxHeartbeats 1000000
abbrev cW:=Option Int×Option Int×Option Int
def lP:Option Int->V
 |none=>.non
 |some n=>.int n
def costOf (c:cW):Kd->Option Int
 |.dot=>c.1
 |.D=>c.2.1
 |.d=>c.2.1
 |.three=>c.2.2
 |.two=>c.2.2
 |_=>some 0
def ck (c:cW):Int->List Kd->Option Int
 |n,[]=>some n
 |n,k::t=>match costOf c k with
  |none=>none
  |some m=>ck c (n+m) t
end jY
set_option maxHeartbeats 4000000
namespace L2
open PySem PySem.Spec PyProof.Rows PySem.SeqAt
section
variable {X:Cx}
end
end L2
set_option maxHeartbeats 1000000
namespace jY
open PySem L2 PyProof.Rows
theorem V2 {n:Nat}(h:n<=1000):n<=sizeLine:=Nat.le_of_lt (cK h)
def ST:List Str:=["2-","2G","2g","3h0-","3h0o","3h0s","3h1o","3h1s","3h2S","3h2o","3h2s","3n0-","3n0o","3n0s","3n1o","3n1s","3n2S","3n2o","3n2s","3t0-","3w0-","3w0o","3w0s","3w1o","3w1s","3w2S","3w2o","3w2s"]
def qo (l c:Nat):Bool:=if decide (c=48)=true then decide (l≠104) else(decide (c=49)&&decide (l=104))
def Ft (z:Str):Bool:=z.cps.toList.head? == some 50
def gf (z:Str):Bool:=if Ft z=true then decide (z ≠ "2G") else qo (z.cps.toList.getD 1 0) (z.cps.toList.getD 2 0)
theorem Il (p:Str->Bool)(h:ST.all p=true){z:Str}(hz:z∈ST):p z=true:=all_eq_true.mp h z hz
theorem XR {z:Str}(hz:z∈ST):inV (.str z) [.str "2-",.str "2g",.str "2G"]=Ft z:=of_decide_eq_true (Il (fun z=>decide (inV (.str z) [.str "2-",.str "2g",.str "2G"]=Ft z)) (by lk) hz)
theorem Qg {z:Str}(hz:z∈ST):z.length<=4:=of_decide_eq_true (Il (fun z=>decide (z.length<=4)) (by lk) hz)
theorem LL {z:Str}(hz:z∈ST)(h:¬ Ft z=true):∃ l c t,z.cps.toList=[51,l,c,t]:=by
 have:=Il (fun z=>Ft z||decide (z.cps.toList=[51,z.cps.toList.getD 1 0,z.cps.toList.getD 2 0,z.cps.toList.getD 3 0])) (by lk) hz;rw[Bool.eq_false_iff.mpr h,Bool.false_or]at this;exact⟨_,_,_,of_decide_eq_true this⟩
theorem qp (c n:Nat){s:Str}(h:s=⟨#[n]⟩):decide (V.str ⟨#[c]⟩=V.str s)=decide (c=n):=by
 subst h
 by_cases e:c=n
 ·subst e;simp
 ·rw[decide_eq_false e,decide_eq_false];intro z;apply e;have:=V.str.inj z;have:=congrArg (fun s:Str=>s.cps.toList) this
  simpa using this
theorem Y1 (c n:Nat){s:Str}(h:s=⟨#[n]⟩):(!decide (V.str ⟨#[c]⟩=V.str s))=decide (c≠n):=by
 rw[qp c n h];simp
theorem Y2 (z s:Str):(!decide (V.str z=V.str s))=decide (z≠s):=by
 by_cases e:z=s
 ·subst e;simp
 ·have:V.str z≠V.str s:=fun q=>e (V.str.inj q);simp[e,this]
def RN:List Str:=["0s","0o","1s","1o","2s","2S","2o"]
def f3 (l r:Str):Str:=Str.empty ++ "3" ++ l++r
def blk (l:Str):List Str:=f3 l "0-" :: RN.map (f3 l)
def g3 (l r:Str):Str:="3" ++ l++r
theorem V3 {xs:List Str}{i:Nat}{x:V}(h:(xs.map V.str)[i]? = some x):∃ z,xs[i]? = some z/\x=.str z:=by
 rw[getElem?_map]at h;cases e:xs[i]? with
 |none=>rw[e]at h;cases h
 |some z=>rw[e]at h;cases h;exact⟨z,rfl,rfl⟩
end jY
set_option maxHeartbeats 1000000
namespace jY
open PySem L2 PyProof.Rows
theorem Fu (a b:Str):decide (V.str a=V.str b)=decide (a=b):=by
 by_cases h:a=b
 ·rw[h,decide_eq_true rfl,decide_eq_true rfl]
 ·rw[decide_eq_false h,decide_eq_false (fun z=>h (V.str.inj z))]
theorem intD (a b:Int):decide (V.int a=V.int b)=decide (a=b):=by
 by_cases h:a=b
 ·rw[h,decide_eq_true rfl,decide_eq_true rfl]
 ·rw[decide_eq_false h,decide_eq_false (fun z=>h (V.int.inj z))]
def TW:List ((Str×Int)×V):=[(("s",1),V.str "2-"),(("d",1),V.str "2-"),(("r",1),V.str "2-"),(("D",2),V.str "2-"),(("R",2),V.str "2-"),(("G",2),V.str "2g"),(("G",3),V.str "2G"),((".",0),V.str "2-"),(("2",0),V.str "2-"),(("3",0),V.str "3n0-")]
def GS:List ((Str×Int)×V):=[(("G",3),V.str "3w0-"),(("G",2),V.str "3h0-"),(("D",2),V.str "3n0-"),(("R",3),V.str "3n0-")]
def chr (z:Str)(i:Nat):Str:=⟨#[z.cps.toList.getD i 0]⟩
def V4 (z:Str):Bool:=qo (z.cps.toList.getD 1 0) (z.cps.toList.getD 2 0)
def twS (z k:Str)(n:Int):V:=if(decide (z = "2G") && !decide (k = "."))=true then .non else if(decide (z = "2g")&&decide (k = "."))=true then .non else(TW.lookup (k,n)).getD .non
def rnZ (z:Str):Bool:=inV (.str z) [.str "3n1s",.str "3n1o",.str "3h2o"]
def bgZ (z:Str):Bool:=inV (.str z) [.str "3n2S",.str "3w2S"]
def grS (z k:Str)(n:Int):V:=if decide (z = "3t0-")=true then .non else if(rnZ z&&(decide (k = "G")&&decide (n=2)))=true then .str "3t0-" else if(V4 z||bgZ z)=true then(GS.lookup (k,n)).getD .non else .non
def ptS (z k:Str)(n:Int):V:=if(!decide (n=0) || !V4 z)=true then .non else if decide (k = "2")=true then .str "2-" else .str "3n0-"
def XT (k c:Str)(n:Int):V:=if decide (n=1)=true then(if decide (k = "s")=true then .str "s" else .str "o") else if(decide (n=2)&&(decide (k = "s")&&decide (c = "2")))=true then .str "S" else .non
theorem Ra (k c:Str)(n:Int):XT k c n=.non\/XT k c n=.str "s"\/XT k c n=.str "o"\/XT k c n=.str "S":=by
 unfold XT
 repeat' split
 all_goals simp
def Y3 (c:Nat):Str:=if c=48 then "1" else if c=49 then "2" else "0"
theorem V5 (c:Nat):(Y3 c).length=1:=by
 unfold Y3
 repeat' split
 all_goals decide +kernel
theorem TF (a b:Str):(a++b).length=a.length+b.length:=by
 show(a.cps++b.cps).size=_;rw[Array.size_append];rfl
theorem LM (s:Str)(h:s = "s"\/s = "o"\/s = "S"\/s = "3"\/s = "n"):s.length=1:=by
 rcases h with rfl|rfl|rfl|rfl|rfl <;> decide +kernel
def lfZ (z:Str):Str:=if decide (z.cps.toList.getD 1 0=116)=true then "n" else chr z 1
theorem V6 (z:Str):(lfZ z).length=1:=by
 unfold lfZ;split
 ·exact LM _ (.inr (.inr (.inr (.inr rfl))))
 ·rfl
def smS (z k:Str)(n:Int):V:=if decide (z.cps.toList.getD 3 0=83)=true then .non else match XT k (Y3 (z.cps.toList.getD 2 0)) n with
 |.str l=>.str ("3" ++ lfZ z++Y3 (z.cps.toList.getD 2 0)++l)
 |_=>.non
def jK (z:Str)(k:Kd)(n:Int):V:=if Ft z=true then twS z k.str n else if k.small=true then smS z k.str n else if k.parting=true then ptS z k.str n else grS z k.str n
theorem ad5 {z:Str}(hz:z∈ST){l c e:Nat}(h:z.cps.toList=[51,l,c,e]):c=48\/c=49\/c=50:=by
 have:=of_decide_eq_true (Il (fun z=>decide (Ft z=true\/z.cps.toList.getD 2 0=48\/z.cps.toList.getD 2 0=49\/z.cps.toList.getD 2 0=50)) (by lk) hz);unfold Ft at this;rw[h]at this;rcases this with z|z
 ·exact absurd z (by simp)
 ·exact z
def Y4:List Kd:=[.G,.D,.R,.s,.d,.r,.dot,.three,.two]
theorem LN (k:Kd):k∈Y4:=by cases k <;> decide
end jY
set_option maxHeartbeats 1000000
namespace jY
open PySem L2 PyProof.Rows
section
variable {K:Frag} {H H':Hp} {p:Addr} {Q:VK}
theorem Im {a b:V}(h:cz K H p [a,b])(q:Q a H):Fn K (.ref p) (.int 0) H Q\/Fo K (.ref p) (.int 0) H Q\/Fp (.ref p) (.int 0) H Q:=.inr (.inl ⟨p,_,0,a,rfl,rfl,h,rfl,q⟩)
end
def isD:HO->Bool
 |.dK _=>true
 |.jI _ (.dK _)=>true
 |_=>false
def Kn (H H':Hp):Prop:=∀ b o,H b=some o->isD o=false->H' b=some o
theorem Kn.trans {H H1 H2:Hp}(a:Kn H H1)(b:Kn H1 H2):Kn H H2:=fun c o e n=>b c o (a c o e n) n
theorem _root_.L2.ay.kn {H H':Hp}(s:ay H H'):Kn H H':=fun b o e _=>s b o e
theorem Kn.put {H:Hp}{d:Addr}{o u:HO}(e:H d=some o)(h:isD o=true):Kn H (upd H d u):=fun b v eb n=>by
 rw[ar (fun z=>by rw[z,e]at eb;cases eb;rw[h]at n;cases n)];exact eb
theorem Kn.of {H H':Hp}{d:Addr}{kvs:List (Key×V)}(e:H d=some (.dK kvs))(h:∀ b o,b≠d->H b=some o->H' b=some o):Kn H H':=fun b o eb n=>h b o (fun z=>by rw[z,e]at eb;cases eb;cases n) eb
theorem Kn.tup {K:Frag}{H H':Hp}{p:Addr}{xs:List V}(k:Kn H H')(h:cz K H p xs):cz K H' p xs:=by
 rcases h with (h|⟨o,h⟩)|h
 ·exact .inl (.inl (k _ _ h rfl))
 ·exact .inl (.inr ⟨o,k _ _ h rfl⟩)
 ·exact .inr h
def qM (K:Frag)(H:Hp)(y:V)(s:Sg):Prop:=∃ p,y=.ref p/\cz K H p [.str s.1.str,.int s.2]
theorem qM.kn {K:Frag}{H H':Hp}(k:Kn H H'){y:V}{s:Sg}(h:qM K H y s):qM K H' y s:=by
 obtain⟨p,e,q⟩:=h;exact⟨p,e,k.tup q⟩
theorem qM.tS {K:Frag}{H H':Hp}(k:Kn H H'){ys:List V}{ss:List Sg}(h:Paired (qM K H) ys ss):Paired (qM K H') ys ss:=bK (fun _ _ q=>qM.kn k q) h
theorem qM.write {K:Frag}{H:Hp}{l:Addr}{xs:List V}{o:HO}(hl:H l=some (.lst xs)){y:V}{s:Sg}(h:qM K H y s):qM K (upd H l o) y s:=by
 obtain⟨q,e,h2⟩:=h;refine⟨q,e,?_⟩;rcases h2 with (h|⟨o,h⟩)|h
 ·exact .inl (.inl (by rw[ar (fun z=>by rw[z,hl]at h;cases h)];exact h))
 ·exact .inl (.inr ⟨o,by rw[ar (fun z=>by rw[z,hl]at h;cases h)];exact h⟩)
 ·exact .inr h
def Sl (z:Str)(k:Kd)(n:Int):Option Str:=match jK z k n with
 |.str y=>some y
 |_=>none
def aaS (p:Int->Bool):Bool:=(List.range 10).all fun m=>p (m:Nat)
theorem Y5:(ST.all fun z=>Y4.all fun k=>aaS fun c=>match jK z k c with|.str y=>decide (y∈ST)|.non=>true|_=>false)=true:=by lk
theorem TJ {z:Str}(hz:z∈ST)(k:Kd){n:Int}(h0:0<=n)(h9:n<=9):(jK z k n=.non/\Sl z k n=none)\/∃ y∈ST,jK z k n=.str y/\Sl z k n=some y:=by
 have h1:=all_eq_true.mp (all_eq_true.mp (all_eq_true.mp Y5 z hz) k (LN k)) n.toNat (mem_range.mpr (by omega));rw[Int.toNat_of_nonneg h0]at h1;dsimp only at h1;unfold Sl;cases e:jK z k n with
 |non=>exact .inl ⟨rfl,rfl⟩
 |str y=>rw[e]at h1;exact .inr ⟨y,of_decide_eq_true h1,rfl,rfl⟩
 |_=>rw[e]at h1;cases h1
abbrev Mv:=Sg×Int×Str
def Fv (c:cW)(z:Str)(n:Int)(s:Sg):Option Mv:=match costOf c s.1,Sl z s.1 n with
 |some m,some y=>some (s,m,y)
 |_,_=>none
def aZ (c:cW)(z:Str)(n:Int)(ss:List Sg):List Mv:=ss.filterMap (Fv c z n)
theorem Cf {c:cW}{z:Str}(hz:z∈ST){n:Int}(h0:0<=n)(h9:n<=9){ss:List Sg}{m:Mv}(hm:m∈aZ c z n ss):m.2.2∈ST:=by
 obtain⟨s,hs,e⟩:=List.mem_filterMap.mp hm;unfold Fv at e;rcases TJ hz s.1 h0 h9 with ⟨_,e2⟩|⟨y,hy,_,e2⟩
 ·rw[e2]at e;cases h:costOf c s.1 <;> rw[h]at e <;> cases e
 ·rw[e2]at e;cases h:costOf c s.1 with
  |none=>rw[h]at e;cases e
  |some k=>rw[h]at e;cases e;exact hy
theorem Rb (c:cW)(z:Str)(n:Int)(ss:List Sg):(aZ c z n ss).length<=ss.length:=List.length_filterMap_le ..
theorem NA {c:cW}{z:Str}{n:Int}{ss:List Sg}{i:Nat}{s:Sg}(h:ss[i]? = some s):aZ c z n (ss.take (i+1))=aZ c z n (ss.take i)++(match Fv c z n s with|some m=>[m]|none=>[]):=by
 unfold aZ;rw[take_succ,h,List.filterMap_append]
 congr 1
 show List.filterMap (Fv c z n) [s]=_;rw[List.filterMap_cons];cases Fv c z n s <;> rfl
def LO (K:Frag)(H:Hp)(y:V)(m:Mv):Prop:=∃ p q,y=.ref p/\H p=some (.tup [.ref q,.int m.2.1,.str m.2.2])/\cz K H q [.str m.1.1.str,.int m.1.2]
theorem LO.kn {K:Frag}{H H':Hp}(k:Kn H H'){y:V}{m:Mv}(h:LO K H y m):LO K H' y m:=by
 obtain⟨p,q,e,h1,h2⟩:=h;exact⟨p,q,e,k _ _ h1 rfl,k.tup h2⟩
theorem LO.write {K:Frag}{H:Hp}{l:Addr}{xs:List V}{o:HO}(hl:H l=some (.lst xs)){y:V}{m:Mv}(h:LO K H y m):LO K (upd H l o) y m:=by
 obtain⟨p,q,e,h1,h2⟩:=h;refine⟨p,q,e,by rw[ar (fun z=>by rw[z,hl]at h1;cases h1)];exact h1,?_⟩;rcases h2 with (h|⟨o,h⟩)|h
 ·exact .inl (.inl (by rw[ar (fun z=>by rw[z,hl]at h;cases h)];exact h))
 ·exact .inl (.inr ⟨o,by rw[ar (fun z=>by rw[z,hl]at h;cases h)];exact h⟩)
 ·exact .inr h
abbrev Wy:=Str×Int×List Sg
def bB:List Wy->Str->Option (Int×List Sg)
 |[],_=>none
 |w::t,z=>if w.1=z then some w.2 else bB t z
def Io (ws:List Wy)(z:Str)(c:Int)(ln:List Sg):List Wy:=ws.map fun w=>if w.1=z then(z,c,ln) else w
def TK (ws:List Wy)(z:Str)(c:Int)(ln:List Sg):List Wy:=match bB ws z with
 |none=>ws++[(z,c,ln)]
 |some _=>Io ws z c ln
def fg (ws:List Wy)(z:Str)(c:Int)(ln:List Sg):List Wy:=match bB ws z with
 |none=>ws++[(z,c,ln)]
 |some q=>if c<q.1 then Io ws z c ln else ws
def dm (k:Int)(ln:List Sg)(ms:List Mv)(acc:List Wy):List Wy:=ms.foldl (fun acc m=>fg acc m.2.2 (k+m.2.1) (ln++[m.1])) acc
def gg:List Sg:=[(.dot,0),(.three,0),(.two,0)]
def iy (c:cW)(zs:List Str)(acc:List Wy):List Wy:=zs.foldl (fun acc z=>match bB acc z with|some q=>dm q.1 q.2 (aZ c z 0 gg) acc|none=>acc) acc
def yY (c:cW)(ws:List Wy):Nat->List Wy
 |0=>ws
 |i+1=>iy c ((yY c ws i).map (·.1)) (yY c ws i)
def withPart (c:cW)(ws:List Wy):List Wy:=yY c ws 2
def eB (t:Int):List Sg:=if t = -1 then [(.R,0),(.r,0)] else [(.G,t),(.D,t),(.s,t),(.d,t)]
def o3 (c:cW)(ws:List Wy)(q:Int×Int):List Wy:=ws.foldl (fun acc w=>dm w.2.1 w.2.2 (aZ c w.1 q.2 (eB q.1)) acc) []
def wc (ws:List Wy):List (Str×Int):=ws.map fun w=>(w.1,w.2.1)
structure fO (B:Nat)(ws:List Wy):Prop where
 nd:(ws.map (·.1)).Nodup
 st:∀ w∈ws,w.1∈ST
 ln:∀ w∈ws,w.2.2.length<=B
theorem fO.mono {B B':Nat}{ws:List Wy}(h:fO B ws)(hb:B<=B'):fO B' ws:=⟨h.nd,h.st,fun w hw=>Nat.le_trans (h.ln w hw) hb⟩
theorem TL {α:Type}[DecidableEq α]:∀(l L:List α),l.Nodup->(∀ x∈l,x∈L)->l.length<=L.length
 |[],_,_,_=>Nat.zero_le _
 |x::t,L,nd,h=>by
  have hx:=h x mem_cons_self;have h1:=TL t (L.erase x) (List.nodup_cons.mp nd).2 fun y hy=>by
   have hne:y≠x:=fun z=>(List.nodup_cons.mp nd).1 (z ▸ hy);exact(List.mem_erase_of_ne hne).mpr (h y (mem_cons_of_mem _ hy))
  have h2:=List.length_erase_of_mem hx;have h3:0<L.length:=List.length_pos_of_mem hx;rw[length_cons];omega
theorem fO.len {B:Nat}{ws:List Wy}(h:fO B ws):ws.length<=28:=by
 have:=TL (ws.map (·.1)) ST h.nd fun x hx=>by
  obtain⟨w,hw,rfl⟩:=mem_map.mp hx;exact h.st w hw
 rwa [length_map]at this
theorem wd:∀{ws:List Wy} {z:Str},bB ws z=none->z ∉ ws.map (·.1)
 |[],_,_=>by simp
 |w::t,z,h=>by
  unfold bB at h;split at h
  ·cases h
  ·next hne =>
   intro hm;rcases List.mem_cons.mp hm with e|e
   ·exact hne e.symm
   ·exact wd h e
theorem j0:∀{ws:List Wy} {z:Str} {q:Int×List Sg},bB ws z=some q->(z,q)∈ws
 |w::t,z,q,h=>by
  unfold bB at h;split at h
  ·next e=>cases h;subst e;exact mem_cons_self
  ·exact mem_cons_of_mem _ (j0 h)
theorem Rc {ws:List Wy}{z:Str}(h:z∈ws.map (·.1)):∃ q,bB ws z=some q:=by
 cases e:bB ws z with
 |none=>exact absurd h (wd e)
 |some q=>exact⟨q,rfl⟩
theorem Hf (ws:List Wy)(z:Str)(c:Int)(ln:List Sg):(Io ws z c ln).map (·.1)=ws.map (·.1):=by
 unfold Io;rw[List.map_map];refine List.map_congr_left fun w _=>?_;show(if w.1=z then(z,c,ln) else w).1=w.1;split
 ·next e=>exact e.symm
 ·rfl
theorem TM {B:Nat}{ws:List Wy}(h:fO B ws){z:Str}(hz:z∈ST){c:Int}{ln:List Sg}(hl:ln.length<=B):fO B (fg ws z c ln):=by
 unfold fg;split
 ·next e =>
  refine⟨?_,fun w hw=>?_,fun w hw=>?_⟩
  ·rw[map_append];refine List.nodup_append.mpr ⟨h.nd,by simp,fun a ha b hb=>?_⟩;have:b=z:=by simpa using hb
   subst this;exact fun e2=>wd e (e2 ▸ ha)
  ·rcases mem_append.mp hw with q|q
   ·exact h.st w q
   ·rw[mem_singleton.mp q];exact hz
  ·rcases mem_append.mp hw with q|q
   ·exact h.ln w q
   ·rw[mem_singleton.mp q];exact hl
 ·split
  ·refine⟨by rw[Hf];exact h.nd,fun w hw=>?_,fun w hw=>?_⟩
   all_goals
    obtain⟨v,hv,rfl⟩:=mem_map.mp hw;split
   ·exact hz
   ·exact h.st v hv
   ·exact hl
   ·exact h.ln v hv
  ·exact h
theorem NB (ws:List Wy)(z:Str)(c:Int)(ln:List Sg){x:Str}(h:x∈ws.map (·.1)):x∈(fg ws z c ln).map (·.1):=by
 unfold fg;split
 ·rw[map_append];exact mem_append_left _ h
 ·split
  ·rw[Hf];exact h
  ·exact h
theorem o4 {B:Nat}{k:Int}{ln:List Sg}(hl:ln.length+1<=B):∀{ms:List Mv} {acc:List Wy},(∀ m∈ms,m.2.2∈ST)->fO B acc->fO B (dm k ln ms acc)
 |[],_,_,h=>h
 |m::t,acc,hm,h=>o4 hl (ms:=t) (fun x hx=>hm x (mem_cons_of_mem _ hx)) (TM h (hm m mem_cons_self) (by rw[length_append];exact hl))
theorem Cg (k:Int)(ln:List Sg):∀(ms:List Mv)(acc:List Wy) {x:Str},x∈acc.map (·.1)->x∈(dm k ln ms acc).map (·.1)
 |[],_,_,h=>h
 |m::t,acc,_,h=>Cg k ln t _ (NB _ _ _ _ h)
def gB (K:Frag)(A:Addr->Prop)(H:Hp)(kv:Key×V)(w:Wy):Prop:=kv.1=Sum.inr w.1/\∃ t l ys,kv.2=.ref t/\A l/\H t=some (.tup [.int w.2.1,.ref l])/\H l=some (.lst ys)/\Paired (qM K H) ys w.2.2
theorem gB.kn {K:Frag}{A:Addr->Prop}{H H':Hp}(k:Kn H H'){kv:Key×V}{w:Wy}(h:gB K A H kv w):gB K A H' kv w:=by
 obtain⟨e,t,l,ys,e2,a,h1,h2,h3⟩:=h;exact⟨e,t,l,ys,e2,a,k _ _ h1 rfl,k _ _ h2 rfl,qM.tS k h3⟩
theorem gB.tS {K:Frag}{A:Addr->Prop}{H H':Hp}(k:Kn H H'){kvs:List (Key×V)}{ws:List Wy}(h:Paired (gB K A H) kvs ws):Paired (gB K A H') kvs ws:=bK (fun _ _ q=>gB.kn k q) h
theorem gB.write {K:Frag}{A:Addr->Prop}{H:Hp}{d:Addr}{xs:List V}{o:HO}(hd:H d=some (.lst xs))(hA:¬ A d){kv:Key×V}{w:Wy}(h:gB K A H kv w):gB K A (upd H d o) kv w:=by
 obtain⟨e,t,l,ys,e2,a,h1,h2,h3⟩:=h;exact⟨e,t,l,ys,e2,a,by rw[ar (fun z=>by rw[z,hd]at h1;cases h1)];exact h1,by rw[ar (fun z=>hA (by rw[<-z];exact a))];exact h2,bK (fun _ _ q=>qM.write hd q) h3⟩
theorem gB.val {K:Frag}{A:Addr->Prop}{H:Hp}{kvs:List (Key×V)}{ws:List Wy}(h:Paired (gB K A H) kvs ws)(z:Str):(bB ws z=none/\vZ kvs (Sum.inr z)=none)\/∃ q v,bB ws z=some q/\vZ kvs (Sum.inr z)=some v/\gB K A H (Sum.inr z,v) (z,q):=by
 induction h with
 |nil=>exact .inl ⟨rfl,rfl⟩
 | @cons kv w kvs ws h0 _ ih =>
  unfold bB
  by_cases e:w.1=z
  ·refine .inr ⟨w.2,kv.2,if_pos e,?_,?_⟩
   ·exact tN (by rw[h0.1,e])
   ·subst e;obtain⟨e1,r⟩:=h0;exact⟨rfl,r⟩
  ·rw[if_neg e,tO (fun q=>e (Sum.inr.inj (h0.1.symm.trans q)))];exact ih
theorem gB.put {K:Frag}{A:Addr->Prop}{H:Hp}{kvs:List (Key×V)}{ws:List Wy}(h:Paired (gB K A H) kvs ws){z:Str}{v:V}{c:Int}{ln:List Sg}(hv:gB K A H (Sum.inr z,v) (z,c,ln)):Paired (gB K A H) (putK kvs (Sum.inr z) v) (TK ws z c ln):=by
 unfold putK TK;rcases gB.val h z with ⟨e1,e2⟩|⟨q,u,e1,e2,_⟩
 ·rw[tQ,e2,if_neg (by decide),e1];exact og h hv
 ·rw[tQ,e2,if_pos (show(some u).isSome=true from rfl),e1];clear e1 e2;show Paired _ _ (Io ws z c ln);unfold Io
  induction h with
  |nil=>exact .nil
  | @cons kv w kvs ws h0 _ ih =>
   refine .cons ?_ ih;show gB K A H (if kv.1=Sum.inr z then(kv.1,v) else kv) (if w.1=z then(z,c,ln) else w)
   by_cases e:w.1=z
   ·rw[if_pos e,if_pos (by rw[h0.1,e]),h0.1,e];exact hv
   ·rw[if_neg e,if_neg (fun q=>e (Sum.inr.inj (h0.1.symm.trans q)))];exact h0
def cX (c:cW)(acc:List Wy)(z:Str):List Wy:=match bB acc z with
 |some q=>dm q.1 q.2 (aZ c z 0 gg) acc
 |none=>acc
theorem iG (c:cW)(z:Str)(t:List Str)(acc:List Wy):iy c (z::t) acc=iy c t (cX c acc z):=rfl
theorem NC (c:cW)(zs:List Str)(z:Str)(acc:List Wy):iy c (zs++[z]) acc=cX c (iy c zs acc) z:=by
 unfold iy;rw[List.foldl_append];rfl
theorem Ci {c:cW}{z:Str}(hz:z∈ST){m:Mv}(hm:m∈aZ c z 0 gg):m.2.2∈ST:=Cf hz (by decide) (by decide) hm
theorem TN {B:Nat}{c:cW}{acc:List Wy}(h:fO B acc){z:Str}(hz:z∈ST):fO (B+1) (cX c acc z):=by
 unfold cX;cases e:bB acc z with
 |none=>exact h.mono (Nat.le_succ _)
 |some q =>
  have:=h.ln _ (j0 e);exact o4 (by show q.2.length+1<=_;have:q.2.length<=B:=this;omega) (fun m hm=>Ci hz hm) (h.mono (Nat.le_succ _))
theorem Cj {c:cW}:∀{zs:List Str} {acc:List Wy} {B:Nat},(∀ z∈zs,z∈ST)->fO B acc->fO (B+zs.length) (iy c zs acc)
 |[],_,_,_,h=>h
 |z::t,acc,B,hz,h=>by
  rw[iG];exact(Cj (zs:=t) (fun x hx=>hz x (mem_cons_of_mem _ hx)) (TN h (hz z mem_cons_self))).mono (by rw[length_cons];omega)
theorem ND (c:cW)(acc:List Wy)(z:Str){x:Str}(h:x∈acc.map (·.1)):x∈(cX c acc z).map (·.1):=by
 unfold cX;cases bB acc z with
 |none=>exact h
 |some q=>exact Cg _ _ _ _ h
theorem Ck (c:cW):∀(zs:List Str)(acc:List Wy) {x:Str},x∈acc.map (·.1)->x∈(iy c zs acc).map (·.1)
 |[],_,_,h=>h
 |z::t,acc,_,h=>Ck c t _ (ND c acc z h)
theorem A0 {c:cW}{ws:List Wy}{B:Nat}(h:fO B ws):∀ i,fO (B+28 * i) (yY c ws i)
 |0=>h
 |i+1=>by
  have h1:=A0 (c:=c) h i;have h2:=Cj (c:=c) (zs:=(yY c ws i).map (·.1)) (fun z hz=>by
   obtain⟨w,hw,rfl⟩:=mem_map.mp hz;exact h1.st w hw) h1
  exact h2.mono (by rw[length_map];have:=h1.len;omega)
theorem Y6 {K:Frag}{A:Addr->Prop}{H:Hp}{kvs:List (Key×V)}{ws:List Wy}(h:Paired (gB K A H) kvs ws):(kvs.map fun kv=>kV kv.1)=(ws.map (·.1)).map V.str:=by
 induction h with
 |nil=>rfl
 |cons h0 _ ih =>
  rw[map_cons,map_cons,map_cons,ih,h0.1];rfl
def fk (c:cW)(q:Int×Int)(ws:List Wy)(acc:List Wy):List Wy:=ws.foldl (fun acc w=>dm w.2.1 w.2.2 (aZ c w.1 q.2 (eB q.1)) acc) acc
theorem Fw (c:cW)(q:Int×Int)(ws:List Wy)(w:Wy)(acc:List Wy):fk c q (ws++[w]) acc=dm w.2.1 w.2.2 (aZ c w.1 q.2 (eB q.1)) (fk c q ws acc):=by
 unfold fk;rw[List.foldl_append];rfl
theorem fO.nil (B:Nat):fO B []:=⟨.nil,fun _ h=>(nomatch h),fun _ h=>(nomatch h)⟩
theorem o5 {B:Nat}{c:cW}{q:Int×Int}(h0:0<=q.2)(h9:q.2<=9):∀{ws acc:List Wy},(∀ w∈ws,w.1∈ST)->(∀ w∈ws,w.2.2.length<=B)->fO (B+1) acc->fO (B+1) (fk c q ws acc)
 |[],_,_,_,h=>h
 |w::t,acc,hs,hl,h=>o5 h0 h9 (ws:=t) (fun x hx=>hs x (mem_cons_of_mem _ hx)) (fun x hx=>hl x (mem_cons_of_mem _ hx))
   (o4 (by have:=hl w mem_cons_self;omega) (fun m hm=>Cf (hs w mem_cons_self) h0 h9 hm) h)
theorem o6 {B:Nat}{c:cW}{q:Int×Int}(h0:0<=q.2)(h9:q.2<=9){ws:List Wy}(h:fO B ws):fO (B+1) (o3 c ws q):=o5 h0 h9 h.st h.ln (fO.nil _)
theorem yN {B:Nat}{c:cW}{ws:List Wy}(h:fO B ws):fO (B+56) (withPart c ws):=A0 h 2
def NF (H:Hp)(y:V)(q:Str×Int):Prop:=∃ p,y=.ref p/\H p=some (.tup [.str q.1,.int q.2])
theorem NF.kn {H H':Hp}(k:Kn H H'){y:V}{q:Str×Int}(h:NF H y q):NF H' y q:=by
 obtain⟨p,e,h1⟩:=h;exact⟨p,e,k _ _ h1 rfl⟩
theorem NF.write {H:Hp}{l:Addr}{xs:List V}{o:HO}(hl:H l=some (.lst xs)){y:V}{q:Str×Int}(h:NF H y q):NF (upd H l o) y q:=by
 obtain⟨p,e,h1⟩:=h;exact⟨p,e,by rw[ar (fun z=>by rw[z,hl]at h1;cases h1)];exact h1⟩
def LQ (pp:Addr)(H:Hp)(y:V)(cs:List (Str×Int)):Prop:=∃ l xs,y=.ref l/\l≠pp/\H l=some (.lst xs)/\Paired (NF H) xs cs
theorem LQ.kn {pp:Addr}{H H':Hp}(k:Kn H H'){y:V}{q:List (Str×Int)}(h:LQ pp H y q):LQ pp H' y q:=by
 obtain⟨l,xs,e,ne,h1,h2⟩:=h;exact⟨l,xs,e,ne,k _ _ h1 rfl,bK (fun _ _ q=>NF.kn k q) h2⟩
theorem LQ.write {pp:Addr}{H:Hp}{zs:List V}{o:HO}(hp:H pp=some (.lst zs)){y:V}{q:List (Str×Int)}(h:LQ pp H y q):LQ pp (upd H pp o) y q:=by
 obtain⟨l,xs,e,ne,h1,h2⟩:=h;exact⟨l,xs,e,ne,by rw[ar ne];exact h1,bK (fun _ _ q=>NF.write hp q) h2⟩
def Ip (b:Int):Str:=if b=3 then "3n0-" else "2-"
theorem Iq (b:Int):Ip b∈ST:=by
 unfold Ip;split <;> decide +kernel
def XU (c:cW)(b:Int):List Wy:=withPart c [(Ip b,0,[])]
def fm (c:cW)(b:Int)(qs:List (Int×Int)):List Wy:=qs.foldl (fun ws q=>withPart c (o3 c ws q)) (XU c b)
theorem j1 (c:cW)(b:Int)(qs:List (Int×Int))(q:Int×Int):fm c b (qs++[q])=withPart c (o3 c (fm c b qs) q):=by
 unfold fm;rw[List.foldl_append];rfl
def Fx (c:cW)(b:Int)(qs:List (Int×Int))(i:Nat):List (List (Str×Int)):=(List.range (i+1)).map fun j=>wc (fm c b (qs.take j))
theorem Rf (c:cW)(b:Int)(qs:List (Int×Int))(i:Nat):Fx c b qs (i+1)=Fx c b qs i++[wc (fm c b (qs.take (i+1)))]:=by
 unfold Fx;rw[List.range_succ,map_append];rfl
def qN (c:cW)(b:Int)(qs:List (Int×Int)):List Wy:=(fm c b qs).filter fun w=>gf w.1
def Vn (qs:List (Int×Int)):Prop:=∀ q∈qs,0<=q.2/\q.2<=9
theorem TQ (c:cW)(b:Int):fO 56 (XU c b):=yN (B:=0) ⟨by simp,fun w hw=>by rw[mem_singleton.mp hw];exact Iq b,fun w hw=>by rw[mem_singleton.mp hw];exact Nat.le_refl _⟩
theorem j2 {c:cW}{b:Int}{qs:List (Int×Int)}(hq:Vn qs):∀ i,fO (56+57 * i) (fm c b (qs.take i))
 |0=>TQ c b
 |i+1=>by
  have h1:=j2 (c:=c) (b:=b) hq i;cases e:qs[i]? with
  |none=>rw[take_succ,e];exact(show fO _ (fm c b (qs.take i++[])) by rw[append_nil];exact h1.mono (by omega))
  |some q =>
   have hm:=hq q (mem_of_getElem? e);rw[take_succ,e];show fO _ (fm c b (qs.take i++[q]));rw[j1];exact(yN (o6 hm.1 hm.2 h1)).mono (by omega)
theorem TR {ws:List Wy}{i:Nat}{w:Wy}(h:ws[i]? = some w):(ws.take (i+1)).filter (fun w=>gf w.1)=(ws.take i).filter (fun w=>gf w.1)++(if gf w.1=true then [w] else []):=by
 rw[take_succ,h,List.filter_append]
 congr 1
 show List.filter _ [w]=_;rw[List.filter_cons];rfl
set_option maxHeartbeats 1000000
def fd (ks:List Kd)(rs:List (Nat×Nat))(f:List Int):List Int:=rs.foldl (fun f q=>(settle ks f q.1 q.2).2) f
theorem Qh (ks:List Kd):∀(rs:List (Nat×Nat)) (c:Tx),(rs.foldl (iF ks) c).1=fd ks rs c.1
 |[],_=>rfl
 |r::t,c=>by rw[List.foldl_cons,Qh ks t];rfl
def rd (m:Int)(ks:List Kd):List Int:=(b7 m ks).1
theorem tT (m:Int)(ks:List Kd):rd m ks=fd ks (bc m ks) (aH m ks):=Qh ks _ _
def shift (n:Nat)(rs:List (Nat×Nat)):List (Nat×Nat):=rs.map fun q=>(q.1+n,q.2+n)
theorem kY (n m:Nat)(rs:List (Nat×Nat)):shift n (shift m rs)=shift (m+n) rs:=by
 unfold shift;rw[List.map_map]
 congr 1
 funext q
 simp only [Function.comp,Nat.add_assoc]
theorem shF (bs:List Bool)(n a f:Nat):aQ (a+n) (f+n) bs=shift n (aQ a f bs):=by
 induction bs generalizing a f with
 |nil =>
  unfold aQ
  by_cases h:f<a
  ·rw[if_pos h,if_pos (by omega)];rfl
  ·rw[if_neg h,if_neg (by omega)];rfl
 |cons b t ih =>
  cases b with
  |true =>
   simp only [aQ];rw[<-ih (a+1) f,Nat.add_right_comm]
  |false =>
   simp only [aQ];rw[show a+n+1=a+1+n by omega,ih (a+1) (a+1)];unfold shift;rw[map_append]
   congr 1
   by_cases h:f<a
   ·rw[if_pos h,if_pos (by omega)];rfl
   ·rw[if_neg h,if_neg (by omega)];rfl
theorem Hg (A B:List Kd)(f g:List Int)(hf:f.length=A.length)(hg:g.length=B.length){a z:Nat}(haz:a<z)(hz:z<=B.length)(h0:a=0->bA (A++B) (f++g) A.length=false) :
  (settle (A++B) (f++g) (a+A.length) (z+A.length)).2=f++(settle B g a z).2:=by
 have ix:∀ j,(A++B)[j+A.length]? = B[j]?:=fun j=>by
  rw[getElem?_append_right (by omega),Nat.add_sub_cancel]
 have hl:bA (A++B) (f++g) (a+A.length)=bA B g a:=by
  by_cases e0:a=0
  ·have:=h0 e0;subst e0;rw[Nat.zero_add,this];rfl
  ·unfold bA Sk;rw[if_pos (by omega),if_pos (by omega)];have e1:(((a+A.length:Nat):Int)-1).toNat=(a-1)+A.length:=by omega
   have e2:(((a:Nat):Int)-1).toNat=a-1:=by omega
   rw[e1,e2,ix]
   congr 2
   rw[List.getD_eq_getElem?_getD,List.getD_eq_getElem?_getD,getElem?_append_right (by omega)];have e3:a+A.length-1-f.length=a-1:=by omega
   rw[e3]
 have hr:bQ (A++B) (z+A.length)=bQ B z:=by
  unfold bQ;rw[ix,show z+A.length+1=(z+1)+A.length by omega,ix]
 have st:∀(h:List Int)(j:Nat),(f++h).set (j+A.length) 2=f++h.set j 2:=fun h j=>by
  rw[List.set_append_right _ _ (by omega)]
  congr 2
  omega
 have ed:z+A.length-(a+A.length)=z-a:=by omega
 have ez:z+A.length-1=(z-1)+A.length:=by omega
 have hlp:bA B g a=true->a+A.length-1=(a-1)+A.length:=fun h=>by have:=wa h;omega
 unfold settle i9 ja;rw[hl,hr,ed,ez,ix,ix];split
 ·split
  ·rename_i h;rw[hlp h,st]
  ·split
   ·rw[st]
   ·rfl
 ·split
  ·split
   ·rw[st]
   ·split
    ·rename_i h
     obtain⟨h1,h2⟩:=Bool.and_eq_true_iff.mp h;rw[hlp h1,st,st]
    ·rfl
  ·rfl
theorem Hh (A B:List Kd)(f:List Int)(hf:f.length=A.length):∀(rs:List (Nat×Nat)) (g:List Int),g.length=B.length->(∀ q∈rs,q.1<q.2/\q.2<=B.length/\(q.1=0->∀ g',bA (A++B) (f++g') A.length=false)) ->
  fd (A++B) (shift A.length rs) (f++g)=f++fd B rs g
 |[],_,_,_=>rfl
 |r::t,g,hg,h=>by
  obtain⟨h1,h2,h3⟩:=h r mem_cons_self;show fd (A++B) (shift A.length t) (settle (A++B) (f++g) (r.1+A.length) (r.2+A.length)).2=f++fd B t (settle B g r.1 r.2).2;rw[Hg A B f g hf hg h1 h2 fun e=>h3 e g];exact Hh A B f hf t _ (by rw[nc];exact hg) fun q hq=>h q (mem_cons_of_mem _ hq)
def ones (n:Nat):List Int:=List.replicate n 1
def fo (r:List Kd):Prop:=∀ k∈r,k.small=true
def Cut (B:List Kd):Prop:=∀ k t,B=k::t->k.small=false
theorem LR {k:Kd}(h:k.small=true)(m:Int):nm m k=m:=by cases k <;> first|rfl|cases h
theorem qY:∀(r:List Kd),fo r->∀ B,c6 3 (r++B)=List.replicate r.length true++c6 3 B
 |[],_,B=>rfl
 |k::t,h,B=>by
  have hk:=h k mem_cons_self;show inR (nm 3 k) k::c6 (nm 3 k) (t++B)=_;rw[LR hk,qY t (fun x hx=>h x (mem_cons_of_mem _ hx)) B];have:inR 3 k=true:=by unfold inR;rw[hk];rfl
  rw[this];rfl
theorem jg:∀(r:List Kd),fo r->∀ B,aH 3 (r++B)=ones r.length++aH 3 B
 |[],_,B=>rfl
 |k::t,h,B=>by
  have hk:=h k mem_cons_self;show bw (nm 3 k) k (t++B).head? :: aH (nm 3 k) (t++B)=_;rw[LR hk,jg t (fun x hx=>h x (mem_cons_of_mem _ hx)) B];have:bw 3 k (t++B).head? = 1:=by
   unfold bw;rw[if_neg (by rintro⟨z,_⟩;cases z)];cases k <;> first|rfl|cases hk
  rw[this];rfl
theorem qZ:∀(c a f:Nat)(bs:List Bool),aQ a f (List.replicate c true++bs)=aQ (a+c) f bs
 |0,a,f,bs=>rfl
 |c+1,a,f,bs=>by
  show aQ (a+1) f (List.replicate c true++bs)=_;rw[qZ c (a+1) f bs]
  congr 1
  omega
theorem Hi {B:List Kd}(h:Cut B)(a f:Nat):aQ a f (c6 3 B)=(if f<a then [(f,a)] else [])++shift a (bc 3 B):=by
 cases B with
 |nil =>
  show(if f<a then [(f,a)] else [])=_++shift a (aQ 0 0 []);simp[aQ,shift]
 |cons k t =>
  have hk:=h k t rfl;have e:inR (nm 3 k) k=false:=by unfold inR;rw[hk,Bool.and_false]
  show aQ a f (inR (nm 3 k) k::c6 (nm 3 k) t)=_++shift a (aQ 0 0 (inR (nm 3 k) k::c6 (nm 3 k) t));rw[e];simp only [aQ];rw[if_neg (Nat.lt_irrefl 0),nil_append,<-shF]
  congr 2 <;> omega
theorem TU {r B:List Kd}(hr:fo r)(h:Cut B):bc 3 (r++B)=(if 0<r.length then [(0,r.length)] else [])++shift r.length (bc 3 B):=by
 show aQ 0 0 (c6 3 (r++B))=_;rw[qY r hr,qZ,Nat.zero_add,Hi h]
theorem Qi {r B:List Kd}(hr:fo r)(h:Cut B):bc 3 (.G::r++B)=(if 0<r.length then [(1,r.length+1)] else [])++shift (r.length+1) (bc 3 B):=by
 show aQ 0 0 (c6 3 (.G::(r++B)))=_;show aQ 0 0 (false::c6 3 (r++B))=_;simp only [aQ];rw[if_neg (Nat.lt_irrefl 0),nil_append,qY r hr,qZ,Hi h];rw[show 0+1+r.length=r.length+1 by omega]
 by_cases c:0<r.length
 ·rw[if_pos c,if_pos (by omega)]
 ·rw[if_neg c,if_neg (by omega)]
theorem Ir (B:List Kd):bc 3 (.G::B)=shift 1 (bc 3 B):=by
 show aQ 0 0 (false::c6 3 B)=_;simp only [aQ];rw[if_neg (Nat.lt_irrefl 0),nil_append];exact shF _ 1 0 0
theorem we (B:List Kd):aH 3 (.G::B)=3::aH 3 B:=by
 show bw 3 .G B.head? :: aH 3 B=_;unfold bw;rw[if_neg (by rintro⟨z,_⟩;cases z)];rfl
def dn (B:List Kd):Bool:=decide (B[0]? = some .G) && !eA B[1]?
def dbl (r B:List Kd):Bool:=eA B[0]? && decide (r.getLast? = some .s)
def d7 (r B:List Kd):List Int:=if r.length % 3=2/\dbl r B=true then ones (r.length-1)++[2] else ones r.length
theorem Cm {r B:List Kd}(h:0<r.length):(r++B)[r.length-1]? = r.getLast?:=by
 rw[List.getElem?_append_left (by omega),List.getLast?_eq_getElem?]
theorem aB (n:Nat):(ones n).length=n:=List.length_replicate
theorem tU (n:Nat)(h:0<n):(ones n).set (n-1) 2=ones (n-1)++[2]:=by
 obtain⟨k,rfl⟩:∃ k,n=k+1:=⟨n-1,by omega⟩;show(ones (k+1)).set k 2=ones k++[2];unfold ones
 induction k with
 |zero=>rfl
 |succ k ih =>
  show(1:Int)::(List.replicate (k+1) (1:Int)).set k 2=1::(List.replicate k 1++[2]);rw[ih (by omega)]
theorem noG {r:List Kd}(hr:fo r){B:List Kd}{f:List Int}(h:0<r.length)(P:List Kd):bA (P++r++B) f (P++r).length=false:=by
 unfold bA;rw[length_append];have e1:(((P.length+r.length:Nat):Int)-1).toNat=(r.length-1)+P.length:=by omega
 have:Sk (P++r++B) (((P.length+r.length:Nat):Int)-1)≠some .G:=by
  unfold Sk;rw[if_pos (by omega),e1,List.append_assoc,getElem?_append_right (by omega),Nat.add_sub_cancel,Cm h];intro e;have:=hr _ (List.mem_of_getLast? e);cases this
 rw[decide_eq_false this];rfl
theorem ad6 {r B:List Kd}(hr:fo r)(hB:Cut B)(hc:0<r.length):rd 3 (r++B)=d7 r B++(if r.length % 3=1/\dn B=true then 2::rd 3 B.tail else rd 3 B):=by
 have hin:∀ q∈bc 3 B,q.1<q.2/\q.2<=B.length:=bL 3 B;have l0:bA (r++B) (ones r.length++aH 3 B) 0=false:=rfl;have rz:bQ (r++B) r.length=dn B:=by
  unfold bQ dn;rw[getElem?_append_right (Nat.le_refl _),getElem?_append_right (by omega),Nat.sub_self,Nat.add_sub_cancel_left]
 have gz:(r++B)[r.length]? = B[0]?:=by rw[getElem?_append_right (Nat.le_refl _),Nat.sub_self]
 have hd:(eA (r++B)[r.length]? && decide ((r++B)[r.length-1]? = some .s))=dbl r B:=by rw[gz,Cm hc];rfl
 rw[tT,TU hr hB,if_pos hc,jg r hr];show fd (r++B) (shift r.length (bc 3 B)) (settle (r++B) (ones r.length++aH 3 B) 0 r.length).2=_;have plain:∀ f:List Int,f.length=r.length->fd (r++B) (shift r.length (bc 3 B)) (f++aH 3 B)=f++rd 3 B:=fun f hf=>by
  rw[Hh r B f hf (bc 3 B) (aH 3 B) (cL 3 B) fun q hq=>⟨(hin q hq).1,(hin q hq).2,fun _ g'=>noG hr hc []⟩,tT]
 unfold settle i9 ja;rw[l0,rz,hd,Nat.sub_zero]
 by_cases c1:r.length % 3=1
 ·have e:d7 r B=ones r.length:=by unfold d7;rw[if_neg (by omega)]
  rw[if_pos c1,if_neg Bool.false_ne_true,e]
  by_cases hb:dn B=true
  ·rw[if_pos hb,if_pos ⟨c1,hb⟩];obtain⟨t,rfl⟩:∃ t,B=.G::t:=by
    have:=of_decide_eq_true (Bool.and_eq_true_iff.mp hb).1;cases B with
    |nil=>cases this
    |cons k t=>exact⟨t,by simp at this;rw[this]⟩
   rw[we,Ir,kY];dsimp only;have eL:(ones r.length++(3::aH 3 t)).set r.length 2=(ones r.length++[2])++aH 3 t:=by
    rw[List.set_append_right _ _ (by rw[aB];exact Nat.le_refl _),aB,Nat.sub_self,List.append_assoc];rfl
   rw[eL];have eK:r ++ .G::t=(r++[.G])++t:=by simp
   have eS:1+r.length=(r++[Kd.G]).length:=by simp;omega
   rw[eK,eS,Hh (r++[Kd.G]) t (ones r.length++[2]) (by rw[length_append,length_append,aB];rfl) (bc 3 t) (aH 3 t) (cL 3 t) fun q hq=>⟨(bL 3 t q hq).1,(bL 3 t q hq).2,fun _ g'=>?_⟩,<-tT,List.append_assoc]
   ·rfl
   ·unfold bA;have:((ones r.length++[2])++g').getD ((r++[Kd.G]).length-1) 0=2:=by
     rw[List.getD_eq_getElem?_getD,List.append_assoc,getElem?_append_right (by rw[aB];simp),aB];simp
    rw[this];simp
  ·rw[if_neg hb,if_neg (fun z=>hb z.2)];exact plain _ (aB _)
 ·rw[if_neg c1,if_neg (fun z:r.length % 3=1/\_=>c1 z.1)]
  by_cases c2:r.length % 3=2
  ·rw[if_pos c2]
   by_cases hb:dbl r B=true
   ·have e:d7 r B=ones (r.length-1)++[2]:=by unfold d7;rw[if_pos ⟨c2,hb⟩]
    rw[if_pos hb,e];dsimp only;rw[List.set_append_left _ _ (by rw[aB];omega),tU _ hc];exact plain _ (by rw[length_append,aB];simp;omega)
   ·have e:d7 r B=ones r.length:=by unfold d7;rw[if_neg (fun z=>hb z.2)]
    rw[if_neg hb,Bool.false_and,if_neg Bool.false_ne_true,e];exact plain _ (aB _)
  ·have e:d7 r B=ones r.length:=by unfold d7;rw[if_neg (fun z=>c2 z.1)]
   rw[if_neg c2,e];exact plain _ (aB _)
theorem TV {r B:List Kd}(hr:fo r)(hB:Cut B)(hc:0<r.length):rd 3 (.G::r++B) =
  if r.length % 3=1 then 2::(ones r.length++rd 3 B)
  else if r.length % 3=2/\dbl r B=false/\dn B=true then 2::(ones r.length++2::rd 3 B.tail)
  else 3::(d7 r B++rd 3 B):=by
 have hin:∀ q∈bc 3 B,q.1<q.2/\q.2<=B.length:=bL 3 B;have kG:(.G::r++B:List Kd)=.G::(r++B):=rfl;have bG:aH 3 (.G::r++B)=(3::ones r.length)++aH 3 B:=by rw[kG,we,jg r hr];rfl
 have l0:bA (.G::r++B) ((3::ones r.length)++aH 3 B) 1=true:=rfl;have rz:bQ (.G::r++B) (r.length+1)=dn B:=by
  unfold bQ dn;rw[kG,List.getElem?_cons_succ,List.getElem?_cons_succ,getElem?_append_right (Nat.le_refl _),getElem?_append_right (by omega),Nat.sub_self,Nat.add_sub_cancel_left]
 have hd:(eA (.G::r++B:List Kd)[r.length+1]? && decide ((.G::r++B:List Kd)[r.length+1-1]? = some .s))=dbl r B:=by
  have e1:(.G::r++B:List Kd)[r.length+1]? = B[0]?:=by rw[kG,List.getElem?_cons_succ,getElem?_append_right (Nat.le_refl _),Nat.sub_self]
  have e2:(.G::r++B:List Kd)[r.length+1-1]? = r.getLast?:=by
   rw[Nat.add_sub_cancel,kG];obtain⟨k,hk⟩:∃ k,r.length=k+1:=⟨r.length-1,by omega⟩;have:=Cm (B:=B) hc;rw[hk,Nat.add_sub_cancel]at this;rw[hk,List.getElem?_cons_succ,this]
  rw[e1,e2];rfl
 rw[tT,Qi hr hB,if_pos hc,bG];show fd (.G::r++B) (shift (r.length+1) (bc 3 B)) (settle (.G::r++B) ((3::ones r.length)++aH 3 B) 1 (r.length+1)).2=_;have plain:∀ f:List Int,f.length=r.length+1->fd (.G::r++B) (shift (r.length+1) (bc 3 B)) (f++aH 3 B)=f++rd 3 B:=fun f hf=>by
  have:=Hh (.G::r) B f hf (bc 3 B) (aH 3 B) (cL 3 B) fun q hq=>⟨(hin q hq).1,(hin q hq).2,fun _ g'=>noG hr hc [.G]⟩;rw[length_cons]at this;rw[this,tT]
 unfold settle i9 ja;rw[l0,rz,hd,show r.length+1-1=r.length by omega]
 by_cases c1:r.length % 3=1
 ·rw[if_pos c1,if_pos rfl,if_pos c1];exact plain (2::ones r.length) (by rw[length_cons,aB])
 ·rw[if_neg c1,if_neg c1]
  by_cases c2:r.length % 3=2
  ·rw[if_pos c2]
   by_cases hb:dbl r B=true
   ·have e:d7 r B=ones (r.length-1)++[2]:=by unfold d7;rw[if_pos ⟨c2,hb⟩]
    rw[if_pos hb,if_neg (fun z=>by rw[hb]at z;cases z.2.1),e];dsimp only;have eS:((3::ones r.length)++aH 3 B).set r.length 2=(3::(ones (r.length-1)++[2]))++aH 3 B:=by
     rw[List.set_append_left _ _ (by rw[length_cons,aB];omega)]
     congr 1
     rw[show(3::ones r.length).set r.length 2=3::(ones r.length).set (r.length-1) 2 by
      obtain⟨k,hk⟩:∃ k,r.length=k+1:=⟨r.length-1,by omega⟩;rw[hk];rfl,tU _ hc]
    rw[eS];exact plain _ (by rw[length_cons,length_append,aB];simp;omega)
   ·have hb':dbl r B=false:=Bool.eq_false_iff.mpr hb;have e:d7 r B=ones r.length:=by unfold d7;rw[if_neg (fun z=>hb z.2)]
    rw[if_neg hb,Bool.true_and,e]
    by_cases hR:dn B=true
    ·rw[if_pos hR,if_pos ⟨c2,hb',hR⟩];obtain⟨t,rfl⟩:∃ t,B=.G::t:=by
      have:=of_decide_eq_true (Bool.and_eq_true_iff.mp hR).1;cases B with
      |nil=>cases this
      |cons k t=>exact⟨t,by simp at this;rw[this]⟩
     rw[we,Ir,kY];dsimp only;have eL:((((3::ones r.length)++(3::aH 3 t)).set (1-1) 2).set (r.length+1) 2)=(2::(ones r.length++[2]))++aH 3 t:=by
      show((2::ones r.length)++(3::aH 3 t)).set (r.length+1) 2=_;rw[List.set_append_right _ _ (by rw[length_cons,aB];exact Nat.le_refl _),length_cons,aB,Nat.sub_self];show(2::ones r.length)++(2::aH 3 t)=_;simp
     rw[eL];have eK:(.G::r ++ .G::t:List Kd)=(.G::(r++[.G]))++t:=by simp
     have eS:1+(r.length+1)=(.G::(r++[Kd.G])).length:=by simp;omega
     rw[eK,eS,Hh (Kd.G::(r++[Kd.G])) t (2::(ones r.length++[2])) (by simp[aB]) (bc 3 t) (aH 3 t) (cL 3 t) fun q hq=>⟨(bL 3 t q hq).1,(bL 3 t q hq).2,fun _ g'=>?_⟩,<-tT]
     ·simp
     ·unfold bA;have:((2::(ones r.length++[2]))++g').getD ((Kd.G::(r++[Kd.G])).length-1) 0=2:=by
       rw[List.getD_eq_getElem?_getD];show((2::(ones r.length++[2]))++g')[(r++[Kd.G]).length+1-1]?.getD 0=2;rw[Nat.add_sub_cancel,length_append];show(2::((ones r.length++[2])++g'))[r.length+1]?.getD 0=2;rw[List.getElem?_cons_succ,List.append_assoc,getElem?_append_right (by rw[aB];exact Nat.le_refl _),aB,Nat.sub_self];rfl
      rw[this];simp
    ·rw[if_neg hR,if_neg (fun z=>hR z.2.2)];exact plain (3::ones r.length) (by rw[length_cons,aB])
  ·rw[if_neg c2,if_neg (fun z:r.length % 3=2/\_=>c2 z.1)];have e:d7 r B=ones r.length:=by unfold d7;rw[if_neg (fun z=>c2 z.1)]
   rw[e];exact plain (3::ones r.length) (by rw[length_cons,aB])
theorem Iu {m:Int}{k:Kd}{B:List Kd}(hM:Ms m)(hk:m=2\/k.small=false)(hG:m=3->k=.G->Cut B):rd m (k::B)=bw (nm m k) k B.head? :: rd (nm m k) B:=by
 have e:inR (nm m k) k=false:=by
  unfold inR;rcases hk with h|h
  ·subst h;cases k <;> rfl
  ·rw[h,Bool.and_false]
 have er:bc m (k::B)=shift 1 (bc (nm m k) B):=by
  show aQ 0 0 (inR (nm m k) k::c6 (nm m k) B)=_;rw[e];simp only [aQ];rw[if_neg (Nat.lt_irrefl 0),nil_append];exact shF _ 1 0 0
 rw[tT,er];show fd ([k]++B) (shift [k].length (bc (nm m k) B)) ([bw (nm m k) k B.head?]++aH (nm m k) B)=_;rw[Hh [k] B [bw (nm m k) k B.head?] rfl (bc (nm m k) B) (aH (nm m k) B) (cL _ B) fun q hq=>⟨(bL _ B q hq).1,(bL _ B q hq).2,fun h0 g'=>?_⟩,<-tT]
 ·rfl
 ·cases hkG:decide (k=.G) with
  |false =>
   have:k≠.G:=of_decide_eq_false hkG;unfold bA;rw[show Sk ([k]++B) (([k].length:Int)-1)=some k from rfl,decide_eq_false (fun z=>this (Option.some.inj z))];rfl
  |true =>
   have ek:=of_decide_eq_true hkG;subst ek
   by_cases hm:m=3
   ·subst hm;have hC:=hG rfl rfl
    exfalso
    cases B with
    |nil =>
     have:=(bL _ [] q hq);simp at this;omega
    |cons c t =>
     have hc:=hC c t rfl;have hq2:q∈aQ 0 0 (inR (nm 3 c) c::c6 (nm 3 c) t):=hq;have ec:inR (nm 3 c) c=false:=by unfold inR;rw[hc,Bool.and_false]
     rw[ec]at hq2;simp only [aQ]at hq2;rw[if_neg (Nat.lt_irrefl 0),nil_append]at hq2;have:=jZ _ 1 1 (Nat.le_refl _) q hq2;omega
   ·rcases hM with h|h
    ·exact absurd h hm
    ·subst h;unfold bA;have:([bw (nm 2 .G) .G B.head?]++g').getD ([Kd.G].length-1) 0=bw 2 .G B.head?:=rfl;rw[this]
     by_cases NG:B.head? = some .dot
     ·exfalso
      cases B with
      |nil=>cases NG
      |cons c t =>
       have:c=.dot:=Option.some.inj NG;subst this;have hq2:q∈aQ 0 0 (false::c6 2 t):=hq;simp only [aQ]at hq2;rw[if_neg (Nat.lt_irrefl 0),nil_append]at hq2;have:=jZ _ 1 1 (Nat.le_refl _) q hq2;omega
     ·have:bw 2 .G B.head? = 2:=by
       unfold bw;rw[if_neg (fun z=>NG z.2.2)];rfl
      rw[this];simp
end jY
set_option maxHeartbeats 1000000
namespace jY
open PySem L2 PyProof.Rows
def LS (ks:List Kd):List (Nat×Nat)->List Int->Bool
 |[],_=>true
 |p::rs,f=>(settle ks f p.1 p.2).1&&LS ks rs (settle ks f p.1 p.2).2
def lC (m:Int)(ks:List Kd):Bool:=LS ks (bc m ks) (aH m ks)
theorem LU (ks:List Kd):∀(rs:List (Nat×Nat)) (c:Tx),(rs.foldl (iF ks) c).2=[] ↔ c.2=[]/\LS ks rs c.1=true
 |[],c=>by simp[LS]
 |p::rs,c=>by
  rw[List.foldl_cons,LU ks rs];show(if(settle ks c.1 p.1 p.2).1 then c.2 else c.2++[p])=[]/\LS ks rs (settle ks c.1 p.1 p.2).2=true ↔ c.2=[]/\((settle ks c.1 p.1 p.2).1&&LS ks rs (settle ks c.1 p.1 p.2).2)=true;cases h:(settle ks c.1 p.1 p.2).1 with
  |true=>simp
  |false=>simp
theorem TX (m:Int)(ks:List Kd):(b7 m ks).2=[] ↔ lC m ks=true:=by
 unfold b7 lC;rw[LU];simp
theorem NH (A B:List Kd)(f g:List Int)(hf:f.length=A.length)(hg:g.length=B.length){a z:Nat}(haz:a<z)(hz:z<=B.length)(h0:a=0->bA (A++B) (f++g) A.length=false) :
  (settle (A++B) (f++g) (a+A.length) (z+A.length)).1=(settle B g a z).1:=by
 have ix:∀ j,(A++B)[j+A.length]? = B[j]?:=fun j=>by
  rw[getElem?_append_right (by omega),Nat.add_sub_cancel]
 have hl:bA (A++B) (f++g) (a+A.length)=bA B g a:=by
  by_cases e0:a=0
  ·have:=h0 e0;subst e0;rw[Nat.zero_add,this];rfl
  ·unfold bA Sk;rw[if_pos (by omega),if_pos (by omega)];have e1:(((a+A.length:Nat):Int)-1).toNat=(a-1)+A.length:=by omega
   have e2:(((a:Nat):Int)-1).toNat=a-1:=by omega
   rw[e1,e2,ix]
   congr 2
   rw[List.getD_eq_getElem?_getD,List.getD_eq_getElem?_getD,getElem?_append_right (by omega)];have e3:a+A.length-1-f.length=a-1:=by omega
   rw[e3]
 have hr:bQ (A++B) (z+A.length)=bQ B z:=by
  unfold bQ;rw[ix,show z+A.length+1=(z+1)+A.length by omega,ix]
 have st:∀(h:List Int)(j:Nat),(f++h).set (j+A.length) 2=f++h.set j 2:=fun h j=>by
  rw[List.set_append_right _ _ (by omega)]
  congr 2
  omega
 have ed:z+A.length-(a+A.length)=z-a:=by omega
 have ez:z+A.length-1=(z-1)+A.length:=by omega
 have hlp:bA B g a=true->a+A.length-1=(a-1)+A.length:=fun h=>by have:=wa h;omega
 unfold settle i9 ja;rw[hl,hr,ed,ez,ix,ix]
 repeat' split
 all_goals rfl
theorem wg (A B:List Kd)(f:List Int)(hf:f.length=A.length):∀(rs:List (Nat×Nat)) (g:List Int),g.length=B.length->(∀ q∈rs,q.1<q.2/\q.2<=B.length/\(q.1=0->∀ g',bA (A++B) (f++g') A.length=false)) ->
  LS (A++B) (shift A.length rs) (f++g)=LS B rs g
 |[],_,_,_=>rfl
 |r::t,g,hg,h=>by
  obtain⟨h1,h2,h3⟩:=h r mem_cons_self;show((settle (A++B) (f++g) (r.1+A.length) (r.2+A.length)).1&&LS (A++B) (shift A.length t) (settle (A++B) (f++g) (r.1+A.length) (r.2+A.length)).2)=((settle B g r.1 r.2).1&&LS B t (settle B g r.1 r.2).2);rw[Hg A B f g hf hg h1 h2 fun e=>h3 e g,NH A B f g hf hg h1 h2 fun e=>h3 e g];rw[wg A B f hf t _ (by rw[nc];exact hg) fun q hq=>h q (mem_cons_of_mem _ hq)]
theorem Y7 {r B:List Kd}(hr:fo r)(hB:Cut B)(hc:0<r.length):lC 3 (r++B)=if r.length % 3=1 then(dn B&&lC 3 B.tail) else if r.length % 3=2 then(dbl r B&&lC 3 B) else lC 3 B:=by
 have hin:∀ q∈bc 3 B,q.1<q.2/\q.2<=B.length:=bL 3 B;have l0:bA (r++B) (ones r.length++aH 3 B) 0=false:=rfl;have rz:bQ (r++B) r.length=dn B:=by
  unfold bQ dn;rw[getElem?_append_right (Nat.le_refl _),getElem?_append_right (by omega),Nat.sub_self,Nat.add_sub_cancel_left]
 have gz:(r++B)[r.length]? = B[0]?:=by rw[getElem?_append_right (Nat.le_refl _),Nat.sub_self]
 have hd:(eA (r++B)[r.length]? && decide ((r++B)[r.length-1]? = some .s))=dbl r B:=by rw[gz,Cm hc];rfl
 unfold lC;rw[TU hr hB,if_pos hc,jg r hr];show((settle (r++B) (ones r.length++aH 3 B) 0 r.length).1&&LS (r++B) (shift r.length (bc 3 B)) (settle (r++B) (ones r.length++aH 3 B) 0 r.length).2)=_;have plain:∀ f:List Int,f.length=r.length->LS (r++B) (shift r.length (bc 3 B)) (f++aH 3 B)=LS B (bc 3 B) (aH 3 B):=fun f hf=>wg r B f hf (bc 3 B) (aH 3 B) (cL 3 B) fun q hq=>⟨(hin q hq).1,(hin q hq).2,fun _ g'=>noG hr hc []⟩;unfold settle i9 ja;rw[l0,rz,hd,Nat.sub_zero]
 by_cases c1:r.length % 3=1
 ·rw[if_pos c1,if_neg Bool.false_ne_true,if_pos c1]
  by_cases hb:dn B=true
  ·rw[if_pos hb,hb];obtain⟨t,rfl⟩:∃ t,B=.G::t:=by
    have:=of_decide_eq_true (Bool.and_eq_true_iff.mp hb).1;cases B with
    |nil=>cases this
    |cons k t=>exact⟨t,by simp at this;rw[this]⟩
   rw[we,Ir,kY];dsimp only;have eL:(ones r.length++(3::aH 3 t)).set r.length 2=(ones r.length++[2])++aH 3 t:=by
    rw[List.set_append_right _ _ (by rw[aB];exact Nat.le_refl _),aB,Nat.sub_self,List.append_assoc];rfl
   rw[eL];have eK:r ++ .G::t=(r++[.G])++t:=by simp
   have eS:1+r.length=(r++[Kd.G]).length:=by simp;omega
   rw[eK,eS,wg (r++[Kd.G]) t (ones r.length++[2]) (by rw[length_append,length_append,aB];rfl) (bc 3 t) (aH 3 t) (cL 3 t) fun q hq=>⟨(bL 3 t q hq).1,(bL 3 t q hq).2,fun _ g'=>?_⟩]
   ·rfl
   ·unfold bA;have:((ones r.length++[2])++g').getD ((r++[Kd.G]).length-1) 0=2:=by
     rw[List.getD_eq_getElem?_getD,List.append_assoc,getElem?_append_right (by rw[aB];simp),aB];simp
    rw[this];simp
  ·rw[if_neg hb,Bool.eq_false_iff.mpr hb];rfl
 ·rw[if_neg c1,if_neg c1]
  by_cases c2:r.length % 3=2
  ·rw[if_pos c2,if_pos c2]
   by_cases hb:dbl r B=true
   ·rw[if_pos hb,hb];dsimp only;rw[List.set_append_left _ _ (by rw[aB];omega),tU _ hc];rw[plain _ (by rw[length_append,aB];simp;omega)]
   ·rw[if_neg hb,Bool.false_and,if_neg Bool.false_ne_true,Bool.eq_false_iff.mpr hb];rfl
  ·rw[if_neg c2,if_neg c2];rw[plain _ (aB _)];rfl
theorem Qj {r B:List Kd}(hr:fo r)(hB:Cut B)(hc:0<r.length):lC 3 (.G::r++B)=if r.length % 3=2 then(if dbl r B=true then lC 3 B else(dn B&&lC 3 B.tail)) else lC 3 B:=by
 have hin:∀ q∈bc 3 B,q.1<q.2/\q.2<=B.length:=bL 3 B;have kG:(.G::r++B:List Kd)=.G::(r++B):=rfl;have bG:aH 3 (.G::r++B)=(3::ones r.length)++aH 3 B:=by rw[kG,we,jg r hr];rfl
 have l0:bA (.G::r++B) ((3::ones r.length)++aH 3 B) 1=true:=rfl;have rz:bQ (.G::r++B) (r.length+1)=dn B:=by
  unfold bQ dn;rw[kG,List.getElem?_cons_succ,List.getElem?_cons_succ,getElem?_append_right (Nat.le_refl _),getElem?_append_right (by omega),Nat.sub_self,Nat.add_sub_cancel_left]
 have hd:(eA (.G::r++B:List Kd)[r.length+1]? && decide ((.G::r++B:List Kd)[r.length+1-1]? = some .s))=dbl r B:=by
  have e1:(.G::r++B:List Kd)[r.length+1]? = B[0]?:=by rw[kG,List.getElem?_cons_succ,getElem?_append_right (Nat.le_refl _),Nat.sub_self]
  have e2:(.G::r++B:List Kd)[r.length+1-1]? = r.getLast?:=by
   rw[Nat.add_sub_cancel,kG];obtain⟨k,hk⟩:∃ k,r.length=k+1:=⟨r.length-1,by omega⟩;have:=Cm (B:=B) hc;rw[hk,Nat.add_sub_cancel]at this;rw[hk,List.getElem?_cons_succ,this]
  rw[e1,e2];rfl
 unfold lC;rw[Qi hr hB,if_pos hc,bG];show((settle (.G::r++B) ((3::ones r.length)++aH 3 B) 1 (r.length+1)).1&&LS (.G::r++B) (shift (r.length+1) (bc 3 B)) (settle (.G::r++B) ((3::ones r.length)++aH 3 B) 1 (r.length+1)).2)=_;have plain:∀ f:List Int,f.length=r.length+1->LS (.G::r++B) (shift (r.length+1) (bc 3 B)) (f++aH 3 B)=LS B (bc 3 B) (aH 3 B):=fun f hf=>by
  have:=wg (.G::r) B f hf (bc 3 B) (aH 3 B) (cL 3 B) fun q hq=>⟨(hin q hq).1,(hin q hq).2,fun _ g'=>noG hr hc [.G]⟩;rw[length_cons]at this;rw[this]
 unfold settle i9 ja;rw[l0,rz,hd,show r.length+1-1=r.length by omega]
 by_cases c1:r.length % 3=1
 ·rw[if_pos c1,if_pos rfl,if_neg (by omega)];exact plain (2::ones r.length) (by rw[length_cons,aB])
 ·rw[if_neg c1]
  by_cases c2:r.length % 3=2
  ·rw[if_pos c2,if_pos c2]
   by_cases hb:dbl r B=true
   ·rw[if_pos hb,if_pos hb];dsimp only;have eS:((3::ones r.length)++aH 3 B).set r.length 2=(3::(ones (r.length-1)++[2]))++aH 3 B:=by
     rw[List.set_append_left _ _ (by rw[length_cons,aB];omega)]
     congr 1
     rw[show(3::ones r.length).set r.length 2=3::(ones r.length).set (r.length-1) 2 by
      obtain⟨k,hk⟩:∃ k,r.length=k+1:=⟨r.length-1,by omega⟩;rw[hk];rfl,tU _ hc]
    rw[eS];rw[plain _ (by rw[length_cons,length_append,aB];simp;omega)];rfl
   ·rw[if_neg hb,Bool.true_and,if_neg hb]
    by_cases hR:dn B=true
    ·rw[if_pos hR,hR];obtain⟨t,rfl⟩:∃ t,B=.G::t:=by
      have:=of_decide_eq_true (Bool.and_eq_true_iff.mp hR).1;cases B with
      |nil=>cases this
      |cons k t=>exact⟨t,by simp at this;rw[this]⟩
     rw[we,Ir,kY];dsimp only;have eL:((((3::ones r.length)++(3::aH 3 t)).set (1-1) 2).set (r.length+1) 2)=(2::(ones r.length++[2]))++aH 3 t:=by
      show((2::ones r.length)++(3::aH 3 t)).set (r.length+1) 2=_;rw[List.set_append_right _ _ (by rw[length_cons,aB];exact Nat.le_refl _),length_cons,aB,Nat.sub_self];show(2::ones r.length)++(2::aH 3 t)=_;simp
     rw[eL];have eK:(.G::r ++ .G::t:List Kd)=(.G::(r++[.G]))++t:=by simp
     have eS:1+(r.length+1)=(.G::(r++[Kd.G])).length:=by simp;omega
     rw[eK,eS,wg (Kd.G::(r++[Kd.G])) t (2::(ones r.length++[2])) (by simp[aB]) (bc 3 t) (aH 3 t) (cL 3 t) fun q hq=>⟨(bL 3 t q hq).1,(bL 3 t q hq).2,fun _ g'=>?_⟩]
     ·rfl
     ·unfold bA;have:((2::(ones r.length++[2]))++g').getD ((Kd.G::(r++[Kd.G])).length-1) 0=2:=by
       rw[List.getD_eq_getElem?_getD];show((2::(ones r.length++[2]))++g')[(r++[Kd.G]).length+1-1]?.getD 0=2;rw[Nat.add_sub_cancel,length_append];show(2::((ones r.length++[2])++g'))[r.length+1]?.getD 0=2;rw[List.getElem?_cons_succ,List.append_assoc,getElem?_append_right (by rw[aB];exact Nat.le_refl _),aB,Nat.sub_self];rfl
      rw[this];simp
    ·rw[if_neg hR,Bool.eq_false_iff.mpr hR];rfl
  ·rw[if_neg c2,if_neg c2];rw[plain (3::ones r.length) (by rw[length_cons,aB])];rfl
theorem Cn {m:Int}{k:Kd}{B:List Kd}(hM:Ms m)(hk:m=2\/k.small=false)(hG:m=3->k=.G->Cut B):lC m (k::B)=lC (nm m k) B:=by
 have e:inR (nm m k) k=false:=by
  unfold inR;rcases hk with h|h
  ·subst h;cases k <;> rfl
  ·rw[h,Bool.and_false]
 have er:bc m (k::B)=shift 1 (bc (nm m k) B):=by
  show aQ 0 0 (inR (nm m k) k::c6 (nm m k) B)=_;rw[e];simp only [aQ];rw[if_neg (Nat.lt_irrefl 0),nil_append];exact shF _ 1 0 0
 unfold lC;rw[er];show LS ([k]++B) (shift [k].length (bc (nm m k) B)) ([bw (nm m k) k B.head?]++aH (nm m k) B)=_;rw[wg [k] B [bw (nm m k) k B.head?] rfl (bc (nm m k) B) (aH (nm m k) B) (cL _ B) fun q hq=>⟨(bL _ B q hq).1,(bL _ B q hq).2,fun h0 g'=>?_⟩];cases hkG:decide (k=.G) with
 |false =>
  have:k≠.G:=of_decide_eq_false hkG;unfold bA;rw[show Sk ([k]++B) (([k].length:Int)-1)=some k from rfl,decide_eq_false (fun z=>this (Option.some.inj z))];rfl
 |true =>
  have ek:=of_decide_eq_true hkG;subst ek
  by_cases hm:m=3
  ·subst hm;have hC:=hG rfl rfl
   exfalso
   cases B with
   |nil =>
    have:=(bL _ [] q hq);simp at this;omega
   |cons c t =>
    have hc:=hC c t rfl;have hq2:q∈aQ 0 0 (inR (nm 3 c) c::c6 (nm 3 c) t):=hq;have ec:inR (nm 3 c) c=false:=by unfold inR;rw[hc,Bool.and_false]
    rw[ec]at hq2;simp only [aQ]at hq2;rw[if_neg (Nat.lt_irrefl 0),nil_append]at hq2;have:=jZ _ 1 1 (Nat.le_refl _) q hq2;omega
  ·rcases hM with h|h
   ·exact absurd h hm
   ·subst h;unfold bA;have:([bw (nm 2 .G) .G B.head?]++g').getD ([Kd.G].length-1) 0=bw 2 .G B.head?:=rfl;rw[this]
    by_cases NG:B.head? = some .dot
    ·exfalso
     cases B with
     |nil=>cases NG
     |cons c t =>
      have:c=.dot:=Option.some.inj NG;subst this;have hq2:q∈aQ 0 0 (false::c6 2 t):=hq;simp only [aQ]at hq2;rw[if_neg (Nat.lt_irrefl 0),nil_append]at hq2;have:=jZ _ 1 1 (Nat.le_refl _) q hq2;omega
    ·have:bw 2 .G B.head? = 2:=by
      unfold bw;rw[if_neg (fun z=>NG z.2.2)];rfl
     rw[this];simp
end jY
set_option maxHeartbeats 1000000
namespace jY
open PySem L2 PyProof.Rows
def acc:Str->List Kd->List Int->Bool
 |z,[],[]=>gf z
 |z,k::ks,c::cs=>match jK z k c with
  |.str y=>acc y ks cs
  |_=>false
 |_,_,_=>false
def Cl (cs:List Int):Prop:=∀ c∈cs,0<=c/\c<=9
theorem aaW {P:Int->Prop}(h:∀ m:Nat,m<10->P m){c:Int}(hc:0<=c/\c<=9):P c:=by
 have:=h c.toNat (by omega)
 rwa [Int.toNat_of_nonneg hc.1]at this
def tens (p:Int->Bool):Bool:=(List.range 10).all fun m=>p (m:Nat)
theorem V7 {p:Int->Bool}(h:tens p=true){c:Int}(hc:0<=c/\c<=9):p c=true :=
 aaW (P:=fun c=>p c=true) (fun m hm=>all_eq_true.mp h m (mem_range.mpr hm)) hc
def lW (p:Kd->Int->Bool):Bool:=Y4.all fun k=>tens (p k)
theorem gj {p:Kd->Int->Bool}(h:lW p=true)(k:Kd){c:Int}(hc:0<=c/\c<=9):p k c=true:=V7 (all_eq_true.mp h k (LN k)) hc
def mk3 (l c e:Nat):Str:=⟨#[51,l,c,e]⟩
def opens:List Str:=[mk3 110 48 111,mk3 110 48 115,mk3 119 48 111,mk3 119 48 115,mk3 119 48 45,mk3 104 49 111,mk3 104 49 115]
theorem TY {z:Str}(hz:z∈opens){k:Kd}(hk:k.small=false){c:Int}(hc:0<=c/\c<=9):jK z k c=jK "3n0-" k c:=by
 have h:(opens.all fun z=>lW fun k c=>k.small||decide (jK z k c=jK "3n0-" k c))=true:=by lk
 have:=gj (all_eq_true.mp h z hz) k hc;rw[hk,Bool.false_or]at this;exact of_decide_eq_true this
theorem V8 {z:Str}(hz:z∈opens):gf z=true:=all_eq_true.mp (by lk:(opens.all gf)=true) z hz
def q0:List Str:=[mk3 110 50 83,mk3 119 50 83]
theorem V9 {z:Str}(hz:z∈q0){k:Kd}(hk:k.small=false){c:Int}(hc:0<=c/\c<=9):jK z k c=if k.great=true then jK "3n0-" k c else .non:=by
 have h:(q0.all fun z=>lW fun k c=>k.small||decide (jK z k c=if k.great=true then jK "3n0-" k c else .non))=true:=by lk
 have:=gj (all_eq_true.mp h z hz) k hc;rw[hk,Bool.false_or]at this;exact of_decide_eq_true this
def rights:List Str:=[mk3 110 49 111,mk3 110 49 115,mk3 104 50 111]
theorem Wa {z:Str}(hz:z∈rights){k:Kd}(hk:k.small=false){c:Int}(hc:0<=c/\c<=9):jK z k c=if k=.G/\c=2 then .str "3t0-" else .non:=by
 have h:(rights.all fun z=>lW fun k c=>k.small||decide (jK z k c=if k=.G/\c=2 then .str "3t0-" else .non))=true:=by lk
 have:=gj (all_eq_true.mp h z hz) k hc;rw[hk,Bool.false_or]at this;exact of_decide_eq_true this
def nones:List Str:=[mk3 110 50 111,mk3 110 50 115,mk3 119 49 111,mk3 119 49 115,mk3 119 50 111,mk3 119 50 115,mk3 104 48 45,mk3 104 48 111,mk3 104 48 115,mk3 104 50 115,mk3 104 50 83]
theorem Y8 {z:Str}(hz:z∈nones){k:Kd}(hk:k.small=false){c:Int}(hc:0<=c/\c<=9):jK z k c=.non:=by
 have h:(nones.all fun z=>lW fun k c=>k.small||decide (jK z k c=.non))=true:=by lk
 have:=gj (all_eq_true.mp h z hz) k hc;rw[hk,Bool.false_or]at this;exact of_decide_eq_true this
theorem f_shut {z:Str}(hz:z∈q0++rights++nones):gf z=false:=by
 have:=all_eq_true.mp (by lk:((q0++rights++nones).all fun z=>!gf z)=true) z hz
 simpa using this
def Sm (k:Kd):Nat:=if k=.s then 115 else 111
theorem aaX {l c e:Nat}(hl:l=110\/l=119\/l=104)(hcc:c<3)(he:e=45\/e=111\/e=115){k:Kd}(hk:k.small=true){n:Int}(hn:0<=n/\n<=9) :
  jK (mk3 l (48+c) e) k n=if n=1 then .str (mk3 l (48+(c+1) % 3) (Sm k)) else if n=2/\k=.s/\c=1 then .str (mk3 l 50 83) else .non:=by
 have h:([110,119,104].all fun l=>[0,1,2].all fun c=>[45,111,115].all fun e=>lW fun k n=>!k.small||decide (jK (mk3 l (48+c) e) k n=if n=1 then .str (mk3 l (48+(c+1) % 3) (Sm k)) else if n=2/\k=.s/\c=1 then .str (mk3 l 50 83) else .non))=true:=by lk
 have h1:=all_eq_true.mp (all_eq_true.mp (all_eq_true.mp h l (by rcases hl with rfl|rfl|rfl <;> simp)) c (by rcases c with _|_|_|c <;> simp;omega)) e (by rcases he with rfl|rfl|rfl <;> simp);have:=gj h1 k hn;rw[hk]at this;exact of_decide_eq_true this
theorem f_t {k:Kd}(hk:k.small=true){n:Int}(hn:0<=n/\n<=9):jK "3t0-" k n=jK "3n0-" k n:=by
 have h:(lW fun k n=>!k.small||decide (jK "3t0-" k n=jK "3n0-" k n))=true:=by lk
 have:=gj h k hn;rw[hk]at this;exact of_decide_eq_true this
theorem f_S {l:Nat}(hl:l=110\/l=119\/l=104){k:Kd}(hk:k.small=true){n:Int}(hn:0<=n/\n<=9):jK (mk3 l 50 83) k n=.non:=by
 have h:([110,119,104].all fun l=>lW fun k n=>!k.small||decide (jK (mk3 l 50 83) k n=.non))=true:=by lk
 have:=gj (all_eq_true.mp h l (by rcases hl with rfl|rfl|rfl <;> simp)) k hn;rw[hk]at this;exact of_decide_eq_true this
def ZQ (e:Nat):List Kd->Nat
 |[]=>e
 |k::r=>ZQ (Sm k) r
theorem qr (n:Nat):ones (n+1)=1::ones n:=rfl
theorem bf (z:Str)(k:Kd)(ks:List Kd)(c:Int)(cs:List Int):acc z (k::ks) (c::cs)=match jK z k c with
  |.str y=>acc y ks cs
  |_=>false:=rfl
theorem Y9 (k:Kd):Sm k=45\/Sm k=111\/Sm k=115:=by
 unfold Sm;split
 ·exact .inr (.inr rfl)
 ·exact .inr (.inl rfl)
theorem A1 {l:Nat}(hl:l=110\/l=119\/l=104){B:List Kd}:∀(r:List Kd)(c e:Nat)(cs:List Int),c<3->(e=45\/e=111\/e=115)->fo r->Cl cs->cs.length=r.length+B.length ->
  (acc (mk3 l (48+c) e) (r++B) cs=true ↔ (cs.take r.length=ones r.length/\acc (mk3 l (48+(c+r.length) % 3) (ZQ e r)) B (cs.drop r.length)=true) \/
   (0<r.length/\(c+r.length) % 3=2/\r.getLast? = some .s/\cs.take r.length=ones (r.length-1)++[2]/\acc (mk3 l 50 83) B (cs.drop r.length)=true))
 |[],c,e,cs,hc,he,_,_,_=>by
  have:c % 3=c:=by omega
  simp[ones,ZQ,this]
 |k::r,c,e,[],hc,he,hs,hcl,hlen=>by simp at hlen;omega
 |k::r,c,e,n::cs,hc,he,hs,hcl,hlen=>by
  have hk:=hs k mem_cons_self;have hr:fo r:=fun x hx=>hs x (mem_cons_of_mem _ hx);have hn:=hcl n mem_cons_self;have hcs:Cl cs:=fun x hx=>hcl x (mem_cons_of_mem _ hx);have hlen':cs.length=r.length+B.length:=by simp at hlen;omega
  have ih:=A1 hl r ((c+1) % 3) (Sm k) cs (by omega) (Y9 k) hr hcs hlen';have em:((c+1) % 3+r.length) % 3=(c+(r.length+1)) % 3:=by omega
  rw[List.cons_append,bf,aaX hl hc he hk hn,length_cons,List.take_succ_cons,List.drop_succ_cons,qr,Nat.add_sub_cancel]
  by_cases n1:n=1
  ·subst n1;rw[if_pos rfl];show acc _ (r++B) cs=true ↔ _;rw[ih,em];show _ ↔ (1::cs.take r.length=1::ones r.length/\acc (mk3 l (48+(c+(r.length+1)) % 3) (ZQ (Sm k) r)) B (cs.drop r.length)=true)\/_;refine or_congr ?_ ?_
   ·simp
   ·cases r with
    |nil=>simp[ones]
    |cons k2 r2 =>
     rw[List.getLast?_cons_cons,length_cons,Nat.add_sub_cancel,qr];simp
  ·rw[if_neg n1]
   by_cases n2:n=2/\k=.s/\c=1
   ·rw[if_pos n2];obtain⟨rfl,rfl,rfl⟩:=n2;show acc _ (r++B) cs=true ↔ _;cases r with
    |nil=>simp[ones]
    |cons k2 r2 =>
     cases cs with
     |nil=>simp at hlen';omega
     |cons n2 cs2 =>
      rw[List.cons_append,bf,f_S hl (hr k2 mem_cons_self) (hcs n2 mem_cons_self),length_cons,qr];simp
   ·rw[if_neg n2];show false=true ↔ _;cases r with
    |nil =>
     simp[ones];refine⟨fun z=>absurd z n1,fun z e1 e2=>absurd ⟨e2,e1,by omega⟩ n2⟩
    |cons k2 r2 =>
     rw[length_cons,qr];simp;refine⟨fun z=>absurd z n1,fun _ _ z=>absurd z n1⟩
theorem tV:∀(r:List Kd)(e:Nat),r≠[]->ZQ e r=if r.getLast? = some .s then 115 else 111
 |[],_,h=>absurd rfl h
 |[k],e,_=>by
  show Sm k=_;unfold Sm;simp
 |k::k2::r,e,_=>by
  show ZQ (Sm k) (k2::r)=_;rw[tV (k2::r) _ (by simp),List.getLast?_cons_cons]
def w2 (k:Kd):Int:=bw (nm 2 k) k none
def w3 (k:Kd):Int:=bw (nm 3 k) k none
theorem f2 (k:Kd){n:Int}(hn:0<=n/\n<=9):jK "2-" k n=if k=.G then(if n=2 then .str "2g" else if n=3 then .str "2G" else .non) else if n=w2 k then .str (if k=.three then "3n0-" else "2-") else .non:=by
 have h:(lW fun k n=>decide (jK "2-" k n=if k=.G then(if n=2 then .str "2g" else if n=3 then .str "2G" else .non) else if n=w2 k then .str (if k=.three then "3n0-" else "2-") else .non))=true:=by lk
 exact of_decide_eq_true (gj h k hn)
theorem f2g (k:Kd){n:Int}(hn:0<=n/\n<=9):jK "2g" k n=if k=.dot then .non else jK "2-" k n:=by
 have h:(lW fun k n=>decide (jK "2g" k n=if k=.dot then .non else jK "2-" k n))=true:=by lk
 exact of_decide_eq_true (gj h k hn)
theorem f2G (k:Kd){n:Int}(hn:0<=n/\n<=9):jK "2G" k n=if k=.dot then jK "2-" k n else .non:=by
 have h:(lW fun k n=>decide (jK "2G" k n=if k=.dot then jK "2-" k n else .non))=true:=by lk
 exact of_decide_eq_true (gj h k hn)
theorem f3n {k:Kd}(hk:k.small=false){n:Int}(hn:0<=n/\n<=9):jK "3n0-" k n=if k=.G then(if n=3 then .str "3w0-" else if n=2 then .str "3h0-" else .non) else if n=w3 k then .str (if k=.two then "2-" else "3n0-") else .non:=by
 have h:(lW fun k n=>k.small||decide (jK "3n0-" k n=if k=.G then(if n=3 then .str "3w0-" else if n=2 then .str "3h0-" else .non) else if n=w3 k then .str (if k=.two then "2-" else "3n0-") else .non))=true:=by lk
 have:=gj h k hn;rw[hk,Bool.false_or]at this;exact of_decide_eq_true this
theorem f3t {k:Kd}(hk:k.small=false){n:Int}(hn:0<=n/\n<=9):jK "3t0-" k n=if k.great=true then .non else jK "3n0-" k n:=by
 have h:(lW fun k n=>k.small||decide (jK "3t0-" k n=if k.great=true then .non else jK "3n0-" k n))=true:=by lk
 have:=gj h k hn;rw[hk,Bool.false_or]at this;exact of_decide_eq_true this
theorem z3n:("3n0-":Str)=mk3 110 48 45:=by lk
theorem z3w:("3w0-":Str)=mk3 119 48 45:=by lk
theorem z3h:("3h0-":Str)=mk3 104 48 45:=by lk
def P2 (ks:List Kd)(cs:List Int):Prop:=cs=rd 2 ks/\lC 2 ks=true
def P3 (ks:List Kd)(cs:List Int):Prop:=cs=rd 3 ks/\lC 3 ks=true
structure All (ks:List Kd):Prop where
 two:∀ cs:List Int,cs.length=ks.length->Cl cs->(acc "2-" ks cs=true ↔ P2 ks cs)
 g:∀ cs:List Int,cs.length=ks.length->Cl cs->(acc "2g" ks cs=true ↔ ks.head? ≠ some .dot/\P2 ks cs)
 G:∀ cs:List Int,cs.length=ks.length->Cl cs->(acc "2G" ks cs=true ↔ ks.head? = some .dot/\P2 ks cs)
 n:∀ cs:List Int,cs.length=ks.length->Cl cs->(acc "3n0-" ks cs=true ↔ P3 ks cs)
 w:∀ cs:List Int,cs.length=ks.length->Cl cs->(acc "3w0-" ks cs=true ↔ P3 (.G::ks) (3::cs))
 h:∀ cs:List Int,cs.length=ks.length->Cl cs->(acc "3h0-" ks cs=true ↔ P3 (.G::ks) (2::cs))
 t:∀ cs:List Int,cs.length=ks.length->Cl cs->(acc "3t0-" ks cs=true ↔ eA ks.head? = false/\P3 ks cs)
theorem TZ {k:Kd}{ks:List Kd}(ih:All ks){n:Int}{cs:List Int}(hl:cs.length=ks.length)(hn:0<=n/\n<=9)(hc:Cl cs):acc "2-" (k::ks) (n::cs)=true ↔ P2 (k::ks) (n::cs):=by
 unfold P2;rw[bf,f2 k hn,Iu (.inr rfl) (.inl rfl) (fun z=>by cases z),Cn (.inr rfl) (.inl rfl) (fun z=>by cases z)]
 by_cases hG:k=.G
 ·subst hG;rw[if_pos rfl];show _ ↔ n::cs=bw 2 .G ks.head? :: rd 2 ks/\lC 2 ks=true;have eb:bw 2 .G ks.head? = if ks.head? = some .dot then 3 else 2:=by
   unfold bw
   by_cases hd:ks.head? = some .dot
   ·rw[if_pos ⟨rfl,rfl,hd⟩,if_pos hd]
   ·rw[if_neg (fun z=>hd z.2.2),if_neg hd];rfl
  rw[eb]
  by_cases n2:n=2
  ·subst n2;rw[if_pos rfl];show acc "2g" ks cs=true ↔ _;rw[ih.g cs hl hc];unfold P2
   by_cases hd:ks.head? = some .dot
   ·simp[hd]
   ·simp[hd]
  ·rw[if_neg n2]
   by_cases n3:n=3
   ·subst n3;rw[if_pos rfl];show acc "2G" ks cs=true ↔ _;rw[ih.G cs hl hc];unfold P2
    by_cases hd:ks.head? = some .dot
    ·simp[hd]
    ·simp[hd]
   ·rw[if_neg n3];show false=true ↔ _
    by_cases hd:ks.head? = some .dot
    ·simp[hd,n3]
    ·simp[hd,n2]
 ·rw[if_neg hG];have eb:bw (nm 2 k) k ks.head? = w2 k:=by
   unfold w2 bw;rw[if_neg (fun z=>hG z.2.1),if_neg (fun z=>hG z.2.1)]
  rw[eb]
  by_cases e:n=w2 k
  ·rw[if_pos e,<-e]
   by_cases h3:k=.three
   ·subst h3;rw[if_pos rfl];show acc "3n0-" ks cs=true ↔ _;rw[ih.n cs hl hc];unfold P3;simp[nm]
   ·rw[if_neg h3];show acc "2-" ks cs=true ↔ _;rw[ih.two cs hl hc];unfold P2;have:nm 2 k=2:=by cases k <;> first|rfl|exact absurd rfl h3
    simp[this]
  ·rw[if_neg e];show false=true ↔ _;simp[e]
theorem Za {k:Kd}{ks:List Kd}(hk:k.small=false)(ih:All ks){n:Int}{cs:List Int}(hl:cs.length=ks.length)(hn:0<=n/\n<=9)(hc:Cl cs)(hG2:k=.G->∀ x y,rd 3 (.G::ks)=x::y->x=2\/x=3):acc "3n0-" (k::ks) (n::cs)=true ↔ P3 (k::ks) (n::cs):=by
 rw[bf,f3n hk hn]
 by_cases hG:k=.G
 ·subst hG;rw[if_pos rfl]
  by_cases n3:n=3
  ·subst n3;rw[if_pos rfl];exact ih.w cs hl hc
  ·rw[if_neg n3]
   by_cases n2:n=2
   ·subst n2;rw[if_pos rfl];exact ih.h cs hl hc
   ·rw[if_neg n2];show false=true ↔ _;refine⟨fun z=>(nomatch z),fun⟨z,_⟩=>?_⟩;rcases hG2 rfl n cs z.symm with z|z
    ·exact absurd z n2
    ·exact absurd z n3
 ·rw[if_neg hG];unfold P3;rw[Iu (.inl rfl) (.inr hk) (fun _ z=>absurd z hG),Cn (.inl rfl) (.inr hk) (fun _ z=>absurd z hG)];have eb:bw (nm 3 k) k ks.head? = w3 k:=by
   unfold w3 bw;rw[if_neg (fun z=>hG z.2.1),if_neg (fun z=>hG z.2.1)]
  rw[eb]
  by_cases e:n=w3 k
  ·rw[if_pos e,<-e]
   by_cases h3:k=.two
   ·subst h3;rw[if_pos rfl];show acc "2-" ks cs=true ↔ _;rw[ih.two cs hl hc];unfold P2;simp[nm]
   ·rw[if_neg h3];show acc "3n0-" ks cs=true ↔ _;rw[ih.n cs hl hc];unfold P3;have:nm 3 k=3:=by cases k <;> first|rfl|exact absurd rfl h3
    simp[this]
  ·rw[if_neg e];show false=true ↔ _;simp[e]
theorem acc_open {z:Str}(hz:z∈opens){B:List Kd}(hB:Cut B)(ih:All B){cs:List Int}(hl:cs.length=B.length)(hc:Cl cs):acc z B cs=true ↔ P3 B cs:=by
 cases B with
 |nil =>
  cases cs with
  |cons _ _=>simp at hl
  |nil=>exact⟨fun _=>⟨rfl,rfl⟩,fun _=>V8 hz⟩
 |cons k t =>
  cases cs with
  |nil=>simp at hl
  |cons n cs =>
   rw[<-ih.n (n::cs) hl hc,bf,bf,TY hz (hB k t rfl) (hc n mem_cons_self)]
theorem Hj {z:Str}(hz:z∈q0){B:List Kd}(hB:Cut B)(ih:All B){cs:List Int}(hl:cs.length=B.length)(hc:Cl cs):acc z B cs=true ↔ eA B[0]? = true/\P3 B cs:=by
 cases B with
 |nil =>
  cases cs with
  |cons _ _=>simp at hl
  |nil =>
   have:gf z=false:=f_shut (mem_append_left _ (mem_append_left _ hz));show gf z=true ↔ _;rw[this];simp[eA]
 |cons k t =>
  cases cs with
  |nil=>simp at hl
  |cons n cs =>
   rw[<-ih.n (n::cs) hl hc,bf,bf,V9 hz (hB k t rfl) (hc n mem_cons_self)];show _ ↔ k.great=true/\_
   by_cases hg:k.great=true
   ·rw[if_pos hg];simp[hg]
   ·rw[if_neg hg];simp[hg]
theorem wj {z:Str}(hz:z∈rights){B:List Kd}(hB:Cut B)(ih:∀ t,t.length<B.length->All t){cs:List Int}(hl:cs.length=B.length)(hc:Cl cs):acc z B cs=true ↔ dn B=true/\cs=2::rd 3 B.tail/\lC 3 B.tail=true:=by
 cases B with
 |nil =>
  cases cs with
  |cons _ _=>simp at hl
  |nil =>
   have:gf z=false:=f_shut (mem_append_left _ (mem_append_right _ hz));show gf z=true ↔ _;rw[this];simp
 |cons k t =>
  cases cs with
  |nil=>simp at hl
  |cons n cs =>
   have hl':cs.length=t.length:=by simpa using hl
   have hc':Cl cs:=fun x hx=>hc x (mem_cons_of_mem _ hx);rw[bf,Wa hz (hB k t rfl) (hc n mem_cons_self)]
   by_cases e:k=.G/\n=2
   ·obtain⟨rfl,rfl⟩:=e;rw[if_pos ⟨rfl,rfl⟩];show acc "3t0-" t cs=true ↔ _;rw[(ih t (by simp)).t cs hl' hc'];unfold P3 dn;show _ ↔ (decide ((some Kd.G)=some .G) && !eA (Kd.G::t)[1]?)=true/\_;have:(Kd.G::t)[1]? = t.head?:=by cases t <;> rfl
    rw[this];simp
   ·rw[if_neg e];show false=true ↔ _;refine⟨fun z=>(nomatch z),fun⟨h1,h2,_⟩=>absurd ⟨?_,?_⟩ e⟩
    ·have:=of_decide_eq_true (Bool.and_eq_true_iff.mp h1).1
     simpa using this
    ·injection h2
theorem jh {z:Str}(hz:z∈nones){B:List Kd}(hB:Cut B){cs:List Int}(hl:cs.length=B.length)(hc:Cl cs):¬ acc z B cs=true:=by
 cases B with
 |nil =>
  cases cs with
  |cons _ _=>simp at hl
  |nil =>
   have:gf z=false:=f_shut (mem_append_right _ hz);show ¬ gf z=true;rw[this];simp
 |cons k t =>
  cases cs with
  |nil=>simp at hl
  |cons n cs =>
   rw[bf,Y8 hz (hB k t rfl) (hc n mem_cons_self)];simp
theorem parts {cs:List Int}{n:Nat}{x y:List Int}(hx:x.length=n)(hn:n<=cs.length):cs=x++y ↔ cs.take n=x/\cs.drop n=y:=by
 constructor
 ·rintro rfl;exact⟨by rw[<-hx,List.take_left],by rw[<-hx,List.drop_left]⟩
 ·rintro⟨rfl,rfl⟩;exact(List.take_append_drop n cs).symm
theorem span (ks:List Kd):∃ r B,ks=r++B/\fo r/\Cut B:=by
 induction ks with
 |nil=>exact⟨[],[],rfl,fun _ z=>(nomatch z),fun _ _ z=>(nomatch z)⟩
 |cons k t ih =>
  obtain⟨r,B,rfl,h1,h2⟩:=ih
  by_cases hk:k.small=true
  ·exact⟨k::r,B,rfl,fun x hx=>by rcases List.mem_cons.mp hx with rfl|hx;exact hk;exact h1 x hx,h2⟩
  ·exact⟨[],k::(r++B),rfl,fun _ z=>(nomatch z),fun x y z=>by injection z with z _;rw[<-z];exact Bool.eq_false_iff.mpr hk⟩
theorem T1 (t:List Kd){x:Int}{y:List Int}(e:rd 3 (.G::t)=x::y):x=2\/x=3:=by
 obtain⟨r,B,rfl,hr,hB⟩:=span t
 by_cases hc:0<r.length
 ·rw[<-List.cons_append,TV hr hB hc]at e;split at e
  ·injection e with e _;exact .inl e.symm
  ·split at e
   ·injection e with e _;exact .inl e.symm
   ·injection e with e _;exact .inr e.symm
 ·have:r=[]:=List.length_eq_zero_iff.mp (by omega);subst this;rw[nil_append,Iu (k:=.G) (.inl rfl) (.inr rfl) (fun _ _=>hB)]at e
  injection e with e _
  exact .inr e.symm
section
variable {r B:List Kd} (hr:fo r) (hB:Cut B) (hc:0<r.length) (Vo:All B) (XW:∀ t,t.length<B.length->All t) {cs:List Int} (hl:cs.length=r.length+B.length) (hcl:Cl cs)
include hr hB hc Vo XW hl hcl
theorem aaY:acc (mk3 110 48 45) (r++B) cs=true ↔ P3 (r++B) cs:=by
 have hD:(cs.drop r.length).length=B.length:=by rw[length_drop];omega
 have LV:Cl (cs.drop r.length):=fun x hx=>hcl x (List.mem_of_mem_drop hx);have hrn:r≠[]:=fun z=>by rw[z]at hc;cases hc
 have h:=A1 (.inl rfl) (B:=B) r 0 45 cs (by decide) (.inl rfl) hr hcl hl;rw[Nat.zero_add,tV r 45 hrn]at h;have ht:(if r.getLast? = some Kd.s then 115 else 111)=111\/(if r.getLast? = some Kd.s then 115 else 111)=115:=by split <;> simp
 generalize (if r.getLast? = some Kd.s then 115 else 111)=tl at h ht;unfold P3;rw[ad6 hr hB hc,Y7 hr hB hc];refine h.trans ?_;have l0:r.length<=cs.length:=by omega
 rcases (by omega:r.length % 3=0\/r.length % 3=1\/r.length % 3=2) with m|m|m
 ·rw[m,if_neg (fun z:(0=1/\_)=>absurd z.1 (by decide)),if_neg (by decide),if_neg (by decide)];have eO:d7 r B=ones r.length:=by unfold d7;rw[if_neg (by omega)]
  rw[eO,parts (aB _) l0,acc_open (z:=mk3 110 48 tl) (by rcases ht with rfl|rfl <;> simp[opens]) hB Vo hD LV];unfold P3;simp;exact⟨fun⟨a,b,c⟩=>⟨⟨a,b⟩,c⟩,fun⟨⟨a,b⟩,c⟩=>⟨a,b,c⟩⟩
 ·rw[m,if_pos rfl];have eO:d7 r B=ones r.length:=by unfold d7;rw[if_neg (by omega)]
  rw[eO,wj (z:=mk3 110 49 tl) (by rcases ht with rfl|rfl <;> simp[rights]) hB XW hD LV]
  by_cases hR:dn B=true
  ·rw[if_pos ⟨rfl,hR⟩,parts (aB _) l0,hR];simp;exact⟨fun⟨a,b,c⟩=>⟨⟨a,b⟩,c⟩,fun⟨⟨a,b⟩,c⟩=>⟨a,b,c⟩⟩
  ·rw[if_neg (fun z=>hR z.2)];simp[hR]
 ·rw[m,if_neg (fun z:(2=1/\_)=>absurd z.1 (by decide)),if_neg (by decide),if_pos rfl];have nz:¬ acc (mk3 110 (48+2) tl) B (cs.drop r.length)=true:=jh (z:=mk3 110 50 tl) (by rcases ht with rfl|rfl <;> simp[nones]) hB hD LV;rw[Hj (z:=mk3 110 50 83) (by simp[q0]) hB Vo hD LV];unfold P3
  by_cases hd:dbl r B=true
  ·have eO:d7 r B=ones (r.length-1)++[2]:=by unfold d7;rw[if_pos ⟨m,hd⟩]
   rw[eO,parts (by rw[length_append,aB];simp;omega) l0,hd];obtain⟨d1,d2⟩:=Bool.and_eq_true_iff.mp hd;have d2:=of_decide_eq_true d2;constructor
   ·rintro(⟨_,z⟩|⟨_,_,_,a,_,b,c⟩)
    ·exact absurd z nz
    ·exact⟨⟨a,b⟩,c⟩
   ·rintro⟨⟨a,b⟩,c⟩;exact .inr ⟨hc,rfl,d2,a,d1,b,c⟩
  ·rw[Bool.eq_false_iff.mpr hd];constructor
   ·rintro(⟨_,z⟩|⟨_,_,a,_,b,_⟩)
    ·exact absurd z nz
    ·exact absurd (Bool.and_eq_true_iff.mpr ⟨b,decide_eq_true a⟩) hd
   ·rintro⟨_,z⟩;cases z
theorem aaZ:acc (mk3 119 48 45) (r++B) cs=true ↔ P3 (.G::r++B) (3::cs):=by
 have hD:(cs.drop r.length).length=B.length:=by rw[length_drop];omega
 have LV:Cl (cs.drop r.length):=fun x hx=>hcl x (List.mem_of_mem_drop hx);have hrn:r≠[]:=fun z=>by rw[z]at hc;cases hc
 have h:=A1 (.inr (.inl rfl)) (B:=B) r 0 45 cs (by decide) (.inl rfl) hr hcl hl;rw[Nat.zero_add,tV r 45 hrn]at h;have ht:(if r.getLast? = some Kd.s then 115 else 111)=111\/(if r.getLast? = some Kd.s then 115 else 111)=115:=by split <;> simp
 generalize (if r.getLast? = some Kd.s then 115 else 111)=tl at h ht;unfold P3;rw[TV hr hB hc,Qj hr hB hc];refine h.trans ?_;have l0:r.length<=cs.length:=by omega
 rcases (by omega:r.length % 3=0\/r.length % 3=1\/r.length % 3=2) with m|m|m
 ·rw[m,if_neg (by decide),if_neg (fun z:(0=2/\_)=>absurd z.1 (by decide)),if_neg (by decide)];have eO:d7 r B=ones r.length:=by unfold d7;rw[if_neg (by omega)]
  rw[eO,List.cons.injEq,parts (aB _) l0,acc_open (z:=mk3 119 48 tl) (by rcases ht with rfl|rfl <;> simp[opens]) hB Vo hD LV];unfold P3;simp;exact⟨fun⟨a,b,c⟩=>⟨⟨a,b⟩,c⟩,fun⟨⟨a,b⟩,c⟩=>⟨a,b,c⟩⟩
 ·rw[m,if_pos rfl];have nz:¬ acc (mk3 119 (48+1) tl) B (cs.drop r.length)=true:=jh (z:=mk3 119 49 tl) (by rcases ht with rfl|rfl <;> simp[nones]) hB hD LV;constructor
  ·rintro(⟨_,z⟩|⟨_,z,_⟩)
   ·exact absurd z nz
   ·cases z
  ·rintro⟨z,_⟩
   injection z with z _
   cases z
 ·rw[m,if_neg (by decide),if_pos rfl];have nz:¬ acc (mk3 119 (48+2) tl) B (cs.drop r.length)=true:=jh (z:=mk3 119 50 tl) (by rcases ht with rfl|rfl <;> simp[nones]) hB hD LV;rw[Hj (z:=mk3 119 50 83) (by simp[q0]) hB Vo hD LV];unfold P3
  by_cases hd:dbl r B=true
  ·have eO:d7 r B=ones (r.length-1)++[2]:=by unfold d7;rw[if_pos ⟨m,hd⟩]
   rw[if_neg (fun z=>by rw[hd]at z;cases z.2.1),if_pos hd,eO,List.cons.injEq,parts (by rw[length_append,aB];simp;omega) l0];obtain⟨d1,d2⟩:=Bool.and_eq_true_iff.mp hd;have d2:=of_decide_eq_true d2;constructor
   ·rintro(⟨_,z⟩|⟨_,_,_,a,_,b,c⟩)
    ·exact absurd z nz
    ·exact⟨⟨rfl,a,b⟩,c⟩
   ·rintro⟨⟨_,a,b⟩,c⟩;exact .inr ⟨hc,rfl,d2,a,d1,b,c⟩
  ·rw[if_neg hd];constructor
   ·rintro(⟨_,z⟩|⟨_,_,a,_,b,_⟩)
    ·exact absurd z nz
    ·exact absurd (Bool.and_eq_true_iff.mpr ⟨b,decide_eq_true a⟩) hd
   ·rintro⟨z,y⟩;obtain⟨y1,y2⟩:=Bool.and_eq_true_iff.mp y;rw[if_pos ⟨rfl,Bool.eq_false_iff.mpr hd,y1⟩]at z
    injection z with z _
    cases z
theorem aa0:acc (mk3 104 48 45) (r++B) cs=true ↔ P3 (.G::r++B) (2::cs):=by
 have hD:(cs.drop r.length).length=B.length:=by rw[length_drop];omega
 have LV:Cl (cs.drop r.length):=fun x hx=>hcl x (List.mem_of_mem_drop hx);have hrn:r≠[]:=fun z=>by rw[z]at hc;cases hc
 have h:=A1 (.inr (.inr rfl)) (B:=B) r 0 45 cs (by decide) (.inl rfl) hr hcl hl;rw[Nat.zero_add,tV r 45 hrn]at h;have ht:(if r.getLast? = some Kd.s then 115 else 111)=111\/(if r.getLast? = some Kd.s then 115 else 111)=115:=by split <;> simp
 have hts:r.getLast? = some Kd.s->(if r.getLast? = some Kd.s then 115 else 111)=115:=fun z=>if_pos z;have hto:¬ r.getLast? = some Kd.s->(if r.getLast? = some Kd.s then 115 else 111)=111:=fun z=>if_neg z;generalize (if r.getLast? = some Kd.s then 115 else 111)=tl at h ht hts hto;unfold P3;rw[TV hr hB hc,Qj hr hB hc];refine h.trans ?_;have l0:r.length<=cs.length:=by omega
 have n83:¬ acc (mk3 104 50 83) B (cs.drop r.length)=true:=jh (by simp[nones]) hB hD LV;rcases (by omega:r.length % 3=0\/r.length % 3=1\/r.length % 3=2) with m|m|m
 ·rw[m,if_neg (by decide),if_neg (fun z:(0=2/\_)=>absurd z.1 (by decide)),if_neg (by decide)];have nz:¬ acc (mk3 104 (48+0) tl) B (cs.drop r.length)=true:=jh (z:=mk3 104 48 tl) (by rcases ht with rfl|rfl <;> simp[nones]) hB hD LV;constructor
  ·rintro(⟨_,z⟩|⟨_,z,_⟩)
   ·exact absurd z nz
   ·cases z
  ·rintro⟨z,_⟩
   injection z with z _
   cases z
 ·rw[m,if_pos rfl,if_neg (by decide),List.cons.injEq,parts (aB _) l0,acc_open (z:=mk3 104 49 tl) (by rcases ht with rfl|rfl <;> simp[opens]) hB Vo hD LV];unfold P3;simp;exact⟨fun⟨a,b,c⟩=>⟨⟨a,b⟩,c⟩,fun⟨⟨a,b⟩,c⟩=>⟨a,b,c⟩⟩
 ·rw[m,if_neg (by decide),if_pos rfl]
  by_cases hd:dbl r B=true
  ·rw[if_neg (fun z=>by rw[hd]at z;cases z.2.1)];have d2:=of_decide_eq_true (Bool.and_eq_true_iff.mp hd).2;have et:=hts d2;subst et;have nz:¬ acc (mk3 104 (48+2) 115) B (cs.drop r.length)=true:=jh (z:=mk3 104 50 115) (by simp[nones]) hB hD LV;constructor
   ·rintro(⟨_,z⟩|⟨_,_,_,_,z⟩)
    ·exact absurd z nz
    ·exact absurd z n83
   ·rintro⟨z,_⟩
    injection z with z _
    cases z
  ·rw[if_neg hd]
   by_cases hR:dn B=true
   ·have XX:¬ r.getLast? = some Kd.s:=fun z=>hd (Bool.and_eq_true_iff.mpr ⟨by
     have:=of_decide_eq_true (Bool.and_eq_true_iff.mp hR).1;rw[this];rfl,decide_eq_true z⟩)
    have et:=hto XX;subst et;rw[if_pos ⟨rfl,Bool.eq_false_iff.mpr hd,hR⟩,List.cons.injEq,parts (aB _) l0,wj (z:=mk3 104 50 111) (by simp[rights]) hB XW hD LV,hR];constructor
    ·rintro(⟨a,_,b,c⟩|⟨_,_,z,_⟩)
     ·exact⟨⟨rfl,a,b⟩,by rw[c];rfl⟩
     ·exact absurd z XX
    ·rintro⟨⟨_,a,b⟩,c⟩;exact .inl ⟨a,rfl,b,by simpa using c⟩
   ·rw[if_neg (fun z=>hR z.2.2),Bool.eq_false_iff.mpr hR];constructor
    ·rintro(⟨_,z⟩|⟨_,_,_,_,z⟩)
     ·rcases ht with rfl|rfl
      ·exact absurd ((wj (z:=mk3 104 50 111) (by simp[rights]) hB XW hD LV).mp z).1 hR
      ·exact absurd z (jh (z:=mk3 104 50 115) (by simp[nones]) hB hD LV)
     ·exact absurd z n83
    ·rintro⟨z,_⟩
     injection z with z _
     cases z
end
theorem all_nil:All []:=by
 refine⟨?_,?_,?_,?_,?_,?_,?_⟩ <;> intro cs hl _ <;> cases cs with
 |cons _ _=>simp at hl
 |nil=>unfold acc;(first|unfold P2|unfold P3);decide +kernel
theorem all_cons {k:Kd}{t:List Kd}(ih:∀ t',t'.length<(k::t).length->All t'):All (k::t):=by
 have iht:=ih t (by simp);have two:∀ cs:List Int,cs.length=(k::t).length->Cl cs->(acc "2-" (k::t) cs=true ↔ P2 (k::t) cs):=fun cs hl hc=>by
  cases cs with
  |nil=>simp at hl
  |cons n cs=>exact TZ iht (by simpa using hl) (hc n mem_cons_self) (fun x hx=>hc x (mem_cons_of_mem _ hx))
 have g:∀ cs:List Int,cs.length=(k::t).length->Cl cs->(acc "2g" (k::t) cs=true ↔ (k::t).head? ≠ some .dot/\P2 (k::t) cs):=fun cs hl hc=>by
  rw[<-two cs hl hc];cases cs with
  |nil=>simp at hl
  |cons n cs =>
   rw[bf,bf,f2g k (hc n mem_cons_self)]
   by_cases hd:k=.dot
   ·rw[if_pos hd];simp[hd]
   ·rw[if_neg hd];simp[hd]
 have G:∀ cs:List Int,cs.length=(k::t).length->Cl cs->(acc "2G" (k::t) cs=true ↔ (k::t).head? = some .dot/\P2 (k::t) cs):=fun cs hl hc=>by
  rw[<-two cs hl hc];cases cs with
  |nil=>simp at hl
  |cons n cs =>
   rw[bf,bf,f2G k (hc n mem_cons_self)]
   by_cases hd:k=.dot
   ·rw[if_pos hd];simp[hd]
   ·rw[if_neg hd];simp[hd]
 cases hk:k.small with
 |true =>
  obtain⟨r,B,e,hr,hB⟩:=span (k::t);have hc:0<r.length:=by
   cases r with
   |nil =>
    have:=hB k t e.symm;rw[hk]at this;cases this
   |cons _ _=>simp
  have le:(k::t).length=r.length+B.length:=by rw[e,length_append]
  have Vo:=ih B (by omega);have XW:∀ t',t'.length<B.length->All t':=fun t' h=>ih t' (by omega);have n:∀ cs:List Int,cs.length=(k::t).length->Cl cs->(acc "3n0-" (k::t) cs=true ↔ P3 (k::t) cs):=fun cs hl hcl=>by
   rw[z3n,e];exact aaY hr hB hc Vo XW (by omega) hcl
  refine⟨two,g,G,n,fun cs hl hcl=>?_,fun cs hl hcl=>?_,fun cs hl hcl=>?_⟩
  ·rw[z3w,e];exact aaZ hr hB hc Vo XW (by omega) hcl
  ·rw[z3h,e];exact aa0 hr hB hc Vo XW (by omega) hcl
  ·rw[<-n cs hl hcl];cases cs with
   |nil=>simp at hl
   |cons n cs =>
    rw[bf,bf,f_t hk (hcl n mem_cons_self)];have:eA (k::t).head? = false:=by
     show k.great=false;cases k <;> first|rfl|cases hk
    exact⟨fun z=>⟨this,z⟩,fun z=>z.2⟩
 |false =>
  have hC:Cut (k::t):=fun x y z=>by injection z with z _;rw[<-z];exact hk
  have n:∀ cs:List Int,cs.length=(k::t).length->Cl cs->(acc "3n0-" (k::t) cs=true ↔ P3 (k::t) cs):=fun cs hl hcl=>by
   cases cs with
   |nil=>simp at hl
   |cons n cs=>exact Za hk iht (by simpa using hl) (hcl n mem_cons_self) (fun x hx=>hcl x (mem_cons_of_mem _ hx)) fun _ x y z=>T1 t z
  have eG:rd 3 (.G::k::t)=3::rd 3 (k::t):=by rw[Iu (k:=.G) (.inl rfl) (.inr rfl) (fun _ _=>hC)];rfl
  have fG:lC 3 (.G::k::t)=lC 3 (k::t):=by rw[Cn (k:=.G) (.inl rfl) (.inr rfl) (fun _ _=>hC)];rfl
  refine⟨two,g,G,n,fun cs hl hcl=>?_,fun cs hl hcl=>?_,fun cs hl hcl=>?_⟩
  ·unfold P3;rw[eG,fG,List.cons.injEq];have:=n cs hl hcl;unfold P3 at this;rw[eq_self,true_and,<-this];cases cs with
   |nil=>simp at hl
   |cons m cs=>rw[bf,bf,z3w,TY (by simp[opens]) hk (hcl m mem_cons_self)]
  ·unfold P3;rw[eG];constructor
   ·intro z;rw[z3h]at z;exact absurd z (jh (by simp[nones]) hC hl hcl)
   ·rintro⟨z,_⟩
    injection z with z _
    cases z
  ·rw[<-n cs hl hcl];cases cs with
   |nil=>simp at hl
   |cons m cs =>
    rw[bf,bf,f3t hk (hcl m mem_cons_self)];show _ ↔ k.great=false/\_
    by_cases hg:k.great=true
    ·rw[if_pos hg];simp[hg]
    ·rw[if_neg hg];simp[hg]
theorem Qk:∀(N:Nat)(ks:List Kd),ks.length<=N->All ks
 |_,[],_=>all_nil
 |0,k::t,h=>by simp at h
 |N+1,k::t,h=>all_cons fun t' ht=>Qk N t' (by simp at h ht;omega)
theorem Hk {b:Int}(hb:Ms b)(ks:List Kd){cs:List Int}(hl:cs.length=ks.length)(hc:Cl cs):acc (if b=3 then "3n0-" else "2-") ks cs=true ↔ cs=(b7 b ks).1/\(b7 b ks).2=[]:=by
 have A:=Qk _ ks (Nat.le_refl _);rw[TX];rcases hb with rfl|rfl
 ·rw[if_pos rfl];exact A.n cs hl hc
 ·rw[if_neg (by decide)];exact A.two cs hl hc
def ZR (z:Option Str)(k:Kd)(c:Int):Option Str:=match z with
 |none=>none
 |some z=>match jK z k c with
  |.str y=>some y
  |_=>none
def yZ (z:Option Str):List (Kd×Int)->Option Str
 |[]=>z
 |p::l=>yZ (ZR z p.1 p.2) l
theorem Hl:∀ l,yZ none l=none
 |[]=>rfl
 |_::l=>Hl l
def Zb:Option Str->Bool
 |none=>false
 |some z=>gf z
theorem Co:∀(ks:List Kd)(cs:List Int)(z:Str),cs.length=ks.length->acc z ks cs=Zb (yZ (some z) (ks.zip cs))
 |[],[],z,_=>rfl
 |[],_::_,z,h=>by simp at h
 |_::_,[],z,h=>by simp at h
 |k::ks,c::cs,z,h=>by
  rw[bf];show _=Zb (yZ (ZR (some z) k c) (ks.zip cs));unfold ZR;dsimp only;cases jK z k c with
  |str y=>exact Co ks cs y (by simpa using h)
  |_=>dsimp only;rw[Hl];rfl
end jY
set_option maxHeartbeats 1000000
namespace jY
open PySem L2 PyProof.Rows
def Wt (x:Int):Prop:=0<=x/\x<=9
theorem Ql {m:Int}(hM:Ms m):∀(ks:List Kd),∀ x∈aH m ks,Wt x
 |[],_,z=>(nomatch z)
 |k::t,x,hx=>by
  rcases List.mem_cons.mp hx with rfl|hx
  ·unfold bw Wt;split
   ·decide
   ·rcases hM.nm k with e|e <;> rw[e] <;> cases k <;> decide
  ·exact Ql (hM.nm k) t x hx
theorem NI {f:List Int}(h:∀ x∈f,Wt x)(i:Nat):∀ x∈f.set i 2,Wt x:=fun x hx=>by
 rcases List.mem_or_eq_of_mem_set hx with z|rfl
 ·exact h x z
 ·exact⟨by decide,by decide⟩
theorem Rg (ks:List Kd){f:List Int}(h:∀ x∈f,Wt x)(a z:Nat):∀ x∈(settle ks f a z).2,Wt x:=by
 unfold settle i9 ja
 repeat' split
 all_goals first|exact h|exact NI h _|exact NI (NI h _) _
theorem XY (ks:List Kd):∀(rs:List (Nat×Nat)) (f:List Int),(∀ x∈f,Wt x)->∀ x∈fd ks rs f,Wt x
 |[],f,h=>h
 |r::t,f,h=>XY ks t _ (Rg ks h r.1 r.2)
theorem A2 {m:Int}(hM:Ms m)(ks:List Kd):Cl (b7 m ks).1:=by
 have:=XY ks (bc m ks) (aH m ks) (Ql hM ks);rw[<-tT]at this;exact this
end jY
set_option maxHeartbeats 1000000
namespace jY
open PySem L2 PyProof.Rows
def tW (K:Frag)(T:Addr):Sp:=fun vs H Q _=>∃(a:Addr)(ns:List Int),vs=[.ref a]/\a6 K H a (ns.map V.int)/\ns.length<=63/\H T=some (.yL #[])/\∀ H',Q (.bl true) H'
theorem NJ {K:Frag}{H:Hp}{a T:Addr}{ns:List Int}(hl:ns.length<=63)(hO:P8 T #[] H)(hS:a6 K H a (ns.map V.int)):tW K T [.ref a] H (fun v _=>v=.bl true) fun _ _ _=>False :=
 ⟨a,ns,rfl,hS,hl,hO.1,fun _=>rfl⟩
def jF (s:Sg):Int:=if s.1.gn then s.2 else -1
def bU:List Sg->List Int->List (Int×Int)
 |s::t,w::ws=>(if s.1.parting then [] else [(jF s,w)])++bU t ws
 |_,_=>[]
theorem lX:∀(ss:List Sg)(ws:List Int),(bU ss ws).length<=ss.length
 |[],_=>by simp[bU]
 |s::t,[]=>by simp[bU]
 |s::t,w::ws=>by
  have:=lX t ws;simp only [bU,length_append,length_cons];split <;> simp <;> omega
theorem q4:∀(ss:List Sg)(ws:List Int)(s:Sg)(w:Int),ws.length=ss.length->bU (ss++[s]) (ws++[w])=bU ss ws++(if s.1.parting then [] else [(jF s,w)])
 |[],[],s,w,_=>by simp[bU]
 |x::t,y::ws,s,w,h=>by
  have:=q4 t ws s w (by simpa using h);simp only [List.cons_append,bU,this,List.append_assoc]
 |[],_::_,_,_,h=>by simp at h
 |_::_,[],_,_,h=>by simp at h
theorem yO (c:cW)(k:Kd):∀(ks:List Kd)(n p:Int)(m:Int),ck c n ks=some p->costOf c k=some m->ck c n (ks++[k])=some (p+m)
 |[],n,p,m,h,e=>by
  cases h;simp only [nil_append,ck,e]
 |x::t,n,p,m,h,e=>by
  simp only [List.cons_append,ck]at h ⊢;cases ex:costOf c x with
  |none=>rw[ex]at h;cases h
  |some y=>rw[ex]at h;exact yO c k t (n+y) p m h e
theorem wk:∀(l:List (Kd×Int)) (z:Option Str) (k:Kd) (n:Int),yZ z (l++[(k,n)])=ZR (yZ z l) k n
 |[],z,k,n=>rfl
 |x::t,z,k,n=>wk t _ k n
theorem Hm (k:Kd):Ts k.str "GDsd"=k.gn:=by cases k <;> decide +kernel
theorem eX {n:Nat}(h:n<9000):n<sizeLine:=Nat.lt_of_lt_of_le h (by decide)
structure XZ (K:Frag)(H:Hp)(p:Addr)(k:Kd)(n:Int):Prop where
 h:cz K H p [.str k.str,.int n]
theorem XZ.same {K:Frag}{H H':Hp}{p:Addr}{k:Kd}{n:Int}(h:XZ K H p k n)(e:ay H H'):XZ K H' p k n:=⟨e.tup h.h⟩
def SgM (K:Frag)(H:Hp)(y:V)(s:Sg):Prop:=∃ p,y=.ref p/\XZ K H p s.1 s.2
abbrev kW (K:Frag)(H:Hp):List V->List Sg->Prop:=Paired (SgM K H)
theorem kW.same {K:Frag}{H H':Hp}(e:ay H H'){xs:List V}{ss:List Sg}(h:kW K H xs ss):kW K H' xs ss:=bK (fun _ _ ⟨p,e1,q⟩=>⟨p,e1,q.same e⟩) h
theorem kW.of {K:Frag}{H:Hp}{xs:List V}{ss:List Sg}(h:Qb H xs ss):kW K H xs ss:=bK (fun _ _ ⟨p,e,q⟩=>⟨p,e,⟨cz.of q⟩⟩) h
section
variable {K:Frag} {H:Hp} {p:Addr} {Q:VK}
theorem ad7 {k:Kd}{n:Int}(h:XZ K H p k n)(q:Q (.str k.str) H):Fn K (.ref p) (.int 0) H Q\/Fo K (.ref p) (.int 0) H Q\/Fp (.ref p) (.int 0) H Q:=.inr (.inl ⟨p,_,0,_,rfl,rfl,h.h,rfl,q⟩)
theorem ad8 {k:Kd}{n:Int}(h:XZ K H p k n)(q:Q (.int n) H):Fn K (.ref p) (.int 1) H Q\/Fo K (.ref p) (.int 1) H Q\/Fp (.ref p) (.int 1) H Q:=.inr (.inl ⟨p,_,1,_,rfl,rfl,h.h,rfl,q⟩)
theorem Cp {xs:List V}{ss:List Sg}{i:Int}{n:Nat}{s:Sg}(h:a6 K H p xs)(g:kW K H xs ss)(hn:i=n)(e:ss[n]? = some s)(q:∀ b,XZ K H b s.1 s.2->Q (.ref b) H) :
  Fn K (.ref p) (.int i) H Q\/Fo K (.ref p) (.int i) H Q\/Fp (.ref p) (.int i) H Q:=by
 obtain⟨x,hx,b,rfl,hb⟩:=XI g e;exact ZP h hn hx (q b hb)
end
def qO (s:Sg):Prop:=(s.1.gn=true->0<=s.2/\s.2<=99)/\(s.1.gn=false->s.2=0)
def Wb (qs:List (Int×Int)):Prop:=∀ q∈qs,q.1 = -1\/(0<=q.1/\q.1<=99)
def Tr (c:cW)(b:Int)(qs:List (Int×Int))(w:Wy):Prop:=∃ cs:List Int,cs.length=w.2.2.length/\Cl cs/\yZ (some (Ip b)) ((a9 w.2.2).zip cs)=some w.1/\bU w.2.2 cs=qs/\ck c 0 (a9 w.2.2)=some w.2.1/\∀ s∈w.2.2,qO s
theorem tX (ss:List Sg)(s:Sg):a9 (ss++[s])=a9 ss++[s.1]:=by unfold a9;rw[map_append];rfl
theorem Cq {α β:Type}:∀(xs:List α)(ys:List β)(x:α)(y:β),ys.length=xs.length->(xs++[x]).zip (ys++[y])=xs.zip ys++[(x,y)]
 |[],[],_,_,_=>rfl
 |a::t,b::u,x,y,h=>by
  show(a,b)::(t++[x]).zip (u++[y])=_;rw[Cq t u x y (by simpa using h)];rfl
 |[],_::_,_,_,h=>by simp at h
 |_::_,[],_,_,h=>by simp at h
theorem Tr.ext {c:cW}{b:Int}{qs:List (Int×Int)}{z:Str}{k:Int}{ln:List Sg}{s:Sg}{n m:Int}{y:Str}(h:Tr c b qs (z,k,ln))(hn:0<=n/\n<=9)(hc:costOf c s.1=some m)(hy:Sl z s.1 n=some y)(hg:qO s):Tr c b (qs++(if s.1.parting then [] else [(jF s,n)])) (y,k+m,ln++[s]):=by
 obtain⟨cs,hl,hC,hr,hw,hp,hG⟩:=h;have hl:cs.length=ln.length:=hl;refine⟨cs++[n],by rw[length_append,length_append,hl];rfl,fun d hd=>?_,?_,?_,?_,fun x hx=>?_⟩
 ·rcases mem_append.mp hd with q|q
  ·exact hC d q
  ·rw[mem_singleton.mp q];exact hn
 ·show yZ (some (Ip b)) ((a9 (ln++[s])).zip (cs++[n]))=some y;rw[tX,Cq _ _ _ _ (by rw[hl];simp[a9]),wk,show yZ (some (Ip b)) ((a9 ln).zip cs)=some z from hr];show(match jK z s.1 n with|.str y=>some y|_=>none)=some y;unfold Sl at hy;exact hy
 ·show bU (ln++[s]) (cs++[n])=_;rw[q4 ln cs s n hl,show bU ln cs=qs from hw]
 ·show ck c 0 (a9 (ln++[s]))=some (k+m);rw[tX];exact yO c s.1 _ 0 k m hp hc
 ·rcases mem_append.mp hx with q|q
  ·exact hG x q
  ·rw[mem_singleton.mp q];exact hg
theorem qt {c:cW}{z:Str}{n:Int}{s:Sg}{m:Mv}(h:Fv c z n s=some m):m.1=s/\costOf c s.1=some m.2.1/\Sl z s.1 n=some m.2.2:=by
 unfold Fv at h;cases e1:costOf c s.1 with
 |none=>rw[e1]at h;cases h
 |some a =>
  cases e2:Sl z s.1 n with
  |none=>rw[e1,e2]at h;cases h
  |some y=>rw[e1,e2]at h;cases h;exact⟨rfl,rfl,rfl⟩
theorem Rh {P:Wy->Prop}{ws:List Wy}{z:Str}{c:Int}{ln:List Sg}(h:∀ w∈ws,P w)(hn:P (z,c,ln)):∀ w∈fg ws z c ln,P w:=by
 intro w hw;unfold fg at hw;split at hw
 ·rcases mem_append.mp hw with q|q
  ·exact h w q
  ·rw[mem_singleton.mp q];exact hn
 ·split at hw
  ·unfold Io at hw;obtain⟨v,hv,rfl⟩:=mem_map.mp hw;split
   ·exact hn
   ·exact h v hv
  ·exact h w hw
theorem wm {P:Wy->Prop}{k:Int}{ln:List Sg}:∀{ms:List Mv} {acc:List Wy},(∀ w∈acc,P w)->(∀ m∈ms,P (m.2.2,k+m.2.1,ln++[m.1]))->∀ w∈dm k ln ms acc,P w
 |[],_,h,_=>h
 |m::t,acc,h,hm=>wm (ms:=t) (Rh h (hm m mem_cons_self)) fun x hx=>hm x (mem_cons_of_mem _ hx)
theorem NK {s:Sg}(h:s∈gg):qO s/\s.1.parting=true:=by
 unfold gg at h;simp only [List.mem_cons,List.not_mem_nil,or_false]at h;rcases h with rfl|rfl|rfl <;> exact⟨⟨fun z=>(nomatch z),fun _=>rfl⟩,rfl⟩
theorem Wc {c:cW}{b:Int}{qs:List (Int×Int)}{z:Str}{k:Int}{ln:List Sg}(h:Tr c b qs (z,k,ln)){m:Mv}(hm:m∈aZ c z 0 gg):Tr c b qs (m.2.2,k+m.2.1,ln++[m.1]):=by
 obtain⟨s,hs,e⟩:=List.mem_filterMap.mp hm;obtain⟨e1,e2,e3⟩:=qt e;obtain⟨g1,g2⟩:=NK hs;have:=h.ext ⟨Int.le_refl _,by decide⟩ e2 e3 g1;rw[g2]at this;rw[e1]
 simpa using this
theorem Ri {c:cW}{b:Int}{qs:List (Int×Int)}{acc:List Wy}{z:Str}(h:∀ w∈acc,Tr c b qs w):∀ w∈cX c acc z,Tr c b qs w:=by
 unfold cX;cases e:bB acc z with
 |none=>exact h
 |some q =>
  have hq:Tr c b qs (z,q.1,q.2):=h _ (j0 e);exact wm h fun m hm=>Wc hq hm
theorem wo {c:cW}{b:Int}{qs:List (Int×Int)}:∀(zs:List Str) {acc:List Wy},(∀ w∈acc,Tr c b qs w)->∀ w∈iy c zs acc,Tr c b qs w
 |[],_,h=>h
 |z::t,acc,h=>by
  rw[iG];exact wo t (Ri h)
theorem tY {c:cW}{b:Int}{qs:List (Int×Int)}{ws:List Wy}(h:∀ w∈ws,Tr c b qs w):∀ w∈withPart c ws,Tr c b qs w:=wo _ (wo _ h)
theorem LW {t:Int}(ht:t = -1\/(0<=t/\t<=99)){s:Sg}(h:s∈eB t):qO s/\s.1.parting=false/\jF s=t:=by
 unfold eB at h;split at h
 ·next e =>
  simp only [List.mem_cons,List.not_mem_nil,or_false]at h;rcases h with rfl|rfl <;> exact⟨⟨fun z=>(nomatch z),fun _=>rfl⟩,rfl,e.symm⟩
 ·next e =>
  have ht:=ht.resolve_left e;simp only [List.mem_cons,List.not_mem_nil,or_false]at h;rcases h with rfl|rfl|rfl|rfl <;> exact⟨⟨fun _=>ht,fun z=>(nomatch z)⟩,rfl,rfl⟩
theorem Wd {c:cW}{b:Int}{qs:List (Int×Int)}{q:Int×Int}(hq:q.1 = -1\/(0<=q.1/\q.1<=99))(h9:0<=q.2/\q.2<=9){z:Str}{k:Int}{ln:List Sg}(h:Tr c b qs (z,k,ln)){m:Mv}(hm:m∈aZ c z q.2 (eB q.1)):Tr c b (qs++[q]) (m.2.2,k+m.2.1,ln++[m.1]):=by
 obtain⟨s,hs,e⟩:=List.mem_filterMap.mp hm;obtain⟨e1,e2,e3⟩:=qt e;obtain⟨g1,g2,g3⟩:=LW hq hs;have:=h.ext h9 e2 e3 g1;rw[g2,g3]at this;rw[e1];exact this
theorem tZ {c:cW}{b:Int}{qs:List (Int×Int)}{q:Int×Int}(hq:q.1 = -1\/(0<=q.1/\q.1<=99))(h9:0<=q.2/\q.2<=9):∀{ws acc:List Wy},(∀ w∈ws,Tr c b qs w)->(∀ w∈acc,Tr c b (qs++[q]) w)->∀ w∈fk c q ws acc,Tr c b (qs++[q]) w
 |[],_,_,h=>h
 |w::t,acc,hs,h=>tZ hq h9 (ws:=t) (fun x hx=>hs x (mem_cons_of_mem _ hx)) (wm h fun m hm=>Wd hq h9 (hs w mem_cons_self) hm)
theorem Hn {c:cW}{b:Int}{qs:List (Int×Int)}(hW:Vn qs)(hT:Wb qs):∀ i,∀ w∈fm c b (qs.take i),Tr c b (qs.take i) w
 |0=>tY fun w hw=>by
  rw[mem_singleton.mp hw];exact⟨[],rfl,fun _ h=>(nomatch h),rfl,rfl,rfl,fun _ h=>(nomatch h)⟩
 |i+1=>by
  have h1:=Hn (c:=c) (b:=b) hW hT i;cases e:qs[i]? with
  |none =>
   rw[take_succ,e];show ∀ w∈fm c b (qs.take i++[]),Tr c b (qs.take i++[]) w;rw[append_nil];exact h1
  |some q =>
   have hm:=mem_of_getElem? e;rw[take_succ,e];show ∀ w∈fm c b (qs.take i++[q]),Tr c b (qs.take i++[q]) w;rw[j1];exact tY (tZ (hT q hm) (hW q hm) h1 fun _ h=>(nomatch h))
theorem wq {c:cW}{b:Int}(hb:Ms b){qs:List (Int×Int)}(hW:Vn qs)(hT:Wb qs){w:Wy}(hw:w∈qN c b qs):(b7 b (a9 w.2.2)).2=[]/\bU w.2.2 (b7 b (a9 w.2.2)).1=qs/\ck c 0 (a9 w.2.2)=some w.2.1/\∀ s∈w.2.2,qO s:=by
 unfold qN at hw;obtain⟨hw,he⟩:=List.mem_filter.mp hw;have h:=Hn (c:=c) (b:=b) hW hT qs.length;rw[take_length]at h;obtain⟨cs,hl,hC,hr,hwi,hp,hG⟩:=h w hw;have hl':cs.length=(a9 w.2.2).length:=by rw[hl];simp[a9]
 have ha:acc (Ip b) (a9 w.2.2) cs=true:=by
  rw[Co _ _ _ hl',hr];exact he
 have hr2:=(Hk hb (a9 w.2.2) hl' hC).mp ha;refine⟨hr2.2,?_,hp,hG⟩;rw[<-hr2.1];exact hwi
theorem wt:∀{ss:List Sg} {ws:List Int} {q:Int×Int},q∈bU ss ws->∃ s∈ss,s.1.parting=false/\q.1=jF s/\q.2∈ws
 |[],_,q,h=>by simp[bU]at h
 |_::_,[],q,h=>by simp[bU]at h
 |s::t,w::ws,q,h=>by
  simp only [bU]at h;rcases mem_append.mp h with z|z
  ·cases e:s.1.parting with
   |true=>rw[e]at z;simp at z
   |false =>
    rw[e]at z;have:q=(jF s,w):=by simpa using z
    subst this;exact⟨s,mem_cons_self,e,rfl,mem_cons_self⟩
  ·obtain⟨s',a,b,c,d⟩:=wt z;exact⟨s',mem_cons_of_mem _ a,b,c,mem_cons_of_mem _ d⟩
theorem qu {ss:List Sg}{ws:List Int}(h:Cl ws):Vn (bU ss ws):=fun q hq=>by
 obtain⟨_,_,_,_,d⟩:=wt hq;exact h _ d
theorem NL {ss:List Sg}{ws:List Int}(h:∀ s∈ss,s.1.gn=true->0<=s.2/\s.2<100):Wb (bU ss ws):=fun q hq=>by
 obtain⟨s,a,b,c,_⟩:=wt hq;rw[c];unfold jF;cases e:s.1.gn with
 |true=>have:=h s a e;exact .inr ⟨by rw[if_pos rfl];exact this.1,by rw[if_pos rfl];omega⟩
 |false=>exact .inl rfl
set_option maxHeartbeats 1000000
def Cr (c:cW):Prop:=∀ k n,costOf c k=some n->0<=n
def Lw (ws:List Wy)(z:Str)(p:Int):Prop:=∃ q,bB ws z=some q/\q.1<=p
theorem Lw.mono {ws:List Wy}{z:Str}{p p':Int}(h:Lw ws z p)(hp:p<=p'):Lw ws z p':=by
 obtain⟨q,e,l⟩:=h;exact⟨q,e,by omega⟩
theorem LX:∀(ws:List Wy)(z:Str)(c:Int)(ln:List Sg)(z':Str),bB (ws++[(z,c,ln)]) z'=match bB ws z' with|some q=>some q|none=>if z=z' then some (c,ln) else none
 |[],z,c,ln,z'=>rfl
 |w::t,z,c,ln,z'=>by
  show bB (w::(t++[(z,c,ln)])) z'=_;unfold bB
  by_cases e:w.1=z'
  ·rw[if_pos e,if_pos e]
  ·rw[if_neg e,if_neg e];exact LX t z c ln z'
theorem LY:∀(ws:List Wy)(z:Str)(c:Int)(ln:List Sg)(z':Str),bB (Io ws z c ln) z'=if z'=z then(bB ws z).map (fun _=>(c,ln)) else bB ws z'
 |[],z,c,ln,z'=>by
  show none=_;split <;> rfl
 |w::t,z,c,ln,z'=>by
  have ih:=LY t z c ln z';show bB ((if w.1=z then(z,c,ln) else w)::Io t z c ln) z'=_;unfold bB
  by_cases e:w.1=z
  ·rw[if_pos e,if_pos e]
   by_cases e2:z=z'
   ·rw[if_pos e2,if_pos e2.symm];rfl
   ·rw[if_neg e2,if_neg (Ne.symm e2),ih,if_neg (Ne.symm e2),if_neg (fun q=>e2 (e.symm.trans q))]
  ·rw[if_neg e,if_neg e]
   by_cases e2:w.1=z'
   ·rw[if_pos e2,if_neg (fun q=>e (e2.trans q)),if_pos e2]
   ·rw[if_neg e2,ih,if_neg e2]
theorem qv (ws:List Wy)(z:Str)(c:Int)(ln:List Sg)(z':Str):bB (fg ws z c ln) z'=if z'=z then some (match bB ws z with|none=>(c,ln)|some q=>if c<q.1 then(c,ln) else q) else bB ws z':=by
 unfold fg;cases e:bB ws z with
 |none =>
  show bB (ws++[(z,c,ln)]) z'=_;rw[LX]
  by_cases h:z'=z
  ·subst h;rw[e,if_pos rfl]
   try exact if_pos rfl
  ·rw[if_neg h,if_neg (Ne.symm h)];cases bB ws z' <;> rfl
 |some q =>
  dsimp only
  by_cases hc:c<q.1
  ·rw[if_pos hc,LY,e];split <;> rfl
  ·rw[if_neg hc]
   by_cases h:z'=z
   ·subst h;rw[if_pos rfl,e,if_neg hc]
   ·rw[if_neg h]
theorem T2 (ws:List Wy)(z:Str)(c:Int)(ln:List Sg):Lw (fg ws z c ln) z c:=by
 refine⟨_,by rw[qv,if_pos rfl],?_⟩;cases bB ws z with
 |none=>exact Int.le_refl _
 |some q =>
  dsimp only;split
  ·exact Int.le_refl _
  ·show q.1<=c;omega
theorem NM {ws:List Wy}{z:Str}{c:Int}{ln:List Sg}{z':Str}{p:Int}(h:Lw ws z' p):Lw (fg ws z c ln) z' p:=by
 obtain⟨q,e,l⟩:=h
 by_cases hz:z'=z
 ·subst hz;refine⟨_,by rw[qv,if_pos rfl],?_⟩;rw[e];dsimp only;split
  ·show c<=p;omega
  ·exact l
 ·exact⟨q,by rw[qv,if_neg hz];exact e,l⟩
theorem NN {ws:List Wy}{z:Str}{c:Int}{ln:List Sg}(h:Lw ws z c):fg ws z c ln=ws:=by
 obtain⟨q,e,l⟩:=h;unfold fg;rw[e];exact if_neg (by omega)
theorem ng {k:Int}{ln:List Sg}{z:Str}{p:Int}:∀{ms:List Mv} {acc:List Wy},Lw acc z p->Lw (dm k ln ms acc) z p
 |[],_,h=>h
 |_::t,_,h=>ng (ms:=t) (NM h)
theorem Cs {k:Int}{ln:List Sg}{m:Mv}:∀{ms:List Mv} {acc:List Wy},m∈ms->Lw (dm k ln ms acc) m.2.2 (k+m.2.1)
 |x::t,acc,h=>by
  rcases List.mem_cons.mp h with rfl|h
  ·exact ng (ms:=t) (T2 ..)
  ·exact Cs (ms:=t) h
theorem Ct {k:Int}{ln:List Sg}:∀{ms:List Mv} {acc:List Wy},(∀ m∈ms,Lw acc m.2.2 (k+m.2.1))->dm k ln ms acc=acc
 |[],_,_=>rfl
 |m::t,acc,h=>by
  show dm k ln t (fg acc m.2.2 (k+m.2.1) (ln++[m.1]))=acc;rw[NN (h m mem_cons_self)];exact Ct (ms:=t) fun x hx=>h x (mem_cons_of_mem _ hx)
theorem kZ {k:Int}{ln:List Sg}{z:Str}:∀{ms:List Mv} {acc:List Wy},bB (dm k ln ms acc) z=bB acc z\/∃ m∈ms,m.2.2=z/\(∃ l,bB (dm k ln ms acc) z=some (k+m.2.1,l))/\∀ q,bB acc z=some q->k+m.2.1<q.1
 |[],_=>.inl rfl
 |m::t,acc=>by
  have ih:=kZ (k:=k) (ln:=ln) (z:=z) (ms:=t) (acc:=fg acc m.2.2 (k+m.2.1) (ln++[m.1]));have hk:=qv acc m.2.2 (k+m.2.1) (ln++[m.1]) z;show bB (dm k ln t (fg acc m.2.2 (k+m.2.1) (ln++[m.1]))) z=bB acc z\/∃ x∈m::t,x.2.2=z/\(∃ l,bB (dm k ln t (fg acc m.2.2 (k+m.2.1) (ln++[m.1]))) z=some (k+x.2.1,l))/\∀ q,bB acc z=some q->k+x.2.1<q.1
  by_cases hz:z=m.2.2
  ·rw[if_pos hz,<-hz]at hk;cases e:bB acc z with
   |none =>
    rw[e]at hk;rcases ih with ih|⟨x,hx,h1,h2,_⟩
    ·exact .inr ⟨m,mem_cons_self,hz.symm,⟨_,by rw[<-hz]at ih ⊢;rw[ih,hk]⟩,fun q z=>(nomatch z)⟩
    ·exact .inr ⟨x,mem_cons_of_mem _ hx,h1,h2,fun q z=>(nomatch z)⟩
   |some q =>
    rw[e]at hk;dsimp only at hk;rcases ih with ih|⟨x,hx,h1,h2,h3⟩
    ·by_cases hc:k+m.2.1<q.1
     ·rw[if_pos hc]at hk;refine .inr ⟨m,mem_cons_self,hz.symm,⟨_,by rw[<-hz]at ih ⊢;rw[ih,hk]⟩,fun q' z=>?_⟩;cases z;exact hc
     ·rw[if_neg hc]at hk;exact .inl (by rw[<-hz]at ih ⊢;rw[ih,hk])
    ·refine .inr ⟨x,mem_cons_of_mem _ hx,h1,h2,fun q' z=>?_⟩;cases z;rw[<-hz]at h3;have:=h3 _ hk;split at this
     ·next hc=>have h4:k+x.2.1<k+m.2.1:=this;omega
     ·exact this
  ·rw[if_neg hz]at hk;rcases ih with ih|⟨x,hx,h1,h2,h3⟩
   ·exact .inl (ih.trans hk)
   ·exact .inr ⟨x,mem_cons_of_mem _ hx,h1,h2,fun q e=>h3 q (hk.trans e)⟩
def Qm (z:Str):Prop:=z = "2-"\/z = "3n0-"
instance (z:Str):Decidable (Qm z):=by unfold Qm;exact inferInstance
theorem T3:(ST.all fun z=>[Kd.dot,Kd.three,Kd.two].all fun k=>match Sl z k 0 with|some y=>decide (Qm y)|none=>true)=true:=by lk
theorem Qn {c:cW}{z:Str}(hz:z∈ST){m:Mv}(hm:m∈aZ c z 0 gg):Qm m.2.2:=by
 obtain⟨s,hs,e⟩:=List.mem_filterMap.mp hm;obtain⟨e1,e2,e3⟩:=qt e;have hk:s.1∈[Kd.dot,Kd.three,Kd.two]:=by
  unfold gg at hs;simp only [List.mem_cons,List.not_mem_nil,or_false]at hs ⊢;rcases hs with rfl|rfl|rfl <;> simp
 have:=all_eq_true.mp (all_eq_true.mp T3 z hz) s.1 hk;rw[e3]at this;exact of_decide_eq_true this
theorem Cu {c:cW}(hc:Cr c){z:Str}{n:Int}{ss:List Sg}{m:Mv}(hm:m∈aZ c z n ss):0<=m.2.1:=by
 obtain⟨s,hs,e⟩:=List.mem_filterMap.mp hm;obtain⟨e1,e2,e3⟩:=qt e;exact hc _ _ e2
def Cz (c:cW)(acc:List Wy)(z:Str):Prop:=∀ q,bB acc z=some q->∀ m∈aZ c z 0 gg,Lw acc m.2.2 (q.1+m.2.1)
theorem Cv {c:cW}{acc:List Wy}{x z:Str}{p:Int}(h:Lw acc z p):Lw (cX c acc x) z p:=by
 unfold cX;cases bB acc x with
 |none=>exact h
 |some q=>exact ng h
theorem q5 {c:cW}(hc:Cr c)(acc:List Wy)(x:Str):bB (cX c acc x) x=bB acc x:=by
 unfold cX;cases e:bB acc x with
 |none=>exact e
 |some q =>
  dsimp only;rcases kZ (k:=q.1) (ln:=q.2) (z:=x) (ms:=aZ c x 0 gg) (acc:=acc) with h|⟨m,hm,_,_,h⟩
  ·exact h.trans e
  ·have h1:=h q e;have h2:=Cu hc hm;omega
theorem LZ {c:cW}(hc:Cr c)(acc:List Wy)(x:Str):Cz c (cX c acc x) x:=by
 intro q hq m hm;rw[q5 hc]at hq;unfold cX;rw[hq];exact Cs hm
theorem NO {c:cW}{acc:List Wy}{x:Str}(h:Cz c acc x):cX c acc x=acc:=by
 unfold cX;cases e:bB acc x with
 |none=>rfl
 |some q=>exact Ct (h q e)
theorem Cw {c:cW}{acc:List Wy}{x z:Str}(hx:x∈ST)(hz:¬ Qm z):bB (cX c acc x) z=bB acc z:=by
 unfold cX;cases e:bB acc x with
 |none=>rfl
 |some q =>
  dsimp only;rcases kZ (k:=q.1) (ln:=q.2) (z:=z) (ms:=aZ c x 0 gg) (acc:=acc) with h|⟨m,hm,h,_⟩
  ·exact h
  ·exact absurd (h ▸ Qn hx hm) hz
theorem Cz.keep {c:cW}{acc acc':List Wy}{z:Str}(h:Cz c acc z)(e:bB acc' z=bB acc z)(mo:∀ y p,Lw acc y p->Lw acc' y p):Cz c acc' z:=fun q hq m hm=>mo _ _ (h q (e ▸ hq) m hm)
theorem yP {c:cW}(hc:Cr c){acc:List Wy}{x y:Str}(hy:y∈ST)(sx:Qm x)(sy:Qm y):bB (cX c acc x) y=bB acc y\/Cz c (cX c acc x) y:=by
 by_cases hxy:x=y
 ·subst hxy;exact .inl (q5 hc acc x)
 cases e:bB acc x with
 |none=>unfold cX;rw[e];exact .inl rfl
 |some q =>
  have hs:=q5 hc acc x;have hp:cX c acc x=dm q.1 q.2 (aZ c x 0 gg) acc:=by unfold cX;rw[e]
  rcases kZ (k:=q.1) (ln:=q.2) (z:=y) (ms:=aZ c x 0 gg) (acc:=acc) with h|⟨m,hm,h1,⟨l,h2⟩,_⟩
  ·exact .inl (by rw[hp];exact h)
  ·refine .inr fun q' hq' m' hm'=>?_;rw[hp,h2]at hq';cases hq';have p1:=Cu hc hm;have p2:=Cu hc hm';have t:=Qn hy hm';have lx:Lw (cX c acc x) x q.1:=⟨q,hs.trans e,Int.le_refl _⟩;have ly:Lw (cX c acc x) y (q.1+m.2.1):=⟨_,by rw[hp];exact h2,Int.le_refl _⟩;show Lw (cX c acc x) m'.2.2 (q.1+m.2.1+m'.2.1);have txy:m'.2.2=x\/m'.2.2=y:=by
    rcases sx with s1|s1 <;> rcases sy with s2|s2 <;> first|exact absurd (s1.trans s2.symm) hxy|(rcases t with t|t <;> first|exact .inl (t.trans s1.symm)|exact .inr (t.trans s2.symm))
   rcases txy with e1|e1
   ·rw[e1];exact lx.mono (by omega)
   ·rw[e1];exact ly.mono (by omega)
theorem nh {c:cW}{z:Str}{p:Int}:∀{zs:List Str} {acc:List Wy},Lw acc z p->Lw (iy c zs acc) z p
 |[],_,h=>h
 |x::t,acc,h=>by
  rw[iG];exact nh (zs:=t) (Cv h)
theorem q8 {c:cW}{z:Str}(hz:¬ Qm z):∀{zs:List Str} {acc:List Wy},(∀ x∈zs,x∈ST)->bB (iy c zs acc) z=bB acc z
 |[],_,_=>rfl
 |x::t,acc,h=>by
  rw[iG,q8 hz (zs:=t) fun y hy=>h y (mem_cons_of_mem _ hy)];exact Cw (h x mem_cons_self) hz
theorem Ho {c:cW}(hc:Cr c){z:Str}(hz:¬ Qm z):∀{zs:List Str} {acc:List Wy},(∀ x∈zs,x∈ST)->z∈zs->Cz c (iy c zs acc) z
 |x::t,acc,h,hm=>by
  rw[iG]
  by_cases e:z∈t
  ·exact Ho hc hz (zs:=t) (fun y hy=>h y (mem_cons_of_mem _ hy)) e
  ·have:z=x:=(List.mem_cons.mp hm).resolve_right e;subst this;exact(LZ hc acc z).keep (q8 hz fun y hy=>h y (mem_cons_of_mem _ hy)) fun y p l=>nh l
theorem wu {c:cW}(hc:Cr c):∀{todo:List Str} (done:List Str) {acc:List Wy},(∀ x∈todo,x∈ST)->(∀ z,¬ Qm z->Cz c acc z)->(∀ z∈ST,Qm z->z∈done->Cz c acc z)->(∀ z∈ST,Qm z->z ∉ done->z ∉ todo->Cz c acc z)->∀ z∈ST,Cz c (iy c todo acc) z
 |[],done,acc,_,h1,h2,h3,z,hz=>by
  by_cases s:Qm z
  ·by_cases d:z∈done
   ·exact h2 z hz s d
   ·exact h3 z hz s d (by simp)
  ·exact h1 z s
 |x::t,done,acc,hT,h1,h2,h3,z,hz=>by
  rw[iG];have hx:=hT x mem_cons_self;have hT':∀ y∈t,y∈ST:=fun y hy=>hT y (mem_cons_of_mem _ hy)
  by_cases s:Qm x
  ·have mo:∀ y p,Lw acc y p->Lw (cX c acc x) y p:=fun y p l=>Cv l;refine wu hc (todo:=t) (x::done) hT' (fun y hy=>(h1 y hy).keep (Cw hx hy) mo) (fun y hy sy dy=>?_) (fun y hy sy dy ty=>?_) z hz
   ·rcases List.mem_cons.mp dy with rfl|dy
    ·exact LZ hc acc y
    ·rcases yP hc (acc:=acc) hy s sy with e|e
     ·exact(h2 y hy sy dy).keep e mo
     ·exact e
   ·have n1:y≠x:=fun e=>dy (e ▸ mem_cons_self);have n2:y ∉ done:=fun e=>dy (mem_cons_of_mem _ e);rcases yP hc (acc:=acc) hy s sy with e|e
    ·exact(h3 y hy sy n2 (fun z=>(List.mem_cons.mp z).elim n1 ty)).keep e mo
    ·exact e
  ·rw[NO (h1 x s)];refine wu hc (todo:=t) done hT' h1 h2 (fun y hy sy dy ty=>h3 y hy sy dy fun z=>?_) z hz;rcases List.mem_cons.mp z with rfl|z
   ·exact s sy
   ·exact ty z
theorem L0 {ws:List Wy}{z:Str}{q:Int×List Sg}(h:bB ws z=some q):z∈ws.map (·.1):=mem_map.mpr ⟨(z,q),j0 h,rfl⟩
theorem oh {c:cW}(hc:Cr c){B:Nat}{ws:List Wy}(h:fO B ws):∀ z∈ST,Cz c (withPart c ws) z:=by
 have k0:∀ x∈ws.map (·.1),x∈ST:=fun x hx=>by
  obtain⟨w,hw,rfl⟩:=mem_map.mp hx;exact h.st w hw
 have h1:fO (B+28 * 1) (yY c ws 1):=A0 h 1;have k1:∀ x∈(yY c ws 1).map (·.1),x∈ST:=fun x hx=>by
  obtain⟨w,hw,rfl⟩:=mem_map.mp hx;exact h1.st w hw
 refine wu hc [] k1 (fun z hz=>?_) (fun z _ _ d=>(nomatch d)) fun z _ _ _ hn=>fun q hq=>absurd (L0 hq) hn;intro q hq;have e:bB (yY c ws 1) z=bB ws z:=q8 hz k0;rw[e]at hq;have:=Ho hc hz (acc:=ws) k0 (L0 hq);exact this q (e.trans hq)
theorem qP {c:cW}{ws:List Wy}{z:Str}{p:Int}(h:Lw ws z p):Lw (withPart c ws) z p:=nh (nh h)
theorem qQ {c:cW}{q:Int×Int}{z:Str}{p:Int}:∀{ws acc:List Wy},Lw acc z p->Lw (fk c q ws acc) z p
 |[],_,h=>h
 |_::t,_,h=>qQ (ws:=t) (ng h)
theorem yQ {c:cW}{q:Int×Int}{w:Wy}{m:Mv}:∀{ws acc:List Wy},w∈ws->m∈aZ c w.1 q.2 (eB q.1)->Lw (fk c q ws acc) m.2.2 (w.2.1+m.2.1)
 |x::t,acc,hw,hm=>by
  rcases List.mem_cons.mp hw with rfl|hw
  ·exact qQ (ws:=t) (Cs hm)
  ·exact yQ (ws:=t) hw hm
theorem Fy:(ST.all fun z=>[Kd.dot,Kd.three,Kd.two].all fun k=>aaS fun n=>(Sl z k n).isNone||decide (n=0))=true:=by lk
theorem Rj {z:Str}(hz:z∈ST){k:Kd}(hk:k.parting=true){n:Int}(hn:0<=n/\n<=9){y:Str}(h:Sl z k n=some y):n=0:=by
 have hm:k∈[Kd.dot,Kd.three,Kd.two]:=by cases k <;> first|(cases hk;done)|simp
 have h1:=all_eq_true.mp (all_eq_true.mp (all_eq_true.mp Fy z hz) k hm) n.toNat (mem_range.mpr (by omega));rw[Int.toNat_of_nonneg hn.1]at h1;dsimp only at h1;rw[h]at h1
 simpa using h1
theorem Cy (c:cW)(k:Kd):∀(ks:List Kd)(n p:Int),ck c n (ks++[k])=some p->∃ p' m,ck c n ks=some p'/\costOf c k=some m/\p=p'+m
 |[],n,p,h=>by
  simp only [nil_append,ck]at h;cases e:costOf c k with
  |none=>rw[e]at h;cases h
  |some m=>rw[e]at h;cases h;exact⟨n,m,rfl,rfl,rfl⟩
 |x::t,n,p,h=>by
  simp only [List.cons_append,ck]at h ⊢;cases ex:costOf c x with
  |none=>rw[ex]at h;cases h
  |some y=>rw[ex]at h;exact Cy c k t (n+y) p h
theorem wx {c:cW}(hc:Cr c):∀(ks:List Kd)(n p:Int),ck c n ks=some p->n<=p
 |[],n,p,h=>by cases h;exact Int.le_refl _
 |x::t,n,p,h=>by
  simp only [ck]at h;cases ex:costOf c x with
  |none=>rw[ex]at h;cases h
  |some y =>
   rw[ex]at h;have:=wx hc t (n+y) p h;have:=hc x y ex;omega
theorem We {z:Option Str}{k:Kd}{n:Int}{y:Str}(h:ZR z k n=some y):∃ z',z=some z'/\Sl z' k n=some y:=by
 unfold ZR at h;cases z with
 |none=>cases h
 |some z'=>exact⟨z',rfl,h⟩
theorem NP {s:Sg}(h:qO s)(hp:s.1.parting=false):s∈eB (jF s):=by
 obtain⟨k,n⟩:=s;cases e:k.gn with
 |true =>
  have h1:0<=n/\n<=99:=h.1 e;have hw:jF (k,n)=n:=if_pos e;rw[hw];unfold eB;rw[if_neg (by omega)];cases k <;> first|(cases e;done)|simp
 |false =>
  have h1:n=0:=h.2 e;have hw:jF (k,n) = -1:=if_neg (by show ¬ k.gn=true;rw[e];decide);rw[hw,h1];unfold eB;rw[if_pos rfl];cases k <;> first|(cases e;done)|(cases hp;done)|simp
theorem snoc_cases {α:Type}(l:List α):l=[]\/∃ l' x,l=l'++[x]:=by
 rcases List.eq_nil_or_concat l with h|⟨l',x,h⟩
 ·exact .inl h
 ·exact .inr ⟨l',x,by rw[h];simp⟩
theorem L1 {c:cW}(hc:Cr c){b:Int}:∀(N:Nat)(ss:List Sg)(cs:List Int)(z:Str)(p:Int),ss.length<=N->cs.length=ss.length->Cl cs->(∀ s∈ss,qO s)->Vn (bU ss cs)->yZ (some (Ip b)) ((a9 ss).zip cs)=some z->ck c 0 (a9 ss)=some p ->
  z∈ST/\Lw (fm c b (bU ss cs)) z p
 |N,ss,cs,z,p,hN,hl,hC,hG,hW,hr,hp=>by
  have okW:∀{qs:List (Int×Int)},Vn qs->fO (56+57 * qs.length) (fm c b qs):=fun {qs} h=>by
   have:=j2 (c:=c) (b:=b) h qs.length
   rwa [take_length]at this
  rcases snoc_cases ss with rfl|⟨ss',s,rfl⟩
  ·have e:cs=[]:=List.length_eq_zero_iff.mp hl;subst e;cases hr;cases hp;exact⟨Iq b,qP ⟨(0,[]),by unfold bB;rw[if_pos rfl],Int.le_refl _⟩⟩
  ·rcases snoc_cases cs with rfl|⟨cs',n,rfl⟩
   ·simp at hl
   have hl':cs'.length=ss'.length:=by simpa using hl
   have hl2:cs'.length=(a9 ss').length:=by rw[hl'];simp[a9]
   rw[tX,Cq _ _ _ _ hl2,wk]at hr;rw[tX]at hp;obtain⟨z',hr',hst⟩:=We hr;obtain⟨p',m,hp',hm,rfl⟩:=Cy c s.1 _ 0 p hp;have hn:=hC n (mem_append_right _ (mem_singleton.mpr rfl));have hg:=hG s (mem_append_right _ (mem_singleton.mpr rfl));rw[q4 ss' cs' s n hl']at hW ⊢;have hW':Vn (bU ss' cs'):=fun q hq=>hW q (mem_append_left _ hq)
   match N,hN with
   |0,hN=>simp at hN
   |N+1,hN =>
    obtain⟨hz',q,hq,hqp⟩:=L1 hc N ss' cs' z' p' (by simpa using hN) hl' (fun d hd=>hC d (mem_append_left _ hd)) (fun x hx=>hG x (mem_append_left _ hx)) hW' hr' hp';have hz:z∈ST:=by
     rcases TJ hz' s.1 hn.1 hn.2 with ⟨_,e⟩|⟨y,hy,_,e⟩
     ·rw[hst]at e;cases e
     ·rw[hst]at e;cases e;exact hy
    refine⟨hz,?_⟩;cases X0:s.1.parting with
    |true =>
     have n0:=Rj hz' X0 hn hst;subst n0;have hs:s∈gg:=by
      obtain⟨k,x⟩:=s;have:x=0:=hg.2 (by cases k <;> first|(cases X0;done)|rfl);subst this;unfold gg;cases k <;> first|(cases X0;done)|simp
     have hmv:((s,m,z):Mv)∈aZ c z' 0 gg:=List.mem_filterMap.mpr ⟨s,hs,by unfold Fv;rw[hm,hst]⟩;show Lw (fm c b (bU ss' cs'++[])) z (p'+m);rw[append_nil];have cl:Cz c (fm c b (bU ss' cs')) z':=by
      rcases snoc_cases (bU ss' cs') with e|⟨qs,x,e⟩
      ·rw[e];exact oh hc (B:=0) ⟨by simp,fun w hw=>by rw[mem_singleton.mp hw];exact Iq b,fun w hw=>by rw[mem_singleton.mp hw];exact Nat.le_refl _⟩ z' hz'
      ·have hWx:=hW';rw[e]at hWx;have hx:=hWx x (mem_append_right _ (mem_singleton.mpr rfl));rw[e,j1];exact oh hc (o6 hx.1 hx.2 (okW fun y hy=>hWx y (mem_append_left _ hy))) z' hz'
     exact(cl q hq _ hmv).mono (by show q.1+m<=p'+m;omega)
    |false =>
     have hs:=NP hg X0;have hmv:((s,m,z):Mv)∈aZ c z' n (eB (jF s)):=List.mem_filterMap.mpr ⟨s,hs,by unfold Fv;rw[hm,hst]⟩;show Lw (fm c b (bU ss' cs'++[(jF s,n)])) z (p'+m);rw[j1];exact qP ((yQ (q:=(jF s,n)) (j0 hq) hmv).mono (by show q.1+m<=p'+m;omega))
theorem t4 {c:cW}(hc:Cr c){b:Int}(hb:Ms b){ss:List Sg}(hG:∀ s∈ss,qO s)(hf:(b7 b (a9 ss)).2=[]){p:Int}(hp:ck c 0 (a9 ss)=some p):∃ w∈qN c b (bU ss (b7 b (a9 ss)).1),w.2.1<=p:=by
 have hC:=A2 hb (a9 ss);have hl:(b7 b (a9 ss)).1.length=ss.length:=by rw[v9];simp[a9]
 have hl2:(b7 b (a9 ss)).1.length=(a9 ss).length:=v9 ..;have ha:=(Hk hb (a9 ss) hl2 hC).mpr ⟨rfl,hf⟩;rw[Co _ _ _ hl2]at ha;have ha:Zb (yZ (some (Ip b)) ((a9 ss).zip (b7 b (a9 ss)).1))=true:=ha;cases hr:yZ (some (Ip b)) ((a9 ss).zip (b7 b (a9 ss)).1) with
 |none=>rw[hr]at ha;cases ha
 |some z =>
  rw[hr]at ha;obtain⟨_,q,hq,hqp⟩:=L1 hc ss.length ss _ z p (Nat.le_refl _) hl hC hG (qu hC) hr hp;exact⟨(z,q),List.mem_filter.mpr ⟨j0 hq,ha⟩,hqp⟩
structure Wf (c:cW):Prop where
 a:∀ n,c.1=some n->1<=n
 b:∀ n,c.2.1=some n->1<=n
 c:∀ n,c.2.2=some n->1<=n
theorem Wf.pos {c:cW}(h:Wf c):Cr c:=fun k n e=>by
 cases k <;> first|(have:=h.a n e;omega)|(have:=h.b n e;omega)|(have:=h.c n e;omega)|(cases e;exact Int.le_refl _)
def PrA (c:cW):Prop:=∀ k,∃ n,costOf c k=some n
theorem PrA.Qo {c:cW}(h:PrA c):∀(ks:List Kd)(n:Int),∃ p,ck c n ks=some p
 |[],n=>⟨n,rfl⟩
 |k::t,n=>by
  obtain⟨m,e⟩:=h k;simp only [ck,e];exact PrA.Qo h t (n+m)
def Zc (c:cW)(x y z:Int):cW:=(some (c.1.getD x),some (c.2.1.getD y),some (c.2.2.getD z))
theorem Qp (c:cW)(x y z:Int):PrA (Zc c x y z):=fun k=>by cases k <;> exact⟨_,rfl⟩
theorem CA {o:Option Int}{x:Int}(h:∀ n,o=some n->1<=n)(hx:1<=x):1<=o.getD x:=by
 cases o with
 |none=>exact hx
 |some n=>exact h n rfl
theorem T4 {c:cW}(h:Wf c){x y z:Int}(hx:1<=x)(hy:1<=y)(hz:1<=z):Wf (Zc c x y z):=by
 refine⟨fun n e=>?_,fun n e=>?_,fun n e=>?_⟩
 ·cases e;exact CA h.a hx
 ·cases e;exact CA h.b hy
 ·cases e;exact CA h.c hz
end jY
set_option maxHeartbeats 1000000
local macro_rules | `(tactic| tm_up) => `(tactic| repeat w_up)
local macro_rules | `(tactic| w_up) => `(tactic| first
 |refine⟨_,rfl,?_⟩
 |refine⟨_,_,rfl,rfl,⟨by decide,by decide⟩,?_⟩
 |refine⟨_,_,rfl,rfl,(by first|decide|(show(0:Int)<_;decide)),?_⟩
 |refine .inl ⟨_,_,rfl,rfl,.inr ⟨by decide,by decide⟩,?_⟩
 |refine⟨_,_,rfl,rfl,?_⟩
 |refine .inl ⟨_,_,rfl,rfl,?_⟩
 |refine .inl ⟨rfl,?_⟩
 |refine .inr ⟨_,_,rfl,rfl,?_⟩
 |refine jY.ix0 (by assumption) ?_
 |refine jY.ix1 (by assumption) ?_
 |refine jY.ad7 (by assumption) ?_
 |refine jY.ad8 (by assumption) ?_)
noncomputable section
namespace Hd
open PySem PySem.W
noncomputable abbrev pr:Program:=PySem.Challenge.rw_noteworth_k26_whole_none_cheaper.prog
noncomputable def tp (i:Nat):Stmt:=pr.main.body.getD i (.Pass ⟨0,0,0,0⟩)
noncomputable def m0:Nat:=11
noncomputable def ann:Option Value:=some (.ref 6)
noncomputable def drawn:Drawn:=boot_drawn
noncomputable def df:Pos:=⟨0,0,0,0⟩
noncomputable def code:Value:=.ref 13
noncomputable def frame:Nat:=14
noncomputable def di (P:Params):Obj:=⟨.type "tuple",none,.seq #[] 0,#[]⟩
noncomputable def X1 (P:Params):Obj:=⟨.none,none,.fields #[],#[]⟩
noncomputable def dj (P:Params):Obj:=⟨.type "code",none,.fields #[.str "<module>" 182,.str "<module>" 183,.str "/claim/cut.py" 184,.int (1) 0,.int (0) 0,.int (0) 0,.int (0) 0,.int (0) 0,.ref 11,.bool false,.int (181) 0,.ref 12,.none,.none,.none,.none,.int (185) 0,.int (1) 0,.str "/claim/cut.py" 186],#[]⟩
noncomputable def dk (P:Params):Obj:=⟨.type "frame",none,.plain,#[some (.ref 13),some (.ref 3),some (.ref 3),none,some (.str "__main__" 164),none,some (.ref 0)]⟩
noncomputable def H1 (P:Params):Heap:=⟨⟨[boot_o_0 P,boot_o_1 P,boot_o_2 P,boot_o_3 P,boot_o_4 P,boot_o_5 P,boot_o_6 P,boot_o_7 P,boot_o_8 P,boot_o_9 P,boot_o_10 P,di P,X1 P,dj P,dk P]⟩,(boot_heap P).life⟩
noncomputable def k1:Nat:=187
noncomputable def n1:Nat:=12
noncomputable def p1:Pos:=⟨0,0,0,0⟩
noncomputable def H2 (P:Params):Heap:=⟨⟨[boot_o_0 P,boot_o_1 P,boot_o_2 P,boot_o_3 P,boot_o_4 P,boot_o_5 P,boot_o_6 P,boot_o_7 P,boot_o_8 P,boot_o_9 P,boot_o_10 P,di P,X1 P,dj P,dk P]⟩,(boot_heap P).life⟩
noncomputable def k2:Nat:=187
noncomputable def n2:Nat:=1
noncomputable def p2:Pos:=⟨0,0,0,0⟩
noncomputable def aeb (P:Params):Obj:=⟨.type "dict",none,.dict #[⟨PyData.keyHash P "__name__",.str "__name__" 165,.str "noteworth.prices" 219⟩,⟨PyData.keyHash P "__doc__",.str "__doc__" 166,.none⟩,⟨PyData.keyHash P "__package__",.str "__package__" 167,.none⟩,⟨PyData.keyHash P "__loader__",.str "__loader__" 168,.builtin "__main__.__loader__#opaque"⟩,⟨PyData.keyHash P "__spec__",.str "__spec__" 169,.none⟩,⟨PyData.keyHash P "__annotations__",.str "__annotations__" 170,.ref 6⟩,⟨PyData.keyHash P "__builtins__",.str "__builtins__" 171,.ref 4⟩,⟨PyData.keyHash P "__file__",.str "__file__" 173,.str "/claim/cut.py" 172⟩,⟨PyData.keyHash P "__cached__",.str "__cached__" 174,.none⟩,⟨PyData.keyHash P "SMALL_KINDS",.str "SMALL_KINDS" 192,.ref 15⟩,⟨PyData.keyHash P "PARTING_KINDS",.str "PARTING_KINDS" 196,.ref 16⟩,⟨PyData.keyHash P "MEASURE_KINDS",.str "MEASURE_KINDS" 199,.ref 17⟩,⟨PyData.keyHash P "SOUNDING_KINDS",.str "SOUNDING_KINDS" 204,.ref 18⟩,⟨PyData.keyHash P "small",.str "small" 211,.ref 25⟩,⟨PyData.keyHash P "parting",.str "parting" 218,.ref 32⟩,⟨PyData.keyHash P "DARK_KINDS",.str "DARK_KINDS" 223,.ref 33⟩,⟨PyData.keyHash P "sign_price",.str "sign_price" 234,.ref 40⟩] 17,#[]⟩
noncomputable def gC (P:Params):Obj:=⟨.none,none,.fields #[.int (6) 0,.int (0) 0,.ref 24,.int (8) 0,.int (0) 0,.ref 31,.int (12) 0,.int (0) 0,.ref 39],#[]⟩
noncomputable def dq (P:Params):Obj:=⟨.type "tuple",none,.seq #[.str "s" 189,.str "d" 190,.str "r" 191] 0,#[]⟩
noncomputable def dr (P:Params):Obj:=⟨.type "tuple",none,.seq #[.str "." 193,.str "3" 194,.str "2" 195] 0,#[]⟩
noncomputable def du (P:Params):Obj:=⟨.type "tuple",none,.seq #[.str "3" 197,.str "2" 198] 0,#[]⟩
noncomputable def dv (P:Params):Obj:=⟨.type "tuple",none,.seq #[.str "G" 200,.str "D" 201,.str "s" 202,.str "d" 203] 0,#[]⟩
noncomputable def dw (P:Params):Obj:=⟨.type "tuple",none,.seq #[] 0,#[]⟩
noncomputable def d8 (P:Params):Obj:=⟨.none,none,.fields #[],#[]⟩
noncomputable def dz (P:Params):Obj:=⟨.type "tuple",none,.seq #[.str "sign" 208] 0,#[]⟩
noncomputable def dA (P:Params):Obj:=⟨.type "tuple",none,.seq #[] 0,#[]⟩
noncomputable def d9 (P:Params):Obj:=⟨.none,none,.func { name:="small",qualname:="small",params:=L2.ak (tp 5),body:=.stmts (L2.aj (tp 5)),scope:=L2.ae (tp 5),globals:=0,closure:=[],defaults:=.none,kwdefaults:=.none,doc:=.none,pyModule:=.none,annotations:=none,code:=.none,closureTuple:=.none,builtins:=0 },#[]⟩
noncomputable def dB (P:Params):Obj:=⟨.type "code",none,.fields #[.str "small" 205,.str "small" 206,.str "/claim/cut.py" 207,.int (6) 0,.int (1) 0,.int (0) 0,.int (0) 0,.int (3) 0,.ref 19,.bool true,.int (181) 0,.ref 20,.none,.ref 21,.ref 22,.ref 23,.int (209) 0,.int (6) 0,.str "/claim/cut.py" 210],#[]⟩
noncomputable def dC (P:Params):Obj:=⟨.type "function",none,.func { name:="small",qualname:="small",params:=L2.ak (tp 5),body:=.stmts (L2.aj (tp 5)),scope:=L2.ae (tp 5),globals:=3,closure:=[],defaults:=.none,kwdefaults:=.none,doc:=.none,pyModule:=.str "noteworth.signs" 187,annotations:=none,code:=.ref 24,closureTuple:=.none,builtins:=0 },#[]⟩
noncomputable def dD (P:Params):Obj:=⟨.type "tuple",none,.seq #[] 0,#[]⟩
noncomputable def ee (P:Params):Obj:=⟨.none,none,.fields #[],#[]⟩
noncomputable def dE (P:Params):Obj:=⟨.type "tuple",none,.seq #[.str "sign" 215] 0,#[]⟩
noncomputable def dF (P:Params):Obj:=⟨.type "tuple",none,.seq #[] 0,#[]⟩
noncomputable def ef (P:Params):Obj:=⟨.none,none,.func { name:="parting",qualname:="parting",params:=L2.ak (tp 6),body:=.stmts (L2.aj (tp 6)),scope:=L2.ae (tp 6),globals:=0,closure:=[],defaults:=.none,kwdefaults:=.none,doc:=.none,pyModule:=.none,annotations:=none,code:=.none,closureTuple:=.none,builtins:=0 },#[]⟩
noncomputable def dG (P:Params):Obj:=⟨.type "code",none,.fields #[.str "parting" 212,.str "parting" 213,.str "/claim/cut.py" 214,.int (8) 0,.int (1) 0,.int (0) 0,.int (0) 0,.int (3) 0,.ref 26,.bool true,.int (181) 0,.ref 27,.none,.ref 28,.ref 29,.ref 30,.int (216) 0,.int (8) 0,.str "/claim/cut.py" 217],#[]⟩
noncomputable def dH (P:Params):Obj:=⟨.type "function",none,.func { name:="parting",qualname:="parting",params:=L2.ak (tp 6),body:=.stmts (L2.aj (tp 6)),scope:=L2.ae (tp 6),globals:=3,closure:=[],defaults:=.none,kwdefaults:=.none,doc:=.none,pyModule:=.str "noteworth.signs" 187,annotations:=none,code:=.ref 31,closureTuple:=.none,builtins:=0 },#[]⟩
noncomputable def dJ (P:Params):Obj:=⟨.type "tuple",none,.seq #[.str "D" 221,.str "d" 222] 0,#[]⟩
noncomputable def dM (P:Params):Obj:=⟨.type "tuple",none,.seq #[] 0,#[]⟩
noncomputable def eh (P:Params):Obj:=⟨.none,none,.fields #[],#[]⟩
noncomputable def dN (P:Params):Obj:=⟨.type "tuple",none,.seq #[.str "sign" 227,.str "prices" 228,.str "dot" 229,.str "dark" 230,.str "measure" 231] 0,#[]⟩
noncomputable def dO (P:Params):Obj:=⟨.type "tuple",none,.seq #[] 0,#[]⟩
noncomputable def ei (P:Params):Obj:=⟨.none,none,.func { name:="sign_price",qualname:="sign_price",params:=L2.ak (tp 9),body:=.stmts (L2.aj (tp 9)),scope:=L2.ae (tp 9),globals:=0,closure:=[],defaults:=.none,kwdefaults:=.none,doc:=.none,pyModule:=.none,annotations:=none,code:=.none,closureTuple:=.none,builtins:=0 },#[]⟩
noncomputable def dP (P:Params):Obj:=⟨.type "code",none,.fields #[.str "sign_price" 224,.str "sign_price" 225,.str "/claim/cut.py" 226,.int (12) 0,.int (2) 0,.int (0) 0,.int (0) 0,.int (3) 0,.ref 34,.bool true,.int (181) 0,.ref 35,.none,.ref 36,.ref 37,.ref 38,.int (232) 0,.int (12) 0,.str "/claim/cut.py" 233],#[]⟩
noncomputable def dQ (P:Params):Obj:=⟨.type "function",none,.func { name:="sign_price",qualname:="sign_price",params:=L2.ak (tp 9),body:=.stmts (L2.aj (tp 9)),scope:=L2.ae (tp 9),globals:=3,closure:=[],defaults:=.none,kwdefaults:=.none,doc:=.none,pyModule:=.str "noteworth.prices" 219,annotations:=none,code:=.ref 39,closureTuple:=.none,builtins:=0 },#[]⟩
noncomputable def H3 (P:Params):Heap:=⟨⟨[boot_o_0 P,boot_o_1 P,boot_o_2 P,aeb P,boot_o_4 P,boot_o_5 P,boot_o_6 P,boot_o_7 P,boot_o_8 P,boot_o_9 P,boot_o_10 P,di P,gC P,dj P,dk P,dq P,dr P,du P,dv P,dw P,d8 P,dz P,dA P,d9 P,dB P,dC P,dD P,ee P,dE P,dF P,ef P,dG P,dH P,dJ P,dM P,eh P,dN P,dO P,ei P,dP P,dQ P]⟩,(boot_heap P).life⟩
noncomputable def k3:Nat:=235
noncomputable def n3:Nat:=174
noncomputable def p3:Pos:=⟨12,0,20,12⟩
noncomputable def s3:List Stmt:=[tp 0,tp 1,tp 2,tp 3,tp 4,tp 5,tp 6,tp 7,tp 8,tp 9]
noncomputable def y3 (P:Params):Obj:=⟨.type "dict",none,.dict #[⟨PyData.keyHash P "__name__",.str "__name__" 165,.str "noteworth.steps" 238⟩,⟨PyData.keyHash P "__doc__",.str "__doc__" 166,.none⟩,⟨PyData.keyHash P "__package__",.str "__package__" 167,.none⟩,⟨PyData.keyHash P "__loader__",.str "__loader__" 168,.builtin "__main__.__loader__#opaque"⟩,⟨PyData.keyHash P "__spec__",.str "__spec__" 169,.none⟩,⟨PyData.keyHash P "__annotations__",.str "__annotations__" 170,.ref 6⟩,⟨PyData.keyHash P "__builtins__",.str "__builtins__" 171,.ref 4⟩,⟨PyData.keyHash P "__file__",.str "__file__" 173,.str "/claim/cut.py" 172⟩,⟨PyData.keyHash P "__cached__",.str "__cached__" 174,.none⟩,⟨PyData.keyHash P "SMALL_KINDS",.str "SMALL_KINDS" 192,.ref 15⟩,⟨PyData.keyHash P "PARTING_KINDS",.str "PARTING_KINDS" 196,.ref 16⟩,⟨PyData.keyHash P "MEASURE_KINDS",.str "MEASURE_KINDS" 199,.ref 17⟩,⟨PyData.keyHash P "SOUNDING_KINDS",.str "SOUNDING_KINDS" 204,.ref 18⟩,⟨PyData.keyHash P "small",.str "small" 211,.ref 25⟩,⟨PyData.keyHash P "parting",.str "parting" 218,.ref 32⟩,⟨PyData.keyHash P "DARK_KINDS",.str "DARK_KINDS" 223,.ref 33⟩,⟨PyData.keyHash P "sign_price",.str "sign_price" 234,.ref 40⟩,⟨PyData.keyHash P "REST_TONE",.str "REST_TONE" 237,.int (-1) 236⟩,⟨PyData.keyHash P "TWOFOLD_STATES",.str "TWOFOLD_STATES" 243,.ref 41⟩,⟨PyData.keyHash P "TWOFOLD_BEGIN",.str "TWOFOLD_BEGIN" 245,.str "2-" 244⟩,⟨PyData.keyHash P "THREEFOLD_BEGIN",.str "THREEFOLD_BEGIN" 247,.str "3n0-" 246⟩,⟨PyData.keyHash P "SHORTENED_FROM_AHEAD",.str "SHORTENED_FROM_AHEAD" 249,.str "3t0-" 248⟩,⟨PyData.keyHash P "NEXT_COUNTS",.str "NEXT_COUNTS" 259,.ref 42⟩] 23,#[]⟩
noncomputable def ej (P:Params):Obj:=⟨.type "tuple",none,.seq #[.str "2-" 240,.str "2g" 241,.str "2G" 242] 0,#[]⟩
noncomputable def eo (P:Params):Obj:=⟨.type "dict",none,.dict #[⟨PyData.keyHash P "0",.str "0" 250,.str "1" 251⟩,⟨PyData.keyHash P "1",.str "1" 252,.str "2" 253⟩,⟨PyData.keyHash P "2",.str "2" 254,.str "0" 255⟩] 3,#[]⟩
noncomputable def H4 (P:Params):Heap:=⟨⟨[boot_o_0 P,boot_o_1 P,boot_o_2 P,y3 P,boot_o_4 P,boot_o_5 P,boot_o_6 P,boot_o_7 P,boot_o_8 P,boot_o_9 P,boot_o_10 P,di P,gC P,dj P,dk P,dq P,dr P,du P,dv P,dw P,d8 P,dz P,dA P,d9 P,dB P,dC P,dD P,ee P,dE P,dF P,ef P,dG P,dH P,dJ P,dM P,eh P,dN P,dO P,ei P,dP P,dQ P,ej P,eo P]⟩,(boot_heap P).life⟩
noncomputable def k4:Nat:=260
noncomputable def n4:Nat:=119
noncomputable def p4:Pos:=⟨27,0,27,11⟩
noncomputable def s4:List Stmt:=[tp 10,tp 11,tp 12,tp 13,tp 14,tp 15,tp 16]
noncomputable def d5:Nat:=43
noncomputable def dp5:Pos:=⟨28,16,28,178⟩
noncomputable def vs5:List (Value×Value):=[(.ref 44,.str "2-" 262),(.ref 45,.str "2-" 265),(.ref 46,.str "2-" 268),(.ref 47,.str "2-" 271),(.ref 48,.str "2-" 274),(.ref 49,.str "2g" 277),(.ref 50,.str "2G" 280),(.ref 51,.str "2-" 283),(.ref 52,.str "2-" 286),(.ref 53,.str "3n0-" 289)]
noncomputable def Wg (P:Params):Obj:=⟨.type "dict",none,.dict #[] 0,#[]⟩
noncomputable def bg (P:Params):Obj:=⟨.type "tuple",none,.seq #[.str "s" 260,.int (1) 261] 0,#[]⟩
noncomputable def bh (P:Params):Obj:=⟨.type "tuple",none,.seq #[.str "d" 263,.int (1) 264] 0,#[]⟩
noncomputable def bj (P:Params):Obj:=⟨.type "tuple",none,.seq #[.str "r" 266,.int (1) 267] 0,#[]⟩
noncomputable def bo (P:Params):Obj:=⟨.type "tuple",none,.seq #[.str "D" 269,.int (2) 270] 0,#[]⟩
noncomputable def bp (P:Params):Obj:=⟨.type "tuple",none,.seq #[.str "R" 272,.int (2) 273] 0,#[]⟩
noncomputable def bq (P:Params):Obj:=⟨.type "tuple",none,.seq #[.str "G" 275,.int (2) 276] 0,#[]⟩
noncomputable def br (P:Params):Obj:=⟨.type "tuple",none,.seq #[.str "G" 278,.int (3) 279] 0,#[]⟩
noncomputable def bu (P:Params):Obj:=⟨.type "tuple",none,.seq #[.str "." 281,.int (0) 282] 0,#[]⟩
noncomputable def bx (P:Params):Obj:=⟨.type "tuple",none,.seq #[.str "2" 284,.int (0) 285] 0,#[]⟩
noncomputable def bz (P:Params):Obj:=⟨.type "tuple",none,.seq #[.str "3" 287,.int (0) 288] 0,#[]⟩
noncomputable def Iv (P:Params):Heap:=⟨⟨[boot_o_0 P,boot_o_1 P,boot_o_2 P,y3 P,boot_o_4 P,boot_o_5 P,boot_o_6 P,boot_o_7 P,boot_o_8 P,boot_o_9 P,boot_o_10 P,di P,gC P,dj P,dk P,dq P,dr P,du P,dv P,dw P,d8 P,dz P,dA P,d9 P,dB P,dC P,dD P,ee P,dE P,dF P,ef P,dG P,dH P,dJ P,dM P,eh P,dN P,dO P,ei P,dP P,dQ P,ej P,eo P,Wg P,bg P,bh P,bj P,bo P,bp P,bq P,br P,bu P,bx P,bz P]⟩,(boot_heap P).life⟩
noncomputable def L3:Nat:=290
noncomputable def aec (P:Params):Array DictEntry:=#[]
noncomputable def aa1:Nat:=0
noncomputable def aa2:Nat:=44
noncomputable def aa3:Value:=.str "2-" 262
noncomputable def Wh (P:Params):Obj:=⟨.type "dict",none,.dict #[⟨th P "s" (1),.ref 44,.str "2-" 262⟩] 1,#[]⟩
noncomputable def Iw (P:Params):Heap:=⟨⟨[boot_o_0 P,boot_o_1 P,boot_o_2 P,y3 P,boot_o_4 P,boot_o_5 P,boot_o_6 P,boot_o_7 P,boot_o_8 P,boot_o_9 P,boot_o_10 P,di P,gC P,dj P,dk P,dq P,dr P,du P,dv P,dw P,d8 P,dz P,dA P,d9 P,dB P,dC P,dD P,ee P,dE P,dF P,ef P,dG P,dH P,dJ P,dM P,eh P,dN P,dO P,ei P,dP P,dQ P,ej P,eo P,Wh P,bg P,bh P,bj P,bo P,bp P,bq P,br P,bu P,bx P,bz P]⟩,(boot_heap P).life⟩
noncomputable def Fz:Nat:=293
noncomputable def aed (P:Params):Array DictEntry:=#[⟨th P "s" (1),.ref 44,.str "2-" 262⟩]
noncomputable def aa4:Nat:=1
noncomputable def aa5:Nat:=45
noncomputable def aa6:Value:=.str "2-" 265
noncomputable def Wi (P:Params):Obj:=⟨.type "dict",none,.dict #[⟨th P "s" (1),.ref 44,.str "2-" 262⟩,⟨th P "d" (1),.ref 45,.str "2-" 265⟩] 2,#[]⟩
noncomputable def Iy (P:Params):Heap:=⟨⟨[boot_o_0 P,boot_o_1 P,boot_o_2 P,y3 P,boot_o_4 P,boot_o_5 P,boot_o_6 P,boot_o_7 P,boot_o_8 P,boot_o_9 P,boot_o_10 P,di P,gC P,dj P,dk P,dq P,dr P,du P,dv P,dw P,d8 P,dz P,dA P,d9 P,dB P,dC P,dD P,ee P,dE P,dF P,ef P,dG P,dH P,dJ P,dM P,eh P,dN P,dO P,ei P,dP P,dQ P,ej P,eo P,Wi P,bg P,bh P,bj P,bo P,bp P,bq P,br P,bu P,bx P,bz P]⟩,(boot_heap P).life⟩
noncomputable def FA:Nat:=296
noncomputable def aee (P:Params):Array DictEntry:=#[⟨th P "s" (1),.ref 44,.str "2-" 262⟩,⟨th P "d" (1),.ref 45,.str "2-" 265⟩]
noncomputable def aa7:Nat:=2
noncomputable def aa8:Nat:=46
noncomputable def aa9:Value:=.str "2-" 268
noncomputable def Wj (P:Params):Obj:=⟨.type "dict",none,.dict #[⟨th P "s" (1),.ref 44,.str "2-" 262⟩,⟨th P "d" (1),.ref 45,.str "2-" 265⟩,⟨th P "r" (1),.ref 46,.str "2-" 268⟩] 3,#[]⟩
noncomputable def Iz (P:Params):Heap:=⟨⟨[boot_o_0 P,boot_o_1 P,boot_o_2 P,y3 P,boot_o_4 P,boot_o_5 P,boot_o_6 P,boot_o_7 P,boot_o_8 P,boot_o_9 P,boot_o_10 P,di P,gC P,dj P,dk P,dq P,dr P,du P,dv P,dw P,d8 P,dz P,dA P,d9 P,dB P,dC P,dD P,ee P,dE P,dF P,ef P,dG P,dH P,dJ P,dM P,eh P,dN P,dO P,ei P,dP P,dQ P,ej P,eo P,Wj P,bg P,bh P,bj P,bo P,bp P,bq P,br P,bu P,bx P,bz P]⟩,(boot_heap P).life⟩
noncomputable def FC:Nat:=299
noncomputable def aef (P:Params):Array DictEntry:=#[⟨th P "s" (1),.ref 44,.str "2-" 262⟩,⟨th P "d" (1),.ref 45,.str "2-" 265⟩,⟨th P "r" (1),.ref 46,.str "2-" 268⟩]
noncomputable def aba:Nat:=3
noncomputable def abb:Nat:=47
noncomputable def abc:Value:=.str "2-" 271
noncomputable def Wk (P:Params):Obj:=⟨.type "dict",none,.dict #[⟨th P "s" (1),.ref 44,.str "2-" 262⟩,⟨th P "d" (1),.ref 45,.str "2-" 265⟩,⟨th P "r" (1),.ref 46,.str "2-" 268⟩,⟨th P "D" (2),.ref 47,.str "2-" 271⟩] 4,#[]⟩
noncomputable def IA (P:Params):Heap:=⟨⟨[boot_o_0 P,boot_o_1 P,boot_o_2 P,y3 P,boot_o_4 P,boot_o_5 P,boot_o_6 P,boot_o_7 P,boot_o_8 P,boot_o_9 P,boot_o_10 P,di P,gC P,dj P,dk P,dq P,dr P,du P,dv P,dw P,d8 P,dz P,dA P,d9 P,dB P,dC P,dD P,ee P,dE P,dF P,ef P,dG P,dH P,dJ P,dM P,eh P,dN P,dO P,ei P,dP P,dQ P,ej P,eo P,Wk P,bg P,bh P,bj P,bo P,bp P,bq P,br P,bu P,bx P,bz P]⟩,(boot_heap P).life⟩
noncomputable def FD:Nat:=302
noncomputable def aeg (P:Params):Array DictEntry:=#[⟨th P "s" (1),.ref 44,.str "2-" 262⟩,⟨th P "d" (1),.ref 45,.str "2-" 265⟩,⟨th P "r" (1),.ref 46,.str "2-" 268⟩,⟨th P "D" (2),.ref 47,.str "2-" 271⟩]
noncomputable def abd:Nat:=4
noncomputable def abe:Nat:=48
noncomputable def abf:Value:=.str "2-" 274
noncomputable def Wl (P:Params):Obj:=⟨.type "dict",none,.dict #[⟨th P "s" (1),.ref 44,.str "2-" 262⟩,⟨th P "d" (1),.ref 45,.str "2-" 265⟩,⟨th P "r" (1),.ref 46,.str "2-" 268⟩,⟨th P "D" (2),.ref 47,.str "2-" 271⟩,⟨th P "R" (2),.ref 48,.str "2-" 274⟩] 5,#[]⟩
noncomputable def IB (P:Params):Heap:=⟨⟨[boot_o_0 P,boot_o_1 P,boot_o_2 P,y3 P,boot_o_4 P,boot_o_5 P,boot_o_6 P,boot_o_7 P,boot_o_8 P,boot_o_9 P,boot_o_10 P,di P,gC P,dj P,dk P,dq P,dr P,du P,dv P,dw P,d8 P,dz P,dA P,d9 P,dB P,dC P,dD P,ee P,dE P,dF P,ef P,dG P,dH P,dJ P,dM P,eh P,dN P,dO P,ei P,dP P,dQ P,ej P,eo P,Wl P,bg P,bh P,bj P,bo P,bp P,bq P,br P,bu P,bx P,bz P]⟩,(boot_heap P).life⟩
noncomputable def FE:Nat:=305
noncomputable def aeh (P:Params):Array DictEntry:=#[⟨th P "s" (1),.ref 44,.str "2-" 262⟩,⟨th P "d" (1),.ref 45,.str "2-" 265⟩,⟨th P "r" (1),.ref 46,.str "2-" 268⟩,⟨th P "D" (2),.ref 47,.str "2-" 271⟩,⟨th P "R" (2),.ref 48,.str "2-" 274⟩]
noncomputable def abg:Nat:=5
noncomputable def abh:Nat:=49
noncomputable def abi:Value:=.str "2g" 277
noncomputable def Wm (P:Params):Obj:=⟨.type "dict",none,.dict #[⟨th P "s" (1),.ref 44,.str "2-" 262⟩,⟨th P "d" (1),.ref 45,.str "2-" 265⟩,⟨th P "r" (1),.ref 46,.str "2-" 268⟩,⟨th P "D" (2),.ref 47,.str "2-" 271⟩,⟨th P "R" (2),.ref 48,.str "2-" 274⟩,⟨th P "G" (2),.ref 49,.str "2g" 277⟩] 6,#[]⟩
noncomputable def IC (P:Params):Heap:=⟨⟨[boot_o_0 P,boot_o_1 P,boot_o_2 P,y3 P,boot_o_4 P,boot_o_5 P,boot_o_6 P,boot_o_7 P,boot_o_8 P,boot_o_9 P,boot_o_10 P,di P,gC P,dj P,dk P,dq P,dr P,du P,dv P,dw P,d8 P,dz P,dA P,d9 P,dB P,dC P,dD P,ee P,dE P,dF P,ef P,dG P,dH P,dJ P,dM P,eh P,dN P,dO P,ei P,dP P,dQ P,ej P,eo P,Wm P,bg P,bh P,bj P,bo P,bp P,bq P,br P,bu P,bx P,bz P]⟩,(boot_heap P).life⟩
noncomputable def FF:Nat:=308
noncomputable def aei (P:Params):Array DictEntry:=#[⟨th P "s" (1),.ref 44,.str "2-" 262⟩,⟨th P "d" (1),.ref 45,.str "2-" 265⟩,⟨th P "r" (1),.ref 46,.str "2-" 268⟩,⟨th P "D" (2),.ref 47,.str "2-" 271⟩,⟨th P "R" (2),.ref 48,.str "2-" 274⟩,⟨th P "G" (2),.ref 49,.str "2g" 277⟩]
noncomputable def abj:Nat:=6
noncomputable def abk:Nat:=50
noncomputable def abl:Value:=.str "2G" 280
noncomputable def Wn (P:Params):Obj:=⟨.type "dict",none,.dict #[⟨th P "s" (1),.ref 44,.str "2-" 262⟩,⟨th P "d" (1),.ref 45,.str "2-" 265⟩,⟨th P "r" (1),.ref 46,.str "2-" 268⟩,⟨th P "D" (2),.ref 47,.str "2-" 271⟩,⟨th P "R" (2),.ref 48,.str "2-" 274⟩,⟨th P "G" (2),.ref 49,.str "2g" 277⟩,⟨th P "G" (3),.ref 50,.str "2G" 280⟩] 7,#[]⟩
noncomputable def ID (P:Params):Heap:=⟨⟨[boot_o_0 P,boot_o_1 P,boot_o_2 P,y3 P,boot_o_4 P,boot_o_5 P,boot_o_6 P,boot_o_7 P,boot_o_8 P,boot_o_9 P,boot_o_10 P,di P,gC P,dj P,dk P,dq P,dr P,du P,dv P,dw P,d8 P,dz P,dA P,d9 P,dB P,dC P,dD P,ee P,dE P,dF P,ef P,dG P,dH P,dJ P,dM P,eh P,dN P,dO P,ei P,dP P,dQ P,ej P,eo P,Wn P,bg P,bh P,bj P,bo P,bp P,bq P,br P,bu P,bx P,bz P]⟩,(boot_heap P).life⟩
noncomputable def FG:Nat:=311
noncomputable def aej (P:Params):Array DictEntry:=#[⟨th P "s" (1),.ref 44,.str "2-" 262⟩,⟨th P "d" (1),.ref 45,.str "2-" 265⟩,⟨th P "r" (1),.ref 46,.str "2-" 268⟩,⟨th P "D" (2),.ref 47,.str "2-" 271⟩,⟨th P "R" (2),.ref 48,.str "2-" 274⟩,⟨th P "G" (2),.ref 49,.str "2g" 277⟩,⟨th P "G" (3),.ref 50,.str "2G" 280⟩]
noncomputable def abm:Nat:=7
noncomputable def abn:Nat:=51
noncomputable def abo:Value:=.str "2-" 283
noncomputable def Wo (P:Params):Obj:=⟨.type "dict",none,.dict #[⟨th P "s" (1),.ref 44,.str "2-" 262⟩,⟨th P "d" (1),.ref 45,.str "2-" 265⟩,⟨th P "r" (1),.ref 46,.str "2-" 268⟩,⟨th P "D" (2),.ref 47,.str "2-" 271⟩,⟨th P "R" (2),.ref 48,.str "2-" 274⟩,⟨th P "G" (2),.ref 49,.str "2g" 277⟩,⟨th P "G" (3),.ref 50,.str "2G" 280⟩,⟨th P "." (0),.ref 51,.str "2-" 283⟩] 8,#[]⟩
noncomputable def IE (P:Params):Heap:=⟨⟨[boot_o_0 P,boot_o_1 P,boot_o_2 P,y3 P,boot_o_4 P,boot_o_5 P,boot_o_6 P,boot_o_7 P,boot_o_8 P,boot_o_9 P,boot_o_10 P,di P,gC P,dj P,dk P,dq P,dr P,du P,dv P,dw P,d8 P,dz P,dA P,d9 P,dB P,dC P,dD P,ee P,dE P,dF P,ef P,dG P,dH P,dJ P,dM P,eh P,dN P,dO P,ei P,dP P,dQ P,ej P,eo P,Wo P,bg P,bh P,bj P,bo P,bp P,bq P,br P,bu P,bx P,bz P]⟩,(boot_heap P).life⟩
noncomputable def FH:Nat:=314
noncomputable def aek (P:Params):Array DictEntry:=#[⟨th P "s" (1),.ref 44,.str "2-" 262⟩,⟨th P "d" (1),.ref 45,.str "2-" 265⟩,⟨th P "r" (1),.ref 46,.str "2-" 268⟩,⟨th P "D" (2),.ref 47,.str "2-" 271⟩,⟨th P "R" (2),.ref 48,.str "2-" 274⟩,⟨th P "G" (2),.ref 49,.str "2g" 277⟩,⟨th P "G" (3),.ref 50,.str "2G" 280⟩,⟨th P "." (0),.ref 51,.str "2-" 283⟩]
noncomputable def abp:Nat:=8
noncomputable def abq:Nat:=52
noncomputable def abr:Value:=.str "2-" 286
noncomputable def Wq (P:Params):Obj:=⟨.type "dict",none,.dict #[⟨th P "s" (1),.ref 44,.str "2-" 262⟩,⟨th P "d" (1),.ref 45,.str "2-" 265⟩,⟨th P "r" (1),.ref 46,.str "2-" 268⟩,⟨th P "D" (2),.ref 47,.str "2-" 271⟩,⟨th P "R" (2),.ref 48,.str "2-" 274⟩,⟨th P "G" (2),.ref 49,.str "2g" 277⟩,⟨th P "G" (3),.ref 50,.str "2G" 280⟩,⟨th P "." (0),.ref 51,.str "2-" 283⟩,⟨th P "2" (0),.ref 52,.str "2-" 286⟩] 9,#[]⟩
noncomputable def IF (P:Params):Heap:=⟨⟨[boot_o_0 P,boot_o_1 P,boot_o_2 P,y3 P,boot_o_4 P,boot_o_5 P,boot_o_6 P,boot_o_7 P,boot_o_8 P,boot_o_9 P,boot_o_10 P,di P,gC P,dj P,dk P,dq P,dr P,du P,dv P,dw P,d8 P,dz P,dA P,d9 P,dB P,dC P,dD P,ee P,dE P,dF P,ef P,dG P,dH P,dJ P,dM P,eh P,dN P,dO P,ei P,dP P,dQ P,ej P,eo P,Wq P,bg P,bh P,bj P,bo P,bp P,bq P,br P,bu P,bx P,bz P]⟩,(boot_heap P).life⟩
noncomputable def FI:Nat:=317
noncomputable def ael (P:Params):Array DictEntry:=#[⟨th P "s" (1),.ref 44,.str "2-" 262⟩,⟨th P "d" (1),.ref 45,.str "2-" 265⟩,⟨th P "r" (1),.ref 46,.str "2-" 268⟩,⟨th P "D" (2),.ref 47,.str "2-" 271⟩,⟨th P "R" (2),.ref 48,.str "2-" 274⟩,⟨th P "G" (2),.ref 49,.str "2g" 277⟩,⟨th P "G" (3),.ref 50,.str "2G" 280⟩,⟨th P "." (0),.ref 51,.str "2-" 283⟩,⟨th P "2" (0),.ref 52,.str "2-" 286⟩]
noncomputable def abt:Nat:=9
noncomputable def abu:Nat:=53
noncomputable def abv:Value:=.str "3n0-" 289
noncomputable def cQ (P:Params):Obj:=⟨.type "dict",none,.dict #[⟨th P "s" (1),.ref 44,.str "2-" 262⟩,⟨th P "d" (1),.ref 45,.str "2-" 265⟩,⟨th P "r" (1),.ref 46,.str "2-" 268⟩,⟨th P "D" (2),.ref 47,.str "2-" 271⟩,⟨th P "R" (2),.ref 48,.str "2-" 274⟩,⟨th P "G" (2),.ref 49,.str "2g" 277⟩,⟨th P "G" (3),.ref 50,.str "2G" 280⟩,⟨th P "." (0),.ref 51,.str "2-" 283⟩,⟨th P "2" (0),.ref 52,.str "2-" 286⟩,⟨th P "3" (0),.ref 53,.str "3n0-" 289⟩] 10,#[]⟩
noncomputable def Qq (P:Params):Heap:=⟨⟨[boot_o_0 P,boot_o_1 P,boot_o_2 P,y3 P,boot_o_4 P,boot_o_5 P,boot_o_6 P,boot_o_7 P,boot_o_8 P,boot_o_9 P,boot_o_10 P,di P,gC P,dj P,dk P,dq P,dr P,du P,dv P,dw P,d8 P,dz P,dA P,d9 P,dB P,dC P,dD P,ee P,dE P,dF P,ef P,dG P,dH P,dJ P,dM P,eh P,dN P,dO P,ei P,dP P,dQ P,ej P,eo P,cQ P,bg P,bh P,bj P,bo P,bp P,bq P,br P,bu P,bx P,bz P]⟩,(boot_heap P).life⟩
noncomputable def Hq:Nat:=320
noncomputable def t5:Stmt:=tp 17
noncomputable def Rk (P:Params):Obj:=⟨.type "dict",none,.dict #[⟨PyData.keyHash P "__name__",.str "__name__" 165,.str "noteworth.steps" 238⟩,⟨PyData.keyHash P "__doc__",.str "__doc__" 166,.none⟩,⟨PyData.keyHash P "__package__",.str "__package__" 167,.none⟩,⟨PyData.keyHash P "__loader__",.str "__loader__" 168,.builtin "__main__.__loader__#opaque"⟩,⟨PyData.keyHash P "__spec__",.str "__spec__" 169,.none⟩,⟨PyData.keyHash P "__annotations__",.str "__annotations__" 170,.ref 6⟩,⟨PyData.keyHash P "__builtins__",.str "__builtins__" 171,.ref 4⟩,⟨PyData.keyHash P "__file__",.str "__file__" 173,.str "/claim/cut.py" 172⟩,⟨PyData.keyHash P "__cached__",.str "__cached__" 174,.none⟩,⟨PyData.keyHash P "SMALL_KINDS",.str "SMALL_KINDS" 192,.ref 15⟩,⟨PyData.keyHash P "PARTING_KINDS",.str "PARTING_KINDS" 196,.ref 16⟩,⟨PyData.keyHash P "MEASURE_KINDS",.str "MEASURE_KINDS" 199,.ref 17⟩,⟨PyData.keyHash P "SOUNDING_KINDS",.str "SOUNDING_KINDS" 204,.ref 18⟩,⟨PyData.keyHash P "small",.str "small" 211,.ref 25⟩,⟨PyData.keyHash P "parting",.str "parting" 218,.ref 32⟩,⟨PyData.keyHash P "DARK_KINDS",.str "DARK_KINDS" 223,.ref 33⟩,⟨PyData.keyHash P "sign_price",.str "sign_price" 234,.ref 40⟩,⟨PyData.keyHash P "REST_TONE",.str "REST_TONE" 237,.int (-1) 236⟩,⟨PyData.keyHash P "TWOFOLD_STATES",.str "TWOFOLD_STATES" 243,.ref 41⟩,⟨PyData.keyHash P "TWOFOLD_BEGIN",.str "TWOFOLD_BEGIN" 245,.str "2-" 244⟩,⟨PyData.keyHash P "THREEFOLD_BEGIN",.str "THREEFOLD_BEGIN" 247,.str "3n0-" 246⟩,⟨PyData.keyHash P "SHORTENED_FROM_AHEAD",.str "SHORTENED_FROM_AHEAD" 249,.str "3t0-" 248⟩,⟨PyData.keyHash P "NEXT_COUNTS",.str "NEXT_COUNTS" 259,.ref 42⟩,⟨PyData.keyHash P "TWOFOLD_STEPS",.str "TWOFOLD_STEPS" 320,.ref 43⟩] 24,#[]⟩
noncomputable def H5 (P:Params):Heap:=⟨⟨[boot_o_0 P,boot_o_1 P,boot_o_2 P,Rk P,boot_o_4 P,boot_o_5 P,boot_o_6 P,boot_o_7 P,boot_o_8 P,boot_o_9 P,boot_o_10 P,di P,gC P,dj P,dk P,dq P,dr P,du P,dv P,dw P,d8 P,dz P,dA P,d9 P,dB P,dC P,dD P,ee P,dE P,dF P,ef P,dG P,dH P,dJ P,dM P,eh P,dN P,dO P,ei P,dP P,dQ P,ej P,eo P,cQ P,bg P,bh P,bj P,bo P,bp P,bq P,br P,bu P,bx P,bz P]⟩,(boot_heap P).life⟩
noncomputable def k5:Nat:=321
noncomputable def n5:Nat:=351
noncomputable def p5:Pos:=⟨28,0,28,13⟩
noncomputable def d6:Nat:=54
noncomputable def dp6:Pos:=⟨29,14,29,86⟩
noncomputable def vs6:List (Value×Value):=[(.ref 55,.str "3w0-" 323),(.ref 56,.str "3h0-" 326),(.ref 57,.str "3n0-" 329),(.ref 58,.str "3n0-" 332)]
noncomputable def Wr (P:Params):Obj:=⟨.type "dict",none,.dict #[] 0,#[]⟩
noncomputable def fQ (P:Params):Obj:=⟨.type "tuple",none,.seq #[.str "G" 321,.int (3) 322] 0,#[]⟩
noncomputable def fR (P:Params):Obj:=⟨.type "tuple",none,.seq #[.str "G" 324,.int (2) 325] 0,#[]⟩
noncomputable def fS (P:Params):Obj:=⟨.type "tuple",none,.seq #[.str "D" 327,.int (2) 328] 0,#[]⟩
noncomputable def fT (P:Params):Obj:=⟨.type "tuple",none,.seq #[.str "R" 330,.int (3) 331] 0,#[]⟩
noncomputable def IG (P:Params):Heap:=⟨⟨[boot_o_0 P,boot_o_1 P,boot_o_2 P,Rk P,boot_o_4 P,boot_o_5 P,boot_o_6 P,boot_o_7 P,boot_o_8 P,boot_o_9 P,boot_o_10 P,di P,gC P,dj P,dk P,dq P,dr P,du P,dv P,dw P,d8 P,dz P,dA P,d9 P,dB P,dC P,dD P,ee P,dE P,dF P,ef P,dG P,dH P,dJ P,dM P,eh P,dN P,dO P,ei P,dP P,dQ P,ej P,eo P,cQ P,bg P,bh P,bj P,bo P,bp P,bq P,br P,bu P,bx P,bz P,Wr P,fQ P,fR P,fS P,fT P]⟩,(boot_heap P).life⟩
noncomputable def L4:Nat:=333
noncomputable def aen (P:Params):Array DictEntry:=#[]
noncomputable def abw:Nat:=0
noncomputable def abx:Nat:=55
noncomputable def aby:Value:=.str "3w0-" 323
noncomputable def Ws (P:Params):Obj:=⟨.type "dict",none,.dict #[⟨th P "G" (3),.ref 55,.str "3w0-" 323⟩] 1,#[]⟩
noncomputable def IH (P:Params):Heap:=⟨⟨[boot_o_0 P,boot_o_1 P,boot_o_2 P,Rk P,boot_o_4 P,boot_o_5 P,boot_o_6 P,boot_o_7 P,boot_o_8 P,boot_o_9 P,boot_o_10 P,di P,gC P,dj P,dk P,dq P,dr P,du P,dv P,dw P,d8 P,dz P,dA P,d9 P,dB P,dC P,dD P,ee P,dE P,dF P,ef P,dG P,dH P,dJ P,dM P,eh P,dN P,dO P,ei P,dP P,dQ P,ej P,eo P,cQ P,bg P,bh P,bj P,bo P,bp P,bq P,br P,bu P,bx P,bz P,Ws P,fQ P,fR P,fS P,fT P]⟩,(boot_heap P).life⟩
noncomputable def FJ:Nat:=336
noncomputable def aeo (P:Params):Array DictEntry:=#[⟨th P "G" (3),.ref 55,.str "3w0-" 323⟩]
noncomputable def abz:Nat:=1
noncomputable def abA:Nat:=56
noncomputable def abB:Value:=.str "3h0-" 326
noncomputable def Wu (P:Params):Obj:=⟨.type "dict",none,.dict #[⟨th P "G" (3),.ref 55,.str "3w0-" 323⟩,⟨th P "G" (2),.ref 56,.str "3h0-" 326⟩] 2,#[]⟩
noncomputable def II (P:Params):Heap:=⟨⟨[boot_o_0 P,boot_o_1 P,boot_o_2 P,Rk P,boot_o_4 P,boot_o_5 P,boot_o_6 P,boot_o_7 P,boot_o_8 P,boot_o_9 P,boot_o_10 P,di P,gC P,dj P,dk P,dq P,dr P,du P,dv P,dw P,d8 P,dz P,dA P,d9 P,dB P,dC P,dD P,ee P,dE P,dF P,ef P,dG P,dH P,dJ P,dM P,eh P,dN P,dO P,ei P,dP P,dQ P,ej P,eo P,cQ P,bg P,bh P,bj P,bo P,bp P,bq P,br P,bu P,bx P,bz P,Wu P,fQ P,fR P,fS P,fT P]⟩,(boot_heap P).life⟩
noncomputable def FK:Nat:=339
noncomputable def aep (P:Params):Array DictEntry:=#[⟨th P "G" (3),.ref 55,.str "3w0-" 323⟩,⟨th P "G" (2),.ref 56,.str "3h0-" 326⟩]
noncomputable def abC:Nat:=2
noncomputable def abD:Nat:=57
noncomputable def abE:Value:=.str "3n0-" 329
noncomputable def Wv (P:Params):Obj:=⟨.type "dict",none,.dict #[⟨th P "G" (3),.ref 55,.str "3w0-" 323⟩,⟨th P "G" (2),.ref 56,.str "3h0-" 326⟩,⟨th P "D" (2),.ref 57,.str "3n0-" 329⟩] 3,#[]⟩
noncomputable def IJ (P:Params):Heap:=⟨⟨[boot_o_0 P,boot_o_1 P,boot_o_2 P,Rk P,boot_o_4 P,boot_o_5 P,boot_o_6 P,boot_o_7 P,boot_o_8 P,boot_o_9 P,boot_o_10 P,di P,gC P,dj P,dk P,dq P,dr P,du P,dv P,dw P,d8 P,dz P,dA P,d9 P,dB P,dC P,dD P,ee P,dE P,dF P,ef P,dG P,dH P,dJ P,dM P,eh P,dN P,dO P,ei P,dP P,dQ P,ej P,eo P,cQ P,bg P,bh P,bj P,bo P,bp P,bq P,br P,bu P,bx P,bz P,Wv P,fQ P,fR P,fS P,fT P]⟩,(boot_heap P).life⟩
noncomputable def FL:Nat:=342
noncomputable def aeq (P:Params):Array DictEntry:=#[⟨th P "G" (3),.ref 55,.str "3w0-" 323⟩,⟨th P "G" (2),.ref 56,.str "3h0-" 326⟩,⟨th P "D" (2),.ref 57,.str "3n0-" 329⟩]
noncomputable def abF:Nat:=3
noncomputable def abG:Nat:=58
noncomputable def abH:Value:=.str "3n0-" 332
noncomputable def jH (P:Params):Obj:=⟨.type "dict",none,.dict #[⟨th P "G" (3),.ref 55,.str "3w0-" 323⟩,⟨th P "G" (2),.ref 56,.str "3h0-" 326⟩,⟨th P "D" (2),.ref 57,.str "3n0-" 329⟩,⟨th P "R" (3),.ref 58,.str "3n0-" 332⟩] 4,#[]⟩
noncomputable def Ww (P:Params):Heap:=⟨⟨[boot_o_0 P,boot_o_1 P,boot_o_2 P,Rk P,boot_o_4 P,boot_o_5 P,boot_o_6 P,boot_o_7 P,boot_o_8 P,boot_o_9 P,boot_o_10 P,di P,gC P,dj P,dk P,dq P,dr P,du P,dv P,dw P,d8 P,dz P,dA P,d9 P,dB P,dC P,dD P,ee P,dE P,dF P,ef P,dG P,dH P,dJ P,dM P,eh P,dN P,dO P,ei P,dP P,dQ P,ej P,eo P,cQ P,bg P,bh P,bj P,bo P,bp P,bq P,br P,bu P,bx P,bz P,jH P,fQ P,fR P,fS P,fT P]⟩,(boot_heap P).life⟩
noncomputable def Rl:Nat:=345
noncomputable def t6:Stmt:=tp 18
noncomputable def aer (P:Params):Obj:=⟨.type "dict",none,.dict #[⟨PyData.keyHash P "__name__",.str "__name__" 165,.str "noteworth.steps" 238⟩,⟨PyData.keyHash P "__doc__",.str "__doc__" 166,.none⟩,⟨PyData.keyHash P "__package__",.str "__package__" 167,.none⟩,⟨PyData.keyHash P "__loader__",.str "__loader__" 168,.builtin "__main__.__loader__#opaque"⟩,⟨PyData.keyHash P "__spec__",.str "__spec__" 169,.none⟩,⟨PyData.keyHash P "__annotations__",.str "__annotations__" 170,.ref 6⟩,⟨PyData.keyHash P "__builtins__",.str "__builtins__" 171,.ref 4⟩,⟨PyData.keyHash P "__file__",.str "__file__" 173,.str "/claim/cut.py" 172⟩,⟨PyData.keyHash P "__cached__",.str "__cached__" 174,.none⟩,⟨PyData.keyHash P "SMALL_KINDS",.str "SMALL_KINDS" 192,.ref 15⟩,⟨PyData.keyHash P "PARTING_KINDS",.str "PARTING_KINDS" 196,.ref 16⟩,⟨PyData.keyHash P "MEASURE_KINDS",.str "MEASURE_KINDS" 199,.ref 17⟩,⟨PyData.keyHash P "SOUNDING_KINDS",.str "SOUNDING_KINDS" 204,.ref 18⟩,⟨PyData.keyHash P "small",.str "small" 211,.ref 25⟩,⟨PyData.keyHash P "parting",.str "parting" 218,.ref 32⟩,⟨PyData.keyHash P "DARK_KINDS",.str "DARK_KINDS" 223,.ref 33⟩,⟨PyData.keyHash P "sign_price",.str "sign_price" 234,.ref 40⟩,⟨PyData.keyHash P "REST_TONE",.str "REST_TONE" 237,.int (-1) 236⟩,⟨PyData.keyHash P "TWOFOLD_STATES",.str "TWOFOLD_STATES" 243,.ref 41⟩,⟨PyData.keyHash P "TWOFOLD_BEGIN",.str "TWOFOLD_BEGIN" 245,.str "2-" 244⟩,⟨PyData.keyHash P "THREEFOLD_BEGIN",.str "THREEFOLD_BEGIN" 247,.str "3n0-" 246⟩,⟨PyData.keyHash P "SHORTENED_FROM_AHEAD",.str "SHORTENED_FROM_AHEAD" 249,.str "3t0-" 248⟩,⟨PyData.keyHash P "NEXT_COUNTS",.str "NEXT_COUNTS" 259,.ref 42⟩,⟨PyData.keyHash P "TWOFOLD_STEPS",.str "TWOFOLD_STEPS" 320,.ref 43⟩,⟨PyData.keyHash P "GREAT_STEPS",.str "GREAT_STEPS" 345,.ref 54⟩] 25,#[]⟩
noncomputable def H6 (P:Params):Heap:=⟨⟨[boot_o_0 P,boot_o_1 P,boot_o_2 P,aer P,boot_o_4 P,boot_o_5 P,boot_o_6 P,boot_o_7 P,boot_o_8 P,boot_o_9 P,boot_o_10 P,di P,gC P,dj P,dk P,dq P,dr P,du P,dv P,dw P,d8 P,dz P,dA P,d9 P,dB P,dC P,dD P,ee P,dE P,dF P,ef P,dG P,dH P,dJ P,dM P,eh P,dN P,dO P,ei P,dP P,dQ P,ej P,eo P,cQ P,bg P,bh P,bj P,bo P,bp P,bq P,br P,bu P,bx P,bz P,jH P,fQ P,fR P,fS P,fT P]⟩,(boot_heap P).life⟩
noncomputable def k6:Nat:=346
noncomputable def n6:Nat:=147
noncomputable def p6:Pos:=⟨29,0,29,11⟩
noncomputable def aes (P:Params):Obj:=⟨.type "dict",none,.dict #[⟨PyData.keyHash P "__name__",.str "__name__" 165,.str "noteworth.steps" 238⟩,⟨PyData.keyHash P "__doc__",.str "__doc__" 166,.none⟩,⟨PyData.keyHash P "__package__",.str "__package__" 167,.none⟩,⟨PyData.keyHash P "__loader__",.str "__loader__" 168,.builtin "__main__.__loader__#opaque"⟩,⟨PyData.keyHash P "__spec__",.str "__spec__" 169,.none⟩,⟨PyData.keyHash P "__annotations__",.str "__annotations__" 170,.ref 6⟩,⟨PyData.keyHash P "__builtins__",.str "__builtins__" 171,.ref 4⟩,⟨PyData.keyHash P "__file__",.str "__file__" 173,.str "/claim/cut.py" 172⟩,⟨PyData.keyHash P "__cached__",.str "__cached__" 174,.none⟩,⟨PyData.keyHash P "SMALL_KINDS",.str "SMALL_KINDS" 192,.ref 15⟩,⟨PyData.keyHash P "PARTING_KINDS",.str "PARTING_KINDS" 196,.ref 16⟩,⟨PyData.keyHash P "MEASURE_KINDS",.str "MEASURE_KINDS" 199,.ref 17⟩,⟨PyData.keyHash P "SOUNDING_KINDS",.str "SOUNDING_KINDS" 204,.ref 18⟩,⟨PyData.keyHash P "small",.str "small" 211,.ref 25⟩,⟨PyData.keyHash P "parting",.str "parting" 218,.ref 32⟩,⟨PyData.keyHash P "DARK_KINDS",.str "DARK_KINDS" 223,.ref 33⟩,⟨PyData.keyHash P "sign_price",.str "sign_price" 234,.ref 40⟩,⟨PyData.keyHash P "REST_TONE",.str "REST_TONE" 237,.int (-1) 236⟩,⟨PyData.keyHash P "TWOFOLD_STATES",.str "TWOFOLD_STATES" 243,.ref 41⟩,⟨PyData.keyHash P "TWOFOLD_BEGIN",.str "TWOFOLD_BEGIN" 245,.str "2-" 244⟩,⟨PyData.keyHash P "THREEFOLD_BEGIN",.str "THREEFOLD_BEGIN" 247,.str "3n0-" 246⟩,⟨PyData.keyHash P "SHORTENED_FROM_AHEAD",.str "SHORTENED_FROM_AHEAD" 249,.str "3t0-" 248⟩,⟨PyData.keyHash P "NEXT_COUNTS",.str "NEXT_COUNTS" 259,.ref 42⟩,⟨PyData.keyHash P "TWOFOLD_STEPS",.str "TWOFOLD_STEPS" 320,.ref 43⟩,⟨PyData.keyHash P "GREAT_STEPS",.str "GREAT_STEPS" 345,.ref 54⟩,⟨PyData.keyHash P "begin_state",.str "begin_state" 353,.ref 66⟩,⟨PyData.keyHash P "step",.str "step" 362,.ref 73⟩,⟨PyData.keyHash P "ends",.str "ends" 369,.ref 80⟩,⟨PyData.keyHash P "twofold_step",.str "twofold_step" 378,.ref 87⟩,⟨PyData.keyHash P "closes",.str "closes" 387,.ref 94⟩,⟨PyData.keyHash P "closes_by_great",.str "closes_by_great" 394,.ref 101⟩,⟨PyData.keyHash P "closes_by_right_note",.str "closes_by_right_note" 401,.ref 108⟩,⟨PyData.keyHash P "great_step",.str "great_step" 410,.ref 115⟩,⟨PyData.keyHash P "parting_step",.str "parting_step" 419,.ref 122⟩,⟨PyData.keyHash P "told_last",.str "told_last" 428,.ref 129⟩] 35,#[]⟩
noncomputable def abI (P:Params):Obj:=⟨.none,none,.fields #[.int (6) 0,.int (0) 0,.ref 24,.int (8) 0,.int (0) 0,.ref 31,.int (12) 0,.int (0) 0,.ref 39,.int (30) 0,.int (0) 0,.ref 65,.int (34) 0,.int (0) 0,.ref 72,.int (42) 0,.int (0) 0,.ref 79,.int (46) 0,.int (0) 0,.ref 86,.int (52) 0,.int (0) 0,.ref 93,.int (57) 0,.int (0) 0,.ref 100,.int (59) 0,.int (0) 0,.ref 107,.int (61) 0,.int (0) 0,.ref 114,.int (69) 0,.int (0) 0,.ref 121,.int (75) 0,.int (0) 0,.ref 128],#[]⟩
noncomputable def CB (P:Params):Obj:=⟨.type "tuple",none,.seq #[.int (3) 346] 0,#[]⟩
noncomputable def CC (P:Params):Obj:=⟨.type "tuple",none,.seq #[] 0,#[]⟩
noncomputable def Hr (P:Params):Obj:=⟨.none,none,.fields #[],#[]⟩
noncomputable def CD (P:Params):Obj:=⟨.type "tuple",none,.seq #[.str "begin" 350] 0,#[]⟩
noncomputable def CF (P:Params):Obj:=⟨.type "tuple",none,.seq #[] 0,#[]⟩
noncomputable def Hs (P:Params):Obj:=⟨.none,none,.func { name:="begin_state",qualname:="begin_state",params:=L2.ak (tp 19),body:=.stmts (L2.aj (tp 19)),scope:=L2.ae (tp 19),globals:=0,closure:=[],defaults:=.none,kwdefaults:=.none,doc:=.none,pyModule:=.none,annotations:=none,code:=.none,closureTuple:=.none,builtins:=0 },#[]⟩
noncomputable def CG (P:Params):Obj:=⟨.type "code",none,.fields #[.str "begin_state" 347,.str "begin_state" 348,.str "/claim/cut.py" 349,.int (30) 0,.int (1) 0,.int (0) 0,.int (0) 0,.int (3) 0,.ref 60,.bool true,.int (181) 0,.ref 61,.none,.ref 62,.ref 63,.ref 64,.int (351) 0,.int (30) 0,.str "/claim/cut.py" 352],#[]⟩
noncomputable def CH (P:Params):Obj:=⟨.type "function",none,.func { name:="begin_state",qualname:="begin_state",params:=L2.ak (tp 19),body:=.stmts (L2.aj (tp 19)),scope:=L2.ae (tp 19),globals:=3,closure:=[],defaults:=.ref 59,kwdefaults:=.none,doc:=.none,pyModule:=.str "noteworth.steps" 238,annotations:=none,code:=.ref 65,closureTuple:=.none,builtins:=0 },#[]⟩
noncomputable def CI (P:Params):Obj:=⟨.type "tuple",none,.seq #[] 0,#[]⟩
noncomputable def Ht (P:Params):Obj:=⟨.none,none,.fields #[],#[]⟩
noncomputable def CJ (P:Params):Obj:=⟨.type "tuple",none,.seq #[.str "state" 357,.str "sign" 358,.str "worth" 359] 0,#[]⟩
noncomputable def CK (P:Params):Obj:=⟨.type "tuple",none,.seq #[] 0,#[]⟩
noncomputable def Hu (P:Params):Obj:=⟨.none,none,.func { name:="step",qualname:="step",params:=L2.ak (tp 20),body:=.stmts (L2.aj (tp 20)),scope:=L2.ae (tp 20),globals:=0,closure:=[],defaults:=.none,kwdefaults:=.none,doc:=.none,pyModule:=.none,annotations:=none,code:=.none,closureTuple:=.none,builtins:=0 },#[]⟩
noncomputable def CL (P:Params):Obj:=⟨.type "code",none,.fields #[.str "step" 354,.str "step" 355,.str "/claim/cut.py" 356,.int (34) 0,.int (3) 0,.int (0) 0,.int (0) 0,.int (3) 0,.ref 67,.bool true,.int (181) 0,.ref 68,.none,.ref 69,.ref 70,.ref 71,.int (360) 0,.int (34) 0,.str "/claim/cut.py" 361],#[]⟩
noncomputable def CM (P:Params):Obj:=⟨.type "function",none,.func { name:="step",qualname:="step",params:=L2.ak (tp 20),body:=.stmts (L2.aj (tp 20)),scope:=L2.ae (tp 20),globals:=3,closure:=[],defaults:=.none,kwdefaults:=.none,doc:=.none,pyModule:=.str "noteworth.steps" 238,annotations:=none,code:=.ref 72,closureTuple:=.none,builtins:=0 },#[]⟩
noncomputable def CN (P:Params):Obj:=⟨.type "tuple",none,.seq #[] 0,#[]⟩
noncomputable def Hv (P:Params):Obj:=⟨.none,none,.fields #[],#[]⟩
noncomputable def CO (P:Params):Obj:=⟨.type "tuple",none,.seq #[.str "state" 366] 0,#[]⟩
noncomputable def CP (P:Params):Obj:=⟨.type "tuple",none,.seq #[] 0,#[]⟩
noncomputable def Hw (P:Params):Obj:=⟨.none,none,.func { name:="ends",qualname:="ends",params:=L2.ak (tp 21),body:=.stmts (L2.aj (tp 21)),scope:=L2.ae (tp 21),globals:=0,closure:=[],defaults:=.none,kwdefaults:=.none,doc:=.none,pyModule:=.none,annotations:=none,code:=.none,closureTuple:=.none,builtins:=0 },#[]⟩
noncomputable def CQ (P:Params):Obj:=⟨.type "code",none,.fields #[.str "ends" 363,.str "ends" 364,.str "/claim/cut.py" 365,.int (42) 0,.int (1) 0,.int (0) 0,.int (0) 0,.int (3) 0,.ref 74,.bool true,.int (181) 0,.ref 75,.none,.ref 76,.ref 77,.ref 78,.int (367) 0,.int (42) 0,.str "/claim/cut.py" 368],#[]⟩
noncomputable def CS (P:Params):Obj:=⟨.type "function",none,.func { name:="ends",qualname:="ends",params:=L2.ak (tp 21),body:=.stmts (L2.aj (tp 21)),scope:=L2.ae (tp 21),globals:=3,closure:=[],defaults:=.none,kwdefaults:=.none,doc:=.none,pyModule:=.str "noteworth.steps" 238,annotations:=none,code:=.ref 79,closureTuple:=.none,builtins:=0 },#[]⟩
noncomputable def CT (P:Params):Obj:=⟨.type "tuple",none,.seq #[] 0,#[]⟩
noncomputable def Hy (P:Params):Obj:=⟨.none,none,.fields #[],#[]⟩
noncomputable def CU (P:Params):Obj:=⟨.type "tuple",none,.seq #[.str "state" 373,.str "kind" 374,.str "worth" 375] 0,#[]⟩
noncomputable def CV (P:Params):Obj:=⟨.type "tuple",none,.seq #[] 0,#[]⟩
noncomputable def Hz (P:Params):Obj:=⟨.none,none,.func { name:="twofold_step",qualname:="twofold_step",params:=L2.ak (tp 22),body:=.stmts (L2.aj (tp 22)),scope:=L2.ae (tp 22),globals:=0,closure:=[],defaults:=.none,kwdefaults:=.none,doc:=.none,pyModule:=.none,annotations:=none,code:=.none,closureTuple:=.none,builtins:=0 },#[]⟩
noncomputable def CW (P:Params):Obj:=⟨.type "code",none,.fields #[.str "twofold_step" 370,.str "twofold_step" 371,.str "/claim/cut.py" 372,.int (46) 0,.int (3) 0,.int (0) 0,.int (0) 0,.int (3) 0,.ref 81,.bool true,.int (181) 0,.ref 82,.none,.ref 83,.ref 84,.ref 85,.int (376) 0,.int (46) 0,.str "/claim/cut.py" 377],#[]⟩
noncomputable def CY (P:Params):Obj:=⟨.type "function",none,.func { name:="twofold_step",qualname:="twofold_step",params:=L2.ak (tp 22),body:=.stmts (L2.aj (tp 22)),scope:=L2.ae (tp 22),globals:=3,closure:=[],defaults:=.none,kwdefaults:=.none,doc:=.none,pyModule:=.str "noteworth.steps" 238,annotations:=none,code:=.ref 86,closureTuple:=.none,builtins:=0 },#[]⟩
noncomputable def CZ (P:Params):Obj:=⟨.type "tuple",none,.seq #[] 0,#[]⟩
noncomputable def HA (P:Params):Obj:=⟨.none,none,.fields #[],#[]⟩
noncomputable def C0 (P:Params):Obj:=⟨.type "tuple",none,.seq #[.str "state" 382,.str "left" 383,.str "count" 384] 0,#[]⟩
noncomputable def C1 (P:Params):Obj:=⟨.type "tuple",none,.seq #[] 0,#[]⟩
noncomputable def HB (P:Params):Obj:=⟨.none,none,.func { name:="closes",qualname:="closes",params:=L2.ak (tp 23),body:=.stmts (L2.aj (tp 23)),scope:=L2.ae (tp 23),globals:=0,closure:=[],defaults:=.none,kwdefaults:=.none,doc:=.none,pyModule:=.none,annotations:=none,code:=.none,closureTuple:=.none,builtins:=0 },#[]⟩
noncomputable def C2 (P:Params):Obj:=⟨.type "code",none,.fields #[.str "closes" 379,.str "closes" 380,.str "/claim/cut.py" 381,.int (52) 0,.int (1) 0,.int (0) 0,.int (0) 0,.int (3) 0,.ref 88,.bool true,.int (181) 0,.ref 89,.none,.ref 90,.ref 91,.ref 92,.int (385) 0,.int (52) 0,.str "/claim/cut.py" 386],#[]⟩
noncomputable def C3 (P:Params):Obj:=⟨.type "function",none,.func { name:="closes",qualname:="closes",params:=L2.ak (tp 23),body:=.stmts (L2.aj (tp 23)),scope:=L2.ae (tp 23),globals:=3,closure:=[],defaults:=.none,kwdefaults:=.none,doc:=.none,pyModule:=.str "noteworth.steps" 238,annotations:=none,code:=.ref 93,closureTuple:=.none,builtins:=0 },#[]⟩
noncomputable def C4 (P:Params):Obj:=⟨.type "tuple",none,.seq #[] 0,#[]⟩
noncomputable def HE (P:Params):Obj:=⟨.none,none,.fields #[],#[]⟩
noncomputable def C7 (P:Params):Obj:=⟨.type "tuple",none,.seq #[.str "state" 391] 0,#[]⟩
noncomputable def C8 (P:Params):Obj:=⟨.type "tuple",none,.seq #[] 0,#[]⟩
noncomputable def HF (P:Params):Obj:=⟨.none,none,.func { name:="closes_by_great",qualname:="closes_by_great",params:=L2.ak (tp 24),body:=.stmts (L2.aj (tp 24)),scope:=L2.ae (tp 24),globals:=0,closure:=[],defaults:=.none,kwdefaults:=.none,doc:=.none,pyModule:=.none,annotations:=none,code:=.none,closureTuple:=.none,builtins:=0 },#[]⟩
noncomputable def q9 (P:Params):Obj:=⟨.type "code",none,.fields #[.str "closes_by_great" 388,.str "closes_by_great" 389,.str "/claim/cut.py" 390,.int (57) 0,.int (1) 0,.int (0) 0,.int (0) 0,.int (3) 0,.ref 95,.bool true,.int (181) 0,.ref 96,.none,.ref 97,.ref 98,.ref 99,.int (392) 0,.int (57) 0,.str "/claim/cut.py" 393],#[]⟩
noncomputable def ra (P:Params):Obj:=⟨.type "function",none,.func { name:="closes_by_great",qualname:="closes_by_great",params:=L2.ak (tp 24),body:=.stmts (L2.aj (tp 24)),scope:=L2.ae (tp 24),globals:=3,closure:=[],defaults:=.none,kwdefaults:=.none,doc:=.none,pyModule:=.str "noteworth.steps" 238,annotations:=none,code:=.ref 100,closureTuple:=.none,builtins:=0 },#[]⟩
noncomputable def rb (P:Params):Obj:=⟨.type "tuple",none,.seq #[] 0,#[]⟩
noncomputable def wy (P:Params):Obj:=⟨.none,none,.fields #[],#[]⟩
noncomputable def rf (P:Params):Obj:=⟨.type "tuple",none,.seq #[.str "state" 398] 0,#[]⟩
noncomputable def rg (P:Params):Obj:=⟨.type "tuple",none,.seq #[] 0,#[]⟩
noncomputable def wz (P:Params):Obj:=⟨.none,none,.func { name:="closes_by_right_note",qualname:="closes_by_right_note",params:=L2.ak (tp 25),body:=.stmts (L2.aj (tp 25)),scope:=L2.ae (tp 25),globals:=0,closure:=[],defaults:=.none,kwdefaults:=.none,doc:=.none,pyModule:=.none,annotations:=none,code:=.none,closureTuple:=.none,builtins:=0 },#[]⟩
noncomputable def rh (P:Params):Obj:=⟨.type "code",none,.fields #[.str "closes_by_right_note" 395,.str "closes_by_right_note" 396,.str "/claim/cut.py" 397,.int (59) 0,.int (1) 0,.int (0) 0,.int (0) 0,.int (3) 0,.ref 102,.bool true,.int (181) 0,.ref 103,.none,.ref 104,.ref 105,.ref 106,.int (399) 0,.int (59) 0,.str "/claim/cut.py" 400],#[]⟩
noncomputable def rj (P:Params):Obj:=⟨.type "function",none,.func { name:="closes_by_right_note",qualname:="closes_by_right_note",params:=L2.ak (tp 25),body:=.stmts (L2.aj (tp 25)),scope:=L2.ae (tp 25),globals:=3,closure:=[],defaults:=.none,kwdefaults:=.none,doc:=.none,pyModule:=.str "noteworth.steps" 238,annotations:=none,code:=.ref 107,closureTuple:=.none,builtins:=0 },#[]⟩
noncomputable def rl (P:Params):Obj:=⟨.type "tuple",none,.seq #[] 0,#[]⟩
noncomputable def wA (P:Params):Obj:=⟨.none,none,.fields #[],#[]⟩
noncomputable def rm (P:Params):Obj:=⟨.type "tuple",none,.seq #[.str "state" 405,.str "kind" 406,.str "worth" 407] 0,#[]⟩
noncomputable def rp (P:Params):Obj:=⟨.type "tuple",none,.seq #[] 0,#[]⟩
noncomputable def wB (P:Params):Obj:=⟨.none,none,.func { name:="great_step",qualname:="great_step",params:=L2.ak (tp 26),body:=.stmts (L2.aj (tp 26)),scope:=L2.ae (tp 26),globals:=0,closure:=[],defaults:=.none,kwdefaults:=.none,doc:=.none,pyModule:=.none,annotations:=none,code:=.none,closureTuple:=.none,builtins:=0 },#[]⟩
noncomputable def rq (P:Params):Obj:=⟨.type "code",none,.fields #[.str "great_step" 402,.str "great_step" 403,.str "/claim/cut.py" 404,.int (61) 0,.int (3) 0,.int (0) 0,.int (0) 0,.int (3) 0,.ref 109,.bool true,.int (181) 0,.ref 110,.none,.ref 111,.ref 112,.ref 113,.int (408) 0,.int (61) 0,.str "/claim/cut.py" 409],#[]⟩
noncomputable def rA (P:Params):Obj:=⟨.type "function",none,.func { name:="great_step",qualname:="great_step",params:=L2.ak (tp 26),body:=.stmts (L2.aj (tp 26)),scope:=L2.ae (tp 26),globals:=3,closure:=[],defaults:=.none,kwdefaults:=.none,doc:=.none,pyModule:=.str "noteworth.steps" 238,annotations:=none,code:=.ref 114,closureTuple:=.none,builtins:=0 },#[]⟩
noncomputable def rB (P:Params):Obj:=⟨.type "tuple",none,.seq #[] 0,#[]⟩
noncomputable def wC (P:Params):Obj:=⟨.none,none,.fields #[],#[]⟩
noncomputable def rC (P:Params):Obj:=⟨.type "tuple",none,.seq #[.str "state" 414,.str "kind" 415,.str "worth" 416] 0,#[]⟩
noncomputable def rD (P:Params):Obj:=⟨.type "tuple",none,.seq #[] 0,#[]⟩
noncomputable def wF (P:Params):Obj:=⟨.none,none,.func { name:="parting_step",qualname:="parting_step",params:=L2.ak (tp 27),body:=.stmts (L2.aj (tp 27)),scope:=L2.ae (tp 27),globals:=0,closure:=[],defaults:=.none,kwdefaults:=.none,doc:=.none,pyModule:=.none,annotations:=none,code:=.none,closureTuple:=.none,builtins:=0 },#[]⟩
noncomputable def rE (P:Params):Obj:=⟨.type "code",none,.fields #[.str "parting_step" 411,.str "parting_step" 412,.str "/claim/cut.py" 413,.int (69) 0,.int (3) 0,.int (0) 0,.int (0) 0,.int (3) 0,.ref 116,.bool true,.int (181) 0,.ref 117,.none,.ref 118,.ref 119,.ref 120,.int (417) 0,.int (69) 0,.str "/claim/cut.py" 418],#[]⟩
noncomputable def rF (P:Params):Obj:=⟨.type "function",none,.func { name:="parting_step",qualname:="parting_step",params:=L2.ak (tp 27),body:=.stmts (L2.aj (tp 27)),scope:=L2.ae (tp 27),globals:=3,closure:=[],defaults:=.none,kwdefaults:=.none,doc:=.none,pyModule:=.str "noteworth.steps" 238,annotations:=none,code:=.ref 121,closureTuple:=.none,builtins:=0 },#[]⟩
noncomputable def rG (P:Params):Obj:=⟨.type "tuple",none,.seq #[] 0,#[]⟩
noncomputable def wG (P:Params):Obj:=⟨.none,none,.fields #[],#[]⟩
noncomputable def rH (P:Params):Obj:=⟨.type "tuple",none,.seq #[.str "kind" 423,.str "count" 424,.str "worth" 425] 0,#[]⟩
noncomputable def rJ (P:Params):Obj:=⟨.type "tuple",none,.seq #[] 0,#[]⟩
noncomputable def wH (P:Params):Obj:=⟨.none,none,.func { name:="told_last",qualname:="told_last",params:=L2.ak (tp 28),body:=.stmts (L2.aj (tp 28)),scope:=L2.ae (tp 28),globals:=0,closure:=[],defaults:=.none,kwdefaults:=.none,doc:=.none,pyModule:=.none,annotations:=none,code:=.none,closureTuple:=.none,builtins:=0 },#[]⟩
noncomputable def rK (P:Params):Obj:=⟨.type "code",none,.fields #[.str "told_last" 420,.str "told_last" 421,.str "/claim/cut.py" 422,.int (75) 0,.int (3) 0,.int (0) 0,.int (0) 0,.int (3) 0,.ref 123,.bool true,.int (181) 0,.ref 124,.none,.ref 125,.ref 126,.ref 127,.int (426) 0,.int (75) 0,.str "/claim/cut.py" 427],#[]⟩
noncomputable def rL (P:Params):Obj:=⟨.type "function",none,.func { name:="told_last",qualname:="told_last",params:=L2.ak (tp 28),body:=.stmts (L2.aj (tp 28)),scope:=L2.ae (tp 28),globals:=3,closure:=[],defaults:=.none,kwdefaults:=.none,doc:=.none,pyModule:=.str "noteworth.steps" 238,annotations:=none,code:=.ref 128,closureTuple:=.none,builtins:=0 },#[]⟩
noncomputable def H7 (P:Params):Heap:=⟨⟨[boot_o_0 P,boot_o_1 P,boot_o_2 P,aes P,boot_o_4 P,boot_o_5 P,boot_o_6 P,boot_o_7 P,boot_o_8 P,boot_o_9 P,boot_o_10 P,di P,abI P,dj P,dk P,dq P,dr P,du P,dv P,dw P,d8 P,dz P,dA P,d9 P,dB P,dC P,dD P,ee P,dE P,dF P,ef P,dG P,dH P,dJ P,dM P,eh P,dN P,dO P,ei P,dP P,dQ P,ej P,eo P,cQ P,bg P,bh P,bj P,bo P,bp P,bq P,br P,bu P,bx P,bz P,jH P,fQ P,fR P,fS P,fT P,CB P,CC P,Hr P,CD P,CF P,Hs P,CG P,CH P,CI P,Ht P,CJ P,CK P,Hu P,CL P,CM P,CN P,Hv P,CO P,CP P,Hw P,CQ P,CS P,CT P,Hy P,CU P,CV P,Hz P,CW P,CY P,CZ P,HA P,C0 P,C1 P,HB P,C2 P,C3 P,C4 P,HE P,C7 P,C8 P,HF P,q9 P,ra P,rb P,wy P,rf P,rg P,wz P,rh P,rj P,rl P,wA P,rm P,rp P,wB P,rq P,rA P,rB P,wC P,rC P,rD P,wF P,rE P,rF P,rG P,wG P,rH P,rJ P,wH P,rK P,rL P]⟩,(boot_heap P).life⟩
noncomputable def k7:Nat:=429
noncomputable def n7:Nat:=305
noncomputable def p7:Pos:=⟨75,0,80,15⟩
noncomputable def s7:List Stmt:=[tp 19,tp 20,tp 21,tp 22,tp 23,tp 24,tp 25,tp 26,tp 27,tp 28]
noncomputable def aet (P:Params):Obj:=⟨.type "dict",none,.dict #[⟨PyData.keyHash P "__name__",.str "__name__" 165,.str "noteworth.writer" 494⟩,⟨PyData.keyHash P "__doc__",.str "__doc__" 166,.none⟩,⟨PyData.keyHash P "__package__",.str "__package__" 167,.none⟩,⟨PyData.keyHash P "__loader__",.str "__loader__" 168,.builtin "__main__.__loader__#opaque"⟩,⟨PyData.keyHash P "__spec__",.str "__spec__" 169,.none⟩,⟨PyData.keyHash P "__annotations__",.str "__annotations__" 170,.ref 6⟩,⟨PyData.keyHash P "__builtins__",.str "__builtins__" 171,.ref 4⟩,⟨PyData.keyHash P "__file__",.str "__file__" 173,.str "/claim/cut.py" 172⟩,⟨PyData.keyHash P "__cached__",.str "__cached__" 174,.none⟩,⟨PyData.keyHash P "SMALL_KINDS",.str "SMALL_KINDS" 192,.ref 15⟩,⟨PyData.keyHash P "PARTING_KINDS",.str "PARTING_KINDS" 196,.ref 16⟩,⟨PyData.keyHash P "MEASURE_KINDS",.str "MEASURE_KINDS" 199,.ref 17⟩,⟨PyData.keyHash P "SOUNDING_KINDS",.str "SOUNDING_KINDS" 204,.ref 18⟩,⟨PyData.keyHash P "small",.str "small" 211,.ref 25⟩,⟨PyData.keyHash P "parting",.str "parting" 218,.ref 32⟩,⟨PyData.keyHash P "DARK_KINDS",.str "DARK_KINDS" 223,.ref 33⟩,⟨PyData.keyHash P "sign_price",.str "sign_price" 234,.ref 40⟩,⟨PyData.keyHash P "REST_TONE",.str "REST_TONE" 237,.int (-1) 236⟩,⟨PyData.keyHash P "TWOFOLD_STATES",.str "TWOFOLD_STATES" 243,.ref 41⟩,⟨PyData.keyHash P "TWOFOLD_BEGIN",.str "TWOFOLD_BEGIN" 245,.str "2-" 244⟩,⟨PyData.keyHash P "THREEFOLD_BEGIN",.str "THREEFOLD_BEGIN" 247,.str "3n0-" 246⟩,⟨PyData.keyHash P "SHORTENED_FROM_AHEAD",.str "SHORTENED_FROM_AHEAD" 249,.str "3t0-" 248⟩,⟨PyData.keyHash P "NEXT_COUNTS",.str "NEXT_COUNTS" 259,.ref 42⟩,⟨PyData.keyHash P "TWOFOLD_STEPS",.str "TWOFOLD_STEPS" 320,.ref 43⟩,⟨PyData.keyHash P "GREAT_STEPS",.str "GREAT_STEPS" 345,.ref 54⟩,⟨PyData.keyHash P "begin_state",.str "begin_state" 353,.ref 66⟩,⟨PyData.keyHash P "step",.str "step" 362,.ref 73⟩,⟨PyData.keyHash P "ends",.str "ends" 369,.ref 80⟩,⟨PyData.keyHash P "twofold_step",.str "twofold_step" 378,.ref 87⟩,⟨PyData.keyHash P "closes",.str "closes" 387,.ref 94⟩,⟨PyData.keyHash P "closes_by_great",.str "closes_by_great" 394,.ref 101⟩,⟨PyData.keyHash P "closes_by_right_note",.str "closes_by_right_note" 401,.ref 108⟩,⟨PyData.keyHash P "great_step",.str "great_step" 410,.ref 115⟩,⟨PyData.keyHash P "parting_step",.str "parting_step" 419,.ref 122⟩,⟨PyData.keyHash P "told_last",.str "told_last" 428,.ref 129⟩,⟨PyData.keyHash P "small_step",.str "small_step" 440,.ref 136⟩,⟨PyData.keyHash P "PARTING_SIGNS",.str "PARTING_SIGNS" 449,.ref 140⟩,⟨PyData.keyHash P "REST_SIGNS",.str "REST_SIGNS" 454,.ref 143⟩,⟨PyData.keyHash P "moves",.str "moves" 468,.ref 150⟩,⟨PyData.keyHash P "parting_moves",.str "parting_moves" 476,.ref 157⟩,⟨PyData.keyHash P "wished_signs",.str "wished_signs" 482,.ref 162⟩,⟨PyData.keyHash P "wish_moves",.str "wish_moves" 493,.ref 169⟩,⟨PyData.keyHash P "MOST_PARTING_SIGNS",.str "MOST_PARTING_SIGNS" 497,.int (2) 496⟩] 43,#[]⟩
noncomputable def abJ (P:Params):Obj:=⟨.none,none,.fields #[.int (6) 0,.int (0) 0,.ref 24,.int (8) 0,.int (0) 0,.ref 31,.int (12) 0,.int (0) 0,.ref 39,.int (30) 0,.int (0) 0,.ref 65,.int (34) 0,.int (0) 0,.ref 72,.int (42) 0,.int (0) 0,.ref 79,.int (46) 0,.int (0) 0,.ref 86,.int (52) 0,.int (0) 0,.ref 93,.int (57) 0,.int (0) 0,.ref 100,.int (59) 0,.int (0) 0,.ref 107,.int (61) 0,.int (0) 0,.ref 114,.int (69) 0,.int (0) 0,.ref 121,.int (75) 0,.int (0) 0,.ref 128,.int (81) 0,.int (0) 0,.ref 135,.int (93) 0,.int (0) 0,.ref 149,.int (101) 0,.int (0) 0,.ref 156,.int (103) 0,.int (0) 0,.ref 161,.int (107) 0,.int (0) 0,.ref 168],#[]⟩
noncomputable def wI (P:Params):Obj:=⟨.type "tuple",none,.seq #[] 0,#[]⟩
noncomputable def C9 (P:Params):Obj:=⟨.none,none,.fields #[],#[]⟩
noncomputable def wJ (P:Params):Obj:=⟨.type "tuple",none,.seq #[.str "state" 432,.str "kind" 433,.str "worth" 434,.str "count" 435,.str "last" 436,.str "left" 437] 0,#[]⟩
noncomputable def wK (P:Params):Obj:=⟨.type "tuple",none,.seq #[] 0,#[]⟩
noncomputable def Dc (P:Params):Obj:=⟨.none,none,.func { name:="small_step",qualname:="small_step",params:=L2.ak (tp 29),body:=.stmts (L2.aj (tp 29)),scope:=L2.ae (tp 29),globals:=0,closure:=[],defaults:=.none,kwdefaults:=.none,doc:=.none,pyModule:=.none,annotations:=none,code:=.none,closureTuple:=.none,builtins:=0 },#[]⟩
noncomputable def wL (P:Params):Obj:=⟨.type "code",none,.fields #[.str "small_step" 429,.str "small_step" 430,.str "/claim/cut.py" 431,.int (81) 0,.int (3) 0,.int (0) 0,.int (0) 0,.int (3) 0,.ref 130,.bool true,.int (181) 0,.ref 131,.none,.ref 132,.ref 133,.ref 134,.int (438) 0,.int (81) 0,.str "/claim/cut.py" 439],#[]⟩
noncomputable def wM (P:Params):Obj:=⟨.type "function",none,.func { name:="small_step",qualname:="small_step",params:=L2.ak (tp 29),body:=.stmts (L2.aj (tp 29)),scope:=L2.ae (tp 29),globals:=3,closure:=[],defaults:=.none,kwdefaults:=.none,doc:=.none,pyModule:=.str "noteworth.steps" 238,annotations:=none,code:=.ref 135,closureTuple:=.none,builtins:=0 },#[]⟩
noncomputable def wN (P:Params):Obj:=⟨.type "tuple",none,.seq #[.str "." 443,.int (0) 444] 0,#[]⟩
noncomputable def wO (P:Params):Obj:=⟨.type "tuple",none,.seq #[.str "3" 445,.int (0) 446] 0,#[]⟩
noncomputable def wQ (P:Params):Obj:=⟨.type "tuple",none,.seq #[.str "2" 447,.int (0) 448] 0,#[]⟩
noncomputable def wR (P:Params):Obj:=⟨.type "tuple",none,.seq #[.ref 137,.ref 138,.ref 139] 0,#[]⟩
noncomputable def wU (P:Params):Obj:=⟨.type "tuple",none,.seq #[.str "R" 450,.int (0) 451] 0,#[]⟩
noncomputable def wV (P:Params):Obj:=⟨.type "tuple",none,.seq #[.str "r" 452,.int (0) 453] 0,#[]⟩
noncomputable def wW (P:Params):Obj:=⟨.type "tuple",none,.seq #[.ref 141,.ref 142] 0,#[]⟩
noncomputable def wX (P:Params):Obj:=⟨.type "tuple",none,.seq #[] 0,#[]⟩
noncomputable def Dd (P:Params):Obj:=⟨.none,none,.fields #[],#[]⟩
noncomputable def wY (P:Params):Obj:=⟨.type "tuple",none,.seq #[.str "state" 458,.str "signs" 459,.str "worth" 460,.str "prices" 461,.str "found" 462,.str "sign" 463,.str "cost" 464,.str "to" 465] 0,#[]⟩
noncomputable def wZ (P:Params):Obj:=⟨.type "tuple",none,.seq #[] 0,#[]⟩
noncomputable def De (P:Params):Obj:=⟨.none,none,.func { name:="moves",qualname:="moves",params:=L2.ak (tp 33),body:=.stmts (L2.aj (tp 33)),scope:=L2.ae (tp 33),globals:=0,closure:=[],defaults:=.none,kwdefaults:=.none,doc:=.none,pyModule:=.none,annotations:=none,code:=.none,closureTuple:=.none,builtins:=0 },#[]⟩
noncomputable def xa (P:Params):Obj:=⟨.type "code",none,.fields #[.str "moves" 455,.str "moves" 456,.str "/claim/cut.py" 457,.int (93) 0,.int (4) 0,.int (0) 0,.int (0) 0,.int (3) 0,.ref 144,.bool true,.int (181) 0,.ref 145,.none,.ref 146,.ref 147,.ref 148,.int (466) 0,.int (93) 0,.str "/claim/cut.py" 467],#[]⟩
noncomputable def xb (P:Params):Obj:=⟨.type "function",none,.func { name:="moves",qualname:="moves",params:=L2.ak (tp 33),body:=.stmts (L2.aj (tp 33)),scope:=L2.ae (tp 33),globals:=3,closure:=[],defaults:=.none,kwdefaults:=.none,doc:=.none,pyModule:=.str "noteworth.moves" 441,annotations:=none,code:=.ref 149,closureTuple:=.none,builtins:=0 },#[]⟩
noncomputable def xc (P:Params):Obj:=⟨.type "tuple",none,.seq #[] 0,#[]⟩
noncomputable def Df (P:Params):Obj:=⟨.none,none,.fields #[],#[]⟩
noncomputable def xf (P:Params):Obj:=⟨.type "tuple",none,.seq #[.str "state" 472,.str "prices" 473] 0,#[]⟩
noncomputable def xg (P:Params):Obj:=⟨.type "tuple",none,.seq #[] 0,#[]⟩
noncomputable def Dg (P:Params):Obj:=⟨.none,none,.func { name:="parting_moves",qualname:="parting_moves",params:=L2.ak (tp 34),body:=.stmts (L2.aj (tp 34)),scope:=L2.ae (tp 34),globals:=0,closure:=[],defaults:=.none,kwdefaults:=.none,doc:=.none,pyModule:=.none,annotations:=none,code:=.none,closureTuple:=.none,builtins:=0 },#[]⟩
noncomputable def xh (P:Params):Obj:=⟨.type "code",none,.fields #[.str "parting_moves" 469,.str "parting_moves" 470,.str "/claim/cut.py" 471,.int (101) 0,.int (2) 0,.int (0) 0,.int (0) 0,.int (3) 0,.ref 151,.bool true,.int (181) 0,.ref 152,.none,.ref 153,.ref 154,.ref 155,.int (474) 0,.int (101) 0,.str "/claim/cut.py" 475],#[]⟩
noncomputable def xi (P:Params):Obj:=⟨.type "function",none,.func { name:="parting_moves",qualname:="parting_moves",params:=L2.ak (tp 34),body:=.stmts (L2.aj (tp 34)),scope:=L2.ae (tp 34),globals:=3,closure:=[],defaults:=.none,kwdefaults:=.none,doc:=.none,pyModule:=.str "noteworth.moves" 441,annotations:=none,code:=.ref 156,closureTuple:=.none,builtins:=0 },#[]⟩
noncomputable def xj (P:Params):Obj:=⟨.type "tuple",none,.seq #[] 0,#[]⟩
noncomputable def Dh (P:Params):Obj:=⟨.none,none,.fields #[],#[]⟩
noncomputable def Di (P:Params):Obj:=⟨.none,none,.func { name:="wished_signs",qualname:="wished_signs",params:=L2.ak (tp 35),body:=.stmts (L2.aj (tp 35)),scope:=L2.ae (tp 35),globals:=0,closure:=[],defaults:=.none,kwdefaults:=.none,doc:=.none,pyModule:=.none,annotations:=none,code:=.none,closureTuple:=.none,builtins:=0 },#[]⟩
noncomputable def xk (P:Params):Obj:=⟨.type "code",none,.fields #[.str "wished_signs" 477,.str "wished_signs" 478,.str "/claim/cut.py" 479,.int (103) 0,.int (1) 0,.int (0) 0,.int (0) 0,.int (3) 0,.ref 158,.bool true,.int (181) 0,.ref 159,.none,.none,.none,.ref 160,.int (480) 0,.int (103) 0,.str "/claim/cut.py" 481],#[]⟩
noncomputable def xm (P:Params):Obj:=⟨.type "function",none,.func { name:="wished_signs",qualname:="wished_signs",params:=L2.ak (tp 35),body:=.stmts (L2.aj (tp 35)),scope:=L2.ae (tp 35),globals:=3,closure:=[],defaults:=.none,kwdefaults:=.none,doc:=.none,pyModule:=.str "noteworth.moves" 441,annotations:=none,code:=.ref 161,closureTuple:=.none,builtins:=0 },#[]⟩
noncomputable def xn (P:Params):Obj:=⟨.type "tuple",none,.seq #[] 0,#[]⟩
noncomputable def Dj (P:Params):Obj:=⟨.none,none,.fields #[],#[]⟩
noncomputable def xo (P:Params):Obj:=⟨.type "tuple",none,.seq #[.str "state" 486,.str "wish" 487,.str "prices" 488,.str "tone" 489,.str "worth" 490] 0,#[]⟩
noncomputable def xp (P:Params):Obj:=⟨.type "tuple",none,.seq #[] 0,#[]⟩
noncomputable def Dl (P:Params):Obj:=⟨.none,none,.func { name:="wish_moves",qualname:="wish_moves",params:=L2.ak (tp 36),body:=.stmts (L2.aj (tp 36)),scope:=L2.ae (tp 36),globals:=0,closure:=[],defaults:=.none,kwdefaults:=.none,doc:=.none,pyModule:=.none,annotations:=none,code:=.none,closureTuple:=.none,builtins:=0 },#[]⟩
noncomputable def xq (P:Params):Obj:=⟨.type "code",none,.fields #[.str "wish_moves" 483,.str "wish_moves" 484,.str "/claim/cut.py" 485,.int (107) 0,.int (3) 0,.int (0) 0,.int (0) 0,.int (3) 0,.ref 163,.bool true,.int (181) 0,.ref 164,.none,.ref 165,.ref 166,.ref 167,.int (491) 0,.int (107) 0,.str "/claim/cut.py" 492],#[]⟩
noncomputable def xr (P:Params):Obj:=⟨.type "function",none,.func { name:="wish_moves",qualname:="wish_moves",params:=L2.ak (tp 36),body:=.stmts (L2.aj (tp 36)),scope:=L2.ae (tp 36),globals:=3,closure:=[],defaults:=.none,kwdefaults:=.none,doc:=.none,pyModule:=.str "noteworth.moves" 441,annotations:=none,code:=.ref 168,closureTuple:=.none,builtins:=0 },#[]⟩
noncomputable def H8 (P:Params):Heap:=⟨⟨[boot_o_0 P,boot_o_1 P,boot_o_2 P,aet P,boot_o_4 P,boot_o_5 P,boot_o_6 P,boot_o_7 P,boot_o_8 P,boot_o_9 P,boot_o_10 P,di P,abJ P,dj P,dk P,dq P,dr P,du P,dv P,dw P,d8 P,dz P,dA P,d9 P,dB P,dC P,dD P,ee P,dE P,dF P,ef P,dG P,dH P,dJ P,dM P,eh P,dN P,dO P,ei P,dP P,dQ P,ej P,eo P,cQ P,bg P,bh P,bj P,bo P,bp P,bq P,br P,bu P,bx P,bz P,jH P,fQ P,fR P,fS P,fT P,CB P,CC P,Hr P,CD P,CF P,Hs P,CG P,CH P,CI P,Ht P,CJ P,CK P,Hu P,CL P,CM P,CN P,Hv P,CO P,CP P,Hw P,CQ P,CS P,CT P,Hy P,CU P,CV P,Hz P,CW P,CY P,CZ P,HA P,C0 P,C1 P,HB P,C2 P,C3 P,C4 P,HE P,C7 P,C8 P,HF P,q9 P,ra P,rb P,wy P,rf P,rg P,wz P,rh P,rj P,rl P,wA P,rm P,rp P,wB P,rq P,rA P,rB P,wC P,rC P,rD P,wF P,rE P,rF P,rG P,wG P,rH P,rJ P,wH P,rK P,rL P,wI P,C9 P,wJ P,wK P,Dc P,wL P,wM P,wN P,wO P,wQ P,wR P,wU P,wV P,wW P,wX P,Dd P,wY P,wZ P,De P,xa P,xb P,xc P,Df P,xf P,xg P,Dg P,xh P,xi P,xj P,Dh P,Di P,xk P,xm P,xn P,Dj P,xo P,xp P,Dl P,xq P,xr P]⟩,(boot_heap P).life⟩
noncomputable def k8:Nat:=498
noncomputable def n8:Nat:=227
noncomputable def p8:Pos:=⟨111,0,111,18⟩
noncomputable def s8:List Stmt:=[tp 29,tp 30,tp 31,tp 32,tp 33,tp 34,tp 35,tp 36,tp 37,tp 38]
noncomputable def aeu (P:Params):Obj:=⟨.type "dict",none,.dict #[⟨PyData.keyHash P "__name__",.str "__name__" 165,.str "law_noteworth_k26_whole_none_cheaper" 553⟩,⟨PyData.keyHash P "__doc__",.str "__doc__" 166,.none⟩,⟨PyData.keyHash P "__package__",.str "__package__" 167,.none⟩,⟨PyData.keyHash P "__loader__",.str "__loader__" 168,.builtin "__main__.__loader__#opaque"⟩,⟨PyData.keyHash P "__spec__",.str "__spec__" 169,.none⟩,⟨PyData.keyHash P "__annotations__",.str "__annotations__" 170,.ref 6⟩,⟨PyData.keyHash P "__builtins__",.str "__builtins__" 171,.ref 4⟩,⟨PyData.keyHash P "__file__",.str "__file__" 173,.str "/claim/cut.py" 172⟩,⟨PyData.keyHash P "__cached__",.str "__cached__" 174,.none⟩,⟨PyData.keyHash P "SMALL_KINDS",.str "SMALL_KINDS" 192,.ref 15⟩,⟨PyData.keyHash P "PARTING_KINDS",.str "PARTING_KINDS" 196,.ref 16⟩,⟨PyData.keyHash P "MEASURE_KINDS",.str "MEASURE_KINDS" 199,.ref 17⟩,⟨PyData.keyHash P "SOUNDING_KINDS",.str "SOUNDING_KINDS" 204,.ref 18⟩,⟨PyData.keyHash P "small",.str "small" 211,.ref 25⟩,⟨PyData.keyHash P "parting",.str "parting" 218,.ref 32⟩,⟨PyData.keyHash P "DARK_KINDS",.str "DARK_KINDS" 223,.ref 33⟩,⟨PyData.keyHash P "sign_price",.str "sign_price" 234,.ref 40⟩,⟨PyData.keyHash P "REST_TONE",.str "REST_TONE" 237,.int (-1) 236⟩,⟨PyData.keyHash P "TWOFOLD_STATES",.str "TWOFOLD_STATES" 243,.ref 41⟩,⟨PyData.keyHash P "TWOFOLD_BEGIN",.str "TWOFOLD_BEGIN" 245,.str "2-" 244⟩,⟨PyData.keyHash P "THREEFOLD_BEGIN",.str "THREEFOLD_BEGIN" 247,.str "3n0-" 246⟩,⟨PyData.keyHash P "SHORTENED_FROM_AHEAD",.str "SHORTENED_FROM_AHEAD" 249,.str "3t0-" 248⟩,⟨PyData.keyHash P "NEXT_COUNTS",.str "NEXT_COUNTS" 259,.ref 42⟩,⟨PyData.keyHash P "TWOFOLD_STEPS",.str "TWOFOLD_STEPS" 320,.ref 43⟩,⟨PyData.keyHash P "GREAT_STEPS",.str "GREAT_STEPS" 345,.ref 54⟩,⟨PyData.keyHash P "begin_state",.str "begin_state" 353,.ref 66⟩,⟨PyData.keyHash P "step",.str "step" 362,.ref 73⟩,⟨PyData.keyHash P "ends",.str "ends" 369,.ref 80⟩,⟨PyData.keyHash P "twofold_step",.str "twofold_step" 378,.ref 87⟩,⟨PyData.keyHash P "closes",.str "closes" 387,.ref 94⟩,⟨PyData.keyHash P "closes_by_great",.str "closes_by_great" 394,.ref 101⟩,⟨PyData.keyHash P "closes_by_right_note",.str "closes_by_right_note" 401,.ref 108⟩,⟨PyData.keyHash P "great_step",.str "great_step" 410,.ref 115⟩,⟨PyData.keyHash P "parting_step",.str "parting_step" 419,.ref 122⟩,⟨PyData.keyHash P "told_last",.str "told_last" 428,.ref 129⟩,⟨PyData.keyHash P "small_step",.str "small_step" 440,.ref 136⟩,⟨PyData.keyHash P "PARTING_SIGNS",.str "PARTING_SIGNS" 449,.ref 140⟩,⟨PyData.keyHash P "REST_SIGNS",.str "REST_SIGNS" 454,.ref 143⟩,⟨PyData.keyHash P "moves",.str "moves" 468,.ref 150⟩,⟨PyData.keyHash P "parting_moves",.str "parting_moves" 476,.ref 157⟩,⟨PyData.keyHash P "wished_signs",.str "wished_signs" 482,.ref 162⟩,⟨PyData.keyHash P "wish_moves",.str "wish_moves" 493,.ref 169⟩,⟨PyData.keyHash P "MOST_PARTING_SIGNS",.str "MOST_PARTING_SIGNS" 497,.int (2) 496⟩,⟨PyData.keyHash P "keep_cheaper",.str "keep_cheaper" 507,.ref 176⟩,⟨PyData.keyHash P "with_parting_signs",.str "with_parting_signs" 523,.ref 183⟩,⟨PyData.keyHash P "with_wish",.str "with_wish" 539,.ref 190⟩,⟨PyData.keyHash P "costs",.str "costs" 545,.ref 195⟩,⟨PyData.keyHash P "written",.str "written" 552,.ref 201⟩,⟨PyData.keyHash P "_law_cell_at",.str "_law_cell_at" 562,.ref 208⟩,⟨PyData.keyHash P "_law_mixed",.str "_law_mixed" 572,.ref 215⟩,⟨PyData.keyHash P "_law_numbers",.str "_law_numbers" 578,.ref 220⟩,⟨PyData.keyHash P "_law_sign_by",.str "_law_sign_by" 586,.ref 227⟩] 52,#[]⟩
noncomputable def abK (P:Params):Obj:=⟨.none,none,.fields #[.int (6) 0,.int (0) 0,.ref 24,.int (8) 0,.int (0) 0,.ref 31,.int (12) 0,.int (0) 0,.ref 39,.int (30) 0,.int (0) 0,.ref 65,.int (34) 0,.int (0) 0,.ref 72,.int (42) 0,.int (0) 0,.ref 79,.int (46) 0,.int (0) 0,.ref 86,.int (52) 0,.int (0) 0,.ref 93,.int (57) 0,.int (0) 0,.ref 100,.int (59) 0,.int (0) 0,.ref 107,.int (61) 0,.int (0) 0,.ref 114,.int (69) 0,.int (0) 0,.ref 121,.int (75) 0,.int (0) 0,.ref 128,.int (81) 0,.int (0) 0,.ref 135,.int (93) 0,.int (0) 0,.ref 149,.int (101) 0,.int (0) 0,.ref 156,.int (103) 0,.int (0) 0,.ref 161,.int (107) 0,.int (0) 0,.ref 168,.int (112) 0,.int (0) 0,.ref 175,.int (115) 0,.int (0) 0,.ref 182,.int (123) 0,.int (0) 0,.ref 189,.int (129) 0,.int (0) 0,.ref 194,.int (131) 0,.int (0) 0,.ref 200,.int (143) 0,.int (0) 0,.ref 207,.int (147) 0,.int (0) 0,.ref 214,.int (151) 0,.int (0) 0,.ref 219,.int (161) 0,.int (0) 0,.ref 226],#[]⟩
noncomputable def Dm (P:Params):Obj:=⟨.type "tuple",none,.seq #[] 0,#[]⟩
noncomputable def IK (P:Params):Obj:=⟨.none,none,.fields #[],#[]⟩
noncomputable def Dn (P:Params):Obj:=⟨.type "tuple",none,.seq #[.str "ways" 501,.str "state" 502,.str "cost" 503,.str "line" 504] 0,#[]⟩
noncomputable def Dp (P:Params):Obj:=⟨.type "tuple",none,.seq #[] 0,#[]⟩
noncomputable def IL (P:Params):Obj:=⟨.none,none,.func { name:="keep_cheaper",qualname:="keep_cheaper",params:=L2.ak (tp 39),body:=.stmts (L2.aj (tp 39)),scope:=L2.ae (tp 39),globals:=0,closure:=[],defaults:=.none,kwdefaults:=.none,doc:=.none,pyModule:=.none,annotations:=none,code:=.none,closureTuple:=.none,builtins:=0 },#[]⟩
noncomputable def Dq (P:Params):Obj:=⟨.type "code",none,.fields #[.str "keep_cheaper" 498,.str "keep_cheaper" 499,.str "/claim/cut.py" 500,.int (112) 0,.int (4) 0,.int (0) 0,.int (0) 0,.int (3) 0,.ref 170,.bool true,.int (181) 0,.ref 171,.none,.ref 172,.ref 173,.ref 174,.int (505) 0,.int (112) 0,.str "/claim/cut.py" 506],#[]⟩
noncomputable def Dr (P:Params):Obj:=⟨.type "function",none,.func { name:="keep_cheaper",qualname:="keep_cheaper",params:=L2.ak (tp 39),body:=.stmts (L2.aj (tp 39)),scope:=L2.ae (tp 39),globals:=3,closure:=[],defaults:=.none,kwdefaults:=.none,doc:=.none,pyModule:=.str "noteworth.writer" 494,annotations:=none,code:=.ref 175,closureTuple:=.none,builtins:=0 },#[]⟩
noncomputable def Ds (P:Params):Obj:=⟨.type "tuple",none,.seq #[] 0,#[]⟩
noncomputable def IM (P:Params):Obj:=⟨.none,none,.fields #[],#[]⟩
noncomputable def Dt (P:Params):Obj:=⟨.type "tuple",none,.seq #[.str "ways" 511,.str "prices" 512,.str "found" 513,.str "again" 514,.str "state" 515,.str "cost" 516,.str "line" 517,.str "sign" 518,.str "more" 519,.str "to" 520] 0,#[]⟩
noncomputable def Du (P:Params):Obj:=⟨.type "tuple",none,.seq #[] 0,#[]⟩
noncomputable def IP (P:Params):Obj:=⟨.none,none,.func { name:="with_parting_signs",qualname:="with_parting_signs",params:=L2.ak (tp 40),body:=.stmts (L2.aj (tp 40)),scope:=L2.ae (tp 40),globals:=0,closure:=[],defaults:=.none,kwdefaults:=.none,doc:=.none,pyModule:=.none,annotations:=none,code:=.none,closureTuple:=.none,builtins:=0 },#[]⟩
noncomputable def Dv (P:Params):Obj:=⟨.type "code",none,.fields #[.str "with_parting_signs" 508,.str "with_parting_signs" 509,.str "/claim/cut.py" 510,.int (115) 0,.int (2) 0,.int (0) 0,.int (0) 0,.int (3) 0,.ref 177,.bool true,.int (181) 0,.ref 178,.none,.ref 179,.ref 180,.ref 181,.int (521) 0,.int (115) 0,.str "/claim/cut.py" 522],#[]⟩
noncomputable def Dw (P:Params):Obj:=⟨.type "function",none,.func { name:="with_parting_signs",qualname:="with_parting_signs",params:=L2.ak (tp 40),body:=.stmts (L2.aj (tp 40)),scope:=L2.ae (tp 40),globals:=3,closure:=[],defaults:=.none,kwdefaults:=.none,doc:=.none,pyModule:=.str "noteworth.writer" 494,annotations:=none,code:=.ref 182,closureTuple:=.none,builtins:=0 },#[]⟩
noncomputable def Dx (P:Params):Obj:=⟨.type "tuple",none,.seq #[] 0,#[]⟩
noncomputable def IQ (P:Params):Obj:=⟨.none,none,.fields #[],#[]⟩
noncomputable def Dy (P:Params):Obj:=⟨.type "tuple",none,.seq #[.str "ways" 527,.str "wish" 528,.str "prices" 529,.str "found" 530,.str "state" 531,.str "cost" 532,.str "line" 533,.str "sign" 534,.str "more" 535,.str "to" 536] 0,#[]⟩
noncomputable def Dz (P:Params):Obj:=⟨.type "tuple",none,.seq #[] 0,#[]⟩
noncomputable def IS (P:Params):Obj:=⟨.none,none,.func { name:="with_wish",qualname:="with_wish",params:=L2.ak (tp 41),body:=.stmts (L2.aj (tp 41)),scope:=L2.ae (tp 41),globals:=0,closure:=[],defaults:=.none,kwdefaults:=.none,doc:=.none,pyModule:=.none,annotations:=none,code:=.none,closureTuple:=.none,builtins:=0 },#[]⟩
noncomputable def DA (P:Params):Obj:=⟨.type "code",none,.fields #[.str "with_wish" 524,.str "with_wish" 525,.str "/claim/cut.py" 526,.int (123) 0,.int (3) 0,.int (0) 0,.int (0) 0,.int (3) 0,.ref 184,.bool true,.int (181) 0,.ref 185,.none,.ref 186,.ref 187,.ref 188,.int (537) 0,.int (123) 0,.str "/claim/cut.py" 538],#[]⟩
noncomputable def DB (P:Params):Obj:=⟨.type "function",none,.func { name:="with_wish",qualname:="with_wish",params:=L2.ak (tp 41),body:=.stmts (L2.aj (tp 41)),scope:=L2.ae (tp 41),globals:=3,closure:=[],defaults:=.none,kwdefaults:=.none,doc:=.none,pyModule:=.str "noteworth.writer" 494,annotations:=none,code:=.ref 189,closureTuple:=.none,builtins:=0 },#[]⟩
noncomputable def DC (P:Params):Obj:=⟨.type "tuple",none,.seq #[] 0,#[]⟩
noncomputable def IT (P:Params):Obj:=⟨.none,none,.fields #[],#[]⟩
noncomputable def IU (P:Params):Obj:=⟨.none,none,.func { name:="costs",qualname:="costs",params:=L2.ak (tp 42),body:=.stmts (L2.aj (tp 42)),scope:=L2.ae (tp 42),globals:=0,closure:=[],defaults:=.none,kwdefaults:=.none,doc:=.none,pyModule:=.none,annotations:=none,code:=.none,closureTuple:=.none,builtins:=0 },#[]⟩
noncomputable def DD (P:Params):Obj:=⟨.type "code",none,.fields #[.str "costs" 540,.str "costs" 541,.str "/claim/cut.py" 542,.int (129) 0,.int (1) 0,.int (0) 0,.int (0) 0,.int (3) 0,.ref 191,.bool true,.int (181) 0,.ref 192,.none,.none,.none,.ref 193,.int (543) 0,.int (129) 0,.str "/claim/cut.py" 544],#[]⟩
noncomputable def DE (P:Params):Obj:=⟨.type "function",none,.func { name:="costs",qualname:="costs",params:=L2.ak (tp 42),body:=.stmts (L2.aj (tp 42)),scope:=L2.ae (tp 42),globals:=3,closure:=[],defaults:=.none,kwdefaults:=.none,doc:=.none,pyModule:=.str "noteworth.writer" 494,annotations:=none,code:=.ref 194,closureTuple:=.none,builtins:=0 },#[]⟩
noncomputable def DF (P:Params):Obj:=⟨.type "tuple",none,.seq #[.int (3) 546] 0,#[]⟩
noncomputable def DG (P:Params):Obj:=⟨.type "tuple",none,.seq #[] 0,#[]⟩
noncomputable def DH (P:Params):Obj:=⟨.none,none,.fields #[],#[]⟩
noncomputable def IV (P:Params):Obj:=⟨.none,none,.func { name:="written",qualname:="written",params:=L2.ak (tp 43),body:=.stmts (L2.aj (tp 43)),scope:=L2.ae (tp 43),globals:=0,closure:=[],defaults:=.none,kwdefaults:=.none,doc:=.none,pyModule:=.none,annotations:=none,code:=.none,closureTuple:=.none,builtins:=0 },#[]⟩
noncomputable def rM (P:Params):Obj:=⟨.type "code",none,.fields #[.str "written" 547,.str "written" 548,.str "/claim/cut.py" 549,.int (131) 0,.int (3) 0,.int (0) 0,.int (0) 0,.int (3) 0,.ref 197,.bool true,.int (181) 0,.ref 198,.none,.none,.none,.ref 199,.int (550) 0,.int (131) 0,.str "/claim/cut.py" 551],#[]⟩
noncomputable def DI (P:Params):Obj:=⟨.type "function",none,.func { name:="written",qualname:="written",params:=L2.ak (tp 43),body:=.stmts (L2.aj (tp 43)),scope:=L2.ae (tp 43),globals:=3,closure:=[],defaults:=.ref 196,kwdefaults:=.none,doc:=.none,pyModule:=.str "noteworth.writer" 494,annotations:=none,code:=.ref 200,closureTuple:=.none,builtins:=0 },#[]⟩
noncomputable def DJ (P:Params):Obj:=⟨.type "tuple",none,.seq #[] 0,#[]⟩
noncomputable def IW (P:Params):Obj:=⟨.none,none,.fields #[],#[]⟩
noncomputable def DK (P:Params):Obj:=⟨.type "tuple",none,.seq #[.str "_law_script" 558,.str "_law_k" 559] 0,#[]⟩
noncomputable def DL (P:Params):Obj:=⟨.type "tuple",none,.seq #[] 0,#[]⟩
noncomputable def IX (P:Params):Obj:=⟨.none,none,.func { name:="_law_cell_at",qualname:="_law_cell_at",params:=L2.ak (tp 45),body:=.stmts (L2.aj (tp 45)),scope:=L2.ae (tp 45),globals:=0,closure:=[],defaults:=.none,kwdefaults:=.none,doc:=.none,pyModule:=.none,annotations:=none,code:=.none,closureTuple:=.none,builtins:=0 },#[]⟩
noncomputable def DM (P:Params):Obj:=⟨.type "code",none,.fields #[.str "_law_cell_at" 555,.str "_law_cell_at" 556,.str "/claim/cut.py" 557,.int (143) 0,.int (2) 0,.int (0) 0,.int (0) 0,.int (3) 0,.ref 202,.bool true,.int (181) 0,.ref 203,.none,.ref 204,.ref 205,.ref 206,.int (560) 0,.int (143) 0,.str "/claim/cut.py" 561],#[]⟩
noncomputable def DN (P:Params):Obj:=⟨.type "function",none,.func { name:="_law_cell_at",qualname:="_law_cell_at",params:=L2.ak (tp 45),body:=.stmts (L2.aj (tp 45)),scope:=L2.ae (tp 45),globals:=3,closure:=[],defaults:=.none,kwdefaults:=.none,doc:=.none,pyModule:=.str "law_noteworth_k26_whole_none_cheaper" 553,annotations:=none,code:=.ref 207,closureTuple:=.none,builtins:=0 },#[]⟩
noncomputable def DO (P:Params):Obj:=⟨.type "tuple",none,.seq #[] 0,#[]⟩
noncomputable def IY (P:Params):Obj:=⟨.none,none,.fields #[],#[]⟩
noncomputable def DP (P:Params):Obj:=⟨.type "tuple",none,.seq #[.str "_law_seed" 566,.str "_law_k" 567,.str "_law_one" 568,.str "_law_two" 569] 0,#[]⟩
noncomputable def DQ (P:Params):Obj:=⟨.type "tuple",none,.seq #[] 0,#[]⟩
noncomputable def IZ (P:Params):Obj:=⟨.none,none,.func { name:="_law_mixed",qualname:="_law_mixed",params:=L2.ak (tp 46),body:=.stmts (L2.aj (tp 46)),scope:=L2.ae (tp 46),globals:=0,closure:=[],defaults:=.none,kwdefaults:=.none,doc:=.none,pyModule:=.none,annotations:=none,code:=.none,closureTuple:=.none,builtins:=0 },#[]⟩
noncomputable def DR (P:Params):Obj:=⟨.type "code",none,.fields #[.str "_law_mixed" 563,.str "_law_mixed" 564,.str "/claim/cut.py" 565,.int (147) 0,.int (2) 0,.int (0) 0,.int (0) 0,.int (3) 0,.ref 209,.bool true,.int (181) 0,.ref 210,.none,.ref 211,.ref 212,.ref 213,.int (570) 0,.int (147) 0,.str "/claim/cut.py" 571],#[]⟩
noncomputable def DS (P:Params):Obj:=⟨.type "function",none,.func { name:="_law_mixed",qualname:="_law_mixed",params:=L2.ak (tp 46),body:=.stmts (L2.aj (tp 46)),scope:=L2.ae (tp 46),globals:=3,closure:=[],defaults:=.none,kwdefaults:=.none,doc:=.none,pyModule:=.str "law_noteworth_k26_whole_none_cheaper" 553,annotations:=none,code:=.ref 214,closureTuple:=.none,builtins:=0 },#[]⟩
noncomputable def DT (P:Params):Obj:=⟨.type "tuple",none,.seq #[] 0,#[]⟩
noncomputable def Ja (P:Params):Obj:=⟨.none,none,.fields #[],#[]⟩
noncomputable def Jb (P:Params):Obj:=⟨.none,none,.func { name:="_law_numbers",qualname:="_law_numbers",params:=L2.ak (tp 47),body:=.stmts (L2.aj (tp 47)),scope:=L2.ae (tp 47),globals:=0,closure:=[],defaults:=.none,kwdefaults:=.none,doc:=.none,pyModule:=.none,annotations:=none,code:=.none,closureTuple:=.none,builtins:=0 },#[]⟩
noncomputable def DU (P:Params):Obj:=⟨.type "code",none,.fields #[.str "_law_numbers" 573,.str "_law_numbers" 574,.str "/claim/cut.py" 575,.int (151) 0,.int (3) 0,.int (0) 0,.int (0) 0,.int (3) 0,.ref 216,.bool true,.int (181) 0,.ref 217,.none,.none,.none,.ref 218,.int (576) 0,.int (151) 0,.str "/claim/cut.py" 577],#[]⟩
noncomputable def DV (P:Params):Obj:=⟨.type "function",none,.func { name:="_law_numbers",qualname:="_law_numbers",params:=L2.ak (tp 47),body:=.stmts (L2.aj (tp 47)),scope:=L2.ae (tp 47),globals:=3,closure:=[],defaults:=.none,kwdefaults:=.none,doc:=.none,pyModule:=.str "law_noteworth_k26_whole_none_cheaper" 553,annotations:=none,code:=.ref 219,closureTuple:=.none,builtins:=0 },#[]⟩
noncomputable def DW (P:Params):Obj:=⟨.type "tuple",none,.seq #[] 0,#[]⟩
noncomputable def Jc (P:Params):Obj:=⟨.none,none,.fields #[],#[]⟩
noncomputable def DX (P:Params):Obj:=⟨.type "tuple",none,.seq #[.str "_law_number" 582,.str "_law_kind" 583] 0,#[]⟩
noncomputable def DY (P:Params):Obj:=⟨.type "tuple",none,.seq #[] 0,#[]⟩
noncomputable def Jd (P:Params):Obj:=⟨.none,none,.func { name:="_law_sign_by",qualname:="_law_sign_by",params:=L2.ak (tp 48),body:=.stmts (L2.aj (tp 48)),scope:=L2.ae (tp 48),globals:=0,closure:=[],defaults:=.none,kwdefaults:=.none,doc:=.none,pyModule:=.none,annotations:=none,code:=.none,closureTuple:=.none,builtins:=0 },#[]⟩
noncomputable def DZ (P:Params):Obj:=⟨.type "code",none,.fields #[.str "_law_sign_by" 579,.str "_law_sign_by" 580,.str "/claim/cut.py" 581,.int (161) 0,.int (1) 0,.int (0) 0,.int (0) 0,.int (3) 0,.ref 221,.bool true,.int (181) 0,.ref 222,.none,.ref 223,.ref 224,.ref 225,.int (584) 0,.int (161) 0,.str "/claim/cut.py" 585],#[]⟩
noncomputable def D0 (P:Params):Obj:=⟨.type "function",none,.func { name:="_law_sign_by",qualname:="_law_sign_by",params:=L2.ak (tp 48),body:=.stmts (L2.aj (tp 48)),scope:=L2.ae (tp 48),globals:=3,closure:=[],defaults:=.none,kwdefaults:=.none,doc:=.none,pyModule:=.str "law_noteworth_k26_whole_none_cheaper" 553,annotations:=none,code:=.ref 226,closureTuple:=.none,builtins:=0 },#[]⟩
noncomputable def H9 (P:Params):Heap:=⟨⟨[boot_o_0 P,boot_o_1 P,boot_o_2 P,aeu P,boot_o_4 P,boot_o_5 P,boot_o_6 P,boot_o_7 P,boot_o_8 P,boot_o_9 P,boot_o_10 P,di P,abK P,dj P,dk P,dq P,dr P,du P,dv P,dw P,d8 P,dz P,dA P,d9 P,dB P,dC P,dD P,ee P,dE P,dF P,ef P,dG P,dH P,dJ P,dM P,eh P,dN P,dO P,ei P,dP P,dQ P,ej P,eo P,cQ P,bg P,bh P,bj P,bo P,bp P,bq P,br P,bu P,bx P,bz P,jH P,fQ P,fR P,fS P,fT P,CB P,CC P,Hr P,CD P,CF P,Hs P,CG P,CH P,CI P,Ht P,CJ P,CK P,Hu P,CL P,CM P,CN P,Hv P,CO P,CP P,Hw P,CQ P,CS P,CT P,Hy P,CU P,CV P,Hz P,CW P,CY P,CZ P,HA P,C0 P,C1 P,HB P,C2 P,C3 P,C4 P,HE P,C7 P,C8 P,HF P,q9 P,ra P,rb P,wy P,rf P,rg P,wz P,rh P,rj P,rl P,wA P,rm P,rp P,wB P,rq P,rA P,rB P,wC P,rC P,rD P,wF P,rE P,rF P,rG P,wG P,rH P,rJ P,wH P,rK P,rL P,wI P,C9 P,wJ P,wK P,Dc P,wL P,wM P,wN P,wO P,wQ P,wR P,wU P,wV P,wW P,wX P,Dd P,wY P,wZ P,De P,xa P,xb P,xc P,Df P,xf P,xg P,Dg P,xh P,xi P,xj P,Dh P,Di P,xk P,xm P,xn P,Dj P,xo P,xp P,Dl P,xq P,xr P,Dm P,IK P,Dn P,Dp P,IL P,Dq P,Dr P,Ds P,IM P,Dt P,Du P,IP P,Dv P,Dw P,Dx P,IQ P,Dy P,Dz P,IS P,DA P,DB P,DC P,IT P,IU P,DD P,DE P,DF P,DG P,DH P,IV P,rM P,DI P,DJ P,IW P,DK P,DL P,IX P,DM P,DN P,DO P,IY P,DP P,DQ P,IZ P,DR P,DS P,DT P,Ja P,Jb P,DU P,DV P,DW P,Jc P,DX P,DY P,Jd P,DZ P,D0 P]⟩,(boot_heap P).life⟩
noncomputable def k9:Nat:=587
noncomputable def n9:Nat:=290
noncomputable def p9:Pos:=⟨161,0,165,25⟩
noncomputable def s9:List Stmt:=[tp 39,tp 40,tp 41,tp 42,tp 43,tp 44,tp 45,tp 46,tp 47,tp 48]
noncomputable def abL (P:Params):Obj:=⟨.type "dict",none,.dict #[⟨PyData.keyHash P "__name__",.str "__name__" 165,.str "law_noteworth_k26_whole_none_cheaper" 553⟩,⟨PyData.keyHash P "__doc__",.str "__doc__" 166,.none⟩,⟨PyData.keyHash P "__package__",.str "__package__" 167,.none⟩,⟨PyData.keyHash P "__loader__",.str "__loader__" 168,.builtin "__main__.__loader__#opaque"⟩,⟨PyData.keyHash P "__spec__",.str "__spec__" 169,.none⟩,⟨PyData.keyHash P "__annotations__",.str "__annotations__" 170,.ref 6⟩,⟨PyData.keyHash P "__builtins__",.str "__builtins__" 171,.ref 4⟩,⟨PyData.keyHash P "__file__",.str "__file__" 173,.str "/claim/cut.py" 172⟩,⟨PyData.keyHash P "__cached__",.str "__cached__" 174,.none⟩,⟨PyData.keyHash P "SMALL_KINDS",.str "SMALL_KINDS" 192,.ref 15⟩,⟨PyData.keyHash P "PARTING_KINDS",.str "PARTING_KINDS" 196,.ref 16⟩,⟨PyData.keyHash P "MEASURE_KINDS",.str "MEASURE_KINDS" 199,.ref 17⟩,⟨PyData.keyHash P "SOUNDING_KINDS",.str "SOUNDING_KINDS" 204,.ref 18⟩,⟨PyData.keyHash P "small",.str "small" 211,.ref 25⟩,⟨PyData.keyHash P "parting",.str "parting" 218,.ref 32⟩,⟨PyData.keyHash P "DARK_KINDS",.str "DARK_KINDS" 223,.ref 33⟩,⟨PyData.keyHash P "sign_price",.str "sign_price" 234,.ref 40⟩,⟨PyData.keyHash P "REST_TONE",.str "REST_TONE" 237,.int (-1) 236⟩,⟨PyData.keyHash P "TWOFOLD_STATES",.str "TWOFOLD_STATES" 243,.ref 41⟩,⟨PyData.keyHash P "TWOFOLD_BEGIN",.str "TWOFOLD_BEGIN" 245,.str "2-" 244⟩,⟨PyData.keyHash P "THREEFOLD_BEGIN",.str "THREEFOLD_BEGIN" 247,.str "3n0-" 246⟩,⟨PyData.keyHash P "SHORTENED_FROM_AHEAD",.str "SHORTENED_FROM_AHEAD" 249,.str "3t0-" 248⟩,⟨PyData.keyHash P "NEXT_COUNTS",.str "NEXT_COUNTS" 259,.ref 42⟩,⟨PyData.keyHash P "TWOFOLD_STEPS",.str "TWOFOLD_STEPS" 320,.ref 43⟩,⟨PyData.keyHash P "GREAT_STEPS",.str "GREAT_STEPS" 345,.ref 54⟩,⟨PyData.keyHash P "begin_state",.str "begin_state" 353,.ref 66⟩,⟨PyData.keyHash P "step",.str "step" 362,.ref 73⟩,⟨PyData.keyHash P "ends",.str "ends" 369,.ref 80⟩,⟨PyData.keyHash P "twofold_step",.str "twofold_step" 378,.ref 87⟩,⟨PyData.keyHash P "closes",.str "closes" 387,.ref 94⟩,⟨PyData.keyHash P "closes_by_great",.str "closes_by_great" 394,.ref 101⟩,⟨PyData.keyHash P "closes_by_right_note",.str "closes_by_right_note" 401,.ref 108⟩,⟨PyData.keyHash P "great_step",.str "great_step" 410,.ref 115⟩,⟨PyData.keyHash P "parting_step",.str "parting_step" 419,.ref 122⟩,⟨PyData.keyHash P "told_last",.str "told_last" 428,.ref 129⟩,⟨PyData.keyHash P "small_step",.str "small_step" 440,.ref 136⟩,⟨PyData.keyHash P "PARTING_SIGNS",.str "PARTING_SIGNS" 449,.ref 140⟩,⟨PyData.keyHash P "REST_SIGNS",.str "REST_SIGNS" 454,.ref 143⟩,⟨PyData.keyHash P "moves",.str "moves" 468,.ref 150⟩,⟨PyData.keyHash P "parting_moves",.str "parting_moves" 476,.ref 157⟩,⟨PyData.keyHash P "wished_signs",.str "wished_signs" 482,.ref 162⟩,⟨PyData.keyHash P "wish_moves",.str "wish_moves" 493,.ref 169⟩,⟨PyData.keyHash P "MOST_PARTING_SIGNS",.str "MOST_PARTING_SIGNS" 497,.int (2) 496⟩,⟨PyData.keyHash P "keep_cheaper",.str "keep_cheaper" 507,.ref 176⟩,⟨PyData.keyHash P "with_parting_signs",.str "with_parting_signs" 523,.ref 183⟩,⟨PyData.keyHash P "with_wish",.str "with_wish" 539,.ref 190⟩,⟨PyData.keyHash P "costs",.str "costs" 545,.ref 195⟩,⟨PyData.keyHash P "written",.str "written" 552,.ref 201⟩,⟨PyData.keyHash P "_law_cell_at",.str "_law_cell_at" 562,.ref 208⟩,⟨PyData.keyHash P "_law_mixed",.str "_law_mixed" 572,.ref 215⟩,⟨PyData.keyHash P "_law_numbers",.str "_law_numbers" 578,.ref 220⟩,⟨PyData.keyHash P "_law_sign_by",.str "_law_sign_by" 586,.ref 227⟩,⟨PyData.keyHash P "_law_line",.str "_law_line" 592,.ref 232⟩,⟨PyData.keyHash P "_law_begin",.str "_law_begin" 599,.ref 239⟩,⟨PyData.keyHash P "_law_base",.str "_law_base" 611,.ref 246⟩,⟨PyData.keyHash P "_law_three",.str "_law_three" 622,.ref 253⟩,⟨PyData.keyHash P "_law_run",.str "_law_run" 637,.ref 260⟩,⟨PyData.keyHash P "_law_read",.str "_law_read" 650,.ref 267⟩,⟨PyData.keyHash P "_law_firmed",.str "_law_firmed" 662,.ref 274⟩,⟨PyData.keyHash P "_law_wishes",.str "_law_wishes" 673,.ref 281⟩,⟨PyData.keyHash P "_law_prices",.str "_law_prices" 682,.ref 288⟩,⟨PyData.keyHash P "_law_price",.str "_law_price" 693,.ref 295⟩] 62,#[]⟩
noncomputable def Zd (P:Params):Obj:=⟨.none,none,.fields #[.int (6) 0,.int (0) 0,.ref 24,.int (8) 0,.int (0) 0,.ref 31,.int (12) 0,.int (0) 0,.ref 39,.int (30) 0,.int (0) 0,.ref 65,.int (34) 0,.int (0) 0,.ref 72,.int (42) 0,.int (0) 0,.ref 79,.int (46) 0,.int (0) 0,.ref 86,.int (52) 0,.int (0) 0,.ref 93,.int (57) 0,.int (0) 0,.ref 100,.int (59) 0,.int (0) 0,.ref 107,.int (61) 0,.int (0) 0,.ref 114,.int (69) 0,.int (0) 0,.ref 121,.int (75) 0,.int (0) 0,.ref 128,.int (81) 0,.int (0) 0,.ref 135,.int (93) 0,.int (0) 0,.ref 149,.int (101) 0,.int (0) 0,.ref 156,.int (103) 0,.int (0) 0,.ref 161,.int (107) 0,.int (0) 0,.ref 168,.int (112) 0,.int (0) 0,.ref 175,.int (115) 0,.int (0) 0,.ref 182,.int (123) 0,.int (0) 0,.ref 189,.int (129) 0,.int (0) 0,.ref 194,.int (131) 0,.int (0) 0,.ref 200,.int (143) 0,.int (0) 0,.ref 207,.int (147) 0,.int (0) 0,.ref 214,.int (151) 0,.int (0) 0,.ref 219,.int (161) 0,.int (0) 0,.ref 226,.int (166) 0,.int (0) 0,.ref 231,.int (168) 0,.int (0) 0,.ref 238,.int (170) 0,.int (0) 0,.ref 245,.int (188) 0,.int (0) 0,.ref 252,.int (196) 0,.int (0) 0,.ref 259,.int (210) 0,.int (0) 0,.ref 266,.int (223) 0,.int (0) 0,.ref 273,.int (231) 0,.int (0) 0,.ref 280,.int (239) 0,.int (0) 0,.ref 287,.int (245) 0,.int (0) 0,.ref 294],#[]⟩
noncomputable def A3 (P:Params):Obj:=⟨.type "tuple",none,.seq #[] 0,#[]⟩
noncomputable def Je (P:Params):Obj:=⟨.none,none,.fields #[],#[]⟩
noncomputable def Jf (P:Params):Obj:=⟨.none,none,.func { name:="_law_line",qualname:="_law_line",params:=L2.ak (tp 49),body:=.stmts (L2.aj (tp 49)),scope:=L2.ae (tp 49),globals:=0,closure:=[],defaults:=.none,kwdefaults:=.none,doc:=.none,pyModule:=.none,annotations:=none,code:=.none,closureTuple:=.none,builtins:=0 },#[]⟩
noncomputable def A4 (P:Params):Obj:=⟨.type "code",none,.fields #[.str "_law_line" 587,.str "_law_line" 588,.str "/claim/cut.py" 589,.int (166) 0,.int (3) 0,.int (0) 0,.int (0) 0,.int (3) 0,.ref 228,.bool true,.int (181) 0,.ref 229,.none,.none,.none,.ref 230,.int (590) 0,.int (166) 0,.str "/claim/cut.py" 591],#[]⟩
noncomputable def A5 (P:Params):Obj:=⟨.type "function",none,.func { name:="_law_line",qualname:="_law_line",params:=L2.ak (tp 49),body:=.stmts (L2.aj (tp 49)),scope:=L2.ae (tp 49),globals:=3,closure:=[],defaults:=.none,kwdefaults:=.none,doc:=.none,pyModule:=.str "law_noteworth_k26_whole_none_cheaper" 553,annotations:=none,code:=.ref 231,closureTuple:=.none,builtins:=0 },#[]⟩
noncomputable def A6 (P:Params):Obj:=⟨.type "tuple",none,.seq #[] 0,#[]⟩
noncomputable def Jg (P:Params):Obj:=⟨.none,none,.fields #[],#[]⟩
noncomputable def A7 (P:Params):Obj:=⟨.type "tuple",none,.seq #[.str "_law_cell" 596] 0,#[]⟩
noncomputable def A8 (P:Params):Obj:=⟨.type "tuple",none,.seq #[] 0,#[]⟩
noncomputable def Jh (P:Params):Obj:=⟨.none,none,.func { name:="_law_begin",qualname:="_law_begin",params:=L2.ak (tp 50),body:=.stmts (L2.aj (tp 50)),scope:=L2.ae (tp 50),globals:=0,closure:=[],defaults:=.none,kwdefaults:=.none,doc:=.none,pyModule:=.none,annotations:=none,code:=.none,closureTuple:=.none,builtins:=0 },#[]⟩
noncomputable def A9 (P:Params):Obj:=⟨.type "code",none,.fields #[.str "_law_begin" 593,.str "_law_begin" 594,.str "/claim/cut.py" 595,.int (168) 0,.int (1) 0,.int (0) 0,.int (0) 0,.int (3) 0,.ref 233,.bool true,.int (181) 0,.ref 234,.none,.ref 235,.ref 236,.ref 237,.int (597) 0,.int (168) 0,.str "/claim/cut.py" 598],#[]⟩
noncomputable def Ba (P:Params):Obj:=⟨.type "function",none,.func { name:="_law_begin",qualname:="_law_begin",params:=L2.ak (tp 50),body:=.stmts (L2.aj (tp 50)),scope:=L2.ae (tp 50),globals:=3,closure:=[],defaults:=.none,kwdefaults:=.none,doc:=.none,pyModule:=.str "law_noteworth_k26_whole_none_cheaper" 553,annotations:=none,code:=.ref 238,closureTuple:=.none,builtins:=0 },#[]⟩
noncomputable def Bb (P:Params):Obj:=⟨.type "tuple",none,.seq #[] 0,#[]⟩
noncomputable def Ji (P:Params):Obj:=⟨.none,none,.fields #[],#[]⟩
noncomputable def Bc (P:Params):Obj:=⟨.type "tuple",none,.seq #[.str "_law_line_here" 603,.str "_law_begin_here" 604,.str "_law_told" 605,.str "_law_now" 606,.str "_law_at" 607,.str "_law_kind" 608] 0,#[]⟩
noncomputable def Bd (P:Params):Obj:=⟨.type "tuple",none,.seq #[] 0,#[]⟩
noncomputable def Jj (P:Params):Obj:=⟨.none,none,.func { name:="_law_base",qualname:="_law_base",params:=L2.ak (tp 51),body:=.stmts (L2.aj (tp 51)),scope:=L2.ae (tp 51),globals:=0,closure:=[],defaults:=.none,kwdefaults:=.none,doc:=.none,pyModule:=.none,annotations:=none,code:=.none,closureTuple:=.none,builtins:=0 },#[]⟩
noncomputable def Be (P:Params):Obj:=⟨.type "code",none,.fields #[.str "_law_base" 600,.str "_law_base" 601,.str "/claim/cut.py" 602,.int (170) 0,.int (2) 0,.int (0) 0,.int (0) 0,.int (3) 0,.ref 240,.bool true,.int (181) 0,.ref 241,.none,.ref 242,.ref 243,.ref 244,.int (609) 0,.int (170) 0,.str "/claim/cut.py" 610],#[]⟩
noncomputable def Bf (P:Params):Obj:=⟨.type "function",none,.func { name:="_law_base",qualname:="_law_base",params:=L2.ak (tp 51),body:=.stmts (L2.aj (tp 51)),scope:=L2.ae (tp 51),globals:=3,closure:=[],defaults:=.none,kwdefaults:=.none,doc:=.none,pyModule:=.str "law_noteworth_k26_whole_none_cheaper" 553,annotations:=none,code:=.ref 245,closureTuple:=.none,builtins:=0 },#[]⟩
noncomputable def Bg (P:Params):Obj:=⟨.type "tuple",none,.seq #[] 0,#[]⟩
noncomputable def Jk (P:Params):Obj:=⟨.none,none,.fields #[],#[]⟩
noncomputable def Bh (P:Params):Obj:=⟨.type "tuple",none,.seq #[.str "_law_line_here" 615,.str "_law_begin_here" 616,.str "_law_told" 617,.str "_law_now" 618,.str "_law_sign" 619] 0,#[]⟩
noncomputable def Bi (P:Params):Obj:=⟨.type "tuple",none,.seq #[] 0,#[]⟩
noncomputable def Jl (P:Params):Obj:=⟨.none,none,.func { name:="_law_three",qualname:="_law_three",params:=L2.ak (tp 52),body:=.stmts (L2.aj (tp 52)),scope:=L2.ae (tp 52),globals:=0,closure:=[],defaults:=.none,kwdefaults:=.none,doc:=.none,pyModule:=.none,annotations:=none,code:=.none,closureTuple:=.none,builtins:=0 },#[]⟩
noncomputable def Bj (P:Params):Obj:=⟨.type "code",none,.fields #[.str "_law_three" 612,.str "_law_three" 613,.str "/claim/cut.py" 614,.int (188) 0,.int (2) 0,.int (0) 0,.int (0) 0,.int (3) 0,.ref 247,.bool true,.int (181) 0,.ref 248,.none,.ref 249,.ref 250,.ref 251,.int (620) 0,.int (188) 0,.str "/claim/cut.py" 621],#[]⟩
noncomputable def Bl (P:Params):Obj:=⟨.type "function",none,.func { name:="_law_three",qualname:="_law_three",params:=L2.ak (tp 52),body:=.stmts (L2.aj (tp 52)),scope:=L2.ae (tp 52),globals:=3,closure:=[],defaults:=.none,kwdefaults:=.none,doc:=.none,pyModule:=.str "law_noteworth_k26_whole_none_cheaper" 553,annotations:=none,code:=.ref 252,closureTuple:=.none,builtins:=0 },#[]⟩
noncomputable def Bm (P:Params):Obj:=⟨.type "tuple",none,.seq #[] 0,#[]⟩
noncomputable def Jm (P:Params):Obj:=⟨.none,none,.fields #[],#[]⟩
noncomputable def Bn (P:Params):Obj:=⟨.type "tuple",none,.seq #[.str "_law_line_here" 626,.str "_law_told" 627,.str "_law_low" 628,.str "_law_high" 629,.str "_law_rest" 630,.str "_law_behind" 631,.str "_law_after" 632,.str "_law_left" 633,.str "_law_right" 634] 0,#[]⟩
noncomputable def Bo (P:Params):Obj:=⟨.type "tuple",none,.seq #[] 0,#[]⟩
noncomputable def Jn (P:Params):Obj:=⟨.none,none,.func { name:="_law_run",qualname:="_law_run",params:=L2.ak (tp 53),body:=.stmts (L2.aj (tp 53)),scope:=L2.ae (tp 53),globals:=0,closure:=[],defaults:=.none,kwdefaults:=.none,doc:=.none,pyModule:=.none,annotations:=none,code:=.none,closureTuple:=.none,builtins:=0 },#[]⟩
noncomputable def Bp (P:Params):Obj:=⟨.type "code",none,.fields #[.str "_law_run" 623,.str "_law_run" 624,.str "/claim/cut.py" 625,.int (196) 0,.int (4) 0,.int (0) 0,.int (0) 0,.int (3) 0,.ref 254,.bool true,.int (181) 0,.ref 255,.none,.ref 256,.ref 257,.ref 258,.int (635) 0,.int (196) 0,.str "/claim/cut.py" 636],#[]⟩
noncomputable def Bq (P:Params):Obj:=⟨.type "function",none,.func { name:="_law_run",qualname:="_law_run",params:=L2.ak (tp 53),body:=.stmts (L2.aj (tp 53)),scope:=L2.ae (tp 53),globals:=3,closure:=[],defaults:=.none,kwdefaults:=.none,doc:=.none,pyModule:=.str "law_noteworth_k26_whole_none_cheaper" 553,annotations:=none,code:=.ref 259,closureTuple:=.none,builtins:=0 },#[]⟩
noncomputable def Br (P:Params):Obj:=⟨.type "tuple",none,.seq #[] 0,#[]⟩
noncomputable def Jo (P:Params):Obj:=⟨.none,none,.fields #[],#[]⟩
noncomputable def Bs (P:Params):Obj:=⟨.type "tuple",none,.seq #[.str "_law_line_here" 641,.str "_law_begin_here" 642,.str "_law_told" 643,.str "_law_three_here" 644,.str "_law_left" 645,.str "_law_low" 646,.str "_law_high" 647] 0,#[]⟩
noncomputable def Bt (P:Params):Obj:=⟨.type "tuple",none,.seq #[] 0,#[]⟩
noncomputable def Jp (P:Params):Obj:=⟨.none,none,.func { name:="_law_read",qualname:="_law_read",params:=L2.ak (tp 54),body:=.stmts (L2.aj (tp 54)),scope:=L2.ae (tp 54),globals:=0,closure:=[],defaults:=.none,kwdefaults:=.none,doc:=.none,pyModule:=.none,annotations:=none,code:=.none,closureTuple:=.none,builtins:=0 },#[]⟩
noncomputable def Bu (P:Params):Obj:=⟨.type "code",none,.fields #[.str "_law_read" 638,.str "_law_read" 639,.str "/claim/cut.py" 640,.int (210) 0,.int (2) 0,.int (0) 0,.int (0) 0,.int (3) 0,.ref 261,.bool true,.int (181) 0,.ref 262,.none,.ref 263,.ref 264,.ref 265,.int (648) 0,.int (210) 0,.str "/claim/cut.py" 649],#[]⟩
noncomputable def Bv (P:Params):Obj:=⟨.type "function",none,.func { name:="_law_read",qualname:="_law_read",params:=L2.ak (tp 54),body:=.stmts (L2.aj (tp 54)),scope:=L2.ae (tp 54),globals:=3,closure:=[],defaults:=.none,kwdefaults:=.none,doc:=.none,pyModule:=.str "law_noteworth_k26_whole_none_cheaper" 553,annotations:=none,code:=.ref 266,closureTuple:=.none,builtins:=0 },#[]⟩
noncomputable def Bw (P:Params):Obj:=⟨.type "tuple",none,.seq #[] 0,#[]⟩
noncomputable def Jq (P:Params):Obj:=⟨.none,none,.fields #[],#[]⟩
noncomputable def Bx (P:Params):Obj:=⟨.type "tuple",none,.seq #[.str "_law_line_here" 654,.str "_law_begin_here" 655,.str "_law_k" 656,.str "_law_found" 657,.str "_law_low" 658,.str "_law_high" 659] 0,#[]⟩
noncomputable def By (P:Params):Obj:=⟨.type "tuple",none,.seq #[] 0,#[]⟩
noncomputable def Jr (P:Params):Obj:=⟨.none,none,.func { name:="_law_firmed",qualname:="_law_firmed",params:=L2.ak (tp 55),body:=.stmts (L2.aj (tp 55)),scope:=L2.ae (tp 55),globals:=0,closure:=[],defaults:=.none,kwdefaults:=.none,doc:=.none,pyModule:=.none,annotations:=none,code:=.none,closureTuple:=.none,builtins:=0 },#[]⟩
noncomputable def Bz (P:Params):Obj:=⟨.type "code",none,.fields #[.str "_law_firmed" 651,.str "_law_firmed" 652,.str "/claim/cut.py" 653,.int (223) 0,.int (2) 0,.int (0) 0,.int (0) 0,.int (3) 0,.ref 268,.bool true,.int (181) 0,.ref 269,.none,.ref 270,.ref 271,.ref 272,.int (660) 0,.int (223) 0,.str "/claim/cut.py" 661],#[]⟩
noncomputable def BA (P:Params):Obj:=⟨.type "function",none,.func { name:="_law_firmed",qualname:="_law_firmed",params:=L2.ak (tp 55),body:=.stmts (L2.aj (tp 55)),scope:=L2.ae (tp 55),globals:=3,closure:=[],defaults:=.none,kwdefaults:=.none,doc:=.none,pyModule:=.str "law_noteworth_k26_whole_none_cheaper" 553,annotations:=none,code:=.ref 273,closureTuple:=.none,builtins:=0 },#[]⟩
noncomputable def BB (P:Params):Obj:=⟨.type "tuple",none,.seq #[] 0,#[]⟩
noncomputable def Js (P:Params):Obj:=⟨.none,none,.fields #[],#[]⟩
noncomputable def BC (P:Params):Obj:=⟨.type "tuple",none,.seq #[.str "_law_line_here" 666,.str "_law_begin_here" 667,.str "_law_told" 668,.str "_law_sign" 669,.str "_law_worth" 670] 0,#[]⟩
noncomputable def BD (P:Params):Obj:=⟨.type "tuple",none,.seq #[] 0,#[]⟩
noncomputable def Jt (P:Params):Obj:=⟨.none,none,.func { name:="_law_wishes",qualname:="_law_wishes",params:=L2.ak (tp 56),body:=.stmts (L2.aj (tp 56)),scope:=L2.ae (tp 56),globals:=0,closure:=[],defaults:=.none,kwdefaults:=.none,doc:=.none,pyModule:=.none,annotations:=none,code:=.none,closureTuple:=.none,builtins:=0 },#[]⟩
noncomputable def BE (P:Params):Obj:=⟨.type "code",none,.fields #[.str "_law_wishes" 663,.str "_law_wishes" 664,.str "/claim/cut.py" 665,.int (231) 0,.int (2) 0,.int (0) 0,.int (0) 0,.int (3) 0,.ref 275,.bool true,.int (181) 0,.ref 276,.none,.ref 277,.ref 278,.ref 279,.int (671) 0,.int (231) 0,.str "/claim/cut.py" 672],#[]⟩
noncomputable def BF (P:Params):Obj:=⟨.type "function",none,.func { name:="_law_wishes",qualname:="_law_wishes",params:=L2.ak (tp 56),body:=.stmts (L2.aj (tp 56)),scope:=L2.ae (tp 56),globals:=3,closure:=[],defaults:=.none,kwdefaults:=.none,doc:=.none,pyModule:=.str "law_noteworth_k26_whole_none_cheaper" 553,annotations:=none,code:=.ref 280,closureTuple:=.none,builtins:=0 },#[]⟩
noncomputable def BG (P:Params):Obj:=⟨.type "tuple",none,.seq #[] 0,#[]⟩
noncomputable def Ju (P:Params):Obj:=⟨.none,none,.fields #[],#[]⟩
noncomputable def BH (P:Params):Obj:=⟨.type "tuple",none,.seq #[.str "_law_cell" 677,.str "_law_told" 678,.str "_law_k" 679] 0,#[]⟩
noncomputable def BI (P:Params):Obj:=⟨.type "tuple",none,.seq #[] 0,#[]⟩
noncomputable def Jv (P:Params):Obj:=⟨.none,none,.func { name:="_law_prices",qualname:="_law_prices",params:=L2.ak (tp 57),body:=.stmts (L2.aj (tp 57)),scope:=L2.ae (tp 57),globals:=0,closure:=[],defaults:=.none,kwdefaults:=.none,doc:=.none,pyModule:=.none,annotations:=none,code:=.none,closureTuple:=.none,builtins:=0 },#[]⟩
noncomputable def BJ (P:Params):Obj:=⟨.type "code",none,.fields #[.str "_law_prices" 674,.str "_law_prices" 675,.str "/claim/cut.py" 676,.int (239) 0,.int (1) 0,.int (0) 0,.int (0) 0,.int (3) 0,.ref 282,.bool true,.int (181) 0,.ref 283,.none,.ref 284,.ref 285,.ref 286,.int (680) 0,.int (239) 0,.str "/claim/cut.py" 681],#[]⟩
noncomputable def BK (P:Params):Obj:=⟨.type "function",none,.func { name:="_law_prices",qualname:="_law_prices",params:=L2.ak (tp 57),body:=.stmts (L2.aj (tp 57)),scope:=L2.ae (tp 57),globals:=3,closure:=[],defaults:=.none,kwdefaults:=.none,doc:=.none,pyModule:=.str "law_noteworth_k26_whole_none_cheaper" 553,annotations:=none,code:=.ref 287,closureTuple:=.none,builtins:=0 },#[]⟩
noncomputable def BL (P:Params):Obj:=⟨.type "tuple",none,.seq #[] 0,#[]⟩
noncomputable def Jw (P:Params):Obj:=⟨.none,none,.fields #[],#[]⟩
noncomputable def BM (P:Params):Obj:=⟨.type "tuple",none,.seq #[.str "_law_line_here" 686,.str "_law_prices_here" 687,.str "_law_total" 688,.str "_law_sign" 689,.str "_law_cost" 690] 0,#[]⟩
noncomputable def BN (P:Params):Obj:=⟨.type "tuple",none,.seq #[] 0,#[]⟩
noncomputable def Jx (P:Params):Obj:=⟨.none,none,.func { name:="_law_price",qualname:="_law_price",params:=L2.ak (tp 58),body:=.stmts (L2.aj (tp 58)),scope:=L2.ae (tp 58),globals:=0,closure:=[],defaults:=.none,kwdefaults:=.none,doc:=.none,pyModule:=.none,annotations:=none,code:=.none,closureTuple:=.none,builtins:=0 },#[]⟩
noncomputable def BO (P:Params):Obj:=⟨.type "code",none,.fields #[.str "_law_price" 683,.str "_law_price" 684,.str "/claim/cut.py" 685,.int (245) 0,.int (2) 0,.int (0) 0,.int (0) 0,.int (3) 0,.ref 289,.bool true,.int (181) 0,.ref 290,.none,.ref 291,.ref 292,.ref 293,.int (691) 0,.int (245) 0,.str "/claim/cut.py" 692],#[]⟩
noncomputable def BP (P:Params):Obj:=⟨.type "function",none,.func { name:="_law_price",qualname:="_law_price",params:=L2.ak (tp 58),body:=.stmts (L2.aj (tp 58)),scope:=L2.ae (tp 58),globals:=3,closure:=[],defaults:=.none,kwdefaults:=.none,doc:=.none,pyModule:=.str "law_noteworth_k26_whole_none_cheaper" 553,annotations:=none,code:=.ref 294,closureTuple:=.none,builtins:=0 },#[]⟩
noncomputable def M3 (P:Params):Heap:=⟨⟨[boot_o_0 P,boot_o_1 P,boot_o_2 P,abL P,boot_o_4 P,boot_o_5 P,boot_o_6 P,boot_o_7 P,boot_o_8 P,boot_o_9 P,boot_o_10 P,di P,Zd P,dj P,dk P,dq P,dr P,du P,dv P,dw P,d8 P,dz P,dA P,d9 P,dB P,dC P,dD P,ee P,dE P,dF P,ef P,dG P,dH P,dJ P,dM P,eh P,dN P,dO P,ei P,dP P,dQ P,ej P,eo P,cQ P,bg P,bh P,bj P,bo P,bp P,bq P,br P,bu P,bx P,bz P,jH P,fQ P,fR P,fS P,fT P,CB P,CC P,Hr P,CD P,CF P,Hs P,CG P,CH P,CI P,Ht P,CJ P,CK P,Hu P,CL P,CM P,CN P,Hv P,CO P,CP P,Hw P,CQ P,CS P,CT P,Hy P,CU P,CV P,Hz P,CW P,CY P,CZ P,HA P,C0 P,C1 P,HB P,C2 P,C3 P,C4 P,HE P,C7 P,C8 P,HF P,q9 P,ra P,rb P,wy P,rf P,rg P,wz P,rh P,rj P,rl P,wA P,rm P,rp P,wB P,rq P,rA P,rB P,wC P,rC P,rD P,wF P,rE P,rF P,rG P,wG P,rH P,rJ P,wH P,rK P,rL P,wI P,C9 P,wJ P,wK P,Dc P,wL P,wM P,wN P,wO P,wQ P,wR P,wU P,wV P,wW P,wX P,Dd P,wY P,wZ P,De P,xa P,xb P,xc P,Df P,xf P,xg P,Dg P,xh P,xi P,xj P,Dh P,Di P,xk P,xm P,xn P,Dj P,xo P,xp P,Dl P,xq P,xr P,Dm P,IK P,Dn P,Dp P,IL P,Dq P,Dr P,Ds P,IM P,Dt P,Du P,IP P,Dv P,Dw P,Dx P,IQ P,Dy P,Dz P,IS P,DA P,DB P,DC P,IT P,IU P,DD P,DE P,DF P,DG P,DH P,IV P,rM P,DI P,DJ P,IW P,DK P,DL P,IX P,DM P,DN P,DO P,IY P,DP P,DQ P,IZ P,DR P,DS P,DT P,Ja P,Jb P,DU P,DV P,DW P,Jc P,DX P,DY P,Jd P,DZ P,D0 P,A3 P,Je P,Jf P,A4 P,A5 P,A6 P,Jg P,A7 P,A8 P,Jh P,A9 P,Ba P,Bb P,Ji P,Bc P,Bd P,Jj P,Be P,Bf P,Bg P,Jk P,Bh P,Bi P,Jl P,Bj P,Bl P,Bm P,Jm P,Bn P,Bo P,Jn P,Bp P,Bq P,Br P,Jo P,Bs P,Bt P,Jp P,Bu P,Bv P,Bw P,Jq P,Bx P,By P,Jr P,Bz P,BA P,BB P,Js P,BC P,BD P,Jt P,BE P,BF P,BG P,Ju P,BH P,BI P,Jv P,BJ P,BK P,BL P,Jw P,BM P,BN P,Jx P,BO P,BP P]⟩,(boot_heap P).life⟩
noncomputable def k10:Nat:=694
noncomputable def n10:Nat:=326
noncomputable def Ze:Pos:=⟨245,0,258,21⟩
noncomputable def tE:List Stmt:=[tp 49,tp 50,tp 51,tp 52,tp 53,tp 54,tp 55,tp 56,tp 57,tp 58]
noncomputable def T5 (P:Params):Obj:=⟨.type "dict",none,.dict #[⟨PyData.keyHash P "__name__",.str "__name__" 165,.str "law_noteworth_k26_whole_none_cheaper" 553⟩,⟨PyData.keyHash P "__doc__",.str "__doc__" 166,.none⟩,⟨PyData.keyHash P "__package__",.str "__package__" 167,.none⟩,⟨PyData.keyHash P "__loader__",.str "__loader__" 168,.builtin "__main__.__loader__#opaque"⟩,⟨PyData.keyHash P "__spec__",.str "__spec__" 169,.none⟩,⟨PyData.keyHash P "__annotations__",.str "__annotations__" 170,.ref 6⟩,⟨PyData.keyHash P "__builtins__",.str "__builtins__" 171,.ref 4⟩,⟨PyData.keyHash P "__file__",.str "__file__" 173,.str "/claim/cut.py" 172⟩,⟨PyData.keyHash P "__cached__",.str "__cached__" 174,.none⟩,⟨PyData.keyHash P "SMALL_KINDS",.str "SMALL_KINDS" 192,.ref 15⟩,⟨PyData.keyHash P "PARTING_KINDS",.str "PARTING_KINDS" 196,.ref 16⟩,⟨PyData.keyHash P "MEASURE_KINDS",.str "MEASURE_KINDS" 199,.ref 17⟩,⟨PyData.keyHash P "SOUNDING_KINDS",.str "SOUNDING_KINDS" 204,.ref 18⟩,⟨PyData.keyHash P "small",.str "small" 211,.ref 25⟩,⟨PyData.keyHash P "parting",.str "parting" 218,.ref 32⟩,⟨PyData.keyHash P "DARK_KINDS",.str "DARK_KINDS" 223,.ref 33⟩,⟨PyData.keyHash P "sign_price",.str "sign_price" 234,.ref 40⟩,⟨PyData.keyHash P "REST_TONE",.str "REST_TONE" 237,.int (-1) 236⟩,⟨PyData.keyHash P "TWOFOLD_STATES",.str "TWOFOLD_STATES" 243,.ref 41⟩,⟨PyData.keyHash P "TWOFOLD_BEGIN",.str "TWOFOLD_BEGIN" 245,.str "2-" 244⟩,⟨PyData.keyHash P "THREEFOLD_BEGIN",.str "THREEFOLD_BEGIN" 247,.str "3n0-" 246⟩,⟨PyData.keyHash P "SHORTENED_FROM_AHEAD",.str "SHORTENED_FROM_AHEAD" 249,.str "3t0-" 248⟩,⟨PyData.keyHash P "NEXT_COUNTS",.str "NEXT_COUNTS" 259,.ref 42⟩,⟨PyData.keyHash P "TWOFOLD_STEPS",.str "TWOFOLD_STEPS" 320,.ref 43⟩,⟨PyData.keyHash P "GREAT_STEPS",.str "GREAT_STEPS" 345,.ref 54⟩,⟨PyData.keyHash P "begin_state",.str "begin_state" 353,.ref 66⟩,⟨PyData.keyHash P "step",.str "step" 362,.ref 73⟩,⟨PyData.keyHash P "ends",.str "ends" 369,.ref 80⟩,⟨PyData.keyHash P "twofold_step",.str "twofold_step" 378,.ref 87⟩,⟨PyData.keyHash P "closes",.str "closes" 387,.ref 94⟩,⟨PyData.keyHash P "closes_by_great",.str "closes_by_great" 394,.ref 101⟩,⟨PyData.keyHash P "closes_by_right_note",.str "closes_by_right_note" 401,.ref 108⟩,⟨PyData.keyHash P "great_step",.str "great_step" 410,.ref 115⟩,⟨PyData.keyHash P "parting_step",.str "parting_step" 419,.ref 122⟩,⟨PyData.keyHash P "told_last",.str "told_last" 428,.ref 129⟩,⟨PyData.keyHash P "small_step",.str "small_step" 440,.ref 136⟩,⟨PyData.keyHash P "PARTING_SIGNS",.str "PARTING_SIGNS" 449,.ref 140⟩,⟨PyData.keyHash P "REST_SIGNS",.str "REST_SIGNS" 454,.ref 143⟩,⟨PyData.keyHash P "moves",.str "moves" 468,.ref 150⟩,⟨PyData.keyHash P "parting_moves",.str "parting_moves" 476,.ref 157⟩,⟨PyData.keyHash P "wished_signs",.str "wished_signs" 482,.ref 162⟩,⟨PyData.keyHash P "wish_moves",.str "wish_moves" 493,.ref 169⟩,⟨PyData.keyHash P "MOST_PARTING_SIGNS",.str "MOST_PARTING_SIGNS" 497,.int (2) 496⟩,⟨PyData.keyHash P "keep_cheaper",.str "keep_cheaper" 507,.ref 176⟩,⟨PyData.keyHash P "with_parting_signs",.str "with_parting_signs" 523,.ref 183⟩,⟨PyData.keyHash P "with_wish",.str "with_wish" 539,.ref 190⟩,⟨PyData.keyHash P "costs",.str "costs" 545,.ref 195⟩,⟨PyData.keyHash P "written",.str "written" 552,.ref 201⟩,⟨PyData.keyHash P "_law_cell_at",.str "_law_cell_at" 562,.ref 208⟩,⟨PyData.keyHash P "_law_mixed",.str "_law_mixed" 572,.ref 215⟩,⟨PyData.keyHash P "_law_numbers",.str "_law_numbers" 578,.ref 220⟩,⟨PyData.keyHash P "_law_sign_by",.str "_law_sign_by" 586,.ref 227⟩,⟨PyData.keyHash P "_law_line",.str "_law_line" 592,.ref 232⟩,⟨PyData.keyHash P "_law_begin",.str "_law_begin" 599,.ref 239⟩,⟨PyData.keyHash P "_law_base",.str "_law_base" 611,.ref 246⟩,⟨PyData.keyHash P "_law_three",.str "_law_three" 622,.ref 253⟩,⟨PyData.keyHash P "_law_run",.str "_law_run" 637,.ref 260⟩,⟨PyData.keyHash P "_law_read",.str "_law_read" 650,.ref 267⟩,⟨PyData.keyHash P "_law_firmed",.str "_law_firmed" 662,.ref 274⟩,⟨PyData.keyHash P "_law_wishes",.str "_law_wishes" 673,.ref 281⟩,⟨PyData.keyHash P "_law_prices",.str "_law_prices" 682,.ref 288⟩,⟨PyData.keyHash P "_law_price",.str "_law_price" 693,.ref 295⟩,⟨PyData.keyHash P "_law_whole",.str "_law_whole" 700,.ref 302⟩,⟨PyData.keyHash P "law",.str "law" 717,.ref 309⟩] 64,#[]⟩
noncomputable def T6 (P:Params):Obj:=⟨.none,none,.fields #[.int (6) 0,.int (0) 0,.ref 24,.int (8) 0,.int (0) 0,.ref 31,.int (12) 0,.int (0) 0,.ref 39,.int (30) 0,.int (0) 0,.ref 65,.int (34) 0,.int (0) 0,.ref 72,.int (42) 0,.int (0) 0,.ref 79,.int (46) 0,.int (0) 0,.ref 86,.int (52) 0,.int (0) 0,.ref 93,.int (57) 0,.int (0) 0,.ref 100,.int (59) 0,.int (0) 0,.ref 107,.int (61) 0,.int (0) 0,.ref 114,.int (69) 0,.int (0) 0,.ref 121,.int (75) 0,.int (0) 0,.ref 128,.int (81) 0,.int (0) 0,.ref 135,.int (93) 0,.int (0) 0,.ref 149,.int (101) 0,.int (0) 0,.ref 156,.int (103) 0,.int (0) 0,.ref 161,.int (107) 0,.int (0) 0,.ref 168,.int (112) 0,.int (0) 0,.ref 175,.int (115) 0,.int (0) 0,.ref 182,.int (123) 0,.int (0) 0,.ref 189,.int (129) 0,.int (0) 0,.ref 194,.int (131) 0,.int (0) 0,.ref 200,.int (143) 0,.int (0) 0,.ref 207,.int (147) 0,.int (0) 0,.ref 214,.int (151) 0,.int (0) 0,.ref 219,.int (161) 0,.int (0) 0,.ref 226,.int (166) 0,.int (0) 0,.ref 231,.int (168) 0,.int (0) 0,.ref 238,.int (170) 0,.int (0) 0,.ref 245,.int (188) 0,.int (0) 0,.ref 252,.int (196) 0,.int (0) 0,.ref 259,.int (210) 0,.int (0) 0,.ref 266,.int (223) 0,.int (0) 0,.ref 273,.int (231) 0,.int (0) 0,.ref 280,.int (239) 0,.int (0) 0,.ref 287,.int (245) 0,.int (0) 0,.ref 294,.int (259) 0,.int (0) 0,.ref 301,.int (261) 0,.int (0) 0,.ref 308],#[]⟩
noncomputable def Jy (P:Params):Obj:=⟨.type "tuple",none,.seq #[] 0,#[]⟩
noncomputable def Qr (P:Params):Obj:=⟨.none,none,.fields #[],#[]⟩
noncomputable def Jz (P:Params):Obj:=⟨.type "tuple",none,.seq #[.str "_law_found" 697] 0,#[]⟩
noncomputable def JA (P:Params):Obj:=⟨.type "tuple",none,.seq #[] 0,#[]⟩
noncomputable def Qs (P:Params):Obj:=⟨.none,none,.func { name:="_law_whole",qualname:="_law_whole",params:=L2.ak (tp 59),body:=.stmts (L2.aj (tp 59)),scope:=L2.ae (tp 59),globals:=0,closure:=[],defaults:=.none,kwdefaults:=.none,doc:=.none,pyModule:=.none,annotations:=none,code:=.none,closureTuple:=.none,builtins:=0 },#[]⟩
noncomputable def JB (P:Params):Obj:=⟨.type "code",none,.fields #[.str "_law_whole" 694,.str "_law_whole" 695,.str "/claim/cut.py" 696,.int (259) 0,.int (1) 0,.int (0) 0,.int (0) 0,.int (3) 0,.ref 296,.bool true,.int (181) 0,.ref 297,.none,.ref 298,.ref 299,.ref 300,.int (698) 0,.int (259) 0,.str "/claim/cut.py" 699],#[]⟩
noncomputable def JC (P:Params):Obj:=⟨.type "function",none,.func { name:="_law_whole",qualname:="_law_whole",params:=L2.ak (tp 59),body:=.stmts (L2.aj (tp 59)),scope:=L2.ae (tp 59),globals:=3,closure:=[],defaults:=.none,kwdefaults:=.none,doc:=.none,pyModule:=.str "law_noteworth_k26_whole_none_cheaper" 553,annotations:=none,code:=.ref 301,closureTuple:=.none,builtins:=0 },#[]⟩
noncomputable def JD (P:Params):Obj:=⟨.type "tuple",none,.seq #[] 0,#[]⟩
noncomputable def Qt (P:Params):Obj:=⟨.none,none,.fields #[],#[]⟩
noncomputable def JE (P:Params):Obj:=⟨.type "tuple",none,.seq #[.str "_law_script" 704,.str "_law_begin_here" 705,.str "_law_costs" 706,.str "_law_size" 707,.str "_law_line_here" 708,.str "_law_due" 709,.str "_law_wishes_here" 710,.str "_law_found" 711,.str "_law_more" 712,.str "_law_second" 713,.str "_law_again" 714] 0,#[]⟩
noncomputable def JF (P:Params):Obj:=⟨.type "tuple",none,.seq #[] 0,#[]⟩
noncomputable def Qu (P:Params):Obj:=⟨.none,none,.func { name:="law",qualname:="law",params:=L2.ak (tp 60),body:=.stmts (L2.aj (tp 60)),scope:=L2.ae (tp 60),globals:=0,closure:=[],defaults:=.none,kwdefaults:=.none,doc:=.none,pyModule:=.none,annotations:=none,code:=.none,closureTuple:=.none,builtins:=0 },#[]⟩
noncomputable def JG (P:Params):Obj:=⟨.type "code",none,.fields #[.str "law" 701,.str "law" 702,.str "/claim/cut.py" 703,.int (261) 0,.int (1) 0,.int (0) 0,.int (0) 0,.int (3) 0,.ref 303,.bool true,.int (181) 0,.ref 304,.none,.ref 305,.ref 306,.ref 307,.int (715) 0,.int (261) 0,.str "/claim/cut.py" 716],#[]⟩
noncomputable def JH (P:Params):Obj:=⟨.type "function",none,.func { name:="law",qualname:="law",params:=L2.ak (tp 60),body:=.stmts (L2.aj (tp 60)),scope:=L2.ae (tp 60),globals:=3,closure:=[],defaults:=.none,kwdefaults:=.none,doc:=.none,pyModule:=.str "law_noteworth_k26_whole_none_cheaper" 553,annotations:=none,code:=.ref 308,closureTuple:=.none,builtins:=0 },#[]⟩
noncomputable def Zf (P:Params):Heap:=⟨⟨[boot_o_0 P,boot_o_1 P,boot_o_2 P,T5 P,boot_o_4 P,boot_o_5 P,boot_o_6 P,boot_o_7 P,boot_o_8 P,boot_o_9 P,boot_o_10 P,di P,T6 P,dj P,dk P,dq P,dr P,du P,dv P,dw P,d8 P,dz P,dA P,d9 P,dB P,dC P,dD P,ee P,dE P,dF P,ef P,dG P,dH P,dJ P,dM P,eh P,dN P,dO P,ei P,dP P,dQ P,ej P,eo P,cQ P,bg P,bh P,bj P,bo P,bp P,bq P,br P,bu P,bx P,bz P,jH P,fQ P,fR P,fS P,fT P,CB P,CC P,Hr P,CD P,CF P,Hs P,CG P,CH P,CI P,Ht P,CJ P,CK P,Hu P,CL P,CM P,CN P,Hv P,CO P,CP P,Hw P,CQ P,CS P,CT P,Hy P,CU P,CV P,Hz P,CW P,CY P,CZ P,HA P,C0 P,C1 P,HB P,C2 P,C3 P,C4 P,HE P,C7 P,C8 P,HF P,q9 P,ra P,rb P,wy P,rf P,rg P,wz P,rh P,rj P,rl P,wA P,rm P,rp P,wB P,rq P,rA P,rB P,wC P,rC P,rD P,wF P,rE P,rF P,rG P,wG P,rH P,rJ P,wH P,rK P,rL P,wI P,C9 P,wJ P,wK P,Dc P,wL P,wM P,wN P,wO P,wQ P,wR P,wU P,wV P,wW P,wX P,Dd P,wY P,wZ P,De P,xa P,xb P,xc P,Df P,xf P,xg P,Dg P,xh P,xi P,xj P,Dh P,Di P,xk P,xm P,xn P,Dj P,xo P,xp P,Dl P,xq P,xr P,Dm P,IK P,Dn P,Dp P,IL P,Dq P,Dr P,Ds P,IM P,Dt P,Du P,IP P,Dv P,Dw P,Dx P,IQ P,Dy P,Dz P,IS P,DA P,DB P,DC P,IT P,IU P,DD P,DE P,DF P,DG P,DH P,IV P,rM P,DI P,DJ P,IW P,DK P,DL P,IX P,DM P,DN P,DO P,IY P,DP P,DQ P,IZ P,DR P,DS P,DT P,Ja P,Jb P,DU P,DV P,DW P,Jc P,DX P,DY P,Jd P,DZ P,D0 P,A3 P,Je P,Jf P,A4 P,A5 P,A6 P,Jg P,A7 P,A8 P,Jh P,A9 P,Ba P,Bb P,Ji P,Bc P,Bd P,Jj P,Be P,Bf P,Bg P,Jk P,Bh P,Bi P,Jl P,Bj P,Bl P,Bm P,Jm P,Bn P,Bo P,Jn P,Bp P,Bq P,Br P,Jo P,Bs P,Bt P,Jp P,Bu P,Bv P,Bw P,Jq P,Bx P,By P,Jr P,Bz P,BA P,BB P,Js P,BC P,BD P,Jt P,BE P,BF P,BG P,Ju P,BH P,BI P,Jv P,BJ P,BK P,BL P,Jw P,BM P,BN P,Jx P,BO P,BP P,Jy P,Qr P,Jz P,JA P,Qs P,JB P,JC P,JD P,Qt P,JE P,JF P,Qu P,JG P,JH P]⟩,(boot_heap P).life⟩
noncomputable def k11:Nat:=718
noncomputable def y4:Nat:=69
noncomputable def p11:Pos:=⟨261,0,289,109⟩
noncomputable def y6:List Stmt:=[tp 59,tp 60]
noncomputable def xt (P:Params):Heap:=⟨⟨[boot_o_0 P,boot_o_1 P,boot_o_2 P,T5 P,boot_o_4 P,boot_o_5 P,boot_o_6 P,boot_o_7 P,boot_o_8 P,boot_o_9 P,boot_o_10 P,di P,T6 P,dj P,dk P,dq P,dr P,du P,dv P,dw P,d8 P,dz P,dA P,d9 P,dB P,dC P,dD P,ee P,dE P,dF P,ef P,dG P,dH P,dJ P,dM P,eh P,dN P,dO P,ei P,dP P,dQ P,ej P,eo P,cQ P,bg P,bh P,bj P,bo P,bp P,bq P,br P,bu P,bx P,bz P,jH P,fQ P,fR P,fS P,fT P,CB P,CC P,Hr P,CD P,CF P,Hs P,CG P,CH P,CI P,Ht P,CJ P,CK P,Hu P,CL P,CM P,CN P,Hv P,CO P,CP P,Hw P,CQ P,CS P,CT P,Hy P,CU P,CV P,Hz P,CW P,CY P,CZ P,HA P,C0 P,C1 P,HB P,C2 P,C3 P,C4 P,HE P,C7 P,C8 P,HF P,q9 P,ra P,rb P,wy P,rf P,rg P,wz P,rh P,rj P,rl P,wA P,rm P,rp P,wB P,rq P,rA P,rB P,wC P,rC P,rD P,wF P,rE P,rF P,rG P,wG P,rH P,rJ P,wH P,rK P,rL P,wI P,C9 P,wJ P,wK P,Dc P,wL P,wM P,wN P,wO P,wQ P,wR P,wU P,wV P,wW P,wX P,Dd P,wY P,wZ P,De P,xa P,xb P,xc P,Df P,xf P,xg P,Dg P,xh P,xi P,xj P,Dh P,Di P,xk P,xm P,xn P,Dj P,xo P,xp P,Dl P,xq P,xr P,Dm P,IK P,Dn P,Dp P,IL P,Dq P,Dr P,Ds P,IM P,Dt P,Du P,IP P,Dv P,Dw P,Dx P,IQ P,Dy P,Dz P,IS P,DA P,DB P,DC P,IT P,IU P,DD P,DE P,DF P,DG P,DH P,IV P,rM P,DI P,DJ P,IW P,DK P,DL P,IX P,DM P,DN P,DO P,IY P,DP P,DQ P,IZ P,DR P,DS P,DT P,Ja P,Jb P,DU P,DV P,DW P,Jc P,DX P,DY P,Jd P,DZ P,D0 P,A3 P,Je P,Jf P,A4 P,A5 P,A6 P,Jg P,A7 P,A8 P,Jh P,A9 P,Ba P,Bb P,Ji P,Bc P,Bd P,Jj P,Be P,Bf P,Bg P,Jk P,Bh P,Bi P,Jl P,Bj P,Bl P,Bm P,Jm P,Bn P,Bo P,Jn P,Bp P,Bq P,Br P,Jo P,Bs P,Bt P,Jp P,Bu P,Bv P,Bw P,Jq P,Bx P,By P,Jr P,Bz P,BA P,BB P,Js P,BC P,BD P,Jt P,BE P,BF P,BG P,Ju P,BH P,BI P,Jv P,BJ P,BK P,BL P,Jw P,BM P,BN P,Jx P,BO P,BP P,Jy P,Qr P,Jz P,JA P,Qs P,JB P,JC P,JD P,Qt P,JE P,JF P,Qu P,JG P,JH P]⟩,(boot_heap P).life⟩
noncomputable def k12:Nat:=718
noncomputable def n12:Nat:=2
noncomputable def Zg (P:Params):Frag:=(nat_lit 4,boot_o_4 P)::(nat_lit 2,boot_o_2 P)::(nat_lit 3,T5 P)::(nat_lit 15,dq P)::(nat_lit 16,dr P)::(nat_lit 17,du P)::(nat_lit 18,dv P)::(nat_lit 19,dw P)::(nat_lit 21,dz P)::(nat_lit 22,dA P)::(nat_lit 24,dB P)::(nat_lit 25,dC P)::(nat_lit 26,dD P)::(nat_lit 28,dE P)::(nat_lit 29,dF P)::(nat_lit 31,dG P)::(nat_lit 32,dH P)::(nat_lit 33,dJ P)::(nat_lit 34,dM P)::(nat_lit 36,dN P)::(nat_lit 37,dO P)::(nat_lit 39,dP P)::(nat_lit 40,dQ P)::(nat_lit 41,ej P)::(nat_lit 42,eo P)::(nat_lit 43,cQ P)::(nat_lit 44,bg P)::(nat_lit 45,bh P)::(nat_lit 46,bj P)::(nat_lit 47,bo P)::(nat_lit 48,bp P)::(nat_lit 49,bq P)::(nat_lit 50,br P)::(nat_lit 51,bu P)::(nat_lit 52,bx P)::(nat_lit 53,bz P)::(nat_lit 54,jH P)::(nat_lit 55,fQ P)::(nat_lit 56,fR P)::(nat_lit 57,fS P)::(nat_lit 58,fT P)::(nat_lit 59,CB P)::(nat_lit 60,CC P)::(nat_lit 62,CD P)::(nat_lit 63,CF P)::(nat_lit 65,CG P)::(nat_lit 66,CH P)::(nat_lit 67,CI P)::(nat_lit 69,CJ P)::(nat_lit 70,CK P)::(nat_lit 72,CL P)::(nat_lit 73,CM P)::(nat_lit 74,CN P)::(nat_lit 76,CO P)::(nat_lit 77,CP P)::(nat_lit 79,CQ P)::(nat_lit 80,CS P)::(nat_lit 81,CT P)::(nat_lit 83,CU P)::(nat_lit 84,CV P)::(nat_lit 86,CW P)::(nat_lit 87,CY P)::(nat_lit 88,CZ P)::(nat_lit 90,C0 P)::(nat_lit 91,C1 P)::(nat_lit 93,C2 P)::(nat_lit 94,C3 P)::(nat_lit 95,C4 P)::(nat_lit 97,C7 P)::(nat_lit 98,C8 P)::(nat_lit 100,q9 P)::(nat_lit 101,ra P)::(nat_lit 102,rb P)::(nat_lit 104,rf P)::(nat_lit 105,rg P)::(nat_lit 107,rh P)::(nat_lit 108,rj P)::(nat_lit 109,rl P)::(nat_lit 111,rm P)::(nat_lit 112,rp P)::(nat_lit 114,rq P)::(nat_lit 115,rA P)::(nat_lit 116,rB P)::(nat_lit 118,rC P)::(nat_lit 119,rD P)::(nat_lit 121,rE P)::(nat_lit 122,rF P)::(nat_lit 123,rG P)::(nat_lit 125,rH P)::(nat_lit 126,rJ P)::(nat_lit 128,rK P)::(nat_lit 129,rL P)::(nat_lit 130,wI P)::(nat_lit 132,wJ P)::(nat_lit 133,wK P)::(nat_lit 135,wL P)::(nat_lit 136,wM P)::(nat_lit 137,wN P)::(nat_lit 138,wO P)::(nat_lit 139,wQ P)::(nat_lit 140,wR P)::(nat_lit 141,wU P)::(nat_lit 142,wV P)::(nat_lit 143,wW P)::(nat_lit 144,wX P)::(nat_lit 146,wY P)::(nat_lit 147,wZ P)::(nat_lit 149,xa P)::(nat_lit 150,xb P)::(nat_lit 151,xc P)::(nat_lit 153,xf P)::(nat_lit 154,xg P)::(nat_lit 156,xh P)::(nat_lit 157,xi P)::(nat_lit 158,xj P)::(nat_lit 161,xk P)::(nat_lit 162,xm P)::(nat_lit 163,xn P)::(nat_lit 165,xo P)::(nat_lit 166,xp P)::(nat_lit 168,xq P)::(nat_lit 169,xr P)::(nat_lit 170,Dm P)::(nat_lit 172,Dn P)::(nat_lit 173,Dp P)::(nat_lit 175,Dq P)::(nat_lit 176,Dr P)::(nat_lit 177,Ds P)::(nat_lit 179,Dt P)::(nat_lit 180,Du P)::(nat_lit 182,Dv P)::(nat_lit 183,Dw P)::(nat_lit 184,Dx P)::(nat_lit 186,Dy P)::(nat_lit 187,Dz P)::(nat_lit 189,DA P)::(nat_lit 190,DB P)::(nat_lit 191,DC P)::(nat_lit 194,DD P)::(nat_lit 195,DE P)::(nat_lit 196,DF P)::(nat_lit 197,DG P)::(nat_lit 200,rM P)::(nat_lit 201,DI P)::(nat_lit 202,DJ P)::(nat_lit 204,DK P)::(nat_lit 205,DL P)::(nat_lit 207,DM P)::(nat_lit 208,DN P)::(nat_lit 209,DO P)::(nat_lit 211,DP P)::(nat_lit 212,DQ P)::(nat_lit 214,DR P)::(nat_lit 215,DS P)::(nat_lit 216,DT P)::(nat_lit 219,DU P)::(nat_lit 220,DV P)::(nat_lit 221,DW P)::(nat_lit 223,DX P)::(nat_lit 224,DY P)::(nat_lit 226,DZ P)::(nat_lit 227,D0 P)::(nat_lit 228,A3 P)::(nat_lit 231,A4 P)::(nat_lit 232,A5 P)::(nat_lit 233,A6 P)::(nat_lit 235,A7 P)::(nat_lit 236,A8 P)::(nat_lit 238,A9 P)::(nat_lit 239,Ba P)::(nat_lit 240,Bb P)::(nat_lit 242,Bc P)::(nat_lit 243,Bd P)::(nat_lit 245,Be P)::(nat_lit 246,Bf P)::(nat_lit 247,Bg P)::(nat_lit 249,Bh P)::(nat_lit 250,Bi P)::(nat_lit 252,Bj P)::(nat_lit 253,Bl P)::(nat_lit 254,Bm P)::(nat_lit 256,Bn P)::(nat_lit 257,Bo P)::(nat_lit 259,Bp P)::(nat_lit 260,Bq P)::(nat_lit 261,Br P)::(nat_lit 263,Bs P)::(nat_lit 264,Bt P)::(nat_lit 266,Bu P)::(nat_lit 267,Bv P)::(nat_lit 268,Bw P)::(nat_lit 270,Bx P)::(nat_lit 271,By P)::(nat_lit 273,Bz P)::(nat_lit 274,BA P)::(nat_lit 275,BB P)::(nat_lit 277,BC P)::(nat_lit 278,BD P)::(nat_lit 280,BE P)::(nat_lit 281,BF P)::(nat_lit 282,BG P)::(nat_lit 284,BH P)::(nat_lit 285,BI P)::(nat_lit 287,BJ P)::(nat_lit 288,BK P)::(nat_lit 289,BL P)::(nat_lit 291,BM P)::(nat_lit 292,BN P)::(nat_lit 294,BO P)::(nat_lit 295,BP P)::(nat_lit 296,Jy P)::(nat_lit 298,Jz P)::(nat_lit 299,JA P)::(nat_lit 301,JB P)::(nat_lit 302,JC P)::(nat_lit 303,JD P)::(nat_lit 305,JE P)::(nat_lit 306,JF P)::(nat_lit 308,JG P)::(nat_lit 309,JH P)::[]
noncomputable def adr:List Addr:=[4,2,3,15,16,17,18,19,21,22,24,25,26,28,29,31,32,33,34,36,37,39,40,41,42,43,44,45,46,47,48,49,50,51,52,53,54,55,56,57,58,59,60,62,63,65,66,67,69,70,72,73,74,76,77,79,80,81,83,84,86,87,88,90,91,93,94,95,97,98,100,101,102,104,105,107,108,109,111,112,114,115,116,118,119,121,122,123,125,126,128,129,130,132,133,135,136,137,138,139,140,141,142,143,144,146,147,149,150,151,153,154,156,157,158,161,162,163,165,166,168,169,170,172,173,175,176,177,179,180,182,183,184,186,187,189,190,191,194,195,196,197,200,201,202,204,205,207,208,209,211,212,214,215,216,219,220,221,223,224,226,227,228,231,232,233,235,236,238,239,240,242,243,245,246,247,249,250,252,253,254,256,257,259,260,261,263,264,266,267,268,270,271,273,274,275,277,278,280,281,282,284,285,287,288,289,291,292,294,295,296,298,299,301,302,303,305,306,308,309]
noncomputable def env:Env:={ scope:=pr.main.scope,locals:=mainNs,globals:=mainNs,cells:=[],code:=code,frame:=some frame }
noncomputable abbrev cE:Code:=.body pr.main.body env
noncomputable abbrev fr:List Frame:=[topFrame df]
noncomputable abbrev st (H:Params->Heap) (k:Nat) (w:World) (os:OsState):Shared:=stt H drawn k w os
theorem pre (w os):topGo treeTable pr w m0 ann n1 ⟨boot_heap w.params,Array.mk [],boot_drawn,boot_toks,os⟩ (topStub pr)=some (st H1 k1 w os,⟨denote treeTable cE,cE,p1,fr⟩):=by kernel_rfl
theorem blk (w os):segRun treeTable pr w m0 ann 1 n2 (st H1 k1 w os) (blockOf pr.main.body env cE p1 fr)=some (.next,st H2 k2 w os,cE,p2):=by kernel_rfl
theorem g3 (w:World)(os:OsState):segRun treeTable pr w m0 ann 1 n3 (st H2 k2 w os) (piecesOf s3 env cE p2 fr)=some (.next,st H3 k3 w os,cE,p3):=gb (P:=fun w=>segRun treeTable pr w m0 ann 1 n3 (st H2 k2 w os) (piecesOf s3 env cE p2 fr)=some (.next,st H3 k3 w os,cE,p3)) (fun w b=>by cases b <;> kernel_rfl) w
theorem g4 (w:World)(os:OsState):segRun treeTable pr w m0 ann 1 n4 (st H3 k3 w os) (piecesOf s4 env cE p3 fr)=some (.next,st H4 k4 w os,cE,p4):=gb (P:=fun w=>segRun treeTable pr w m0 ann 1 n4 (st H3 k3 w os) (piecesOf s4 env cE p3 fr)=some (.next,st H4 k4 w os,cE,p4)) (fun w b=>by cases b <;> kernel_rfl) w
theorem aev (w:World)(os:OsState):RT pr w m0 ann df cE ((1+(1+(1+(20+1))))+((1+((3+(0 * 3+0))+(0 * (1+(16+(1+(1+0))))+0)))+(1+3))) (dictSet d5 (.ref aa2) aa3) (st Iv L3 w os) (st Iw Fz w os) ():=by
 refine gb (P:=fun w=>RT pr w m0 ann df cE ((1+(1+(1+(20+1))))+((1+((3+(0 * 3+0))+(0 * (1+(16+(1+(1+0))))+0)))+(1+3))) (dictSet d5 (.ref aa2) aa3) (st Iv L3 w os) (st Iw Fz w os) ()) (fun w b=>?_) w;refine gL (h:=th (w.withFollow rw b).params "s" 1) (s1:=st Iv Fz (w.withFollow rw b) os) ?_ (ff (es:=aec (w.withFollow rw b).params) (n:=aa1) (fun K H gd lv pos=>⟨pos,1,Nat.le_refl _,by kernel_rfl⟩) (by kernel_rfl) ?_ (fun K H gd lv pos=>⟨pos,3,Nat.le_refl _,by kernel_rfl⟩) ?_ (fun K H gd lv pos=>⟨pos,1,Nat.le_refl _,by kernel_rfl⟩) ?_) (fun K H gd lv pos=>⟨pos,3,Nat.le_refl _,by kernel_rfl⟩)
 ·unfold pyHash pyHashByItsType;dsimp only;refine RT.bind (a:=()) (s1:=st Iv L3 (w.withFollow rw b) os) (fun K H gd lv pos=>⟨pos,1,Nat.le_refl _,by kernel_rfl⟩) ?_;refine RT.bind (a:=some (.builtin "tuple.__hash__")) (s1:=st Iv L3 (w.withFollow rw b) os) (fun K H gd lv pos=>⟨pos,1,Nat.le_refl _,by kernel_rfl⟩) ?_;rw[if_neg (by decide)];refine RT.bind (a:=some (.builtin "tuple.__hash__")) (s1:=st Iv L3 (w.withFollow rw b) os) (fun K H gd lv pos=>⟨pos,1,Nat.le_refl _,by kernel_rfl⟩) ?_;rw[if_neg (by decide)];refine RT.bind (a:=some (.int (Builtin.Tuple.tupleHashOf [PyData.keyHash (w.withFollow rw b).params "s",hashInt 1]) (L3+2))) (s1:=st Iv Fz (w.withFollow rw b) os) (fun K H gd lv pos=>⟨pos,20,(by decide:20<=20),by cases b <;> kernel_rfl⟩) ?_;exact bJ _
 ·exact aS
 ·exact aS
 ·exact aS
theorem aew (w:World)(os:OsState):RT pr w m0 ann df cE ((1+(1+(1+(20+1))))+((1+((3+(1 * 3+0))+(1 * (1+(16+(1+(1+0))))+0)))+(1+3))) (dictSet d5 (.ref aa5) aa6) (st Iw Fz w os) (st Iy FA w os) ():=by
 refine gb (P:=fun w=>RT pr w m0 ann df cE ((1+(1+(1+(20+1))))+((1+((3+(1 * 3+0))+(1 * (1+(16+(1+(1+0))))+0)))+(1+3))) (dictSet d5 (.ref aa5) aa6) (st Iw Fz w os) (st Iy FA w os) ()) (fun w b=>?_) w;refine gL (h:=th (w.withFollow rw b).params "d" 1) (s1:=st Iw FA (w.withFollow rw b) os) ?_ (ff (es:=aed (w.withFollow rw b).params) (n:=aa4) (fun K H gd lv pos=>⟨pos,1,Nat.le_refl _,by kernel_rfl⟩) (by kernel_rfl) ?_ (fun K H gd lv pos=>⟨pos,3,Nat.le_refl _,by kernel_rfl⟩) ?_ (fun K H gd lv pos=>⟨pos,1,Nat.le_refl _,by kernel_rfl⟩) ?_) (fun K H gd lv pos=>⟨pos,3,Nat.le_refl _,by kernel_rfl⟩)
 ·unfold pyHash pyHashByItsType;dsimp only;refine RT.bind (a:=()) (s1:=st Iw Fz (w.withFollow rw b) os) (fun K H gd lv pos=>⟨pos,1,Nat.le_refl _,by kernel_rfl⟩) ?_;refine RT.bind (a:=some (.builtin "tuple.__hash__")) (s1:=st Iw Fz (w.withFollow rw b) os) (fun K H gd lv pos=>⟨pos,1,Nat.le_refl _,by kernel_rfl⟩) ?_;rw[if_neg (by decide)];refine RT.bind (a:=some (.builtin "tuple.__hash__")) (s1:=st Iw Fz (w.withFollow rw b) os) (fun K H gd lv pos=>⟨pos,1,Nat.le_refl _,by kernel_rfl⟩) ?_;rw[if_neg (by decide)];refine RT.bind (a:=some (.int (Builtin.Tuple.tupleHashOf [PyData.keyHash (w.withFollow rw b).params "d",hashInt 1]) (Fz+2))) (s1:=st Iw FA (w.withFollow rw b) os) (fun K H gd lv pos=>⟨pos,20,(by decide:20<=20),by cases b <;> kernel_rfl⟩) ?_;exact bJ _
 ·exact(af (rfl) aS)
 ·exact(af ((fun K H gd lv pos=>⟨pos,3,Nat.le_refl _,by kernel_rfl⟩)) aS)
 ·exact(af ((fun K H gd lv pos=>⟨pos,16,(by decide:16<=16),by cases b <;> kernel_rfl⟩)) aS)
theorem aex (w:World)(os:OsState):RT pr w m0 ann df cE ((1+(1+(1+(20+1))))+((1+((3+(2 * 3+0))+(2 * (1+(16+(1+(1+0))))+0)))+(1+3))) (dictSet d5 (.ref aa8) aa9) (st Iy FA w os) (st Iz FC w os) ():=by
 refine gb (P:=fun w=>RT pr w m0 ann df cE ((1+(1+(1+(20+1))))+((1+((3+(2 * 3+0))+(2 * (1+(16+(1+(1+0))))+0)))+(1+3))) (dictSet d5 (.ref aa8) aa9) (st Iy FA w os) (st Iz FC w os) ()) (fun w b=>?_) w;refine gL (h:=th (w.withFollow rw b).params "r" 1) (s1:=st Iy FC (w.withFollow rw b) os) ?_ (ff (es:=aee (w.withFollow rw b).params) (n:=aa7) (fun K H gd lv pos=>⟨pos,1,Nat.le_refl _,by kernel_rfl⟩) (by kernel_rfl) ?_ (fun K H gd lv pos=>⟨pos,3,Nat.le_refl _,by kernel_rfl⟩) ?_ (fun K H gd lv pos=>⟨pos,1,Nat.le_refl _,by kernel_rfl⟩) ?_) (fun K H gd lv pos=>⟨pos,3,Nat.le_refl _,by kernel_rfl⟩)
 ·unfold pyHash pyHashByItsType;dsimp only;refine RT.bind (a:=()) (s1:=st Iy FA (w.withFollow rw b) os) (fun K H gd lv pos=>⟨pos,1,Nat.le_refl _,by kernel_rfl⟩) ?_;refine RT.bind (a:=some (.builtin "tuple.__hash__")) (s1:=st Iy FA (w.withFollow rw b) os) (fun K H gd lv pos=>⟨pos,1,Nat.le_refl _,by kernel_rfl⟩) ?_;rw[if_neg (by decide)];refine RT.bind (a:=some (.builtin "tuple.__hash__")) (s1:=st Iy FA (w.withFollow rw b) os) (fun K H gd lv pos=>⟨pos,1,Nat.le_refl _,by kernel_rfl⟩) ?_;rw[if_neg (by decide)];refine RT.bind (a:=some (.int (Builtin.Tuple.tupleHashOf [PyData.keyHash (w.withFollow rw b).params "r",hashInt 1]) (FA+2))) (s1:=st Iy FC (w.withFollow rw b) os) (fun K H gd lv pos=>⟨pos,20,(by decide:20<=20),by cases b <;> kernel_rfl⟩) ?_;exact bJ _
 ·exact(af (rfl) (af (rfl) aS))
 ·exact(af ((fun K H gd lv pos=>⟨pos,3,Nat.le_refl _,by kernel_rfl⟩)) (af ((fun K H gd lv pos=>⟨pos,3,Nat.le_refl _,by kernel_rfl⟩)) aS))
 ·exact(af ((fun K H gd lv pos=>⟨pos,16,(by decide:16<=16),by cases b <;> kernel_rfl⟩)) (af ((fun K H gd lv pos=>⟨pos,16,(by decide:16<=16),by cases b <;> kernel_rfl⟩)) aS))
theorem aey (w:World)(os:OsState):RT pr w m0 ann df cE ((1+(1+(1+(20+1))))+((1+((3+(3 * 3+0))+(3 * (1+(16+(1+(1+0))))+0)))+(1+3))) (dictSet d5 (.ref abb) abc) (st Iz FC w os) (st IA FD w os) ():=by
 refine gb (P:=fun w=>RT pr w m0 ann df cE ((1+(1+(1+(20+1))))+((1+((3+(3 * 3+0))+(3 * (1+(16+(1+(1+0))))+0)))+(1+3))) (dictSet d5 (.ref abb) abc) (st Iz FC w os) (st IA FD w os) ()) (fun w b=>?_) w;refine gL (h:=th (w.withFollow rw b).params "D" 2) (s1:=st Iz FD (w.withFollow rw b) os) ?_ (ff (es:=aef (w.withFollow rw b).params) (n:=aba) (fun K H gd lv pos=>⟨pos,1,Nat.le_refl _,by kernel_rfl⟩) (by kernel_rfl) ?_ (fun K H gd lv pos=>⟨pos,3,Nat.le_refl _,by kernel_rfl⟩) ?_ (fun K H gd lv pos=>⟨pos,1,Nat.le_refl _,by kernel_rfl⟩) ?_) (fun K H gd lv pos=>⟨pos,3,Nat.le_refl _,by kernel_rfl⟩)
 ·unfold pyHash pyHashByItsType;dsimp only;refine RT.bind (a:=()) (s1:=st Iz FC (w.withFollow rw b) os) (fun K H gd lv pos=>⟨pos,1,Nat.le_refl _,by kernel_rfl⟩) ?_;refine RT.bind (a:=some (.builtin "tuple.__hash__")) (s1:=st Iz FC (w.withFollow rw b) os) (fun K H gd lv pos=>⟨pos,1,Nat.le_refl _,by kernel_rfl⟩) ?_;rw[if_neg (by decide)];refine RT.bind (a:=some (.builtin "tuple.__hash__")) (s1:=st Iz FC (w.withFollow rw b) os) (fun K H gd lv pos=>⟨pos,1,Nat.le_refl _,by kernel_rfl⟩) ?_;rw[if_neg (by decide)];refine RT.bind (a:=some (.int (Builtin.Tuple.tupleHashOf [PyData.keyHash (w.withFollow rw b).params "D",hashInt 2]) (FC+2))) (s1:=st Iz FD (w.withFollow rw b) os) (fun K H gd lv pos=>⟨pos,20,(by decide:20<=20),by cases b <;> kernel_rfl⟩) ?_;exact bJ _
 ·exact(af (rfl) (af (rfl) (af (rfl) aS)))
 ·exact(af ((fun K H gd lv pos=>⟨pos,3,Nat.le_refl _,by kernel_rfl⟩)) (af ((fun K H gd lv pos=>⟨pos,3,Nat.le_refl _,by kernel_rfl⟩)) (af ((fun K H gd lv pos=>⟨pos,3,Nat.le_refl _,by kernel_rfl⟩)) aS)))
 ·exact(af ((fun K H gd lv pos=>⟨pos,16,(by decide:16<=16),by cases b <;> kernel_rfl⟩)) (af ((fun K H gd lv pos=>⟨pos,16,(by decide:16<=16),by cases b <;> kernel_rfl⟩)) (af ((fun K H gd lv pos=>⟨pos,16,(by decide:16<=16),by cases b <;> kernel_rfl⟩)) aS)))
theorem aez (w:World)(os:OsState):RT pr w m0 ann df cE ((1+(1+(1+(20+1))))+((1+((3+(4 * 3+0))+(4 * (1+(16+(1+(1+0))))+0)))+(1+3))) (dictSet d5 (.ref abe) abf) (st IA FD w os) (st IB FE w os) ():=by
 refine gb (P:=fun w=>RT pr w m0 ann df cE ((1+(1+(1+(20+1))))+((1+((3+(4 * 3+0))+(4 * (1+(16+(1+(1+0))))+0)))+(1+3))) (dictSet d5 (.ref abe) abf) (st IA FD w os) (st IB FE w os) ()) (fun w b=>?_) w;refine gL (h:=th (w.withFollow rw b).params "R" 2) (s1:=st IA FE (w.withFollow rw b) os) ?_ (ff (es:=aeg (w.withFollow rw b).params) (n:=abd) (fun K H gd lv pos=>⟨pos,1,Nat.le_refl _,by kernel_rfl⟩) (by kernel_rfl) ?_ (fun K H gd lv pos=>⟨pos,3,Nat.le_refl _,by kernel_rfl⟩) ?_ (fun K H gd lv pos=>⟨pos,1,Nat.le_refl _,by kernel_rfl⟩) ?_) (fun K H gd lv pos=>⟨pos,3,Nat.le_refl _,by kernel_rfl⟩)
 ·unfold pyHash pyHashByItsType;dsimp only;refine RT.bind (a:=()) (s1:=st IA FD (w.withFollow rw b) os) (fun K H gd lv pos=>⟨pos,1,Nat.le_refl _,by kernel_rfl⟩) ?_;refine RT.bind (a:=some (.builtin "tuple.__hash__")) (s1:=st IA FD (w.withFollow rw b) os) (fun K H gd lv pos=>⟨pos,1,Nat.le_refl _,by kernel_rfl⟩) ?_;rw[if_neg (by decide)];refine RT.bind (a:=some (.builtin "tuple.__hash__")) (s1:=st IA FD (w.withFollow rw b) os) (fun K H gd lv pos=>⟨pos,1,Nat.le_refl _,by kernel_rfl⟩) ?_;rw[if_neg (by decide)];refine RT.bind (a:=some (.int (Builtin.Tuple.tupleHashOf [PyData.keyHash (w.withFollow rw b).params "R",hashInt 2]) (FD+2))) (s1:=st IA FE (w.withFollow rw b) os) (fun K H gd lv pos=>⟨pos,20,(by decide:20<=20),by cases b <;> kernel_rfl⟩) ?_;exact bJ _
 ·exact(af (rfl) (af (rfl) (af (rfl) (af (rfl) aS))))
 ·exact(af ((fun K H gd lv pos=>⟨pos,3,Nat.le_refl _,by kernel_rfl⟩)) (af ((fun K H gd lv pos=>⟨pos,3,Nat.le_refl _,by kernel_rfl⟩)) (af ((fun K H gd lv pos=>⟨pos,3,Nat.le_refl _,by kernel_rfl⟩)) (af ((fun K H gd lv pos=>⟨pos,3,Nat.le_refl _,by kernel_rfl⟩)) aS))))
 ·exact(af ((fun K H gd lv pos=>⟨pos,16,(by decide:16<=16),by cases b <;> kernel_rfl⟩)) (af ((fun K H gd lv pos=>⟨pos,16,(by decide:16<=16),by cases b <;> kernel_rfl⟩)) (af ((fun K H gd lv pos=>⟨pos,16,(by decide:16<=16),by cases b <;> kernel_rfl⟩)) (af ((fun K H gd lv pos=>⟨pos,16,(by decide:16<=16),by cases b <;> kernel_rfl⟩)) aS))))
theorem aeA (w:World)(os:OsState):RT pr w m0 ann df cE ((1+(1+(1+(20+1))))+((1+((3+(5 * 3+0))+(5 * (1+(16+(1+(1+0))))+0)))+(1+3))) (dictSet d5 (.ref abh) abi) (st IB FE w os) (st IC FF w os) ():=by
 refine gb (P:=fun w=>RT pr w m0 ann df cE ((1+(1+(1+(20+1))))+((1+((3+(5 * 3+0))+(5 * (1+(16+(1+(1+0))))+0)))+(1+3))) (dictSet d5 (.ref abh) abi) (st IB FE w os) (st IC FF w os) ()) (fun w b=>?_) w;refine gL (h:=th (w.withFollow rw b).params "G" 2) (s1:=st IB FF (w.withFollow rw b) os) ?_ (ff (es:=aeh (w.withFollow rw b).params) (n:=abg) (fun K H gd lv pos=>⟨pos,1,Nat.le_refl _,by kernel_rfl⟩) (by kernel_rfl) ?_ (fun K H gd lv pos=>⟨pos,3,Nat.le_refl _,by kernel_rfl⟩) ?_ (fun K H gd lv pos=>⟨pos,1,Nat.le_refl _,by kernel_rfl⟩) ?_) (fun K H gd lv pos=>⟨pos,3,Nat.le_refl _,by kernel_rfl⟩)
 ·unfold pyHash pyHashByItsType;dsimp only;refine RT.bind (a:=()) (s1:=st IB FE (w.withFollow rw b) os) (fun K H gd lv pos=>⟨pos,1,Nat.le_refl _,by kernel_rfl⟩) ?_;refine RT.bind (a:=some (.builtin "tuple.__hash__")) (s1:=st IB FE (w.withFollow rw b) os) (fun K H gd lv pos=>⟨pos,1,Nat.le_refl _,by kernel_rfl⟩) ?_;rw[if_neg (by decide)];refine RT.bind (a:=some (.builtin "tuple.__hash__")) (s1:=st IB FE (w.withFollow rw b) os) (fun K H gd lv pos=>⟨pos,1,Nat.le_refl _,by kernel_rfl⟩) ?_;rw[if_neg (by decide)];refine RT.bind (a:=some (.int (Builtin.Tuple.tupleHashOf [PyData.keyHash (w.withFollow rw b).params "G",hashInt 2]) (FE+2))) (s1:=st IB FF (w.withFollow rw b) os) (fun K H gd lv pos=>⟨pos,20,(by decide:20<=20),by cases b <;> kernel_rfl⟩) ?_;exact bJ _
 ·exact(af (rfl) (af (rfl) (af (rfl) (af (rfl) (af (rfl) aS)))))
 ·exact(af ((fun K H gd lv pos=>⟨pos,3,Nat.le_refl _,by kernel_rfl⟩)) (af ((fun K H gd lv pos=>⟨pos,3,Nat.le_refl _,by kernel_rfl⟩)) (af ((fun K H gd lv pos=>⟨pos,3,Nat.le_refl _,by kernel_rfl⟩)) (af ((fun K H gd lv pos=>⟨pos,3,Nat.le_refl _,by kernel_rfl⟩)) (af ((fun K H gd lv pos=>⟨pos,3,Nat.le_refl _,by kernel_rfl⟩)) aS)))))
 ·exact(af ((fun K H gd lv pos=>⟨pos,16,(by decide:16<=16),by cases b <;> kernel_rfl⟩)) (af ((fun K H gd lv pos=>⟨pos,16,(by decide:16<=16),by cases b <;> kernel_rfl⟩)) (af ((fun K H gd lv pos=>⟨pos,16,(by decide:16<=16),by cases b <;> kernel_rfl⟩)) (af ((fun K H gd lv pos=>⟨pos,16,(by decide:16<=16),by cases b <;> kernel_rfl⟩)) (af ((fun K H gd lv pos=>⟨pos,16,(by decide:16<=16),by cases b <;> kernel_rfl⟩)) aS)))))
theorem aeB (w:World)(os:OsState):RT pr w m0 ann df cE ((1+(1+(1+(20+1))))+((1+((3+(6 * 3+0))+(6 * (1+(20+(1+(1+0))))+0)))+(1+3))) (dictSet d5 (.ref abk) abl) (st IC FF w os) (st ID FG w os) ():=by
 refine gb (P:=fun w=>RT pr w m0 ann df cE ((1+(1+(1+(20+1))))+((1+((3+(6 * 3+0))+(6 * (1+(20+(1+(1+0))))+0)))+(1+3))) (dictSet d5 (.ref abk) abl) (st IC FF w os) (st ID FG w os) ()) (fun w b=>?_) w;refine gL (h:=th (w.withFollow rw b).params "G" 3) (s1:=st IC FG (w.withFollow rw b) os) ?_ (ff (es:=aei (w.withFollow rw b).params) (n:=abj) (fun K H gd lv pos=>⟨pos,1,Nat.le_refl _,by kernel_rfl⟩) (by kernel_rfl) ?_ (fun K H gd lv pos=>⟨pos,3,Nat.le_refl _,by kernel_rfl⟩) ?_ (fun K H gd lv pos=>⟨pos,1,Nat.le_refl _,by kernel_rfl⟩) ?_) (fun K H gd lv pos=>⟨pos,3,Nat.le_refl _,by kernel_rfl⟩)
 ·unfold pyHash pyHashByItsType;dsimp only;refine RT.bind (a:=()) (s1:=st IC FF (w.withFollow rw b) os) (fun K H gd lv pos=>⟨pos,1,Nat.le_refl _,by kernel_rfl⟩) ?_;refine RT.bind (a:=some (.builtin "tuple.__hash__")) (s1:=st IC FF (w.withFollow rw b) os) (fun K H gd lv pos=>⟨pos,1,Nat.le_refl _,by kernel_rfl⟩) ?_;rw[if_neg (by decide)];refine RT.bind (a:=some (.builtin "tuple.__hash__")) (s1:=st IC FF (w.withFollow rw b) os) (fun K H gd lv pos=>⟨pos,1,Nat.le_refl _,by kernel_rfl⟩) ?_;rw[if_neg (by decide)];refine RT.bind (a:=some (.int (Builtin.Tuple.tupleHashOf [PyData.keyHash (w.withFollow rw b).params "G",hashInt 3]) (FF+2))) (s1:=st IC FG (w.withFollow rw b) os) (fun K H gd lv pos=>⟨pos,20,(by decide:20<=20),by cases b <;> kernel_rfl⟩) ?_;exact bJ _
 ·exact(af (rfl) (af (rfl) (af (rfl) (af (rfl) (af (rfl) (af (rfl) aS))))))
 ·exact(af ((fun K H gd lv pos=>⟨pos,3,Nat.le_refl _,by kernel_rfl⟩)) (af ((fun K H gd lv pos=>⟨pos,3,Nat.le_refl _,by kernel_rfl⟩)) (af ((fun K H gd lv pos=>⟨pos,3,Nat.le_refl _,by kernel_rfl⟩)) (af ((fun K H gd lv pos=>⟨pos,3,Nat.le_refl _,by kernel_rfl⟩)) (af ((fun K H gd lv pos=>⟨pos,3,Nat.le_refl _,by kernel_rfl⟩)) (af ((fun K H gd lv pos=>⟨pos,3,Nat.le_refl _,by kernel_rfl⟩)) aS))))))
 ·exact(af ((fun K H gd lv pos=>⟨pos,16,(by decide:16<=20),by cases b <;> kernel_rfl⟩)) (af ((fun K H gd lv pos=>⟨pos,16,(by decide:16<=20),by cases b <;> kernel_rfl⟩)) (af ((fun K H gd lv pos=>⟨pos,16,(by decide:16<=20),by cases b <;> kernel_rfl⟩)) (af ((fun K H gd lv pos=>⟨pos,16,(by decide:16<=20),by cases b <;> kernel_rfl⟩)) (af ((fun K H gd lv pos=>⟨pos,16,(by decide:16<=20),by cases b <;> kernel_rfl⟩)) (af ((fun K H gd lv pos=>⟨pos,20,(by decide:20<=20),by cases b <;> kernel_rfl⟩)) aS))))))
theorem aeC (w:World)(os:OsState):RT pr w m0 ann df cE ((1+(1+(1+(20+1))))+((1+((3+(7 * 3+0))+(7 * (1+(16+(1+(1+0))))+0)))+(1+3))) (dictSet d5 (.ref abn) abo) (st ID FG w os) (st IE FH w os) ():=by
 refine gb (P:=fun w=>RT pr w m0 ann df cE ((1+(1+(1+(20+1))))+((1+((3+(7 * 3+0))+(7 * (1+(16+(1+(1+0))))+0)))+(1+3))) (dictSet d5 (.ref abn) abo) (st ID FG w os) (st IE FH w os) ()) (fun w b=>?_) w;refine gL (h:=th (w.withFollow rw b).params "." 0) (s1:=st ID FH (w.withFollow rw b) os) ?_ (ff (es:=aej (w.withFollow rw b).params) (n:=abm) (fun K H gd lv pos=>⟨pos,1,Nat.le_refl _,by kernel_rfl⟩) (by kernel_rfl) ?_ (fun K H gd lv pos=>⟨pos,3,Nat.le_refl _,by kernel_rfl⟩) ?_ (fun K H gd lv pos=>⟨pos,1,Nat.le_refl _,by kernel_rfl⟩) ?_) (fun K H gd lv pos=>⟨pos,3,Nat.le_refl _,by kernel_rfl⟩)
 ·unfold pyHash pyHashByItsType;dsimp only;refine RT.bind (a:=()) (s1:=st ID FG (w.withFollow rw b) os) (fun K H gd lv pos=>⟨pos,1,Nat.le_refl _,by kernel_rfl⟩) ?_;refine RT.bind (a:=some (.builtin "tuple.__hash__")) (s1:=st ID FG (w.withFollow rw b) os) (fun K H gd lv pos=>⟨pos,1,Nat.le_refl _,by kernel_rfl⟩) ?_;rw[if_neg (by decide)];refine RT.bind (a:=some (.builtin "tuple.__hash__")) (s1:=st ID FG (w.withFollow rw b) os) (fun K H gd lv pos=>⟨pos,1,Nat.le_refl _,by kernel_rfl⟩) ?_;rw[if_neg (by decide)];refine RT.bind (a:=some (.int (Builtin.Tuple.tupleHashOf [PyData.keyHash (w.withFollow rw b).params ".",hashInt 0]) (FG+2))) (s1:=st ID FH (w.withFollow rw b) os) (fun K H gd lv pos=>⟨pos,20,(by decide:20<=20),by cases b <;> kernel_rfl⟩) ?_;exact bJ _
 ·exact(af (rfl) (af (rfl) (af (rfl) (af (rfl) (af (rfl) (af (rfl) (af (rfl) aS)))))))
 ·exact(af ((fun K H gd lv pos=>⟨pos,3,Nat.le_refl _,by kernel_rfl⟩)) (af ((fun K H gd lv pos=>⟨pos,3,Nat.le_refl _,by kernel_rfl⟩)) (af ((fun K H gd lv pos=>⟨pos,3,Nat.le_refl _,by kernel_rfl⟩)) (af ((fun K H gd lv pos=>⟨pos,3,Nat.le_refl _,by kernel_rfl⟩)) (af ((fun K H gd lv pos=>⟨pos,3,Nat.le_refl _,by kernel_rfl⟩)) (af ((fun K H gd lv pos=>⟨pos,3,Nat.le_refl _,by kernel_rfl⟩)) (af ((fun K H gd lv pos=>⟨pos,3,Nat.le_refl _,by kernel_rfl⟩)) aS)))))))
 ·exact(af ((fun K H gd lv pos=>⟨pos,16,(by decide:16<=16),by cases b <;> kernel_rfl⟩)) (af ((fun K H gd lv pos=>⟨pos,16,(by decide:16<=16),by cases b <;> kernel_rfl⟩)) (af ((fun K H gd lv pos=>⟨pos,16,(by decide:16<=16),by cases b <;> kernel_rfl⟩)) (af ((fun K H gd lv pos=>⟨pos,16,(by decide:16<=16),by cases b <;> kernel_rfl⟩)) (af ((fun K H gd lv pos=>⟨pos,16,(by decide:16<=16),by cases b <;> kernel_rfl⟩)) (af ((fun K H gd lv pos=>⟨pos,16,(by decide:16<=16),by cases b <;> kernel_rfl⟩)) (af ((fun K H gd lv pos=>⟨pos,16,(by decide:16<=16),by cases b <;> kernel_rfl⟩)) aS)))))))
theorem aeD (w:World)(os:OsState):RT pr w m0 ann df cE ((1+(1+(1+(20+1))))+((1+((3+(8 * 3+0))+(8 * (1+(16+(1+(1+0))))+0)))+(1+3))) (dictSet d5 (.ref abq) abr) (st IE FH w os) (st IF FI w os) ():=by
 refine gb (P:=fun w=>RT pr w m0 ann df cE ((1+(1+(1+(20+1))))+((1+((3+(8 * 3+0))+(8 * (1+(16+(1+(1+0))))+0)))+(1+3))) (dictSet d5 (.ref abq) abr) (st IE FH w os) (st IF FI w os) ()) (fun w b=>?_) w;refine gL (h:=th (w.withFollow rw b).params "2" 0) (s1:=st IE FI (w.withFollow rw b) os) ?_ (ff (es:=aek (w.withFollow rw b).params) (n:=abp) (fun K H gd lv pos=>⟨pos,1,Nat.le_refl _,by kernel_rfl⟩) (by kernel_rfl) ?_ (fun K H gd lv pos=>⟨pos,3,Nat.le_refl _,by kernel_rfl⟩) ?_ (fun K H gd lv pos=>⟨pos,1,Nat.le_refl _,by kernel_rfl⟩) ?_) (fun K H gd lv pos=>⟨pos,3,Nat.le_refl _,by kernel_rfl⟩)
 ·unfold pyHash pyHashByItsType;dsimp only;refine RT.bind (a:=()) (s1:=st IE FH (w.withFollow rw b) os) (fun K H gd lv pos=>⟨pos,1,Nat.le_refl _,by kernel_rfl⟩) ?_;refine RT.bind (a:=some (.builtin "tuple.__hash__")) (s1:=st IE FH (w.withFollow rw b) os) (fun K H gd lv pos=>⟨pos,1,Nat.le_refl _,by kernel_rfl⟩) ?_;rw[if_neg (by decide)];refine RT.bind (a:=some (.builtin "tuple.__hash__")) (s1:=st IE FH (w.withFollow rw b) os) (fun K H gd lv pos=>⟨pos,1,Nat.le_refl _,by kernel_rfl⟩) ?_;rw[if_neg (by decide)];refine RT.bind (a:=some (.int (Builtin.Tuple.tupleHashOf [PyData.keyHash (w.withFollow rw b).params "2",hashInt 0]) (FH+2))) (s1:=st IE FI (w.withFollow rw b) os) (fun K H gd lv pos=>⟨pos,20,(by decide:20<=20),by cases b <;> kernel_rfl⟩) ?_;exact bJ _
 ·exact(af (rfl) (af (rfl) (af (rfl) (af (rfl) (af (rfl) (af (rfl) (af (rfl) (af (rfl) aS))))))))
 ·exact(af ((fun K H gd lv pos=>⟨pos,3,Nat.le_refl _,by kernel_rfl⟩)) (af ((fun K H gd lv pos=>⟨pos,3,Nat.le_refl _,by kernel_rfl⟩)) (af ((fun K H gd lv pos=>⟨pos,3,Nat.le_refl _,by kernel_rfl⟩)) (af ((fun K H gd lv pos=>⟨pos,3,Nat.le_refl _,by kernel_rfl⟩)) (af ((fun K H gd lv pos=>⟨pos,3,Nat.le_refl _,by kernel_rfl⟩)) (af ((fun K H gd lv pos=>⟨pos,3,Nat.le_refl _,by kernel_rfl⟩)) (af ((fun K H gd lv pos=>⟨pos,3,Nat.le_refl _,by kernel_rfl⟩)) (af ((fun K H gd lv pos=>⟨pos,3,Nat.le_refl _,by kernel_rfl⟩)) aS))))))))
 ·exact(af ((fun K H gd lv pos=>⟨pos,16,(by decide:16<=16),by cases b <;> kernel_rfl⟩)) (af ((fun K H gd lv pos=>⟨pos,16,(by decide:16<=16),by cases b <;> kernel_rfl⟩)) (af ((fun K H gd lv pos=>⟨pos,16,(by decide:16<=16),by cases b <;> kernel_rfl⟩)) (af ((fun K H gd lv pos=>⟨pos,16,(by decide:16<=16),by cases b <;> kernel_rfl⟩)) (af ((fun K H gd lv pos=>⟨pos,16,(by decide:16<=16),by cases b <;> kernel_rfl⟩)) (af ((fun K H gd lv pos=>⟨pos,16,(by decide:16<=16),by cases b <;> kernel_rfl⟩)) (af ((fun K H gd lv pos=>⟨pos,16,(by decide:16<=16),by cases b <;> kernel_rfl⟩)) (af ((fun K H gd lv pos=>⟨pos,16,(by decide:16<=16),by cases b <;> kernel_rfl⟩)) aS))))))))
theorem aeE (w:World)(os:OsState):RT pr w m0 ann df cE ((1+(1+(1+(20+1))))+((1+((3+(9 * 3+0))+(9 * (1+(16+(1+(1+0))))+0)))+(1+3))) (dictSet d5 (.ref abu) abv) (st IF FI w os) (st Qq Hq w os) ():=by
 refine gb (P:=fun w=>RT pr w m0 ann df cE ((1+(1+(1+(20+1))))+((1+((3+(9 * 3+0))+(9 * (1+(16+(1+(1+0))))+0)))+(1+3))) (dictSet d5 (.ref abu) abv) (st IF FI w os) (st Qq Hq w os) ()) (fun w b=>?_) w;refine gL (h:=th (w.withFollow rw b).params "3" 0) (s1:=st IF Hq (w.withFollow rw b) os) ?_ (ff (es:=ael (w.withFollow rw b).params) (n:=abt) (fun K H gd lv pos=>⟨pos,1,Nat.le_refl _,by kernel_rfl⟩) (by kernel_rfl) ?_ (fun K H gd lv pos=>⟨pos,3,Nat.le_refl _,by kernel_rfl⟩) ?_ (fun K H gd lv pos=>⟨pos,1,Nat.le_refl _,by kernel_rfl⟩) ?_) (fun K H gd lv pos=>⟨pos,3,Nat.le_refl _,by kernel_rfl⟩)
 ·unfold pyHash pyHashByItsType;dsimp only;refine RT.bind (a:=()) (s1:=st IF FI (w.withFollow rw b) os) (fun K H gd lv pos=>⟨pos,1,Nat.le_refl _,by kernel_rfl⟩) ?_;refine RT.bind (a:=some (.builtin "tuple.__hash__")) (s1:=st IF FI (w.withFollow rw b) os) (fun K H gd lv pos=>⟨pos,1,Nat.le_refl _,by kernel_rfl⟩) ?_;rw[if_neg (by decide)];refine RT.bind (a:=some (.builtin "tuple.__hash__")) (s1:=st IF FI (w.withFollow rw b) os) (fun K H gd lv pos=>⟨pos,1,Nat.le_refl _,by kernel_rfl⟩) ?_;rw[if_neg (by decide)];refine RT.bind (a:=some (.int (Builtin.Tuple.tupleHashOf [PyData.keyHash (w.withFollow rw b).params "3",hashInt 0]) (FI+2))) (s1:=st IF Hq (w.withFollow rw b) os) (fun K H gd lv pos=>⟨pos,20,(by decide:20<=20),by cases b <;> kernel_rfl⟩) ?_;exact bJ _
 ·exact(af (rfl) (af (rfl) (af (rfl) (af (rfl) (af (rfl) (af (rfl) (af (rfl) (af (rfl) (af (rfl) aS)))))))))
 ·exact(af ((fun K H gd lv pos=>⟨pos,3,Nat.le_refl _,by kernel_rfl⟩)) (af ((fun K H gd lv pos=>⟨pos,3,Nat.le_refl _,by kernel_rfl⟩)) (af ((fun K H gd lv pos=>⟨pos,3,Nat.le_refl _,by kernel_rfl⟩)) (af ((fun K H gd lv pos=>⟨pos,3,Nat.le_refl _,by kernel_rfl⟩)) (af ((fun K H gd lv pos=>⟨pos,3,Nat.le_refl _,by kernel_rfl⟩)) (af ((fun K H gd lv pos=>⟨pos,3,Nat.le_refl _,by kernel_rfl⟩)) (af ((fun K H gd lv pos=>⟨pos,3,Nat.le_refl _,by kernel_rfl⟩)) (af ((fun K H gd lv pos=>⟨pos,3,Nat.le_refl _,by kernel_rfl⟩)) (af ((fun K H gd lv pos=>⟨pos,3,Nat.le_refl _,by kernel_rfl⟩)) aS)))))))))
 ·exact(af ((fun K H gd lv pos=>⟨pos,16,(by decide:16<=16),by cases b <;> kernel_rfl⟩)) (af ((fun K H gd lv pos=>⟨pos,16,(by decide:16<=16),by cases b <;> kernel_rfl⟩)) (af ((fun K H gd lv pos=>⟨pos,16,(by decide:16<=16),by cases b <;> kernel_rfl⟩)) (af ((fun K H gd lv pos=>⟨pos,16,(by decide:16<=16),by cases b <;> kernel_rfl⟩)) (af ((fun K H gd lv pos=>⟨pos,16,(by decide:16<=16),by cases b <;> kernel_rfl⟩)) (af ((fun K H gd lv pos=>⟨pos,16,(by decide:16<=16),by cases b <;> kernel_rfl⟩)) (af ((fun K H gd lv pos=>⟨pos,16,(by decide:16<=16),by cases b <;> kernel_rfl⟩)) (af ((fun K H gd lv pos=>⟨pos,16,(by decide:16<=16),by cases b <;> kernel_rfl⟩)) (af ((fun K H gd lv pos=>⟨pos,16,(by decide:16<=16),by cases b <;> kernel_rfl⟩)) aS)))))))))
theorem C5 (w:World)(os:OsState):Puts pr w m0 ann df cE d5 (((1+(1+(1+(20+1))))+((1+((3+(0 * 3+0))+(0 * (1+(16+(1+(1+0))))+0)))+(1+3)))+(((1+(1+(1+(20+1))))+((1+((3+(1 * 3+0))+(1 * (1+(16+(1+(1+0))))+0)))+(1+3)))+(((1+(1+(1+(20+1))))+((1+((3+(2 * 3+0))+(2 * (1+(16+(1+(1+0))))+0)))+(1+3)))+(((1+(1+(1+(20+1))))+((1+((3+(3 * 3+0))+(3 * (1+(16+(1+(1+0))))+0)))+(1+3)))+(((1+(1+(1+(20+1))))+((1+((3+(4 * 3+0))+(4 * (1+(16+(1+(1+0))))+0)))+(1+3)))+(((1+(1+(1+(20+1))))+((1+((3+(5 * 3+0))+(5 * (1+(16+(1+(1+0))))+0)))+(1+3)))+(((1+(1+(1+(20+1))))+((1+((3+(6 * 3+0))+(6 * (1+(20+(1+(1+0))))+0)))+(1+3)))+(((1+(1+(1+(20+1))))+((1+((3+(7 * 3+0))+(7 * (1+(16+(1+(1+0))))+0)))+(1+3)))+(((1+(1+(1+(20+1))))+((1+((3+(8 * 3+0))+(8 * (1+(16+(1+(1+0))))+0)))+(1+3)))+(((1+(1+(1+(20+1))))+((1+((3+(9 * 3+0))+(9 * (1+(16+(1+(1+0))))+0)))+(1+3)))+0)))))))))) (st Iv L3 w os) vs5 (st Qq Hq w os):=(.cons (aev w os) (.cons (aew w os) (.cons (aex w os) (.cons (aey w os) (.cons (aez w os) (.cons (aeA w os) (.cons (aeB w os) (.cons (aeC w os) (.cons (aeD w os) (.cons (aeE w os) .nil))))))))))
theorem R5 (w:World)(os:OsState):XD pr w m0 ann df cE (1+((1+((1+((60+((((1+(1+(1+(20+1))))+((1+((3+(0 * 3+0))+(0 * (1+(16+(1+(1+0))))+0)))+(1+3)))+(((1+(1+(1+(20+1))))+((1+((3+(1 * 3+0))+(1 * (1+(16+(1+(1+0))))+0)))+(1+3)))+(((1+(1+(1+(20+1))))+((1+((3+(2 * 3+0))+(2 * (1+(16+(1+(1+0))))+0)))+(1+3)))+(((1+(1+(1+(20+1))))+((1+((3+(3 * 3+0))+(3 * (1+(16+(1+(1+0))))+0)))+(1+3)))+(((1+(1+(1+(20+1))))+((1+((3+(4 * 3+0))+(4 * (1+(16+(1+(1+0))))+0)))+(1+3)))+(((1+(1+(1+(20+1))))+((1+((3+(5 * 3+0))+(5 * (1+(16+(1+(1+0))))+0)))+(1+3)))+(((1+(1+(1+(20+1))))+((1+((3+(6 * 3+0))+(6 * (1+(20+(1+(1+0))))+0)))+(1+3)))+(((1+(1+(1+(20+1))))+((1+((3+(7 * 3+0))+(7 * (1+(16+(1+(1+0))))+0)))+(1+3)))+(((1+(1+(1+(20+1))))+((1+((3+(8 * 3+0))+(8 * (1+(16+(1+(1+0))))+0)))+(1+3)))+(((1+(1+(1+(20+1))))+((1+((3+(9 * 3+0))+(9 * (1+(16+(1+(1+0))))+0)))+(1+3)))+0))))))))))+0))+0))+0))+7)) (exec t5 env) (st H4 k4 w os) (st H5 k5 w os) .next p5 :=
 Te (d:=d5) (s1:=⟨(H4 w.params).push { cls:=.type "dict",data:=.dict #[] },#[],drawn,k4,os⟩) (s2:=st Iv L3 w os) (s3:=st Qq Hq w os) (vs:=vs5) rfl rfl (Nat.le_of_ble_eq_true (by kernel_rfl)) (Hc (by kernel_rfl)) (fun K H gd lv pos=>⟨pos,1,Nat.le_refl _,by kernel_rfl⟩) (fun K H gd lv pos=>⟨dp5,60,Nat.le_refl _,by kernel_rfl⟩) (C5 w os) (fun K H gd lv pos=>⟨7,Nat.le_refl _,by kernel_rfl⟩)
theorem g5 (w:World)(os:OsState):segRun treeTable pr w m0 ann 1 1405 (st H4 k4 w os) (pieceOf t5 env cE p4 fr)=some (.next,st H5 k5 w os,cE,p5):=(R5 w os).piece
theorem aeF (w:World)(os:OsState):RT pr w m0 ann df cE ((1+(1+(1+(20+1))))+((1+((3+(0 * 3+0))+(0 * (1+(16+(1+(1+0))))+0)))+(1+3))) (dictSet d6 (.ref abx) aby) (st IG L4 w os) (st IH FJ w os) ():=by
 refine gb (P:=fun w=>RT pr w m0 ann df cE ((1+(1+(1+(20+1))))+((1+((3+(0 * 3+0))+(0 * (1+(16+(1+(1+0))))+0)))+(1+3))) (dictSet d6 (.ref abx) aby) (st IG L4 w os) (st IH FJ w os) ()) (fun w b=>?_) w;refine gL (h:=th (w.withFollow rw b).params "G" 3) (s1:=st IG FJ (w.withFollow rw b) os) ?_ (ff (es:=aen (w.withFollow rw b).params) (n:=abw) (fun K H gd lv pos=>⟨pos,1,Nat.le_refl _,by kernel_rfl⟩) (by kernel_rfl) ?_ (fun K H gd lv pos=>⟨pos,3,Nat.le_refl _,by kernel_rfl⟩) ?_ (fun K H gd lv pos=>⟨pos,1,Nat.le_refl _,by kernel_rfl⟩) ?_) (fun K H gd lv pos=>⟨pos,3,Nat.le_refl _,by kernel_rfl⟩)
 ·unfold pyHash pyHashByItsType;dsimp only;refine RT.bind (a:=()) (s1:=st IG L4 (w.withFollow rw b) os) (fun K H gd lv pos=>⟨pos,1,Nat.le_refl _,by kernel_rfl⟩) ?_;refine RT.bind (a:=some (.builtin "tuple.__hash__")) (s1:=st IG L4 (w.withFollow rw b) os) (fun K H gd lv pos=>⟨pos,1,Nat.le_refl _,by kernel_rfl⟩) ?_;rw[if_neg (by decide)];refine RT.bind (a:=some (.builtin "tuple.__hash__")) (s1:=st IG L4 (w.withFollow rw b) os) (fun K H gd lv pos=>⟨pos,1,Nat.le_refl _,by kernel_rfl⟩) ?_;rw[if_neg (by decide)];refine RT.bind (a:=some (.int (Builtin.Tuple.tupleHashOf [PyData.keyHash (w.withFollow rw b).params "G",hashInt 3]) (L4+2))) (s1:=st IG FJ (w.withFollow rw b) os) (fun K H gd lv pos=>⟨pos,20,(by decide:20<=20),by cases b <;> kernel_rfl⟩) ?_;exact bJ _
 ·exact aS
 ·exact aS
 ·exact aS
theorem aeG (w:World)(os:OsState):RT pr w m0 ann df cE ((1+(1+(1+(20+1))))+((1+((3+(1 * 3+0))+(1 * (1+(20+(1+(1+0))))+0)))+(1+3))) (dictSet d6 (.ref abA) abB) (st IH FJ w os) (st II FK w os) ():=by
 refine gb (P:=fun w=>RT pr w m0 ann df cE ((1+(1+(1+(20+1))))+((1+((3+(1 * 3+0))+(1 * (1+(20+(1+(1+0))))+0)))+(1+3))) (dictSet d6 (.ref abA) abB) (st IH FJ w os) (st II FK w os) ()) (fun w b=>?_) w;refine gL (h:=th (w.withFollow rw b).params "G" 2) (s1:=st IH FK (w.withFollow rw b) os) ?_ (ff (es:=aeo (w.withFollow rw b).params) (n:=abz) (fun K H gd lv pos=>⟨pos,1,Nat.le_refl _,by kernel_rfl⟩) (by kernel_rfl) ?_ (fun K H gd lv pos=>⟨pos,3,Nat.le_refl _,by kernel_rfl⟩) ?_ (fun K H gd lv pos=>⟨pos,1,Nat.le_refl _,by kernel_rfl⟩) ?_) (fun K H gd lv pos=>⟨pos,3,Nat.le_refl _,by kernel_rfl⟩)
 ·unfold pyHash pyHashByItsType;dsimp only;refine RT.bind (a:=()) (s1:=st IH FJ (w.withFollow rw b) os) (fun K H gd lv pos=>⟨pos,1,Nat.le_refl _,by kernel_rfl⟩) ?_;refine RT.bind (a:=some (.builtin "tuple.__hash__")) (s1:=st IH FJ (w.withFollow rw b) os) (fun K H gd lv pos=>⟨pos,1,Nat.le_refl _,by kernel_rfl⟩) ?_;rw[if_neg (by decide)];refine RT.bind (a:=some (.builtin "tuple.__hash__")) (s1:=st IH FJ (w.withFollow rw b) os) (fun K H gd lv pos=>⟨pos,1,Nat.le_refl _,by kernel_rfl⟩) ?_;rw[if_neg (by decide)];refine RT.bind (a:=some (.int (Builtin.Tuple.tupleHashOf [PyData.keyHash (w.withFollow rw b).params "G",hashInt 2]) (FJ+2))) (s1:=st IH FK (w.withFollow rw b) os) (fun K H gd lv pos=>⟨pos,20,(by decide:20<=20),by cases b <;> kernel_rfl⟩) ?_;exact bJ _
 ·exact(af (rfl) aS)
 ·exact(af ((fun K H gd lv pos=>⟨pos,3,Nat.le_refl _,by kernel_rfl⟩)) aS)
 ·exact(af ((fun K H gd lv pos=>⟨pos,20,(by decide:20<=20),by cases b <;> kernel_rfl⟩)) aS)
theorem aeH (w:World)(os:OsState):RT pr w m0 ann df cE ((1+(1+(1+(20+1))))+((1+((3+(2 * 3+0))+(2 * (1+(16+(1+(1+0))))+0)))+(1+3))) (dictSet d6 (.ref abD) abE) (st II FK w os) (st IJ FL w os) ():=by
 refine gb (P:=fun w=>RT pr w m0 ann df cE ((1+(1+(1+(20+1))))+((1+((3+(2 * 3+0))+(2 * (1+(16+(1+(1+0))))+0)))+(1+3))) (dictSet d6 (.ref abD) abE) (st II FK w os) (st IJ FL w os) ()) (fun w b=>?_) w;refine gL (h:=th (w.withFollow rw b).params "D" 2) (s1:=st II FL (w.withFollow rw b) os) ?_ (ff (es:=aep (w.withFollow rw b).params) (n:=abC) (fun K H gd lv pos=>⟨pos,1,Nat.le_refl _,by kernel_rfl⟩) (by kernel_rfl) ?_ (fun K H gd lv pos=>⟨pos,3,Nat.le_refl _,by kernel_rfl⟩) ?_ (fun K H gd lv pos=>⟨pos,1,Nat.le_refl _,by kernel_rfl⟩) ?_) (fun K H gd lv pos=>⟨pos,3,Nat.le_refl _,by kernel_rfl⟩)
 ·unfold pyHash pyHashByItsType;dsimp only;refine RT.bind (a:=()) (s1:=st II FK (w.withFollow rw b) os) (fun K H gd lv pos=>⟨pos,1,Nat.le_refl _,by kernel_rfl⟩) ?_;refine RT.bind (a:=some (.builtin "tuple.__hash__")) (s1:=st II FK (w.withFollow rw b) os) (fun K H gd lv pos=>⟨pos,1,Nat.le_refl _,by kernel_rfl⟩) ?_;rw[if_neg (by decide)];refine RT.bind (a:=some (.builtin "tuple.__hash__")) (s1:=st II FK (w.withFollow rw b) os) (fun K H gd lv pos=>⟨pos,1,Nat.le_refl _,by kernel_rfl⟩) ?_;rw[if_neg (by decide)];refine RT.bind (a:=some (.int (Builtin.Tuple.tupleHashOf [PyData.keyHash (w.withFollow rw b).params "D",hashInt 2]) (FK+2))) (s1:=st II FL (w.withFollow rw b) os) (fun K H gd lv pos=>⟨pos,20,(by decide:20<=20),by cases b <;> kernel_rfl⟩) ?_;exact bJ _
 ·exact(af (rfl) (af (rfl) aS))
 ·exact(af ((fun K H gd lv pos=>⟨pos,3,Nat.le_refl _,by kernel_rfl⟩)) (af ((fun K H gd lv pos=>⟨pos,3,Nat.le_refl _,by kernel_rfl⟩)) aS))
 ·exact(af ((fun K H gd lv pos=>⟨pos,16,(by decide:16<=16),by cases b <;> kernel_rfl⟩)) (af ((fun K H gd lv pos=>⟨pos,16,(by decide:16<=16),by cases b <;> kernel_rfl⟩)) aS))
theorem aeI (w:World)(os:OsState):RT pr w m0 ann df cE ((1+(1+(1+(20+1))))+((1+((3+(3 * 3+0))+(3 * (1+(16+(1+(1+0))))+0)))+(1+3))) (dictSet d6 (.ref abG) abH) (st IJ FL w os) (st Ww Rl w os) ():=by
 refine gb (P:=fun w=>RT pr w m0 ann df cE ((1+(1+(1+(20+1))))+((1+((3+(3 * 3+0))+(3 * (1+(16+(1+(1+0))))+0)))+(1+3))) (dictSet d6 (.ref abG) abH) (st IJ FL w os) (st Ww Rl w os) ()) (fun w b=>?_) w;refine gL (h:=th (w.withFollow rw b).params "R" 3) (s1:=st IJ Rl (w.withFollow rw b) os) ?_ (ff (es:=aeq (w.withFollow rw b).params) (n:=abF) (fun K H gd lv pos=>⟨pos,1,Nat.le_refl _,by kernel_rfl⟩) (by kernel_rfl) ?_ (fun K H gd lv pos=>⟨pos,3,Nat.le_refl _,by kernel_rfl⟩) ?_ (fun K H gd lv pos=>⟨pos,1,Nat.le_refl _,by kernel_rfl⟩) ?_) (fun K H gd lv pos=>⟨pos,3,Nat.le_refl _,by kernel_rfl⟩)
 ·unfold pyHash pyHashByItsType;dsimp only;refine RT.bind (a:=()) (s1:=st IJ FL (w.withFollow rw b) os) (fun K H gd lv pos=>⟨pos,1,Nat.le_refl _,by kernel_rfl⟩) ?_;refine RT.bind (a:=some (.builtin "tuple.__hash__")) (s1:=st IJ FL (w.withFollow rw b) os) (fun K H gd lv pos=>⟨pos,1,Nat.le_refl _,by kernel_rfl⟩) ?_;rw[if_neg (by decide)];refine RT.bind (a:=some (.builtin "tuple.__hash__")) (s1:=st IJ FL (w.withFollow rw b) os) (fun K H gd lv pos=>⟨pos,1,Nat.le_refl _,by kernel_rfl⟩) ?_;rw[if_neg (by decide)];refine RT.bind (a:=some (.int (Builtin.Tuple.tupleHashOf [PyData.keyHash (w.withFollow rw b).params "R",hashInt 3]) (FL+2))) (s1:=st IJ Rl (w.withFollow rw b) os) (fun K H gd lv pos=>⟨pos,20,(by decide:20<=20),by cases b <;> kernel_rfl⟩) ?_;exact bJ _
 ·exact(af (rfl) (af (rfl) (af (rfl) aS)))
 ·exact(af ((fun K H gd lv pos=>⟨pos,3,Nat.le_refl _,by kernel_rfl⟩)) (af ((fun K H gd lv pos=>⟨pos,3,Nat.le_refl _,by kernel_rfl⟩)) (af ((fun K H gd lv pos=>⟨pos,3,Nat.le_refl _,by kernel_rfl⟩)) aS)))
 ·exact(af ((fun K H gd lv pos=>⟨pos,16,(by decide:16<=16),by cases b <;> kernel_rfl⟩)) (af ((fun K H gd lv pos=>⟨pos,16,(by decide:16<=16),by cases b <;> kernel_rfl⟩)) (af ((fun K H gd lv pos=>⟨pos,16,(by decide:16<=16),by cases b <;> kernel_rfl⟩)) aS)))
theorem C6 (w:World)(os:OsState):Puts pr w m0 ann df cE d6 (((1+(1+(1+(20+1))))+((1+((3+(0 * 3+0))+(0 * (1+(16+(1+(1+0))))+0)))+(1+3)))+(((1+(1+(1+(20+1))))+((1+((3+(1 * 3+0))+(1 * (1+(20+(1+(1+0))))+0)))+(1+3)))+(((1+(1+(1+(20+1))))+((1+((3+(2 * 3+0))+(2 * (1+(16+(1+(1+0))))+0)))+(1+3)))+(((1+(1+(1+(20+1))))+((1+((3+(3 * 3+0))+(3 * (1+(16+(1+(1+0))))+0)))+(1+3)))+0)))) (st IG L4 w os) vs6 (st Ww Rl w os):=(.cons (aeF w os) (.cons (aeG w os) (.cons (aeH w os) (.cons (aeI w os) .nil))))
theorem R6 (w:World)(os:OsState):XD pr w m0 ann df cE (1+((1+((1+((24+((((1+(1+(1+(20+1))))+((1+((3+(0 * 3+0))+(0 * (1+(16+(1+(1+0))))+0)))+(1+3)))+(((1+(1+(1+(20+1))))+((1+((3+(1 * 3+0))+(1 * (1+(20+(1+(1+0))))+0)))+(1+3)))+(((1+(1+(1+(20+1))))+((1+((3+(2 * 3+0))+(2 * (1+(16+(1+(1+0))))+0)))+(1+3)))+(((1+(1+(1+(20+1))))+((1+((3+(3 * 3+0))+(3 * (1+(16+(1+(1+0))))+0)))+(1+3)))+0))))+0))+0))+0))+7)) (exec t6 env) (st H5 k5 w os) (st H6 k6 w os) .next p6 :=
 Te (d:=d6) (s1:=⟨(H5 w.params).push { cls:=.type "dict",data:=.dict #[] },#[],drawn,k5,os⟩) (s2:=st IG L4 w os) (s3:=st Ww Rl w os) (vs:=vs6) rfl rfl (Nat.le_of_ble_eq_true (by kernel_rfl)) (Hc (by kernel_rfl)) (fun K H gd lv pos=>⟨pos,1,Nat.le_refl _,by kernel_rfl⟩) (fun K H gd lv pos=>⟨dp6,24,Nat.le_refl _,by kernel_rfl⟩) (C6 w os) (fun K H gd lv pos=>⟨7,Nat.le_refl _,by kernel_rfl⟩)
theorem g6 (w:World)(os:OsState):segRun treeTable pr w m0 ann 1 299 (st H5 k5 w os) (pieceOf t6 env cE p5 fr)=some (.next,st H6 k6 w os,cE,p6):=(R6 w os).piece
theorem g7 (w:World)(os:OsState):segRun treeTable pr w m0 ann 1 n7 (st H6 k6 w os) (piecesOf s7 env cE p6 fr)=some (.next,st H7 k7 w os,cE,p7):=gb (P:=fun w=>segRun treeTable pr w m0 ann 1 n7 (st H6 k6 w os) (piecesOf s7 env cE p6 fr)=some (.next,st H7 k7 w os,cE,p7)) (fun w b=>by cases b <;> kernel_rfl) w
theorem g8 (w:World)(os:OsState):segRun treeTable pr w m0 ann 1 n8 (st H7 k7 w os) (piecesOf s8 env cE p7 fr)=some (.next,st H8 k8 w os,cE,p8):=gb (P:=fun w=>segRun treeTable pr w m0 ann 1 n8 (st H7 k7 w os) (piecesOf s8 env cE p7 fr)=some (.next,st H8 k8 w os,cE,p8)) (fun w b=>by cases b <;> kernel_rfl) w
theorem g9 (w:World)(os:OsState):segRun treeTable pr w m0 ann 1 n9 (st H8 k8 w os) (piecesOf s9 env cE p8 fr)=some (.next,st H9 k9 w os,cE,p9):=gb (P:=fun w=>segRun treeTable pr w m0 ann 1 n9 (st H8 k8 w os) (piecesOf s9 env cE p8 fr)=some (.next,st H9 k9 w os,cE,p9)) (fun w b=>by cases b <;> kernel_rfl) w
theorem g10 (w:World)(os:OsState):segRun treeTable pr w m0 ann 1 n10 (st H9 k9 w os) (piecesOf tE env cE p9 fr)=some (.next,st M3 k10 w os,cE,Ze):=gb (P:=fun w=>segRun treeTable pr w m0 ann 1 n10 (st H9 k9 w os) (piecesOf tE env cE p9 fr)=some (.next,st M3 k10 w os,cE,Ze)) (fun w b=>by cases b <;> kernel_rfl) w
theorem g11 (w:World)(os:OsState):segRun treeTable pr w m0 ann 1 y4 (st M3 k10 w os) (piecesOf y6 env cE Ze fr)=some (.next,st Zf k11 w os,cE,p11):=gb (P:=fun w=>segRun treeTable pr w m0 ann 1 y4 (st M3 k10 w os) (piecesOf y6 env cE Ze fr)=some (.next,st Zf k11 w os,cE,p11)) (fun w b=>by cases b <;> kernel_rfl) w
theorem fin (w os):topRun treeTable pr w m0 ann n12 (st Zf k11 w os) ⟨doneF .next,cE,p11,fr⟩=some (st xt k12 w os):=by kernel_rfl
theorem r11 (w:World)(os:OsState):topRun treeTable pr w m0 ann (y4+n12) (st M3 k10 w os) (restOf (y6++[]) env cE Ze fr)=some (st xt k12 w os):=piece_app (tb:=treeTable) (p:=pr) (w:=w) (n₀:=m0) (ann:=ann) (env:=env) (q:=df) (n:=y4) (N:=n12) (s:=(st M3 k10 w os)) (s':=(st Zf k11 w os)) (r:=(st xt k12 w os)) (l:=y6) (rest:=[]) (c:=cE) (pos:=Ze) (p':=p11) (g11 w os) (piece_nil (fin w os))
theorem r10 (w:World)(os:OsState):topRun treeTable pr w m0 ann (n10+(y4+n12)) (st H9 k9 w os) (restOf (tE++(y6++[])) env cE p9 fr)=some (st xt k12 w os):=piece_app (tb:=treeTable) (p:=pr) (w:=w) (n₀:=m0) (ann:=ann) (env:=env) (q:=df) (n:=n10) (N:=(y4+n12)) (s:=(st H9 k9 w os)) (s':=(st M3 k10 w os)) (r:=(st xt k12 w os)) (l:=tE) (rest:=(y6++[])) (c:=cE) (pos:=p9) (p':=Ze) (g10 w os) (r11 w os)
theorem r9 (w:World)(os:OsState):topRun treeTable pr w m0 ann (n9+(n10+(y4+n12))) (st H8 k8 w os) (restOf (s9++(tE++(y6++[]))) env cE p8 fr)=some (st xt k12 w os):=piece_app (tb:=treeTable) (p:=pr) (w:=w) (n₀:=m0) (ann:=ann) (env:=env) (q:=df) (n:=n9) (N:=(n10+(y4+n12))) (s:=(st H8 k8 w os)) (s':=(st H9 k9 w os)) (r:=(st xt k12 w os)) (l:=s9) (rest:=(tE++(y6++[]))) (c:=cE) (pos:=p8) (p':=p9) (g9 w os) (r10 w os)
theorem r8 (w:World)(os:OsState):topRun treeTable pr w m0 ann (n8+(n9+(n10+(y4+n12)))) (st H7 k7 w os) (restOf (s8++(s9++(tE++(y6++[])))) env cE p7 fr)=some (st xt k12 w os):=piece_app (tb:=treeTable) (p:=pr) (w:=w) (n₀:=m0) (ann:=ann) (env:=env) (q:=df) (n:=n8) (N:=(n9+(n10+(y4+n12)))) (s:=(st H7 k7 w os)) (s':=(st H8 k8 w os)) (r:=(st xt k12 w os)) (l:=s8) (rest:=(s9++(tE++(y6++[])))) (c:=cE) (pos:=p7) (p':=p8) (g8 w os) (r9 w os)
theorem r7 (w:World)(os:OsState):topRun treeTable pr w m0 ann (n7+(n8+(n9+(n10+(y4+n12))))) (st H6 k6 w os) (restOf (s7++(s8++(s9++(tE++(y6++[]))))) env cE p6 fr)=some (st xt k12 w os):=piece_app (tb:=treeTable) (p:=pr) (w:=w) (n₀:=m0) (ann:=ann) (env:=env) (q:=df) (n:=n7) (N:=(n8+(n9+(n10+(y4+n12))))) (s:=(st H6 k6 w os)) (s':=(st H7 k7 w os)) (r:=(st xt k12 w os)) (l:=s7) (rest:=(s8++(s9++(tE++(y6++[]))))) (c:=cE) (pos:=p6) (p':=p7) (g7 w os) (r8 w os)
theorem r6 (w:World)(os:OsState):topRun treeTable pr w m0 ann (299+(n7+(n8+(n9+(n10+(y4+n12)))))) (st H5 k5 w os) (restOf (t6::(s7++(s8++(s9++(tE++(y6++[])))))) env cE p5 fr)=some (st xt k12 w os):=piece_cons (tb:=treeTable) (p:=pr) (w:=w) (n₀:=m0) (ann:=ann) (env:=env) (q:=df) (n:=299) (N:=(n7+(n8+(n9+(n10+(y4+n12)))))) (s:=(st H5 k5 w os)) (s':=(st H6 k6 w os)) (r:=(st xt k12 w os)) (st:=t6) (rest:=(s7++(s8++(s9++(tE++(y6++[])))))) (c:=cE) (pos:=p5) (p':=p6) (g6 w os) (r7 w os)
theorem r5 (w:World)(os:OsState):topRun treeTable pr w m0 ann (1405+(299+(n7+(n8+(n9+(n10+(y4+n12))))))) (st H4 k4 w os) (restOf (t5::(t6::(s7++(s8++(s9++(tE++(y6++[]))))))) env cE p4 fr)=some (st xt k12 w os):=piece_cons (tb:=treeTable) (p:=pr) (w:=w) (n₀:=m0) (ann:=ann) (env:=env) (q:=df) (n:=1405) (N:=(299+(n7+(n8+(n9+(n10+(y4+n12))))))) (s:=(st H4 k4 w os)) (s':=(st H5 k5 w os)) (r:=(st xt k12 w os)) (st:=t5) (rest:=(t6::(s7++(s8++(s9++(tE++(y6++[]))))))) (c:=cE) (pos:=p4) (p':=p5) (g5 w os) (r6 w os)
theorem r4 (w:World)(os:OsState):topRun treeTable pr w m0 ann (n4+(1405+(299+(n7+(n8+(n9+(n10+(y4+n12)))))))) (st H3 k3 w os) (restOf (s4++(t5::(t6::(s7++(s8++(s9++(tE++(y6++[])))))))) env cE p3 fr)=some (st xt k12 w os):=piece_app (tb:=treeTable) (p:=pr) (w:=w) (n₀:=m0) (ann:=ann) (env:=env) (q:=df) (n:=n4) (N:=(1405+(299+(n7+(n8+(n9+(n10+(y4+n12)))))))) (s:=(st H3 k3 w os)) (s':=(st H4 k4 w os)) (r:=(st xt k12 w os)) (l:=s4) (rest:=(t5::(t6::(s7++(s8++(s9++(tE++(y6++[])))))))) (c:=cE) (pos:=p3) (p':=p4) (g4 w os) (r5 w os)
theorem r3 (w:World)(os:OsState):topRun treeTable pr w m0 ann (n3+(n4+(1405+(299+(n7+(n8+(n9+(n10+(y4+n12))))))))) (st H2 k2 w os) (restOf (s3++(s4++(t5::(t6::(s7++(s8++(s9++(tE++(y6++[]))))))))) env cE p2 fr)=some (st xt k12 w os):=piece_app (tb:=treeTable) (p:=pr) (w:=w) (n₀:=m0) (ann:=ann) (env:=env) (q:=df) (n:=n3) (N:=(n4+(1405+(299+(n7+(n8+(n9+(n10+(y4+n12))))))))) (s:=(st H2 k2 w os)) (s':=(st H3 k3 w os)) (r:=(st xt k12 w os)) (l:=s3) (rest:=(s4++(t5::(t6::(s7++(s8++(s9++(tE++(y6++[]))))))))) (c:=cE) (pos:=p2) (p':=p3) (g3 w os) (r4 w os)
theorem hb:pr.main.body=(s3++(s4++(t5::(t6::(s7++(s8++(s9++(tE++(y6++[]))))))))):=by kernel_rfl
theorem r2 (w:World)(os:OsState):topRun treeTable pr w m0 ann (n2+(n3+(n4+(1405+(299+(n7+(n8+(n9+(n10+(y4+n12)))))))))) (st H1 k1 w os) ⟨denote treeTable cE,cE,p1,fr⟩=some (st xt k12 w os):=piece_block (tb:=treeTable) (p:=pr) (w:=w) (n₀:=m0) (ann:=ann) (env:=env) (q:=df) (n:=n2) (N:=(n3+(n4+(1405+(299+(n7+(n8+(n9+(n10+(y4+n12)))))))))) (s:=(st H1 k1 w os)) (s':=(st H2 k2 w os)) (r:=(st xt k12 w os)) (b:=pr.main.body) (c:=cE) (pos:=p1) (p':=p2) (blk w os) ((congrArg (fun l=>topRun treeTable pr w m0 ann (n3+(n4+(1405+(299+(n7+(n8+(n9+(n10+(y4+n12))))))))) (st H2 k2 w os) (restOf l env cE p2 fr)) hb).trans (r3 w os))
theorem r1 (w:World)(os:OsState):topRun treeTable pr w m0 ann (n1+(n2+(n3+(n4+(1405+(299+(n7+(n8+(n9+(n10+(y4+n12))))))))))) ⟨boot_heap w.params,Array.mk [],boot_drawn,boot_toks,os⟩ (topStub pr)=some (st xt k12 w os):=go_top (tb:=treeTable) (p:=pr) (w:=w) (n₀:=m0) (ann:=ann) (n:=n1) (N:=n2+(n3+(n4+(1405+(299+(n7+(n8+(n9+(n10+(y4+n12)))))))))) (s:=⟨boot_heap w.params,Array.mk [],boot_drawn,boot_toks,os⟩) (s':=(st H1 k1 w os)) (r:=(st xt k12 w os)) (t:=topStub pr) (t':=⟨denote treeTable cE,cE,p1,fr⟩) (pre w os) (r2 w os)
noncomputable def view:Program:={ pr with main:={ pr.main with body:=[tp 1,tp 2,tp 3,tp 4,tp 5,tp 6,tp 8,tp 9,tp 10,tp 12,tp 13,tp 14,tp 15,tp 16,tp 17,tp 18,tp 20,tp 21,tp 22,tp 23,tp 24,tp 25,tp 26,tp 27,tp 28,tp 29,tp 31,tp 32,tp 33,tp 34,tp 35,tp 36,tp 38,tp 39,tp 40,tp 41,tp 42,tp 45,tp 46,tp 47,tp 48,tp 49,tp 50,tp 51,tp 52,tp 53,tp 54,tp 55,tp 56,tp 57,tp 58,tp 59,tp 60] } }
noncomputable def loose:List PySem.Str:=["NEXT_COUNTS","TWOFOLD_STEPS","GREAT_STEPS","begin_state","written"]
noncomputable def Wx:Addr:=198
noncomputable def T7 (P:Params):Frag:=(nat_lit 198,DH P)::Zg P
noncomputable def abM:List Addr:=198::adr
theorem fit (P:Params):abM=(T7 P).map (·.1):=by kernel_rfl
noncomputable abbrev hook:Hook:=kHook T7 abM fit
theorem X2 (P:Params):(Zg P).lookup Wx=none:=by kernel_rfl
theorem abN (P:Params)(a:Addr)(o:Obj)(h:(Zg P).lookup a=some o):(T7 P).lookup a=some o:=by
 unfold T7;rw[List.lookup_cons];cases e:a==(nat_lit 198) with
 |false=>exact h
 |true=>rw[eq_of_beq e]at h;exact absurd ((X2 P).symm.trans h) (fun z=>nomatch z)
theorem aeJ (P:Params)(h:Heap)(X:(Zg P).In h):CodeHd h 200 Wx:=⟨rM P,_,_,_,_,_,_,_,_,X 200 (rM P) (by kernel_rfl),rfl,rfl,rfl,rfl,rfl,rfl,rfl,rfl,by decide⟩
theorem aeK {P:Params}{h:Heap}{mg:PySem.Str->Option Value}(X:(Zg P).In h)(G:h.Ns mainGlobals mg):L2.LK (Zg P) mg (.ref 200) Wx:=⟨200,rfl,aeJ P,4,boot_o_4 P,mg_of X G (by kernel_rfl),by decide,by kernel_rfl,by kernel_rfl,by kernel_rfl,by kernel_rfl⟩
noncomputable def fuel:Nat:=4124
end Hd
end
namespace jY
open PySem L2
def top (i:Nat):Stmt:=PySem.Challenge.pw_noteworth_k26_whole_none_cheaper.main.body.getD i (.Pass ⟨0,0,0,0⟩)
abbrev jL:Stmt:=top 50
abbrev iH:Stmt:=top 57
abbrev lY:Stmt:=top 51
abbrev jM:Stmt:=top 52
abbrev qw:Stmt:=top 53
abbrev lZ:Stmt:=top 54
abbrev iI:Stmt:=top 55
abbrev jN:Stmt:=top 58
abbrev iJ:Stmt:=top 56
abbrev fU:Stmt:=top 9
abbrev qx:Stmt:=top 5
abbrev jO:Stmt:=top 6
abbrev a8:Stmt:=top 25
abbrev l5:Stmt:=top 23
abbrev b8:Stmt:=top 24
abbrev fV:Stmt:=top 26
abbrev dR:Stmt:=top 22
abbrev gD:Stmt:=top 28
abbrev fW:Stmt:=top 29
abbrev dS:Stmt:=top 27
abbrev xu:Stmt:=top 20
abbrev qy:Stmt:=top 33
abbrev cZ:Stmt:=top 34
abbrev dU:Stmt:=top 39
abbrev bE:Stmt:=top 40
abbrev qz:Stmt:=top 42
abbrev eY:Stmt:=top 19
abbrev dW:Stmt:=top 35
abbrev fX:Stmt:=top 36
abbrev gE:Stmt:=top 41
abbrev xw:Stmt:=top 21
abbrev jP:Stmt:=top 43
abbrev gF:Stmt:=top 45
abbrev jQ:Stmt:=top 46
abbrev gG:Stmt:=top 48
abbrev gH:Stmt:=top 47
abbrev l6:Stmt:=top 49
abbrev jR:Stmt:=top 59
abbrev HG:Stmt:=top 60
theorem NQ:aG ["_law_cell"] ["_law_cell"] (ae jL):=⟨rfl,rfl,rfl,by lk,rfl,by lk,by lk⟩
theorem la:aG ["_law_cell","_law_told","_law_k"] ["_law_cell"] (ae iH):=⟨rfl,rfl,rfl,by lk,rfl,by lk,by lk⟩
theorem jS:aG ["_law_line_here","_law_begin_here","_law_told","_law_now","_law_at","_law_kind"] ["_law_line_here","_law_begin_here"] (ae lY):=⟨rfl,rfl,rfl,by lk,rfl,by lk,by lk⟩
theorem j3:aG ["_law_line_here","_law_begin_here","_law_told","_law_now","_law_sign"] ["_law_line_here","_law_begin_here"] (ae jM):=⟨rfl,rfl,rfl,by lk,rfl,by lk,by lk⟩
theorem l8:aG ["_law_line_here","_law_told","_law_low","_law_high","_law_rest","_law_behind","_law_after","_law_left","_law_right"] ["_law_line_here","_law_told","_law_low","_law_high"] (ae qw):=⟨rfl,rfl,rfl,by lk,rfl,by lk,by lk⟩
theorem gI:aG ["_law_line_here","_law_begin_here","_law_told","_law_three_here","_law_left","_law_low","_law_high"] ["_law_line_here","_law_begin_here"] (ae lZ):=⟨rfl,rfl,rfl,by lk,rfl,by lk,by lk⟩
theorem gJ:aG ["_law_line_here","_law_begin_here","_law_k","_law_found","_law_low","_law_high"] ["_law_line_here","_law_begin_here"] (ae iI):=⟨rfl,rfl,rfl,by lk,rfl,by lk,by lk⟩
theorem fq:aG ["_law_line_here","_law_prices_here","_law_total","_law_sign","_law_cost"] ["_law_line_here","_law_prices_here"] (ae jN):=⟨rfl,rfl,rfl,by lk,rfl,by lk,by lk⟩
theorem lg:aG ["_law_line_here","_law_begin_here","_law_told","_law_sign","_law_worth"] ["_law_line_here","_law_begin_here"] (ae iJ):=⟨rfl,rfl,rfl,by lk,rfl,by lk,by lk⟩
theorem jb:aG ["sign","prices","dot","dark","measure"] ["sign","prices"] (ae fU):=⟨rfl,rfl,rfl,by lk,rfl,by lk,by lk⟩
theorem T8:aG ["sign"] ["sign"] (ae qx):=⟨rfl,rfl,rfl,by lk,rfl,by lk,by lk⟩
theorem NR:aG ["sign"] ["sign"] (ae jO):=⟨rfl,rfl,rfl,by lk,rfl,by lk,by lk⟩
theorem l9:aG ["state"] ["state"] (ae a8):=⟨rfl,rfl,rfl,by lk,rfl,by lk,by lk⟩
theorem HH:aG ["state","left","count"] ["state"] (ae l5):=⟨rfl,rfl,rfl,by lk,rfl,by lk,by lk⟩
theorem rN:aG ["state"] ["state"] (ae b8):=⟨rfl,rfl,rfl,by lk,rfl,by lk,by lk⟩
theorem FN:aG ["state","kind","worth"] ["state","kind","worth"] (ae fV):=⟨rfl,rfl,rfl,by lk,rfl,by lk,by lk⟩
theorem y7:aG ["state","kind","worth"] ["state","kind","worth"] (ae dR):=⟨rfl,rfl,rfl,by lk,rfl,by lk,by lk⟩
theorem JI:aG ["kind","count","worth"] ["kind","count","worth"] (ae gD):=⟨rfl,rfl,rfl,by lk,rfl,by lk,by lk⟩
theorem jc:aG ["state","kind","worth","count","last","left"] ["state","kind","worth"] (ae fW):=⟨rfl,rfl,rfl,by lk,rfl,by lk,by lk⟩
theorem y8:aG ["state","kind","worth"] ["state","kind","worth"] (ae dS):=⟨rfl,rfl,rfl,by lk,rfl,by lk,by lk⟩
theorem Wz:aG ["state","sign","worth"] ["state","sign","worth"] (ae xu):=⟨rfl,rfl,rfl,by lk,rfl,by lk,by lk⟩
theorem o7:aG ["state","signs","worth","prices","found","sign","cost","to"] ["state","signs","worth","prices"] (ae qy):=⟨rfl,rfl,rfl,by lk,rfl,by lk,by lk⟩
theorem xx:aG ["state","prices"] ["state","prices"] (ae cZ):=⟨rfl,rfl,rfl,by lk,rfl,by lk,by lk⟩
theorem y9:aG ["ways","state","cost","line"] ["ways","state","cost","line"] (ae dU):=⟨rfl,rfl,rfl,by lk,rfl,by lk,by lk⟩
theorem aO:aG ["ways","prices","found","again","state","cost","line","sign","more","to"] ["ways","prices"] (ae bE):=⟨rfl,rfl,rfl,by lk,rfl,by lk,by lk⟩
theorem T9:aG ["ways"] ["ways"] (ae qz):=⟨rfl,rfl,rfl,by lk,rfl,by lk,by lk⟩
theorem D1:aG ["begin"] ["begin"] (ae eY):=⟨rfl,rfl,rfl,by lk,rfl,by lk,by lk⟩
theorem za:aG ["tone"] ["tone"] (ae dW):=⟨rfl,rfl,rfl,by lk,rfl,by lk,by lk⟩
theorem lD:aG ["state","wish","prices","tone","worth"] ["state","wish","prices"] (ae fX):=⟨rfl,rfl,rfl,by lk,rfl,by lk,by lk⟩
theorem c7:aG ["ways","wish","prices","found","state","cost","line","sign","more","to"] ["ways","wish","prices"] (ae gE):=⟨rfl,rfl,rfl,by lk,rfl,by lk,by lk⟩
theorem WA:aG ["state"] ["state"] (ae xw):=⟨rfl,rfl,rfl,by lk,rfl,by lk,by lk⟩
theorem ft:aG ["wishes","prices","begin","ways","paper","wish","endings","cost","line"] ["wishes","prices","begin"] (ae jP):=⟨rfl,rfl,rfl,by lk,rfl,by lk,by lk⟩
theorem JJ:aG ["_law_script","_law_k"] ["_law_script","_law_k"] (ae gF):=⟨rfl,rfl,rfl,by lk,rfl,by lk,by lk⟩
theorem rO:aG ["_law_seed","_law_k","_law_one","_law_two"] ["_law_seed","_law_k"] (ae jQ):=⟨rfl,rfl,rfl,by lk,rfl,by lk,by lk⟩
theorem t7:aG ["_law_number","_law_kind"] ["_law_number"] (ae gG):=⟨rfl,rfl,rfl,by lk,rfl,by lk,by lk⟩
theorem gM:aG ["_law_script","_law_at","_law_many","_law_seed","_law_left","_law_row"] ["_law_script","_law_at","_law_many"] (ae gH):=⟨rfl,rfl,rfl,by lk,rfl,by lk,by lk⟩
theorem Rm:aG ["_law_script","_law_at","_law_many"] ["_law_script","_law_at","_law_many"] (ae l6):=⟨rfl,rfl,rfl,by lk,rfl,by lk,by lk⟩
theorem NS:aG ["_law_found"] ["_law_found"] (ae jR):=⟨rfl,rfl,rfl,by lk,rfl,by lk,by lk⟩
theorem gN:aG ["_law_script","_law_begin_here","_law_costs","_law_size","_law_line_here","_law_due","_law_wishes_here","_law_found","_law_more","_law_second","_law_again"] ["_law_script"] (ae HG):=⟨rfl,rfl,rfl,by lk,rfl,by lk,by lk⟩
theorem rP:(["state","cost","line","ways"]:List Str).Nodup:=by lk
theorem ua:(["kind","tone"]:List Str).Nodup:=by lk
theorem ub:(["state","way","wishes","prices","begin","ways","paper","wish","endings","cost","line"]:List Str).Nodup:=by lk
theorem D2:(["_law_k","_law_script","_law_at","_law_many","_law_seed","_law_left","_law_row"]:List Str).Nodup:=by lk
theorem L5:(["_law_number","_law_script","_law_at","_law_many"]:List Str).Nodup:=by lk
set_option genInjectivity false in
set_option genSizeOf false in
structure Adr where
 iK:Addr
 xy:FuncData
 gq:Addr
 rQ:FuncData
 j4:Addr
 D3:FuncData
 iL:Addr
 xA:FuncData
 ni:Addr
 JK:FuncData
 j5:Addr
 D4:FuncData
 gr:Addr
 rR:FuncData
 iM:Addr
 xB:FuncData
 gu:Addr
 rS:FuncData
 eC:Addr
 nj:FuncData
 nk:Addr
 JL:FuncData
 iN:Addr
 xC:FuncData
 aW:Addr
 eD:FuncData
 j6:Addr
 D5:FuncData
 bM:Addr
 gO:FuncData
 eE:Addr
 nq:FuncData
 cR:Addr
 j7:FuncData
 fu:Addr
 o8:FuncData
 eF:Addr
 nr:FuncData
 cS:Addr
 j8:FuncData
 rT:Addr
 NT:FuncData
 nt:Addr
 JM:FuncData
 cq:Addr
 jr:FuncData
 cT:Addr
 j9:FuncData
 a7:Addr
 fv:FuncData
 nu:Addr
 JN:FuncData
 dg:Addr
 jd:FuncData
 gQ:Addr
 eV:Tok
 cU:Addr
 ka:FuncData
 eI:Addr
 nv:FuncData
 fA:Addr
 o9:FuncData
 rV:Addr
 NU:FuncData
 iO:Addr
 ma:FuncData
 ny:Addr
 ji:Tok
 fB:Addr
 pb:FuncData
 iP:Addr
 xD:FuncData
 fD:Addr
 pd:FuncData
 fE:Addr
 pe:FuncData
 kb:Addr
 D6:FuncData
 iQ:Addr
 xE:FuncData
 D7:Addr
 Ua:FuncData
 dh:Addr
 cw:Addr
 cx:Addr
 bW:Addr
 eJ:Addr
 lh:Tok
 bF:Addr
 gk:Tok
 fh:Tok
 cC:Tok
 cH:Addr
 bP:Addr
 cI:Addr
 cy:Addr
 b9:Addr
 cf:Addr
 cg:Addr
 eM:Addr
 dX:Addr
 dY:Addr
 c8:Tok
 oi:Addr
structure Txt (K:Frag)(w:World)(mg:Str->Option Value)(t:Adr):Prop where
 md:lO K "_law_begin" "_law_begin" jL t.iK t.xy
 xF:Binds K t.xy ["_law_cell"] []
 NV:mg "_law_begin"=some (.ref t.iK)
 iR:lO K "_law_prices" "_law_prices" iH t.gq t.rQ
 nA:Binds K t.rQ ["_law_cell"] []
 yR:mg "_law_prices"=some (.ref t.gq)
 ph:lO K "_law_base" "_law_base" lY t.j4 t.D3
 Eb:Binds K t.D3 ["_law_line_here","_law_begin_here"] []
 Rn:mg "_law_base"=some (.ref t.j4)
 me:lO K "_law_three" "_law_three" jM t.iL t.xA
 xG:Binds K t.xA ["_law_line_here","_law_begin_here"] []
 NW:mg "_law_three"=some (.ref t.iL)
 uc:lO K "_law_run" "_law_run" qw t.ni t.JK
 JO:Binds K t.JK ["_law_line_here","_law_told","_law_low","_law_high"] []
 Ub:mg "_law_run"=some (.ref t.ni)
 mf:lO K "_law_read" "_law_read" lZ t.j5 t.D4
 ud:Binds K t.D4 ["_law_line_here","_law_begin_here"] []
 HI:mg "_law_read"=some (.ref t.j5)
 kc:lO K "_law_firmed" "_law_firmed" iI t.gr t.rR
 rW:Binds K t.rR ["_law_line_here","_law_begin_here"] []
 L6:mg "_law_firmed"=some (.ref t.gr)
 fY:lO K "_law_price" "_law_price" jN t.iM t.xB
 iS:Binds K t.xB ["_law_line_here","_law_prices_here"] []
 kd:mg "_law_price"=some (.ref t.iM)
 iT:lO K "_law_wishes" "_law_wishes" iJ t.gu t.rS
 nB:Binds K t.rS ["_law_line_here","_law_begin_here"] []
 yS:mg "_law_wishes"=some (.ref t.gu)
 gR:lO K "sign_price" "sign_price" fU t.eC t.nj
 nC:Binds K t.nj ["sign","prices"] []
 FO:mg "sign_price"=some (.ref t.eC)
 ue:lO K "small" "small" qx t.nk t.JL
 JP:Binds K t.JL ["sign"] []
 Uc:mg "small"=some (.ref t.nk)
 mh:lO K "parting" "parting" jO t.iN t.xC
 xH:Binds K t.xC ["sign"] []
 NX:mg "parting"=some (.ref t.iN)
 bN:lO K "closes_by_right_note" "closes_by_right_note" a8 t.aW t.eD
 eN:Binds K t.eD ["state"] []
 mi:mg "closes_by_right_note"=some (.ref t.aW)
 ke:lO K "closes" "closes" l5 t.j6 t.D5
 pj:Binds K t.D5 ["state"] []
 xI:mg "closes"=some (.ref t.j6)
 c9:lO K "closes_by_great" "closes_by_great" b8 t.bM t.gO
 gS:Binds K t.gO ["state"] []
 rX:mg "closes_by_great"=some (.ref t.bM)
 gT:lO K "great_step" "great_step" fV t.eE t.nq
 nD:Binds K t.nq ["state","kind","worth"] []
 FP:mg "great_step"=some (.ref t.eE)
 fF:lO K "twofold_step" "twofold_step" dR t.cR t.j7
 kg:Binds K t.j7 ["state","kind","worth"] []
 zb:mg "twofold_step"=some (.ref t.cR)
 jj:lO K "told_last" "told_last" gD t.fu t.o8
 pk:Binds K t.o8 ["kind","count","worth"] []
 JQ:mg "told_last"=some (.ref t.fu)
 gU:lO K "small_step" "small_step" fW t.eF t.nr
 nE:Binds K t.nr ["state","kind","worth"] []
 FQ:mg "small_step"=some (.ref t.eF)
 fH:lO K "parting_step" "parting_step" dS t.cS t.j8
 kh:Binds K t.j8 ["state","kind","worth"] []
 zc:mg "parting_step"=some (.ref t.cS)
 Ec:lO K "step" "step" xu t.rT t.NT
 NY:Binds K t.NT ["state","sign","worth"] []
 WB:mg "step"=some (.ref t.rT)
 qA:lO K "moves" "moves" qy t.nt t.JM
 BQ:Binds K t.JM ["state","signs","worth","prices"] []
 L7:mg "moves"=some (.ref t.nt)
 eW:lO K "parting_moves" "parting_moves" cZ t.cq t.jr
 js:Binds K t.jr ["state","prices"] []
 xJ:mg "parting_moves"=some (.ref t.cq)
 dZ:lO K "keep_cheaper" "keep_cheaper" dU t.cT t.j9
 gW:Binds K t.j9 ["ways","state","cost","line"] []
 oj:mg "keep_cheaper"=some (.ref t.cT)
 bH:lO K "with_parting_signs" "with_parting_signs" bE t.a7 t.fv
 dc:Binds K t.fv ["ways","prices"] []
 iz:mg "with_parting_signs"=some (.ref t.a7)
 qB:lO K "costs" "costs" qz t.nu t.JN
 BR:Binds K t.JN ["ways"] []
 L8:mg "costs"=some (.ref t.nu)
 eZ:Ie K "begin_state" "begin_state" eY t.dg t.jd (.ref t.gQ)
 pA:Binds K t.jd ["begin"] [.int 3 t.eV]
 lE:Binds K t.jd ["begin"] []
 Ed:mg "begin_state"=some (.ref t.dg)
 fI:lO K "wished_signs" "wished_signs" dW t.cU t.ka
 ki:Binds K t.ka ["tone"] []
 zd:mg "wished_signs"=some (.ref t.cU)
 gX:lO K "wish_moves" "wish_moves" fX t.eI t.nv
 nF:Binds K t.nv ["state","wish","prices"] []
 FR:mg "wish_moves"=some (.ref t.eI)
 jk:lO K "with_wish" "with_wish" gE t.fA t.o9
 pB:Binds K t.o9 ["ways","wish","prices"] []
 JR:mg "with_wish"=some (.ref t.fA)
 Ee:lO K "ends" "ends" xw t.rV t.NU
 NZ:Binds K t.NU ["state"] []
 WC:mg "ends"=some (.ref t.rV)
 e8:Ie K "written" "written" jP t.iO t.ma (.ref t.ny)
 rY:Binds K t.ma ["wishes","prices","begin"] [.int 3 t.ji]
 jT:Binds K t.ma ["wishes","prices","begin"] []
 kj:mg "written"=some (.ref t.iO)
 bI:lO K "_law_cell_at" "_law_cell_at" gF t.fB t.pb
 bZ:Binds K t.pb ["_law_script","_law_k"] []
 cD:mg "_law_cell_at"=some (.ref t.fB)
 iU:lO K "_law_mixed" "_law_mixed" jQ t.iP t.xD
 mj:Binds K t.xD ["_law_seed","_law_k"] []
 rZ:mg "_law_mixed"=some (.ref t.iP)
 jm:lO K "_law_sign_by" "_law_sign_by" gG t.fD t.pd
 pC:Binds K t.pd ["_law_number"] []
 JS:mg "_law_sign_by"=some (.ref t.fD)
 jn:lO K "_law_numbers" "_law_numbers" gH t.fE t.pe
 pD:Binds K t.pe ["_law_script","_law_at","_law_many"] []
 JT:mg "_law_numbers"=some (.ref t.fE)
 pE:lO K "_law_line" "_law_line" l6 t.kb t.D6
 Ef:Binds K t.D6 ["_law_script","_law_at","_law_many"] []
 Ro:mg "_law_line"=some (.ref t.kb)
 jU:lO K "_law_whole" "_law_whole" jR t.iQ t.xE
 qC:Binds K t.xE ["_law_found"] []
 Eg:mg "_law_whole"=some (.ref t.iQ)
 Qv:lO K "law" "law" HG t.D7 t.Ua
 X3:Binds K t.Ua ["_law_script"] []
 aeL:mg "law"=some (.ref t.D7)
 WD:mg "bool"=none
 WE:mg "dict"=none
 Eh:mg "int"=none
 gh:mg "isinstance"=none
 lF:mg "len"=none
 Qw:mg "list"=none
 Zh:mg "max"=none
 N1:mg "min"=none
 pG:mg "range"=none
 Ei:mg "tuple"=none
 Zi:mg "zip"=none
 FT:mg "SMALL_KINDS"=some (.ref t.dh)
 FU:∀ H,cz K H t.dh [.str "s",.str "d",.str "r"]
 ze:mg "PARTING_KINDS"=some (.ref t.cw)
 zf:∀ H,cz K H t.cw [.str ".",.str "3",.str "2"]
 zg:mg "MEASURE_KINDS"=some (.ref t.cx)
 zh:∀ H,cz K H t.cx [.str "3",.str "2"]
 xK:mg "SOUNDING_KINDS"=some (.ref t.bW)
 ml:∀ H,cz K H t.bW [.str "G",.str "D",.str "s",.str "d"]
 JU:mg "DARK_KINDS"=some (.ref t.eJ)
 JV:∀ H,cz K H t.eJ [.str "D",.str "d"]
 L9:mg "REST_TONE"=some (.int (-1) t.lh)
 mn:mg "TWOFOLD_STATES"=some (.ref t.bF)
 mq:∀ H,cz K H t.bF [.str "2-",.str "2g",.str "2G"]
 om:mg "TWOFOLD_BEGIN"=some (.str "2-" t.gk)
 lj:mg "THREEFOLD_BEGIN"=some (.str "3n0-" t.fh)
 gY:mg "SHORTENED_FROM_AHEAD"=some (.str "3t0-" t.cC)
 FV:mg "NEXT_COUNTS"=some (.ref t.cH)
 Ej:KD K w t.cH [("0",.str "1"),("1",.str "2"),("2",.str "0")]
 zi:mg "TWOFOLD_STEPS"=some (.ref t.bP)
 xM:KP K w t.bP [(("s",1),.str "2-"),(("d",1),.str "2-"),(("r",1),.str "2-"),(("D",2),.str "2-"),(("R",2),.str "2-"),(("G",2),.str "2g"),(("G",3),.str "2G"),((".",0),.str "2-"),(("2",0),.str "2-"),(("3",0),.str "3n0-")]
 FW:mg "GREAT_STEPS"=some (.ref t.cI)
 Ek:KP K w t.cI [(("G",3),.str "3w0-"),(("G",2),.str "3h0-"),(("D",2),.str "3n0-"),(("R",3),.str "3n0-")]
 zj:mg "PARTING_SIGNS"=some (.ref t.cy)
 zk:∀ H,cz K H t.cy [.ref t.b9,.ref t.cf,.ref t.cg]
 uf:∀ H,cz K H t.b9 [.str ".",.int 0]
 ug:∀ H,cz K H t.cf [.str "3",.int 0]
 uh:∀ H,cz K H t.cg [.str "2",.int 0]
 JW:mg "REST_SIGNS"=some (.ref t.eM)
 JX:∀ H,cz K H t.eM [.ref t.dX,.ref t.dY]
 El:∀ H,cz K H t.dX [.str "R",.int 0]
 Em:∀ H,cz K H t.dY [.str "r",.int 0]
 pH:mg "MOST_PARTING_SIGNS"=some (.int 2 t.c8)
 lam:LK K mg t.ma.code t.oi
def N2:Sp:=fun vs H Q _=>∃ c:Int,vs=[.int c]/\∀ b:Int,(b=3\/b=2)->Q (.int b) H
variable {P:Program} {w:World} {K:Frag} {mg:Str->Option Value} {base:Heap} {t:Adr}
theorem N3 (T:Txt K w mg t):cA P w K mg base jG (0+1) t.iK t.xy ["_law_cell"] N2:=by
 refine T.md.ok NQ (fun vs H Q E h=>?_) (fun cdv A outer s H vs Q E hr h=>?_)
 ·obtain⟨_,rfl,_⟩:=h;rfl
 ·obtain⟨c,rfl,q⟩:=h;refine aV (aq (aA (aM lr ag (iD (qk.or i7) rfl T.Eh B4 (aa (bR (a4.or (aL (az hr))) (aM fj (pv 0) ag) ag (aw _)) ao))))) ?_;tm_up;refine .inl (.inr ⟨_,rfl,?_⟩);tm_up;refine q _ ?_
  try dsimp only
  split
  ·exact .inr rfl
  ·exact .inl rfl
def N4:cW->List V:=fun c=>[lP c.1,lP c.2.1,lP c.2.2]
def Ma:Sp:=fun vs H Q _=>∃ n:Int,vs=[.int n]/\∀(c:cW)(z:Addr)(H':Hp),Wf c->ay H H'->H z=none->H' z=some (.tup (N4 c))->Q (.ref z) H'
theorem Mb (T:Txt K w mg t):cA P w K mg base jG (0+1) t.gq t.rQ ["_law_cell"] Ma:=by
 refine T.iR.ok la (fun vs H Q E h=>?_) (fun cdv A outer s H vs Q E hr h=>?_)
 ·obtain⟨_,rfl,_⟩:=h;rfl
 ·obtain⟨n,rfl,q⟩:=h;refine aV (ah (aD (i:=1) la.nd rfl (Or.inl rfl) (gm ao)) (ah (iC PassesOwn.never rfl (lR rfl T.pG (aa ag ao)) (aK (i:=2) la.nd rfl (Or.inl rfl)) (ah (c5 (jW plainAttrs_list slot_list_append type_list_append bO (pv 1) (aa (cB (lQ (au BY (aM fj (pv 0) ag) ag (aw _)) fi (aM (cN.or (aN.or cO)) (aM fj (pv 0) ag) ag))) ao))) (aq (aD (i:=0) la.nd rfl (Or.inl rfl) (aM mX (pv 0) ag))))) (aq (aA (cY (aa (aE ax (pv 1) ag (fun _ _=>rfl)) (aa (aE ax (pv 1) ag (fun _ _=>rfl)) (aa (aE ax (pv 1) ag (fun _ _=>rfl)) ao)))))))) ?_;refine⟨big (by show 0<=1000;omega),fun f hf=>?_⟩;tm_up;refine⟨by decide,by decide,qj (n:=3) (fun i σ H'=>∃(m:Int)(v:Option V)(cs:List (Option Int)),σ=[some (.int m),some (.ref f),v]/\H'=upd H f (.lst (cs.map lP))/\cs.length=i/\∀ o∈cs,∀ n,o=some n->1<=n)
   ⟨n,none,[],rfl,rfl,rfl,fun _ h=>(nomatch h)⟩ ?_ ?_⟩
  ·rintro i σ H' hi ⟨m,v,cs,rfl,rfl,hl,hb⟩;tm_up;refine⟨.inl ⟨rfl,_,a6.of ai⟩,?_⟩;refine⟨fun v H2=>(∃ o,v=lP o/\∀ n,o=some n->1<=n)/\H2=upd H f (.lst (cs.map lP)),?_,?_⟩
   ·tm_up;refine aU (fun _=>?_) (fun _=>?_)
    ·exact⟨⟨none,rfl,fun _ z=>(nomatch z)⟩,rfl⟩
    ·tm_up;exact⟨⟨some _,rfl,fun n z=>by cases z;omega⟩,rfl⟩
   ·rintro _ _ ⟨⟨o,rfl,ho⟩,rfl⟩;refine⟨_,_,_,rfl,rfl,ai,by rw[length_map];exact cK (by omega),?_⟩;tm_up;refine⟨_,_,cs++[o],rfl,by rw[qi,map_append];rfl,by simp[hl],fun x hx=>?_⟩;rcases mem_append.mp hx with z|z
    ·exact hb x z
    ·rw[mem_singleton.mp z];exact ho
  ·rintro σ H' ⟨m,v,cs,rfl,rfl,hl,hb⟩
   match cs,hl,hb with
   |[a,b,c],_,hb =>
    tm_up;refine .inl ⟨f,_,0,_,rfl,rfl,a6.of ai,rfl,?_⟩;tm_up;refine .inl ⟨f,_,1,_,rfl,rfl,a6.of ai,rfl,?_⟩;tm_up;refine .inl ⟨f,_,2,_,rfl,rfl,a6.of ai,rfl,?_⟩;refine⟨by show 3<=sizeLine;decide,fun z hz=>?_⟩;exact q (a,b,c) z _ ⟨hb a (by simp),hb b (by simp),hb c (by simp)⟩ ((ay.upd hf).trans (ay.upd hz)) ((ay.upd hf).free hz) ai
theorem Zj {k:Kd}(h:k.meas=true)(m:Int):intText? k.str=some (nm m k)/\k.str.length<=640:=by
 cases k <;> first|(cases h;done)|exact⟨by first|exact(show intText? Kd.three.str=some 3 by lk)|exact(show intText? Kd.two.str=some 2 by lk),by lk⟩
theorem abO {k:Kd}(h:¬ k.meas=true)(m:Int):nm m k=m:=by
 cases k <;> first|rfl|exact absurd rfl h
theorem Mc (k:Kd):k.meas=(decide (k=.three)||decide (k=.two)):=by cases k <;> rfl
theorem Qx (k:Kd):Ts k.str ".32" = k.parting:=by cases k <;> decide +kernel
theorem ui (k:Kd):Ts k.str "sdr"=k.small:=by cases k <;> decide +kernel
theorem WG {k:Kd}(h:k.parting=true)(m:Int)(n:Option Kd):bw m k n=0:=by cases k <;> first|(cases h;done)|(unfold bw;rw[if_neg (by rintro⟨_,z,_⟩;cases z)];rfl)
theorem Ud {k:Kd}(h:k.small=true)(m:Int)(n:Option Kd):bw m k n=1:=by cases k <;> first|(cases h;done)|(unfold bw;rw[if_neg (by rintro⟨_,z,_⟩;cases z)];rfl)
theorem aeM (m:Int)(n:Option Kd):bw m .D n=2:=by unfold bw;rw[if_neg (by rintro⟨_,z,_⟩;cases z)];rfl
theorem WH {k:Kd}{m:Int}{n:Option Kd}(hm:Ms m)(h1:k.parting=false)(h2:k.small=false)(h3:k≠.D)(h4:¬(m=2/\k=.G/\n=some .dot)):bw m k n=m:=by
 unfold bw;rw[if_neg h4];rcases hm with rfl|rfl <;> cases k <;> first|(cases h1;done)|(cases h2;done)|rfl|exact absurd rfl h3
def Rp (K:Frag):Sp:=fun vs H Q _=>∃(l:Addr)(b:Int)(xs:List V)(ss:List Sg),vs=[.ref l,.int b]/\Ms b/\a6 K H l xs/\kW K H xs ss/\ss.length<=5000 /\
 ∀(f:Addr)(H':Hp),ay H H'->H f=none->H' f=some (.lst ((aH b (a9 ss)).map V.int))->Q (.ref f) H'
theorem Rq (T:Txt K w mg t):cA P w K mg base jG (0+1) t.j4 t.D3 ["_law_line_here","_law_begin_here"] (Rp K):=by
 refine T.ph.ok jS (fun vs H Q E h=>?_) (fun cdv A outer s H vs Q E hr h=>?_)
 ·obtain⟨_,_,_,_,rfl,_⟩:=h;rfl
 ·obtain⟨l,b,xs,ss,rfl,X4,hS,hg,hn,q⟩:=h;have p62:(2:Int) ^ 62=4611686018427387904:=by decide
  refine aV (ah (aD (i:=2) jS.nd rfl (Or.inl rfl) (gm ao)) (ah (aD (i:=3) jS.nd rfl (Or.inl rfl) (pv 1)) (ah (iC PassesOwn.never rfl (lR rfl T.pG (aa (bS (bX.or bY) rfl T.lF lu (aa (pv 0) ao)) ao)) (aK (i:=4) jS.nd rfl (Or.inl rfl)) (ah (aD (i:=5) jS.nd rfl (Or.inl rfl) (aE ax (aE ax (pv 0) (pv 4) (fun _ _=>rfl)) ag (fun _ _=>rfl))) (ah (lz (aX (cj (PW.pt (kX (au (a4.or (aL (az hr))) (pv 5) aI (aw _)) (jV (au (a4.or (aL (az hr))) (pv 5) aI (aw _)))))) (aq (aD (i:=3) jS.nd rfl (Or.inl rfl) (iD (qk.or i7) rfl T.Eh B4 (aa (pv 5) ao)))) aF)) (aq (aX (au (bD.or bC) (pv 5) aI rfl) (aq (c5 (jW plainAttrs_list slot_list_append type_list_append bO (pv 2) (aa ag ao)))) (aq (aX (au (bD.or bC) (pv 5) aI rfl) (aq (c5 (jW plainAttrs_list slot_list_append type_list_append bO (pv 2) (aa ag ao)))) (aq (aX (au (a4.or (aL (az hr))) (pv 5) aI (aw _)) (aq (c5 (jW plainAttrs_list slot_list_append type_list_append bO (pv 2) (aa ag ao)))) (aq (aX (cj (PW.pt (cM (au (a4.or (aL (az hr))) (pv 3) ag (aw _)) (cM (au (a4.or (aL (az hr))) (pv 5) aI (aw _)) (cM (au oR (aM (cN.or (aN.or cO)) (pv 4) ag) (bS (bX.or bY) rfl T.lF lu (aa (pv 0) ao)) (aw _)) (fe (au (a4.or (aL (az hr))) (aE ax (aE ax (pv 0) (aM (cN.or (aN.or cO)) (pv 4) ag) (fun _ _=>rfl)) ag (fun _ _=>rfl)) aI (aw _)))))))) (aq (c5 (jW plainAttrs_list slot_list_append type_list_append bO (pv 2) (aa ag ao)))) (aq (c5 (jW plainAttrs_list slot_list_append type_list_append bO (pv 2) (aa (pv 3) ao))))))))))))))) (aq (aA (pv 2)))))) ?_;refine⟨big (by show 0<=1000;omega),fun f hf=>?_⟩;tm_up;refine .inl ⟨_,_,rfl,.inl (tM hS hf),?_⟩;rw[d4 hg];refine⟨(ss.length:Int),rfl,by rw[p62];omega,by rw[p62];omega,?_⟩;refine qj (n:=((ss.length:Int)).toNat) (fun i σ H'=>∃(m:Int)(v w:Option V)(fs:List Int),σ=[some (.ref l),some (.int b),some (.ref f),some (.int m),v,w]/\Ms m/\H'=upd H f (.lst (fs.map V.int))/\fs++aH m ((a9 ss).drop i)=aH b (a9 ss))
   ⟨b,none,none,[],rfl,X4,rfl,rfl⟩ ?_ ?_
  ·rintro i σ H' hi ⟨m,v,w,fs,rfl,hm3,rfl,hm⟩;have hil:i<ss.length:=by omega
   have hd:=qm (wb (f:=Prod.fst) (getElem?_eq_getElem hil));rw[hd]at hm;have hS':a6 K (upd H f (.lst (fs.map V.int))) l xs:=tM hS hf;have hg':kW K (upd H f (.lst (fs.map V.int))) xs ss:=hg.same (ay.upd hf);have hl:=congrArg List.length hm;simp only [length_append,aH,length_cons,cL,length_map]at hl;simp only [aH,head_drop]at hm;tm_up;refine Cp hS' hg' (n:=i) (by omega) (getElem?_eq_getElem hil) fun p hp=>?_;generalize hk:(ss[i]).1=k at hm hp;tm_up;refine Nl [some (.ref l),some (.int b),some (.ref f),some (.int (nm m k)),some (.int (0+(i:Int))),some (.str k.str)] (upd H f (.lst (fs.map V.int))) ?_ ?_
   ·refine lB k.meas ?_ ?_
    ·tm_up;rw[Qa];refine aU (fun h=>?_) (fun h=>?_)
     ·exact eU (by rw[Mc,h];rfl)
     ·tm_up;rw[XH];exact eU (by rw[Mc,Bool.eq_false_iff.mpr h];rfl)
    refine aU (fun h=>?_) (fun h=>?_)
    ·obtain⟨e1,e2⟩:=Zj h m;tm_up;exact .inr ⟨_,_,rfl,e1,e2,rfl,rfl⟩
    ·rw[abO h];exact⟨rfl,rfl⟩
   have hm4:=hm3.nm k;have fin:∀(z:Int),z=bw (nm m k) k (a9 ss)[i+1]?->∃(m':Int)(v w:Option V)(fs':List Int),[some (V.ref l),some (V.int b),some (V.ref f),some (V.int (nm m k)),some (V.int (0+(i:Int))),some (V.str k.str)]=[some (.ref l),some (.int b),some (.ref f),some (.int m'),v,w]/\Ms m'/\upd (upd H f (.lst (fs.map V.int))) f (.lst (fs.map V.int++[V.int z]))=upd H f (.lst (fs'.map V.int))/\fs'++aH m' ((a9 ss).drop (i+1))=aH b (a9 ss):=by
    intro z hz;exact⟨nm m k,_,_,fs++[z],rfl,hm4,by rw[qi,map_append];rfl,by rw[List.append_assoc,hz];exact hm⟩
   tm_up;refine aU (fun h=>?_) (fun h=>?_)
   ·have h':k.parting=true:=by rw[<-Qx];exact h
    tm_up;refine⟨.inl ⟨rfl,_,a6.of ai⟩,?_⟩;refine⟨_,_,_,rfl,rfl,ai,by rw[length_map];exact eX (by omega),fin 0 (WG h' ..).symm⟩
   ·have h1:k.parting=false:=by rw[<-Qx];exact Bool.eq_false_iff.mpr h
    tm_up;refine aU (fun h=>?_) (fun h=>?_)
    ·have h':k.small=true:=by rw[<-ui];exact h
     tm_up;refine⟨.inl ⟨rfl,_,a6.of ai⟩,?_⟩;refine⟨_,_,_,rfl,rfl,ai,by rw[length_map];exact eX (by omega),fin 1 (Ud h' ..).symm⟩
    ·have h2:k.small=false:=by rw[<-ui];exact Bool.eq_false_iff.mpr h
     tm_up;rw[k_D];refine aU (fun h=>?_) (fun h=>?_)
     ·have h':k=.D:=of_decide_eq_true h;tm_up;refine⟨.inl ⟨rfl,_,a6.of ai⟩,?_⟩;refine⟨_,_,_,rfl,rfl,ai,by rw[length_map];exact eX (by omega),fin 2 (by rw[h'];exact(aeM ..).symm)⟩
     ·have h3:k≠.D:=fun z=>h (decide_eq_true z);refine lB (decide (nm m k=2/\k=.G/\(a9 ss)[i+1]? = some .dot)) ?_ ?_
      ·tm_up;rw[oW];refine aU (fun h=>?_) (fun h=>?_)
       ·have e1:=of_decide_eq_true h;tm_up;rw[k_G];refine aU (fun h=>?_) (fun h=>?_)
        ·have e2:=of_decide_eq_true h;tm_up;refine .inl ⟨_,_,rfl,.inl hS',?_⟩;rw[d4 hg];tm_up;refine aU (fun h=>?_) (fun h=>?_)
         ·have hlt:i+1<ss.length:=by have:=of_decide_eq_true h;omega
          tm_up;refine Cp hS' hg' (n:=i+1) (by omega) (getElem?_eq_getElem hlt) fun p2 hp2=>?_;tm_up;rw[Tt];refine eU ?_;have e3:(a9 ss)[i+1]? = some (ss[i+1]).1:=wb (getElem?_eq_getElem hlt);rw[e3];subst e2;simp[e1]
         ·refine eU ?_;have e3:(a9 ss)[i+1]? = none:=List.getElem?_eq_none (by rw[length_map];have:¬(0+(i:Int)+1<ss.length):=fun z=>h (decide_eq_true z);omega);rw[e3];simp
        ·refine eU ?_;have e2:k≠.G:=fun z=>h (decide_eq_true z);simp[e2]
       ·refine eU ?_;have e1:nm m k≠2:=fun z=>h (decide_eq_true z);simp[e1]
      ·refine aU (fun h=>?_) (fun h=>?_)
       ·have h':=of_decide_eq_true h;tm_up;refine⟨.inl ⟨rfl,_,a6.of ai⟩,?_⟩;refine⟨_,_,_,rfl,rfl,ai,by rw[length_map];exact eX (by omega),fin 3 (by unfold bw;rw[if_pos h'])⟩
       ·have h':¬(nm m k=2/\k=.G/\(a9 ss)[i+1]? = some .dot):=fun z=>h (decide_eq_true z);tm_up;refine⟨.inl ⟨rfl,_,a6.of ai⟩,?_⟩;tm_up;refine⟨_,_,_,rfl,rfl,ai,by rw[length_map];exact eX (by omega),fin _ (WH hm4 h1 h2 h3 h').symm⟩
  ·rintro σ H' ⟨m,v,w,fs,rfl,_,rfl,hm⟩;have e0:((ss.length:Int)).toNat=ss.length:=by omega
   rw[e0,List.drop_eq_nil_of_le (by rw[length_map];exact Nat.le_refl _)]at hm;tm_up;have e:fs=aH b (a9 ss):=by rw[<-hm];simp[aH]
   subst e;exact q f _ (ay.upd hf) hf ai
def N5 (K:Frag):Sp:=fun vs H Q _=>∃(l:Addr)(b:Int)(xs:List V)(ss:List Sg),vs=[.ref l,.int b]/\a6 K H l xs/\kW K H xs ss/\ss.length<=5000 /\
 ∀(f:Addr)(H':Hp),ay H H'->H f=none->H' f=some (.lst ((gp b (a9 ss)).map V.bl))->Q (.ref f) H'
theorem abQ {k:Kd}(h:k.meas=true)(m:Int):intText? k.str=some (nm m k)/\k.str.length<=640:=by
 cases k <;> first|(cases h;done)|exact⟨by first|exact(show intText? Kd.three.str=some 3 by lk)|exact(show intText? Kd.two.str=some 2 by lk),by lk⟩
theorem aeN {k:Kd}(h:¬ k.meas=true)(m:Int):nm m k=m:=by
 cases k <;> first|rfl|exact absurd rfl h
theorem Qy (k:Kd):k.meas=(decide (k=.three)||decide (k=.two)):=by cases k <;> rfl
theorem N6 (T:Txt K w mg t):cA P w K mg base jG (0+1) t.iL t.xA ["_law_line_here","_law_begin_here"] (N5 K):=by
 refine T.me.ok j3 (fun vs H Q E h=>?_) (fun cdv A outer s H vs Q E hr h=>?_)
 ·obtain⟨_,_,_,_,rfl,_⟩:=h;rfl
 ·obtain⟨l,b,xs,ss,rfl,hS,hg,hn,q⟩:=h;refine aV (ah (aD (i:=2) j3.nd rfl (Or.inl rfl) (gm ao)) (ah (aD (i:=3) j3.nd rfl (Or.inl rfl) (pv 1)) (ah (iC PassesOwn.never rfl (mV (pv 0)) (aK (i:=4) j3.nd rfl (Or.inl rfl)) (ah (lz (aX (cj (PW.pt (kX (au (a4.or (aL (az hr))) (aE ax (pv 4) ag (fun _ _=>rfl)) aI (aw _)) (jV (au (a4.or (aL (az hr))) (aE ax (pv 4) ag (fun _ _=>rfl)) aI (aw _)))))) (aq (aD (i:=3) j3.nd rfl (Or.inl rfl) (iD (qk.or i7) rfl T.Eh B4 (aa (aE ax (pv 4) ag (fun _ _=>rfl)) ao)))) aF)) (aq (c5 (jW plainAttrs_list slot_list_append type_list_append bO (pv 2) (aa (bR (a4.or (aL (az hr))) (pv 3) ag (aw _)) ao)))))) (aq (aA (pv 2)))))) ?_;refine⟨big (by show 0<=1000;omega),fun f hf=>?_⟩;tm_up;refine⟨⟨xs,tM hS hf⟩,lT (K:=K) (xs:=xs) (fun i σ H'=>∃(m:Int)(v:Option V)(fs:List Bool),σ=[some (.ref l),some (.int b),some (.ref f),some (.int m),v]/\H'=upd H f (.lst (fs.map V.bl))/\fs++gp m ((a9 ss).drop i)=gp b (a9 ss))
   ⟨b,none,[],rfl,rfl,rfl⟩ ?_ ?_ ?_⟩
  ·rintro i σ H' _ ⟨m,v,fs,rfl,rfl,_⟩;exact tM hS hf
  ·rintro i x σ H' hx ⟨m,v,fs,rfl,rfl,hm⟩;obtain⟨s,hs,p,rfl,hp⟩:=qX hg hx;have hd:=qm (wb (f:=Prod.fst) hs);rw[hd]at hm;have hp':XZ K (upd H f (.lst (fs.map V.bl))) p s.1 s.2:=hp.same (ay.upd hf);have hl:=congrArg List.length hm;simp only [length_append,gp,length_cons,Nz,length_map]at hl;refine Nl [some (.ref l),some (.int b),some (.ref f),some (.int (nm m s.1)),some (.ref p)] (upd H f (.lst (fs.map V.bl))) ?_ ?_
   ·refine lB s.1.meas ?_ ?_
    ·tm_up;rw[Qa];refine aU (fun h=>?_) (fun h=>?_)
     ·exact eU (by rw[Qy,h];rfl)
     ·tm_up;rw[XH];exact eU (by rw[Qy,Bool.eq_false_iff.mpr h];rfl)
    refine aU (fun h=>?_) (fun h=>?_)
    ·obtain⟨e1,e2⟩:=abQ h m;tm_up;exact .inr ⟨_,_,rfl,e1,e2,rfl,rfl⟩
    ·rw[aeN h];exact⟨rfl,rfl⟩
   ·tm_up;refine⟨.inl ⟨rfl,_,a6.of ai⟩,?_⟩;tm_up;rw[oW];refine⟨_,_,_,rfl,rfl,ai,by rw[length_map];exact eX (by omega),?_⟩;exact⟨_,_,fs++[decide (nm m s.1=3)],rfl,by rw[qi,map_append];rfl,by rw[List.append_assoc];exact hm⟩
  ·rintro σ H' ⟨m,v,fs,rfl,rfl,hm⟩;rw[List.drop_eq_nil_of_le (by rw[length_map,d4 hg];exact Nat.le_refl _)]at hm;tm_up;have e:fs=gp b (a9 ss):=by rw[<-hm];simp[gp]
   subst e;exact q f _ (ay.upd hf) hf ai
def aeO (K:Frag)(g:List Kd->List Int->Nat->Nat->Bool×List Int):Sp:=fun vs H Q _=>∃(l f:Addr)(a z:Nat)(xs:List V)(ss:List Sg)(fs:List Int),vs=[.ref l,.ref f,.int (a:Int),.int (z:Int)]/\a6 K H l xs/\kW K H xs ss/\l≠f/\H f=some (.lst (fs.map V.int))/\fs.length=ss.length/\a<z/\z<=ss.length /\
 Q (.bl (g (a9 ss) fs a z).1) (upd H f (.lst ((g (a9 ss) fs a z).2.map V.int)))
theorem En (k:Kd):Ts k.str "GDR"=k.great:=by cases k <;> decide +kernel
theorem xN (o:Option Kd):(o.getD .dot).great=eA o:=by cases o <;> rfl
theorem aeP (o:Option Kd):decide (o.getD .dot=.G)=decide (o=some .G):=by
 cases o with
 |none=>decide
 |some k=>simp
theorem Rr {ks:List Kd}{f:List Int}{a z:Nat}{r:Nat}(hr:(z-a) % 3=r)(hr3:r<3) :
  settle ks f a z=if decide (r=2)&&(eA ks[z]? && decide (ks[z-1]? = some .s)) then(true,f.set (z-1) 2) else
   (decide (r=0)||((decide (r=1)&&(bA ks f a||bQ ks z))||(decide (r=2)&&(bA ks f a&&bQ ks z))),
    let g:=if(decide (r=1)&&bA ks f a)||(decide (r=2)&&(bA ks f a&&bQ ks z)) then f.set (a-1) 2 else f
    if(decide (r=1)&&(bQ ks z && !bA ks f a))||(decide (r=2)&&(bA ks f a&&bQ ks z)) then g.set z 2 else g):=by
 unfold settle i9 ja;rw[hr];have:r=0\/r=1\/r=2:=by omega
 rcases this with rfl|rfl|rfl <;> cases bA ks f a <;> cases bQ ks z <;> cases eA ks[z]? <;> cases decide (ks[z-1]? = some .s) <;> rfl
theorem Ue (T:Txt K w mg t):cA P w K mg base jG (0+1) t.ni t.JK ["_law_line_here","_law_told","_law_low","_law_high"] (aeO K settle):=by
 refine T.uc.ok l8 (fun vs H Q E h=>?_) (fun cdv A outer s H vs Q E hr h=>?_)
 ·obtain⟨_,_,_,_,_,_,_,rfl,_⟩:=h;rfl
 ·obtain⟨l,f,a,z,xs,ss,fs,rfl,hS,hg,hlf,hf,hl,haz,hz,q⟩:=h;obtain⟨r,hrr⟩:∃ r:Nat,(z-a) % 3=r:=⟨_,rfl⟩;have hr3:r<3:=by omega
  rw[Rr hrr hr3]at q;have hri:((z:Int)-(a:Int)) % 3=(r:Int):=by omega
  have dI:∀ n:Nat,decide (V.int (((z:Int)-(a:Int)) % 3)=V.int (n:Int))=decide (r=n):=fun n=>by
   rw[hri,oW]
   by_cases e:r=n
   ·simp[e]
   ·have:¬((r:Int)=(n:Int)):=by omega
    simp[e,this]
  have d0:decide (V.int (((z:Int)-(a:Int)) % 3)=V.int 0)=decide (r=0):=dI 0;have d1:decide (V.int (((z:Int)-(a:Int)) % 3)=V.int 1)=decide (r=1):=dI 1;have d2:decide (V.int (((z:Int)-(a:Int)) % 3)=V.int 2)=decide (r=2):=dI 2;refine aV (ah (aD (i:=4) l8.nd rfl (Or.inl rfl) (aM fj (aM lr (pv 3) (pv 2)) ag)) (ah (aD (i:=5) l8.nd rfl (Or.inl rfl) (cB (lQ (au oR (pv 3) (bS (bX.or bY) rfl T.lF lu (aa (pv 0) ao)) (aw _)) (aE ax (aE ax (pv 0) (pv 3) (fun _ _=>rfl)) ag (fun _ _=>rfl)) aI))) (ah (aD (i:=6) l8.nd rfl (Or.inl rfl) (cB (lQ (au oR (aM (cN.or (aN.or cO)) (pv 3) ag) (bS (bX.or bY) rfl T.lF lu (aa (pv 0) ao)) (aw _)) (aE ax (aE ax (pv 0) (aM (cN.or (aN.or cO)) (pv 3) ag) (fun _ _=>rfl)) ag (fun _ _=>rfl)) aI))) (ah (aD (i:=7) l8.nd rfl (Or.inl rfl) (cB (mU (bR BY (pv 2) ag (aw _)) (mU (bR (a4.or (aL (az hr))) (aE ax (aE ax (pv 0) (aM lr (pv 2) ag) (fun _ _=>rfl)) ag (fun _ _=>rfl)) aI (aw _)) (e9 (bR (a4.or (aL (az hr))) (aE ax (pv 1) (aM lr (pv 2) ag) (fun _ _=>rfl)) ag (aw _))))))) (ah (aD (i:=8) l8.nd rfl (Or.inl rfl) (cB (mU (bR (a4.or (aL (az hr))) (pv 5) aI (aw _)) (e9 (bR (HZ.or Ia) (pv 6) aI rfl))))) (ah (aX (cj (PW.pt (cM (au (a4.or (aL (az hr))) (pv 4) ag (aw _)) (cM (au (bD.or bC) (pv 5) aI rfl) (fe (au (a4.or (aL (az hr))) (aE ax (aE ax (pv 0) (aM lr (pv 3) ag) (fun _ _=>rfl)) ag (fun _ _=>rfl)) aI (aw _))))))) (ah (oP ag (M5 (pv 1) (aM lr (pv 3) ag) set_list)) (aq (aA Lq))) aF) (ah (lz (aX (cj (PW.pt (kX (cj (PW.pt (cM (au (a4.or (aL (az hr))) (pv 4) ag (aw _)) (fe (de (pv 7)))))) (jV (cj (PW.pt (cM (au (a4.or (aL (az hr))) (pv 4) ag (aw _)) (cM (de (pv 7)) (fe (de (pv 8))))))))))) (aq (oP ag (M5 (pv 1) (aM lr (pv 2) ag) set_list))) aF)) (ah (lz (aX (cj (PW.pt (kX (cj (PW.pt (cM (au (a4.or (aL (az hr))) (pv 4) ag (aw _)) (cM (de (pv 8)) (fe (oN (de (pv 7)))))))) (jV (cj (PW.pt (cM (au (a4.or (aL (az hr))) (pv 4) ag (aw _)) (cM (de (pv 7)) (fe (de (pv 8))))))))))) (aq (oP ag (M5 (pv 1) (pv 3) set_list))) aF)) (aq (aA (cB (Sv (bR (a4.or (aL (az hr))) (pv 4) ag (aw _)) (Sv (cB (mU (bR (a4.or (aL (az hr))) (pv 4) ag (aw _)) (e9 (cB (Sv (pv 7) (e9 (pv 8))))))) (e9 (cB (mU (bR (a4.or (aL (az hr))) (pv 4) ag (aw _)) (mU (pv 7) (e9 (pv 8))))))))))))))))))) ?_;tm_up;refine lA (.str ((a9 ss)[z]?.getD .dot).str) ?_ ?_
  ·tm_up;refine .inl ⟨_,_,rfl,.inl hS,?_⟩;rw[d4 hg];tm_up;refine aU (fun h=>?_) (fun h=>?_)
   ·have hlt:z<ss.length:=by have:=of_decide_eq_true h;omega
    tm_up;refine Cp hS hg (n:=z) rfl (getElem?_eq_getElem hlt) fun p hp=>?_;tm_up;refine jf ?_;rw[getElem?_map,getElem?_eq_getElem hlt];rfl
   ·refine jf ?_;have hge:¬ z<ss.length:=fun c=>h (decide_eq_true (by omega));rw[List.getElem?_eq_none (by rw[length_map];omega)];rfl
  refine lA (.str ((a9 ss)[z+1]?.getD .dot).str) ?_ ?_
  ·tm_up;refine .inl ⟨_,_,rfl,.inl hS,?_⟩;rw[d4 hg];tm_up;refine aU (fun h=>?_) (fun h=>?_)
   ·have hlt:z+1<ss.length:=by have:=of_decide_eq_true h;omega
    tm_up;refine Cp hS hg (n:=z+1) (by omega) (getElem?_eq_getElem hlt) fun p hp=>?_;tm_up;refine jf ?_;rw[getElem?_map,getElem?_eq_getElem hlt];rfl
   ·refine jf ?_;have hge:¬ z+1<ss.length:=fun c=>h (decide_eq_true (by omega));rw[List.getElem?_eq_none (by rw[length_map];omega)];rfl
  refine lA (.bl (bA (a9 ss) fs a)) ?_ ?_
  ·tm_up;refine aU (fun h=>?_) (fun h=>?_)
   ·have hp:0<a:=by have:=of_decide_eq_true h;omega
    have hlt:a-1<ss.length:=by omega
    have ek:Sk (a9 ss) ((a:Int)-1)=some (ss[a-1]).1:=by
     have:(a:Int)-1=((a-1:Nat):Int):=by omega
     rw[this,V0,getElem?_map,getElem?_eq_getElem hlt];rfl
    tm_up;refine Cp hS hg (n:=a-1) (by omega) (getElem?_eq_getElem hlt) fun p hp=>?_;tm_up;rw[k_G];refine aU (fun h2=>?_) (fun h2=>?_)
    ·tm_up;refine adW (a6.of hf) (n:=a-1) (by omega) (getElem?_eq_getElem (by omega)) ?_;tm_up;rw[oW];refine jf ?_;unfold bA;rw[ek,of_decide_eq_true h2,List.getD_eq_getElem?_getD,getElem?_eq_getElem (by omega)];simp
    ·refine jf ?_;unfold bA;rw[ek];have:(ss[a-1]).1≠.G:=fun c=>h2 (decide_eq_true c);simp[this]
   ·refine jf ?_;have hp:a=0:=by
     have:¬ 0<a:=fun c=>h (decide_eq_true (by omega));omega
    subst hp;unfold bA Sk;simp
  refine lA (.bl (bQ (a9 ss) z)) ?_ ?_
  ·tm_up;rw[k_G,aeP];refine aU (fun h=>?_) (fun h=>?_)
   ·tm_up;refine jf ?_;unfold bQ;rw[h];show V.bl (!Ts _ _)=_;rw[En,xN];rfl
   ·refine jf ?_;unfold bQ;rw[Bool.eq_false_iff.mpr h];rfl
  generalize hL:bA (a9 ss) fs a=L at q;generalize hR:bQ (a9 ss) z=R at q;refine lB (decide (r=2)&&(eA (a9 ss)[z]? && decide ((a9 ss)[z-1]? = some .s))) ?_ ?_
  ·tm_up;rw[d2];refine aU (fun h=>?_) (fun h=>?_)
   ·rw[h];tm_up;refine aU (fun h2=>?_) (fun h2=>?_)
    ·have h2':eA (a9 ss)[z]? = true:=by
      have:Ts ((a9 ss)[z]?.getD .dot).str "GDR"=true:=h2
      rwa [En,xN]at this
     rw[h2'];tm_up;have hlt:z-1<ss.length:=by omega
     refine Cp hS hg (n:=z-1) (by omega) (getElem?_eq_getElem hlt) fun p hp=>?_;tm_up;rw[k_s];refine eU ?_;rw[getElem?_map,getElem?_eq_getElem hlt];simp
    ·have h2':eA (a9 ss)[z]? = false:=by
      have:Ts ((a9 ss)[z]?.getD .dot).str "GDR"=false:=Bool.eq_false_iff.mpr h2
      rwa [En,xN]at this
     rw[h2'];exact eU rfl
   ·exact eU (by rw[Bool.eq_false_iff.mpr h];rfl)
  refine aU (fun h=>?_) (fun h=>?_)
  ·rw[if_pos h]at q;tm_up;refine⟨_,_,_,_,rfl,rfl,hf,Ij (j:=z-1) (by omega) (by rw[length_map];omega),?_⟩;rw[Ik];exact q
  ·rw[if_neg h]at q;dsimp only at q;have hLp:L=true->1<=a/\a-1<ss.length:=fun e=>by
    have:=wa (hL.trans e)
    rwa [length_map]at this
   have hRp:R=true->z<ss.length:=fun e=>by
    have:=Ny (hR.trans e)
    rwa [length_map]at this
   generalize hg1:(if(decide (r=1)&&L||decide (r=2)&&(L&&R))=true then fs.set (a-1) 2 else fs)=g1 at q;have g1l:g1.length=ss.length:=by rw[<-hg1];split <;> simp[hl]
   refine Nl [some (.ref l),some (.ref f),some (.int (a:Int)),some (.int (z:Int)),some (.int (((z:Int)-(a:Int)) % 3)),some (.str ((a9 ss)[z]?.getD .dot).str),some (.str ((a9 ss)[z+1]?.getD .dot).str),some (.bl L),some (.bl R)] (upd H f (.lst (g1.map V.int))) ?_ ?_
   ·refine lB (decide (r=1)&&L||decide (r=2)&&(L&&R)) ?_ ?_
    ·refine lB (decide (r=1)&&L) ?_ ?_
     ·tm_up;rw[d1];refine aU (fun h=>?_) (fun h=>?_)
      ·tm_up;exact eU (by rw[h];rfl)
      ·exact eU (by rw[Bool.eq_false_iff.mpr h];rfl)
     ·refine aU (fun h=>eU (by rw[h];rfl)) (fun h=>?_);rw[Bool.eq_false_iff.mpr h,Bool.false_or];refine lB (decide (r=2)&&(L&&R)) ?_ (eU rfl);tm_up;rw[d2];refine aU (fun h=>?_) (fun h=>?_)
      ·tm_up;refine aU (fun h2=>?_) (fun h2=>?_)
       ·tm_up;exact eU (by rw[h,h2];rfl)
       ·exact eU (by rw[h,Bool.eq_false_iff.mpr h2];rfl)
      ·exact eU (by rw[Bool.eq_false_iff.mpr h];rfl)
    ·refine aU (fun h=>?_) (fun h=>?_)
     ·rw[if_pos h]at hg1;have hp:=hLp (by cases L <;> simp_all);tm_up;refine⟨_,_,_,_,rfl,rfl,hf,Ij (j:=a-1) (by omega) (by rw[length_map];omega),?_⟩;rw[Ik,hg1];exact⟨rfl,rfl⟩
     ·rw[if_neg h]at hg1;subst hg1;rw[TB hf];exact⟨rfl,rfl⟩
   generalize hg2:(if(decide (r=1)&&(R && !L)||decide (r=2)&&(L&&R))=true then g1.set z 2 else g1)=g2 at q;refine Nl [some (.ref l),some (.ref f),some (.int (a:Int)),some (.int (z:Int)),some (.int (((z:Int)-(a:Int)) % 3)),some (.str ((a9 ss)[z]?.getD .dot).str),some (.str ((a9 ss)[z+1]?.getD .dot).str),some (.bl L),some (.bl R)] (upd H f (.lst (g2.map V.int))) ?_ ?_
   ·refine lB (decide (r=1)&&(R && !L)||decide (r=2)&&(L&&R)) ?_ ?_
    ·refine lB (decide (r=1)&&(R && !L)) ?_ ?_
     ·tm_up;rw[d1];refine aU (fun h=>?_) (fun h=>?_)
      ·tm_up;refine aU (fun h2=>?_) (fun h2=>?_)
       ·tm_up;exact eU (by rw[h,h2];rfl)
       ·exact eU (by rw[h,Bool.eq_false_iff.mpr h2];rfl)
      ·exact eU (by rw[Bool.eq_false_iff.mpr h];rfl)
     ·refine aU (fun h=>eU (by rw[h];rfl)) (fun h=>?_);rw[Bool.eq_false_iff.mpr h,Bool.false_or];refine lB (decide (r=2)&&(L&&R)) ?_ (eU rfl);tm_up;rw[d2];refine aU (fun h=>?_) (fun h=>?_)
      ·tm_up;refine aU (fun h2=>?_) (fun h2=>?_)
       ·tm_up;exact eU (by rw[h,h2];rfl)
       ·exact eU (by rw[h,Bool.eq_false_iff.mpr h2];rfl)
      ·exact eU (by rw[Bool.eq_false_iff.mpr h];rfl)
    ·refine aU (fun h=>?_) (fun h=>?_)
     ·rw[if_pos h]at hg2;have hp:=hRp (by cases R <;> simp_all);tm_up;refine⟨_,_,_,_,rfl,rfl,ai,Ij (j:=z) rfl (by rw[length_map];omega),?_⟩;rw[Ik,hg2,qi];exact⟨rfl,rfl⟩
     ·rw[if_neg h]at hg2;subst hg2;exact⟨rfl,rfl⟩
   refine lA (.bl (decide (r=0)||(decide (r=1)&&(L||R)||decide (r=2)&&(L&&R)))) ?_ q;tm_up;rw[d0];refine aU (fun h=>jf (by rw[h];rfl)) (fun h=>?_);rw[Bool.eq_false_iff.mpr h,Bool.false_or];refine lA (.bl (decide (r=1)&&(L||R))) ?_ ?_
   ·tm_up;rw[d1];refine aU (fun h=>?_) (fun h=>jf (by rw[Bool.eq_false_iff.mpr h];rfl));refine lA (.bl (L||R)) ?_ (jf (by rw[h];rfl));tm_up;refine aU (fun h=>jf (by rw[h];rfl)) (fun h=>?_);tm_up;exact jf (by rw[Bool.eq_false_iff.mpr h];rfl)
   ·refine⟨_,rfl,?_⟩;refine aU (fun h=>jf (by rw[h];rfl)) (fun h=>?_);rw[Bool.eq_false_iff.mpr h,Bool.false_or];refine lA (.bl (decide (r=2)&&(L&&R))) ?_ (jf rfl);tm_up;rw[d2];refine aU (fun h=>?_) (fun h=>jf (by rw[Bool.eq_false_iff.mpr h];rfl));tm_up;refine aU (fun h2=>?_) (fun h2=>?_)
    ·tm_up;exact jf (by rw[h,h2];rfl)
    ·exact jf (by rw[h,Bool.eq_false_iff.mpr h2];rfl)
def Rt (K:Frag):Sp:=fun vs H Q _=>∃(l:Addr)(b:Int)(xs:List V)(ss:List Sg),vs=[.ref l,.int b]/\Ms b/\H l=some (.lst xs)/\kW K H xs ss/\ss.length<=5000 /\
 ∀(p f lo:Addr)(ys:List V)(H':Hp),ay H H'->H f=none->H lo=none->f≠lo->H' p=some (.tup [.ref f,.ref lo])->H' f=some (.lst ((b7 b (a9 ss)).1.map V.int))->H' lo=some (.lst ys)->XN H' ys (b7 b (a9 ss)).2->Q (.ref p) H'
theorem HJ (T:Txt K w mg t):cA P w K mg base jG (0+2) t.j5 t.D4 ["_law_line_here","_law_begin_here"] (Rt K):=by
 have Ug:=Rq (P:=P) (base:=base) T;have Ru:=N6 (P:=P) (base:=base) T;have WI:=Ue (P:=P) (base:=base) T;refine T.mf.ok gI (fun vs H Q E h=>?_) (fun cdv A outer s H vs Q E hr h=>?_)
 ·obtain⟨_,_,_,_,rfl,_⟩:=h;rfl
 ·obtain⟨l,b,xs,ss,rfl,X4,hS,hg,hn,q⟩:=h;refine aV (ah (aD (i:=2) gI.nd rfl (Or.inl rfl) (av Ug (hr.mono (by decide)) rfl T.Rn T.ph.kp T.Eb .nil aJ (aa (pv 0) (aa (pv 1) ao)))) (ah (aD (i:=3) gI.nd rfl (Or.inl rfl) (av Ru (hr.mono (by decide)) rfl T.NW T.me.kp T.xG .nil aJ (aa (pv 0) (aa (pv 1) ao)))) (ah (aD (i:=4) gI.nd rfl (Or.inl rfl) (gm ao)) (ah (aD (i:=5) gI.nd rfl (Or.inl rfl) ag) (ah (BW PassesOwn.never (au oR (pv 5) (bS (bX.or bY) rfl T.lF lu (aa (pv 0) ao)) (aw _)) (ah (aD (i:=6) gI.nd rfl (Or.inl rfl) (pv 5)) (ah (BW PassesOwn.never (cj (PW.pt (cM (au oR (pv 6) (bS (bX.or bY) rfl T.lF lu (aa (pv 0) ao)) (aw _)) (cM (au (bD.or bC) (aE ax (aE ax (pv 0) (pv 6) (fun _ _=>rfl)) ag (fun _ _=>rfl)) aI rfl) (fe (de (aE ax (pv 3) (pv 6) (fun _ _=>rfl)))))))) (aq (aD (i:=6) gI.nd rfl (Or.inl rfl) (aM (cN.or (aN.or cO)) (pv 6) ag)))) (ah (lz (aX (cj (PW.pt (cM (au BY (pv 6) (pv 5) (aw _)) (fe (oN (de (av WI (hr.mono (by decide)) rfl T.Ub T.uc.kp T.JO .nil aJ (aa (pv 0) (aa (pv 2) (aa (pv 5) (aa (pv 6) ao))))))))))) (aq (c5 (jW plainAttrs_list slot_list_append type_list_append bO (pv 4) (aa (cY (aa (pv 5) (aa (pv 6) ao))) ao)))) aF)) (aq (aD (i:=5) gI.nd rfl (Or.inl rfl) (bS (QN rfl) rfl T.Zh YL (aa (pv 6) (aa (aM (cN.or (aN.or cO)) (pv 5) ag) ao))))))))) (aq (aA (cY (aa (pv 2) (aa (pv 4) ao)))))))))) ?_;tm_up;refine⟨l,b,xs,ss,rfl,X4,a6.of hS,hg,hn,fun f H1 s1 n1 h1=>?_⟩;tm_up;refine⟨l,b,xs,ss,rfl,a6.of (s1 _ _ hS),hg.same s1,hn,fun th H2 s2 n2 h2=>?_⟩;refine⟨big (by show 0<=1000;omega),fun lo hlo=>?_⟩;have s3:=s2.trans (ay.upd (o:=.lst []) hlo);have abR:H lo=none:=s1.free (s2.free hlo);have nfl:f≠lo:=aC (s2 _ _ h1) hlo;have ntl:th≠lo:=aC h2 hlo;have ntf:th≠f:=fun e=>by rw[e,h1]at n2;cases n2
  have nlf:l≠f:=aC hS n1;have bl:(aH b (a9 ss)).length=ss.length:=by rw[cL,length_map]
  have cnt:(bc b (a9 ss)).length<=5001:=by
   have:=oZ (c6 b (a9 ss)) 0 0;rw[oY,length_map]at this;exact Nat.le_trans this (by omega)
  tm_up;refine⟨fun mm σ H'=>∃(low:Nat)(v:Option V)(c:Tx)(ys:List V),mm=ss.length-low/\low<=ss.length/\σ=[some (.ref l),some (.int b),some (.ref f),some (.ref th),some (.ref lo),some (.int (low:Int)),v]/\ay H H'/\H' f=some (.lst (c.1.map V.int))/\H' lo=some (.lst ys)/\XN H' ys c.2/\H' th=some (.lst ((gp b (a9 ss)).map V.bl))/\c.1.length=ss.length/\c.2.length+(aQ low low ((c6 b (a9 ss)).drop low)).length<=5001/\(aQ low low ((c6 b (a9 ss)).drop low)).foldl (iF (a9 ss)) c=b7 b (a9 ss),
   ⟨_,0,none,(aH b (a9 ss),[]),[],rfl,Nat.zero_le _,rfl,s1.trans s3,s3 _ _ h1,ai,.nil,by rw[ar ntl];exact h2,bl,by show 0+(bc b (a9 ss)).length<=5001;omega,rfl⟩,?_⟩
  rintro mm σ H' ⟨low,v,c,ys,rfl,hlow,rfl,s4,hf4,Uh,hys,hth,hcl,abT,Eo⟩;have hl4:=s4 _ _ hS;have hg4:=hg.same s4;tm_up;refine .inl ⟨_,_,rfl,.inl (a6.of hl4),?_⟩;rw[d4 hg];tm_up;refine aU (fun h=>?_) (fun h=>?_)
  ·have hlt:low<ss.length:=by have:=of_decide_eq_true h;omega
   refine⟨fun σ' Rv=>∃ m',m'<ss.length-low/\∃(low:Nat)(v:Option V)(c:Tx)(ys:List V),m'=ss.length-low/\low<=ss.length/\σ'=[some (.ref l),some (.int b),some (.ref f),some (.ref th),some (.ref lo),some (.int (low:Int)),v]/\ay H Rv/\Rv f=some (.lst (c.1.map V.int))/\Rv lo=some (.lst ys)/\XN Rv ys c.2/\Rv th=some (.lst ((gp b (a9 ss)).map V.bl))/\c.1.length=ss.length/\c.2.length+(aQ low low ((c6 b (a9 ss)).drop low)).length<=5001/\(aQ low low ((c6 b (a9 ss)).drop low)).foldl (iF (a9 ss)) c=b7 b (a9 ss),fun _ _ h=>h,?_⟩;generalize hn':lead ((c6 b (a9 ss)).drop low)=n;have hnle:n<=ss.length-low:=by
    have:=Qc ((c6 b (a9 ss)).drop low);rw[length_drop,oY,length_map,hn']at this;exact this
   tm_up;refine⟨fun mm σ Rv=>∃ j:Nat,mm=n-j/\j<=n/\σ=[some (.ref l),some (.int b),some (.ref f),some (.ref th),some (.ref lo),some (.int (low:Int)),some (.int ((low+j:Nat):Int))]/\Rv=H',⟨n,0,rfl,Nat.zero_le _,rfl,rfl⟩,?_⟩;rintro mm σ Rv ⟨j,rfl,hj,rfl,rfl⟩;have hla:=Qe ((c6 b (a9 ss)).drop low) j (by rw[hn'];exact hj);rw[hn',Y0]at hla;refine lB (decide (j<n)) ?_ ?_
   ·tm_up;refine .inl ⟨_,_,rfl,.inl (a6.of hl4),?_⟩;rw[d4 hg];tm_up;refine aU (fun h=>?_) (fun h=>?_)
    ·have hjl:low+j<ss.length:=by have:=of_decide_eq_true h;omega
     have hk:(a9 ss)[low+j]? = some (ss[low+j]).1:=wb (getElem?_eq_getElem hjl);obtain⟨tb,ht1,ht2⟩:=Qd X4 (a9 ss) (low+j) _ hk;rw[ht2]at hla;tm_up;refine Cp (a6.of hl4) hg4 (n:=low+j) rfl (getElem?_eq_getElem hjl) fun p hp=>?_;tm_up;refine aU (fun h=>?_) (fun h=>?_)
     ·have h':(ss[low+j]).1.small=true:=by rw[<-ui];exact h
      rw[h',Bool.true_and]at hla;tm_up;refine ZP (a6.of hth) (n:=low+j) rfl (wb ht1) ?_;tm_up;refine eU ?_;cases tb with
      |true=>exact(decide_eq_true (hla.mpr rfl)).symm
      |false=>exact(decide_eq_false (fun z=>by have:=hla.mp z;cases this)).symm
     ·have h':(ss[low+j]).1.small=false:=by rw[<-ui];exact Bool.eq_false_iff.mpr h
      rw[h',Bool.false_and]at hla;exact eU (decide_eq_false (fun z=>by have:=hla.mp z;cases this)).symm
    ·have hjl:¬ low+j<ss.length:=fun z=>h (decide_eq_true (by omega));exact eU (decide_eq_false (by omega)).symm
   refine aU (fun h=>?_) (fun h=>?_)
   ·have hjn:=of_decide_eq_true h;refine⟨fun σ' Hx=>∃ m',m'<n-j/\∃ j:Nat,m'=n-j/\j<=n/\σ'=[some (.ref l),some (.int b),some (.ref f),some (.ref th),some (.ref lo),some (.int (low:Int)),some (.int ((low+j:Nat):Int))]/\Hx=Rv,fun _ _ h=>h,?_⟩;tm_up;exact⟨n-(j+1),by omega,j+1,rfl,by omega,rfl,rfl⟩
   ·have hjn:j=n:=by
     have:¬ j<n:=fun z=>h (decide_eq_true z);omega
    subst hjn;have hrf:=Cd ((c6 b (a9 ss)).drop low) low low (by rw[hn'];omega) (Nat.le_refl _);rw[hn',List.drop_drop]at hrf;refine⟨fun σ1 H1=>σ1=[some (.ref l),some (.int b),some (.ref f),some (.ref th),some (.ref lo),some (.int (low:Int)),some (.int ((low+j:Nat):Int))]/\∃(c:Tx)(ys:List V),ay H H1/\H1 f=some (.lst (c.1.map V.int))/\H1 lo=some (.lst ys)/\XN H1 ys c.2/\H1 th=some (.lst ((gp b (a9 ss)).map V.bl))/\c.1.length=ss.length/\c.2.length+(aQ (low+j) (low+j) ((c6 b (a9 ss)).drop (low+j))).length<=5001/\(aQ (low+j) (low+j) ((c6 b (a9 ss)).drop (low+j))).foldl (iF (a9 ss)) c=b7 b (a9 ss),?_,?_⟩
    ·by_cases hj0:j=0
     ·subst hj0;refine lB false ?_ ?_
      ·tm_up;rw[decide_eq_false (show ¬((low:Int)<((low+0:Nat):Int)) by omega)];exact eU rfl
      ·exact jq ⟨rfl,c,ys,s4,hf4,Uh,hys,hth,hcl,abT,Eo⟩
     ·have hlt2:low<low+j:=by omega
      rw[if_pos hlt2,List.singleton_append]at hrf;rw[hrf,List.foldl_cons]at Eo;rw[hrf,length_cons]at abT;have s5:ay H (upd Rv f (.lst ((settle (a9 ss) c.1 low (low+j)).2.map V.int))):=i8 s4 n1;have Zk:upd Rv f (.lst ((settle (a9 ss) c.1 low (low+j)).2.map V.int)) lo=some (.lst ys):=by rw[ar nfl.symm];exact Uh
      have abU:upd Rv f (.lst ((settle (a9 ss) c.1 low (low+j)).2.map V.int)) th=some (.lst ((gp b (a9 ss)).map V.bl)):=by rw[ar ntf];exact hth
      have abV:(settle (a9 ss) c.1 low (low+j)).2.length=ss.length:=by rw[nc];exact hcl
      refine⟨fun bb H3=>bb = !(settle (a9 ss) c.1 low (low+j)).1/\H3=upd Rv f (.lst ((settle (a9 ss) c.1 low (low+j)).2.map V.int)),?_,?_⟩
      ·tm_up;rw[decide_eq_true (show((low:Int)<((low+j:Nat):Int)) by omega)];refine mY ?_;tm_up;refine⟨l,f,low,low+j,xs,ss,c.1,rfl,a6.of hl4,hg4,nlf,hf4,hcl,hlt2,by omega,?_⟩;tm_up;exact⟨rfl,rfl⟩
      ·rintro bb H3 ⟨rfl,rfl⟩;refine aU (fun h=>?_) (fun h=>?_)
       ·have hst:(settle (a9 ss) c.1 low (low+j)).1=false:=by
         cases e:(settle (a9 ss) c.1 low (low+j)).1
         ·rfl
         ·rw[e]at h;cases h
        tm_up;refine⟨.inl ⟨rfl,_,a6.of Zk⟩,?_⟩;tm_up;refine⟨by show 2<=sizeLine;decide,fun z hz=>?_⟩;have sz:=ay.upd (o:=.tup [.int (low:Int),.int ((low+j:Nat):Int)]) hz;have Rw:=sz _ _ Zk;refine⟨_,_,_,rfl,rfl,Rw,by rw[d4 hys];exact eX (by omega),?_⟩;refine⟨rfl,((settle (a9 ss) c.1 low (low+j)).2,c.2++[(low,low+j)]),_,i8 (s5.trans sz) abR,by rw[ar nfl];exact sz _ _ ai,ai,og (Nx Rw (Ii sz (Nx hf4 hys))) (XO Rw ⟨z,rfl,ai⟩),
         by rw[ar ntl];exact sz _ _ abU,abV,by simp only [length_append,List.length_singleton];omega,?_⟩
        rw[<-Eo];unfold iF;rw[hst];rfl
       ·have hst:(settle (a9 ss) c.1 low (low+j)).1=true:=by
         cases e:(settle (a9 ss) c.1 low (low+j)).1
         ·rw[e]at h;exact absurd rfl h
         ·rfl
        refine⟨rfl,((settle (a9 ss) c.1 low (low+j)).2,c.2),ys,s5,ai,Zk,Nx hf4 hys,abU,abV,by show c.2.length+_<=5001;omega,?_⟩;rw[<-Eo];unfold iF;rw[hst];rfl
    ·rintro σ1 H1 ⟨rfl,c',ys',s6,hf6,Rw,abW,abX,abY,Qz,JY⟩;tm_up;refine⟨_,_,rfl,?_⟩
     by_cases hj0:j=0
     ·subst hj0;have hbl:(c6 b (a9 ss))[low]? = some false:=by
       have h1:low<(c6 b (a9 ss)).length:=by rw[oY,length_map];exact hlt
       have h2:¬(c6 b (a9 ss))[low+0]? = some true:=fun z=>Nat.lt_irrefl _ (hla.mpr z);rw[Nat.add_zero,getElem?_eq_getElem h1]at h2;rw[getElem?_eq_getElem h1];cases e:(c6 b (a9 ss))[low]
       ·rfl
       ·rw[e]at h2;exact absurd rfl h2
      rw[Nat.add_zero,qm hbl]at JY Qz;have er:aQ low low (false::(c6 b (a9 ss)).drop (low+1))=aQ (low+1) (low+1) ((c6 b (a9 ss)).drop (low+1)):=by
       show(if low<low then [(low,low)] else [])++aQ (low+1) (low+1) ((c6 b (a9 ss)).drop (low+1))=_;rw[if_neg (Nat.lt_irrefl _),nil_append]
      rw[er]at JY Qz;have em:(if(low:Int)+1 > ((low+0:Nat):Int) then(low:Int)+1 else((low+0:Nat):Int))=((low+1:Nat):Int):=by rw[if_pos (by omega)];rfl
      rw[em];exact⟨ss.length-(low+1),by omega,low+1,_,c',ys',rfl,by omega,rfl,s6,hf6,Rw,abW,abX,abY,Qz,JY⟩
     ·have em:(if(low:Int)+1 > ((low+j:Nat):Int) then(low:Int)+1 else((low+j:Nat):Int))=((low+j:Nat):Int):=by
       split <;> omega
      rw[em];exact⟨ss.length-(low+j),by omega,low+j,_,c',ys',rfl,by omega,rfl,s6,hf6,Rw,abW,abX,abY,Qz,JY⟩
  ·have hlt:low=ss.length:=by
    have:¬ low<ss.length:=fun z=>h (decide_eq_true (by omega));omega
   subst hlt;rw[List.drop_eq_nil_of_le (by rw[oY,length_map];exact Nat.le_refl _)]at Eo;have e:c=b7 b (a9 ss):=by
    have:aQ ss.length ss.length []=[]:=by unfold aQ;rw[if_neg (Nat.lt_irrefl _)]
    rw[this]at Eo;exact Eo
   subst e;tm_up;refine⟨by show 2<=sizeLine;decide,fun z hz=>?_⟩;have sz:=ay.upd (o:=.tup [.ref f,.ref lo]) hz;exact q z f lo ys _ (s4.trans sz) n1 abR nfl ai (sz _ _ hf4) (sz _ _ Uh) (Ii sz hys)
def Md (K:Frag):Sp:=fun vs H Q _=>∃(l:Addr)(b:Int)(xs:List V)(ss:List Sg),vs=[.ref l,.int b]/\Ms b/\H l=some (.lst xs)/\Qb H xs ss/\ss.length<=400 /\
 ∀(l2:Addr)(oo:List V)(jt:List Sg)(H':Hp),ay H H'->(l2=l\/H l2=none)->H' l2=some (.lst oo)->Qb H' oo jt->jt.length<=ss.length->(∀ s∈jt,s∈ss)->(b7 b (a9 jt)).2=[]->Q (.ref l2) H'
theorem WJ (ks:List Kd)(rs:List (Nat×Nat))(c:Tx)(n:Nat)(h1:∀ p∈rs,p.1<p.2/\p.2<=n)(h2:∀ p∈c.2,p.1<p.2/\p.2<=n):∀ p∈(rs.foldl (iF ks) c).2,p.1<p.2/\p.2<=n:=by
 induction rs generalizing c with
 |nil=>exact h2
 |cons r t ih =>
  refine ih _ (fun p hp=>h1 p (mem_cons_of_mem _ hp)) fun p hp=>?_;unfold iF at hp;dsimp only at hp;split at hp
  ·exact h2 p hp
  ·rcases mem_append.mp hp with z|z
   ·exact h2 p z
   ·have:p=r:=by simpa using z
    rw[this];exact h1 r mem_cons_self
theorem Ui (m:Int)(ks:List Kd):∀ p∈(b7 m ks).2,p.1<p.2/\p.2<=ks.length:=WJ _ _ _ _ (bL m ks) (fun p hp=>by cases hp)
theorem Rx (ks:List Kd)(rs:List (Nat×Nat))(c:Tx)(h2:∀ p∈c.2,(p.2-p.1) % 3≠0):∀ p∈(rs.foldl (iF ks) c).2,(p.2-p.1) % 3≠0:=by
 induction rs generalizing c with
 |nil=>exact h2
 |cons r t ih =>
  refine ih _ fun p hp=>?_;unfold iF at hp;dsimp only at hp;split at hp
  ·exact h2 p hp
  ·rename_i hs
   rcases mem_append.mp hp with z|z
   ·exact h2 p z
   ·have:p=r:=by simpa using z
    rw[this];intro e;apply hs;unfold settle;rw[if_neg (by omega),if_neg (by omega)]
theorem Ry (m:Int)(ks:List Kd):∀ p∈(b7 m ks).2,(p.2-p.1) % 3≠0:=Rx _ _ _ (fun p hp=>by cases hp)
theorem Me (T:Txt K w mg t):cA P w K mg base jG (0+3) t.gr t.rR ["_law_line_here","_law_begin_here"] (Md K):=by
 have Ep:=HJ (P:=P) (base:=base) T;refine T.kc.ok gJ (fun vs H Q E h=>?_) (fun cdv A outer s H vs Q E hr h=>?_)
 ·obtain⟨_,_,_,_,rfl,_⟩:=h;rfl
 ·obtain⟨l,b,xs,ss,rfl,X4,hS,hg,hn,q⟩:=h;have p62:(2:Int) ^ 62=4611686018427387904:=by decide
  refine aV (ah (iC PassesOwn.never rfl (lR rfl T.pG (aa (aM (cN.or (aN.or cO)) (bS (bX.or bY) rfl T.lF lu (aa (pv 0) ao)) ag) ao)) (aK (i:=2) gJ.nd rfl (Or.inl rfl)) (ah (aD (i:=3) gJ.nd rfl (Or.inl rfl) (aE ax (av Ep (hr.mono (by decide)) rfl T.HI T.mf.kp T.ud .nil aJ (aa (pv 0) (aa (pv 1) ao))) ag (fun _ _=>rfl))) (ah (aX (au (S8 (az hr)) (pv 3) (gm ao) (aw _)) (aq (aA (pv 0))) aF) (ah (oP (aE ax (pv 3) ag (fun _ _=>rfl)) (iB rfl (aR (aK (i:=4) gJ.nd rfl (Or.inl rfl)) (aR (aK (i:=5) gJ.nd rfl (Or.inl rfl)) fN)))) (aq (aD (i:=0) gJ.nd rfl (Or.inl rfl) (aM (cN.or (aN.or cO)) (B0 (HY.or (Nb.or Nh)) (pv 0) HS (HU (aM lr (pv 5) (aM fj (aM lr (pv 5) (pv 4)) ag)))) (B0 (HY.or (Nb.or Nh)) (pv 0) (HU (pv 5)) HS)))))))) (aq (aA (pv 0)))) ?_;tm_up;refine .inl ⟨_,_,rfl,.inl (a6.of hS),?_⟩;rw[d4 hg];tm_up;refine⟨by rw[p62];omega,by rw[p62];omega,?_⟩;refine qj (n:=((ss.length:Int)+1).toNat) (fun i σ H'=>∃(l2:Addr)(oo:List V)(jt:List Sg)(u v w z:Option V),σ=[some (.ref l2),some (.int b),u,v,w,z]/\ay H H'/\(l2=l\/H l2=none)/\H' l2=some (.lst oo)/\Qb H' oo jt/\jt.length+i<=ss.length/\∀ s∈jt,s∈ss)
   ⟨l,xs,ss,none,none,none,none,rfl,ay.refl _,.inl rfl,hS,hg,Nat.le_refl _,fun _ h=>h⟩ ?_ ?_
  ·rintro i σ H' hi ⟨l2,oo,jt,u,v,w,z,rfl,s2,hl2,h2,g2,Zl,WK⟩;tm_up;refine⟨l2,b,oo,jt,rfl,X4,h2,kW.of g2,by omega,fun p f lo ys H3 s3 _ nlo _ hp _ hlo hpr=>?_⟩;tm_up;refine⟨big (by show 0<=1000;omega),fun e he=>?_⟩;have se:=ay.upd (o:=.lst []) he;refine⟨_,_,ys,rfl,rfl,a6.of (se _ _ hlo),a6.of ai,?_⟩;have s4:=s3.trans se;refine⟨_,rfl,?_⟩;generalize upd H3 e (.lst [])=H4 at se s4;have Uh:=se _ _ hlo;have WL:=Ii se hpr;have h24:=s4 _ _ h2;have g24:=g2.same s4;cases hR:(b7 b (a9 jt)).2 with
   |nil =>
    rw[hR]at WL;cases WL;refine mY ?_;tm_up;exact q l2 oo jt _ (s2.trans s4) hl2 h24 g24 (by omega) WK hR
   |cons r t =>
    have hin:=Ui b (a9 jt) r (by rw[hR];exact mem_cons_self);have hmd:=Ry b (a9 jt) r (by rw[hR];exact mem_cons_self);rw[length_map]at hin;rw[hR]at WL
    match ys,WL with
    |_::_,.cons ⟨pr,e1,aeT⟩ hrest =>
     subst e1;refine jq ?_;tm_up;refine ZP (a6.of Uh) (n:=0) rfl rfl ?_;refine⟨pr,_,rfl,cz.of aeT,rfl,_,_,rfl,_,_,rfl,rfl,?_⟩;tm_up;refine .inl ⟨l2,oo,rfl,a6.of h24,fun c1 hc1=>?_⟩;have em:(r.2:Int)-((r.2:Int)-(r.1:Int)) % 3=((r.2-(r.2-r.1) % 3:Nat):Int):=by omega
     rw[em,XQ];have sc1:=ay.upd (o:=.lst (oo.take (r.2-(r.2-r.1) % 3))) hc1;tm_up;refine .inl ⟨l2,oo,rfl,a6.of (sc1 _ _ h24),fun c2 hc2=>?_⟩;rw[V1 oo r.2 (by rw[d4 g2];exact hin.2)];have sc2:=ay.upd (o:=.lst (oo.drop r.2)) hc2;have hle:(oo.take (r.2-(r.2-r.1) % 3)).length+(oo.drop r.2).length<oo.length:=by
      rw[length_take,length_drop,d4 g2];omega
     refine .inr (.inr ⟨c1,c2,_,_,rfl,rfl,sc2 _ _ ai,ai,?_,fun c3 hc3=>?_⟩)
     ·have:=d4 g2;exact big (by omega)
     ·have sc3:=ay.upd (o:=.lst (oo.take (r.2-(r.2-r.1) % 3)++oo.drop r.2)) hc3;have s5:=s4.trans ((sc1.trans sc2).trans sc3);refine⟨c3,_,jt.take (r.2-(r.2-r.1) % 3)++jt.drop r.2,_,_,_,_,rfl,s2.trans s5,.inr (s2.free (s4.free ((sc1.trans sc2).free hc3))),ai,aaP (Tu _ (g2.same s5)) (XJ _ (g2.same s5)),?_,fun s hs=>?_⟩
      ·rw[length_append,length_take,length_drop];omega
      ·rcases mem_append.mp hs with z|z
       ·exact WK s (List.mem_of_mem_take z)
       ·exact WK s (List.mem_of_mem_drop z)
  ·rintro σ H' ⟨l2,oo,jt,u,v,w,z,rfl,s2,hl2,h2,g2,Zl,WK⟩;have:((ss.length:Int)+1).toNat=ss.length+1:=by omega
   rw[this]at Zl;exact absurd Zl (by omega)
theorem Uj (k:Kd):Ts k.str "Dd"=(decide (k=.D)||decide (k=.d)):=by cases k <;> decide +kernel
theorem Uk (k:Kd):Ts k.str "32"=(decide (k=.three)||decide (k=.two)):=by cases k <;> decide +kernel
def N7 (K:Frag):Sp:=fun vs H Q _=>∃(l z:Addr)(xs:List V)(ss:List Sg)(c:cW),vs=[.ref l,.ref z]/\a6 K H l xs/\kW K H xs ss/\H z=some (.tup (N4 c))/\Q (lP (ck c 0 (a9 ss))) H
theorem N8 (T:Txt K w mg t):cA P w K mg base jG (0+1) t.iM t.xB ["_law_line_here","_law_prices_here"] (N7 K):=by
 refine T.fY.ok fq (fun vs H Q E h=>?_) (fun cdv A outer s H vs Q E hr h=>?_)
 ·obtain⟨_,_,_,_,_,rfl,_⟩:=h;rfl
 ·obtain⟨l,z,xs,ss,c,rfl,hS,hg,hz,q⟩:=h;have hz':H z=some (.tup [lP c.1,lP c.2.1,lP c.2.2]):=hz;refine aV (ah (aD (i:=2) fq.nd rfl (Or.inl rfl) ag) (ah (iC PassesOwn.never rfl (mV (pv 0)) (aK (i:=3) fq.nd rfl (Or.inl rfl)) (ah (aD (i:=4) fq.nd rfl (Or.inl rfl) ag) (ah (lz (aX (au (a4.or (aL (az hr))) (aE ax (pv 3) ag (fun _ _=>rfl)) aI (aw _)) (aq (aD (i:=4) fq.nd rfl (Or.inl rfl) (aE ax (pv 1) ag (fun _ _=>rfl)))) aF)) (ah (lz (aX (au (bD.or bC) (aE ax (pv 3) ag (fun _ _=>rfl)) aI rfl) (aq (aD (i:=4) fq.nd rfl (Or.inl rfl) (aE ax (pv 1) ag (fun _ _=>rfl)))) aF)) (ah (lz (aX (au (bD.or bC) (aE ax (pv 3) ag (fun _ _=>rfl)) aI rfl) (aq (aD (i:=4) fq.nd rfl (Or.inl rfl) (aE ax (pv 1) ag (fun _ _=>rfl)))) aF)) (ah (aX (au M8 (pv 4) fi (aw _)) (aq (aA fi)) aF) (aq (aD (i:=2) fq.nd rfl (Or.inl rfl) (aM (cN.or (aN.or cO)) (pv 2) (pv 4)))))))))) (aq (aA (pv 2))))) ?_;tm_up;refine⟨⟨xs,hS⟩,lT (K:=K) (xs:=xs) (fun i σ H'=>∃(n:Int)(u v:Option V),σ=[some (.ref l),some (.ref z),some (.int n),u,v]/\H'=H/\ck c n ((a9 ss).drop i)=ck c 0 (a9 ss))
   ⟨0,none,none,rfl,rfl,rfl⟩ ?_ ?_ ?_⟩
  ·rintro i σ H' _ ⟨n,u,v,rfl,rfl,_⟩;exact hS
  ·rintro i x σ H' hx ⟨n,u,v,rfl,rfl,hm⟩;obtain⟨s,hs,p,rfl,hp⟩:=qX hg hx;have hd:=qm (wb (f:=Prod.fst) hs);rw[hd]at hm;simp only [ck]at hm;tm_up;refine Nl [some (.ref l),some (.ref z),some (.int n),some (.ref p),some (if s.1=.dot then lP c.1 else .int 0)] H' ?_ ?_
   ·tm_up;rw[Tt];refine aU (fun h=>?_) (fun h=>?_)
    ·tm_up;refine .inr (.inl ⟨z,_,0,_,rfl,rfl,cz.of hz',rfl,?_⟩);rw[if_pos (of_decide_eq_true h)];exact⟨rfl,rfl⟩
    ·rw[if_neg (fun e=>h (decide_eq_true e))];exact⟨rfl,rfl⟩
   refine Nl [some (.ref l),some (.ref z),some (.int n),some (.ref p),some (if s.1=.D\/s.1=.d then lP c.2.1 else if s.1=.dot then lP c.1 else .int 0)] H' ?_ ?_
   ·tm_up;refine aU (fun h=>?_) (fun h=>?_)
    ·have h':(decide (s.1=.D)||decide (s.1=.d))=true:=by rw[<-Uj];exact h
     tm_up;refine .inr (.inl ⟨z,_,1,_,rfl,rfl,cz.of hz',rfl,?_⟩);rw[if_pos (c:=s.1=.D\/s.1=.d) (by simpa using h')];exact⟨rfl,rfl⟩
    ·have h':¬(decide (s.1=.D)||decide (s.1=.d))=true:=by rw[<-Uj];exact h
     rw[if_neg (c:=s.1=.D\/s.1=.d) (by simpa using h')];exact⟨rfl,rfl⟩
   refine Nl [some (.ref l),some (.ref z),some (.int n),some (.ref p),some (lP (costOf c s.1))] H' ?_ ?_
   ·tm_up;refine aU (fun h=>?_) (fun h=>?_)
    ·have h':(decide (s.1=.three)||decide (s.1=.two))=true:=by rw[<-Uk];exact h
     tm_up;refine .inr (.inl ⟨z,_,2,_,rfl,rfl,cz.of hz',rfl,?_⟩);have e:costOf c s.1=c.2.2:=by revert h';cases s.1 <;> first|(intro h;rfl)|(intro h;exact absurd h (by decide))
     rw[e];exact⟨rfl,rfl⟩
    ·have h':¬(decide (s.1=.three)||decide (s.1=.two))=true:=by rw[<-Uk];exact h
     have e:(if s.1=.D\/s.1=.d then lP c.2.1 else if s.1=.dot then lP c.1 else .int 0)=lP (costOf c s.1):=by
      revert h'
      cases s.1 <;> first|(intro _;rfl)|(intro a;exact absurd rfl a)
     rw[e];exact⟨rfl,rfl⟩
   cases e:costOf c s.1 with
   |none =>
    rw[e]at hm;tm_up;rw[<-hm]at q;exact⟨rfl,_,rfl,mY q⟩
   |some k =>
    rw[e]at hm;tm_up;refine⟨rfl,_,rfl,jq ?_⟩;tm_up;exact⟨_,_,_,rfl,rfl,hm⟩
  ·rintro σ H' ⟨n,u,v,rfl,rfl,hm⟩;rw[List.drop_eq_nil_of_le (by rw[length_map,d4 hg];exact Nat.le_refl _)]at hm;tm_up;rw[<-hm]at q;exact q
theorem X5 (k:Kd):Ts k.str "Rr"=(decide (k=.R)||decide (k=.r)):=by cases k <;> decide +kernel
def Mf (K:Frag):Sp:=fun vs H Q _=>∃(l:Addr)(b:Int)(xs:List V)(ss:List Sg),vs=[.ref l,.int b]/\Ms b/\H l=some (.lst xs)/\kW K H xs ss/\ss.length<=5000 /\
 ∀(f:Addr)(ys:List V)(H':Hp),ay H H'->H f=none->H' f=some (.lst ys)->Ce H' ys (bU ss (b7 b (a9 ss)).1)->Q (.ref f) H'
theorem Mg (T:Txt K w mg t):cA P w K mg base jG (0+3) t.gu t.rS ["_law_line_here","_law_begin_here"] (Mf K):=by
 have Ep:=HJ (P:=P) (base:=base) T;refine T.iT.ok lg (fun vs H Q E h=>?_) (fun cdv A outer s H vs Q E hr h=>?_)
 ·obtain⟨_,_,_,_,rfl,_⟩:=h;rfl
 ·obtain⟨l,b,xs,ss,rfl,X4,hS,hg,hn,q⟩:=h;refine aV (ah (aD (i:=2) lg.nd rfl (Or.inl rfl) (gm ao)) (ah (iC PassesOwn.never rfl (YQ rfl T.Zi (pv 0) (aE ax (av Ep (hr.mono (by decide)) rfl T.HI T.mf.kp T.ud .nil aJ (aa (pv 0) (aa (pv 1) ao))) ag (fun _ _=>rfl))) (iB rfl (aR (aK (i:=3) lg.nd rfl (Or.inl rfl)) (aR (aK (i:=4) lg.nd rfl (Or.inl rfl)) fN))) (aq (aX (au (bD.or bC) (aE ax (pv 3) ag (fun _ _=>rfl)) aI rfl) (aq (c5 (jW plainAttrs_list slot_list_append type_list_append bO (pv 2) (aa (cY (aa (aE ax (pv 3) ag (fun _ _=>rfl)) (aa (pv 4) ao))) ao)))) (aq (aX (au (bD.or bC) (aE ax (pv 3) ag (fun _ _=>rfl)) aI rfl) (aq (c5 (jW plainAttrs_list slot_list_append type_list_append bO (pv 2) (aa (cY (aa (aae Yv ag) (aa (pv 4) ao))) ao)))) aF))))) (aq (aA (pv 2))))) ?_;refine⟨big (by show 0<=1000;omega),fun D hD=>?_⟩;have s0:=ay.upd (o:=.lst []) hD;tm_up;refine⟨l,b,xs,ss,rfl,X4,s0 _ _ hS,hg.same s0,hn,fun pp f lo yl H1 s1 nf _ _ hpp h1 _ _=>?_⟩;have hD1:H1 D=some (.lst []):=s1 _ _ ai;have s01:=s0.trans s1;tm_up;refine⟨⟨_,a6.of (s01 _ _ hS)⟩,⟨_,a6.of h1⟩,?_⟩;have wl:(b7 b (a9 ss)).1.length=ss.length:=by rw[v9,length_map]
  generalize hW:(b7 b (a9 ss)).1=W at h1 wl;rw[hW]at q;have nDf:f≠D:=fun e=>by rw[e,ai]at nf;cases nf
  refine VM (K:=K) (xs:=xs) (ys:=W.map V.int) (fun i σ H'=>∃(u v:Option V)(zs:List V)(qs:List (Int×Int)),σ=[some (.ref l),some (.int b),some (.ref D),u,v]/\ay H H'/\H' D=some (.lst zs)/\H' f=some (.lst (W.map V.int))/\Ce H' zs qs/\qs++bU (ss.drop i) (W.drop i)=bU ss W)
   (by rw[length_map,wl];exact d4 hg) ⟨none,none,[],[],rfl,s01,hD1,h1,.nil,rfl⟩ ?_ ?_ ?_
  ·rintro i σ H' ⟨u,v,zs,qs,rfl,s2,_,hf2,_⟩;exact⟨a6.of (s2 _ _ hS),a6.of hf2⟩
  ·rintro i x y t σ H' hx hy ⟨u,v,zs,qs,rfl,s2,X6,hf2,pq,hm⟩ ht;obtain⟨s,hs,p,rfl,hp⟩:=qX hg hx;obtain⟨w,hw,rfl⟩:=Tw hy;rw[qm hs,qm hw]at hm;simp only [bU]at hm;have sT:ay H' (upd H' t (.tup [.ref p,.int w])):=ay.upd ht;have hp2:=hp.same (s2.trans sT);have hD2:=sT _ _ X6;have Ul:=sT _ _ hf2;have pq2:=tR sT pq;refine⟨t,_,rfl,cz.of ai,rfl,_,_,rfl,_,_,rfl,rfl,?_⟩;generalize upd H' t (.tup [.ref p,.int w])=H3 at sT hp2 hD2 pq2 Ul;have s3:=s2.trans sT;have zl:zs.length<sizeLine:=by
    rw[d4 pq];have h1:=congrArg List.length hm;have h2:=lX ss W;simp only [length_append]at h1;exact eX (by omega)
   have fin:∀ n:Int,s.1.parting=false->n=jF s->∀ z,H3 z=none->∃(u v:Option V)(ZS:List V)(qs':List (Int×Int)),[some (V.ref l),some (V.int b),some (V.ref D),some (V.ref p),some (V.int w)]=[some (.ref l),some (.int b),some (.ref D),u,v]/\ay H (upd (upd H3 z (.tup [.int n,.int w])) D (.lst (zs++[V.ref z])))/\(upd (upd H3 z (.tup [.int n,.int w])) D (.lst (zs++[V.ref z]))) D=some (.lst ZS)/\(upd (upd H3 z (.tup [.int n,.int w])) D (.lst (zs++[V.ref z]))) f=some (.lst (W.map V.int))/\Ce (upd (upd H3 z (.tup [.int n,.int w])) D (.lst (zs++[V.ref z]))) ZS qs'/\qs'++bU (ss.drop (i+1)) (W.drop (i+1))=bU ss W:=by
    intro n X0 hnn z hz;have sz:=ay.upd (o:=.tup [.int n,.int w]) hz;have hD4:=sz _ _ hD2;rw[X0]at hm;refine⟨_,_,_,qs++[(n,w)],rfl,i8 (s3.trans sz) hD,ai,by rw[ar nDf];exact sz _ _ Ul,og (Qf hD4 (tR sz pq2)) (TC hD4 ⟨z,rfl,ai⟩),?_⟩;rw[List.append_assoc,hnn];exact hm
   tm_up;refine aU (fun h=>?_) (fun h=>?_)
   ·have h':s.1.gn=true:=by rw[<-Hm];exact h
    tm_up;refine⟨.inl ⟨rfl,_,a6.of hD2⟩,?_⟩;tm_up;refine⟨by show 2<=sizeLine;decide,fun z hz=>?_⟩;have sz:=ay.upd (o:=.tup [.int s.2,.int w]) hz;refine⟨_,_,_,rfl,rfl,sz _ _ hD2,zl,fin s.2 ?_ ?_ z hz⟩
    ·revert h';cases s.1 <;> decide
    ·unfold jF;rw[if_pos h']
   ·have h':s.1.gn=false:=by rw[<-Hm];exact Bool.eq_false_iff.mpr h
    tm_up;refine aU (fun h2=>?_) (fun h2=>?_)
    ·have h2':(decide (s.1=.R)||decide (s.1=.r))=true:=by rw[<-X5];exact h2
     tm_up;refine⟨.inl ⟨rfl,_,a6.of hD2⟩,?_⟩;tm_up;refine⟨by show 2<=sizeLine;decide,fun z hz=>?_⟩;have sz:=ay.upd (o:=.tup [.int (-1),.int w]) hz;refine⟨_,_,_,rfl,rfl,sz _ _ hD2,zl,fin (-1) ?_ ?_ z hz⟩
     ·revert h2';cases s.1 <;> decide
     ·unfold jF;rw[h'];rfl
    ·have h2':¬(decide (s.1=.R)||decide (s.1=.r))=true:=by rw[<-X5];exact h2
     have X0:s.1.parting=true:=by
      revert h' h2'
      cases s.1 <;> decide
     rw[X0]at hm;exact⟨_,_,zs,qs,rfl,s3,hD2,Ul,pq2,hm⟩
  ·rintro σ H' ⟨u,v,zs,qs,rfl,s2,X6,hf2,pq,hm⟩;rw[d4 hg,List.drop_length]at hm;have e:qs=bU ss W:=by
    rw[<-hm];simp[bU]
   subst e;tm_up;exact q D zs H' s2 hD X6 pq
def FX (K:Frag):Sp:=fun vs H Q _=>∃(p z:Addr)(s:Sg)(c:cW),vs=[.ref p,.ref z]/\cz K H p [.str s.1.str,.int s.2]/\H z=some (.tup [lP c.1,lP c.2.1,lP c.2.2])/\Q (lP (costOf c s.1)) H
theorem ab0 (k:Kd):inV (.str k.str) [.str "D",.str "d"]=(decide (k=.D)||decide (k=.d)):=by cases k <;> decide +kernel
theorem ab1 (k:Kd):inV (.str k.str) [.str "3",.str "2"]=(decide (k=.three)||decide (k=.two)):=by cases k <;> decide +kernel
theorem FY (T:Txt K w mg t):cA P w K mg base jG (0+1) t.eC t.nj ["sign","prices"] (FX K):=by
 refine T.gR.ok jb (fun vs H Q E h=>?_) (fun cdv A outer s H vs Q E hr h=>?_)
 ·obtain⟨_,_,_,_,rfl,_⟩:=h;rfl
 ·obtain⟨p,z,s,c,rfl,hp,hz,q⟩:=h;refine aV (ah (oP (pv 1) (iB rfl (aR (aK (i:=2) jb.nd rfl (Or.inl rfl)) (aR (aK (i:=3) jb.nd rfl (Or.inl rfl)) (aR (aK (i:=4) jb.nd rfl (Or.inl rfl)) fN))))) (ah (aX (au (a4.or (aL (az hr))) (aE ax (pv 0) ag (fun _ _=>rfl)) aI (aw _)) (aq (aA (pv 2))) aF) (ah (aX (au (bD.or bC) (aE ax (pv 0) ag (fun _ _=>rfl)) (b0 (v:=.ref t.eJ) rfl T.JU rfl) rfl) (aq (aA (pv 3))) aF) (ah (aX (au (bD.or bC) (aE ax (pv 0) ag (fun _ _=>rfl)) (b0 (v:=.ref t.cx) rfl T.zg rfl) rfl) (aq (aA (pv 4))) aF) (aq (aA ag)))))) ?_;refine⟨_,rfl,z,_,rfl,cz.of hz,rfl,_,_,rfl,_,_,rfl,_,_,rfl,rfl,?_⟩;tm_up;refine Im hp ?_;tm_up;rw[Tt];refine aU (fun h=>?_) (fun h=>?_)
  ·rw[of_decide_eq_true h]at q;exact⟨_,rfl,q⟩
  ·have h1:s.1≠.dot:=fun e=>h (decide_eq_true e);tm_up;refine Im hp ?_;tm_up;refine .inl ⟨_,_,rfl,.inr (T.JV _),rfl,rfl,_,rfl,?_⟩;rw[ab0];refine aU (fun h=>?_) (fun h=>?_)
   ·have e:costOf c s.1=c.2.1:=by revert h;cases s.1 <;> first|(intro h;rfl)|(intro h;exact absurd h (by decide))
    rw[e]at q;exact⟨_,rfl,q⟩
   ·tm_up;refine Im hp ?_;tm_up;refine .inl ⟨_,_,rfl,.inr (T.zh _),rfl,rfl,_,rfl,?_⟩;rw[ab1];refine aU (fun h2=>?_) (fun h2=>?_)
    ·have e:costOf c s.1=c.2.2:=by revert h2;cases s.1 <;> first|(intro h;rfl)|(intro h;exact absurd h (by decide))
     rw[e]at q;exact⟨_,rfl,q⟩
    ·have e:costOf c s.1=some 0:=by
      revert h1 h h2
      cases s.1 <;> first|(intro _ _ _;rfl)|(intro a _ _;exact absurd rfl a)|(intro _ a _;exact absurd rfl a)|(intro _ _ a;exact absurd rfl a)
     rw[e]at q;exact q
def Um (K:Frag):Sp:=fun vs H Q _=>∃(p:Addr)(s:Sg),vs=[.ref p]/\cz K H p [.str s.1.str,.int s.2]/\Q (.bl s.1.small) H
theorem uj (k:Kd):inV (.str k.str) [.str "s",.str "d",.str "r"]=k.small:=by cases k <;> decide +kernel
theorem Uo (T:Txt K w mg t):cA P w K mg base jG (0+1) t.nk t.JL ["sign"] (Um K):=by
 refine T.ue.ok T8 (fun vs H Q E h=>?_) (fun cdv A outer s H vs Q E hr h=>?_)
 ·obtain⟨_,_,rfl,_⟩:=h;rfl
 ·obtain⟨p,s,rfl,hp,q⟩:=h;rw[<-uj]at q;refine aV (aq (aA (bR (bD.or bC) (aE ax (pv 0) ag (fun _ _=>rfl)) (b0 (v:=.ref t.dh) rfl T.FT rfl) rfl))) ?_;tm_up;refine Im hp ?_;tm_up;exact .inl ⟨_,_,rfl,.inr (T.FU _),rfl,rfl,q⟩
def N9 (K:Frag):Sp:=fun vs H Q _=>∃(p:Addr)(s:Sg),vs=[.ref p]/\cz K H p [.str s.1.str,.int s.2]/\Q (.bl s.1.parting) H
theorem WM (k:Kd):inV (.str k.str) [.str ".",.str "3",.str "2"]=k.parting:=by cases k <;> decide +kernel
theorem Oa (T:Txt K w mg t):cA P w K mg base jG (0+1) t.iN t.xC ["sign"] (N9 K):=by
 refine T.mh.ok NR (fun vs H Q E h=>?_) (fun cdv A outer s H vs Q E hr h=>?_)
 ·obtain⟨_,_,rfl,_⟩:=h;rfl
 ·obtain⟨p,s,rfl,hp,q⟩:=h;rw[<-WM]at q;refine aV (aq (aA (bR (bD.or bC) (aE ax (pv 0) ag (fun _ _=>rfl)) (b0 (v:=.ref t.cw) rfl T.ze rfl) rfl))) ?_;tm_up;refine Im hp ?_;tm_up;exact .inl ⟨_,_,rfl,.inr (T.zf _),rfl,rfl,q⟩
def mr:Sp:=fun vs H Q _=>∃(z:Str),vs=[.str z]/\∀ H',ay H H'->Q (.bl (rnZ z)) H'
theorem mv (T:Txt K w mg t):cA P w K mg base jG (0+1) t.aW t.eD ["state"] mr:=by
 refine T.bN.ok l9 (fun vs H Q E h=>?_) (fun cdv A outer s H vs Q E hr h=>?_)
 ·obtain⟨_,rfl,_⟩:=h;rfl
 ·obtain⟨z,rfl,q⟩:=h;refine aV (aq (aA (bR (bD.or bC) (pv 0) (cY (aa aI (aa aI (aa aI ao)))) rfl))) ?_;tm_up;refine⟨by show 3<=sizeLine;decide,fun p hp=>?_⟩;exact .inl ⟨p,_,rfl,.inr (cz.of ai),rfl,rfl,q _ (ay.upd hp)⟩
def Rz:Sp:=fun vs H Q _=>∃(z:Str)(l c t:Nat),vs=[.str z]/\z.cps.toList=[51,l,c,t]/\z.length<=4/\Q (.bl (qo l c)) H
theorem xO (T:Txt K w mg t):cA P w K mg base jG (0+1) t.j6 t.D5 ["state"] Rz:=by
 refine T.ke.ok HH (fun vs H Q E h=>?_) (fun cdv A outer s H vs Q E hr h=>?_)
 ·obtain⟨_,_,_,_,rfl,_⟩:=h;rfl
 ·obtain⟨z,l,c,t,rfl,hz,hl,q⟩:=h;have hl':z.length<=sizeLine:=V2 (by omega);refine aV (ah (Yp (i:=1) (j:=2) rfl HH.nd rfl rfl (by decide) rfl rfl (aa (aE ax (pv 0) ag (fun _ _=>rfl)) (aa (aE ax (pv 0) ag (fun _ _=>rfl)) ao)) rfl) (ah (aX (au (a4.or (aL (az hr))) (pv 2) aI (aw _)) (aq (aA (bR (GU.or (vY (az hr))) (pv 1) aI (aw _)))) aF) (aq (aA (cB (mU (bR (a4.or (aL (az hr))) (pv 2) aI (aw _)) (e9 (bR (a4.or (aL (az hr))) (pv 1) aI (aw _))))))))) ?_;refine⟨_,rfl,.inr (.inr ⟨_,_,l,rfl,rfl,hl',by rw[hz];rfl,?_⟩)⟩;refine⟨_,rfl,.inr (.inr ⟨_,_,c,rfl,rfl,hl',by rw[hz];rfl,?_⟩)⟩;refine⟨_,_,rfl,?_⟩;tm_up;rw[qp c 48 (by lk)];unfold qo at q;refine aU (fun h=>?_) (fun h=>?_)
  ·tm_up;rw[if_pos h]at q;rw[Y1 l 104 (by lk)];exact q
  ·rw[if_neg h]at q;refine lA (.bl (decide (c=49)&&decide (l=104))) ?_ ?_
   ·tm_up;rw[qp c 49 (by lk)];refine aU (fun h=>?_) (fun h=>?_)
    ·tm_up;rw[qp l 104 (by lk)];exact jf (by rw[h];rfl)
    ·exact jf (by rw[Bool.eq_false_iff.mpr h];rfl)
   ·exact q
def sd:Sp:=fun vs H Q _=>∃(z:Str),vs=[.str z]/\∀ H',ay H H'->Q (.bl (bgZ z)) H'
theorem sf (T:Txt K w mg t):cA P w K mg base jG (0+1) t.bM t.gO ["state"] sd:=by
 refine T.c9.ok rN (fun vs H Q E h=>?_) (fun cdv A outer s H vs Q E hr h=>?_)
 ·obtain⟨_,rfl,_⟩:=h;rfl
 ·obtain⟨z,rfl,q⟩:=h;refine aV (aq (aA (bR (bD.or bC) (pv 0) (cY (aa aI (aa aI ao))) rfl))) ?_;tm_up;refine⟨by show 2<=sizeLine;decide,fun p hp=>?_⟩;exact .inl ⟨p,_,rfl,.inr (cz.of ai),rfl,rfl,q _ (ay.upd hp)⟩
def FZ:Sp:=fun vs H Q _=>∃(z k:Str)(n:Int)(l c e:Nat),vs=[.str z,.str k,.int n]/\z.cps.toList=[51,l,c,e]/\z.length<=4/\∀ H',ay H H'->Q (grS z k n) H'
theorem F0 (T:Txt K w mg t):cA P w K mg base jG (0+2) t.eE t.nq ["state","kind","worth"] FZ:=by
 have nG:=mv (P:=P) (base:=base) T;have pI:=xO (P:=P) (base:=base) T;have uk:=sf (P:=P) (base:=base) T;refine T.gT.ok FN (fun vs H Q E h=>?_) (fun cdv A outer s H vs Q E hr h=>?_)
 ·obtain⟨_,_,_,_,_,_,rfl,_⟩:=h;rfl
 ·obtain⟨z,k,n,l,c,e,rfl,hz,hl,q⟩:=h;refine aV (ah (aX (au (a4.or (aL (az hr))) (pv 0) (b0 (v:=.str "3t0-") rfl T.gY ⟨_,rfl⟩) (aw _)) (aq (aA fi)) aF) (ah (aX (cj (PW.pt (cM (de (av nG (hr.mono (by decide)) rfl T.mi T.bN.kp T.eN .nil aJ (aa (pv 0) ao))) (cM (au (a4.or (aL (az hr))) (pv 1) aI (aw _)) (fe (au (a4.or (aL (az hr))) (pv 2) ag (aw _))))))) (aq (aA (b0 (v:=.str "3t0-") rfl T.gY ⟨_,rfl⟩))) aF) (ah (aX (cj (PW.pt (kX (de (av pI (hr.mono (by decide)) rfl T.xI T.ke.kp T.pj .nil aJ (aa (pv 0) ao))) (jV (de (av uk (hr.mono (by decide)) rfl T.rX T.c9.kp T.gS .nil aJ (aa (pv 0) ao))))))) (aq (aA (LH (G1 hr) (b0 (v:=.ref t.cI) rfl T.FW rfl) (cY (aa (pv 1) (aa (pv 2) ao)))))) aF) (aq (aA fi))))) ?_;unfold grS at q;tm_up;rw[Fu];refine aU (fun h=>?_) (fun h=>?_)
  ·rw[if_pos h]at q;tm_up;exact q _ (ay.refl _)
  rw[if_neg h]at q;tm_up;refine⟨fun b H'=>b=(rnZ z&&(decide (k = "G")&&decide (n=2)))/\ay H H',?_,?_⟩
  ·tm_up;intro H1 S1;tm_up;cases rnZ z with
   |false=>exact jq ⟨rfl,S1⟩
   |true =>
    refine mY ?_;tm_up;rw[Fu];cases decide (k = "G") with
    |false=>exact jq ⟨rfl,S1⟩
    |true =>
     refine mY ?_;tm_up;rw[intD];exact⟨rfl,S1⟩
  rintro _ H1 ⟨rfl,S1⟩;refine aU (fun h=>?_) (fun h=>?_)
  ·rw[if_pos h]at q;tm_up;exact q _ S1
  rw[if_neg h]at q;tm_up;refine⟨fun b H'=>b=(V4 z||bgZ z)/\ay H H',?_,?_⟩
  ·tm_up;refine⟨z,l,c,e,rfl,hz,hl,?_⟩;have ec:V4 z=qo l c:=by unfold V4;rw[hz];rfl
   rw[<-ec];tm_up;cases V4 z with
   |true=>exact mY ⟨rfl,S1⟩
   |false =>
    refine jq ?_;tm_up;intro H2 S2;exact⟨_,rfl,rfl,S1.trans S2⟩
  rintro _ H2 ⟨rfl,S2⟩;refine aU (fun h=>?_) (fun h=>?_)
  ·rw[if_pos h]at q;tm_up;refine⟨_,_,rfl,T.Ek,?_⟩;tm_up;refine⟨by show 2<=sizeLine;decide,fun p hp=>?_⟩;exact⟨p,k,n,rfl,ai,q _ (S2.trans (ay.upd hp))⟩
  rw[if_neg h]at q;tm_up;exact q _ S2
def zm:Sp:=fun vs H Q _=>∃(z k:Str)(n:Int),vs=[.str z,.str k,.int n]/\∀ H',ay H H'->Q (twS z k n) H'
theorem zo (T:Txt K w mg t):cA P w K mg base jG (0+1) t.cR t.j7 ["state","kind","worth"] zm:=by
 refine T.fF.ok y7 (fun vs H Q E h=>?_) (fun cdv A outer s H vs Q E hr h=>?_)
 ·obtain⟨_,_,_,rfl,_⟩:=h;rfl
 ·obtain⟨z,k,n,rfl,q⟩:=h;refine aV (ah (aX (cj (PW.pt (cM (au (a4.or (aL (az hr))) (pv 0) aI (aw _)) (fe (au (GU.or (vY (az hr))) (pv 1) aI (aw _)))))) (aq (aA fi)) aF) (ah (aX (cj (PW.pt (cM (au (a4.or (aL (az hr))) (pv 0) aI (aw _)) (fe (au (a4.or (aL (az hr))) (pv 1) aI (aw _)))))) (aq (aA fi)) aF) (aq (aA (LH (G1 hr) (b0 (v:=.ref t.bP) rfl T.zi rfl) (cY (aa (pv 1) (aa (pv 2) ao)))))))) ?_;refine lB (decide (z = "2G") && !decide (k = ".")) ?_ ?_
  ·tm_up;rw[Fu];cases decide (z = "2G") with
   |false=>exact eU rfl
   |true =>
    refine mY ?_;tm_up;rw[Fu];exact eU rfl
  unfold twS at q;refine aU (fun h=>?_) (fun h=>?_)
  ·rw[if_pos h]at q;tm_up;exact q H (ay.refl _)
  rw[if_neg h]at q;refine lB (decide (z = "2g")&&decide (k = ".")) ?_ ?_
  ·tm_up;rw[Fu];cases decide (z = "2g") with
   |false=>exact eU rfl
   |true =>
    refine mY ?_;tm_up;rw[Fu];exact eU rfl
  refine aU (fun h=>?_) (fun h=>?_)
  ·rw[if_pos h]at q;tm_up;exact q H (ay.refl _)
  rw[if_neg h]at q;tm_up;refine⟨_,_,rfl,T.xM,?_⟩;tm_up;refine⟨by show 2<=sizeLine;decide,fun p hp=>?_⟩;exact⟨p,k,n,rfl,ai,q _ (ay.upd hp)⟩
def JZ:Sp:=fun vs H Q _=>∃(k c:Str)(n:Int),vs=[.str k,.str c,.int n]/\Q (XT k c n) H
theorem J0 (T:Txt K w mg t):cA P w K mg base jG (0+1) t.fu t.o8 ["kind","count","worth"] JZ:=by
 refine T.jj.ok JI (fun vs H Q E h=>?_) (fun cdv A outer s H vs Q E hr h=>?_)
 ·obtain⟨_,_,_,rfl,_⟩:=h;rfl
 ·obtain⟨k,c,n,rfl,q⟩:=h;refine aV (ah (aX (au (a4.or (aL (az hr))) (pv 2) ag (aw _)) (aq (aA (cB (lQ (au (a4.or (aL (az hr))) (pv 0) aI (aw _)) aI aI)))) aF) (ah (aX (cj (PW.pt (cM (au (a4.or (aL (az hr))) (pv 2) ag (aw _)) (cM (au (a4.or (aL (az hr))) (pv 0) aI (aw _)) (fe (au (a4.or (aL (az hr))) (pv 1) aI (aw _))))))) (aq (aA aI)) aF) (aq (aA fi)))) ?_;unfold XT at q;tm_up;rw[intD];refine aU (fun h=>?_) (fun h=>?_)
  ·rw[if_pos h]at q;refine lA (if decide (k = "s")=true then .str "s" else .str "o") ?_ q;tm_up;rw[Fu];refine aU (fun h=>?_) (fun h=>?_)
   ·tm_up;exact jf (by rw[if_pos h])
   ·tm_up;exact jf (by rw[if_neg h])
  rw[if_neg h]at q;refine lB (decide (n=2)&&(decide (k = "s")&&decide (c = "2"))) ?_ ?_
  ·tm_up;rw[intD];cases decide (n=2) with
   |false=>exact eU rfl
   |true =>
    refine mY ?_;tm_up;rw[Fu];cases decide (k = "s") with
    |false=>exact eU rfl
    |true =>
     refine mY ?_;tm_up;rw[Fu];exact eU rfl
  refine aU (fun h=>?_) (fun h=>?_)
  ·rw[if_pos h]at q;tm_up;exact q
  rw[if_neg h]at q;tm_up;exact q
def F1:Sp:=fun vs H Q _=>∃(z k:Str)(n:Int)(l c e:Nat),vs=[.str z,.str k,.int n]/\z.cps.toList=[51,l,c,e]/\(c=48\/c=49\/c=50)/\z.length<=4/\Q (smS z k n) H
theorem F2 (T:Txt K w mg t):cA P w K mg base jG (0+2) t.eF t.nr ["state","kind","worth"] F1:=by
 have Mh:=J0 (P:=P) (base:=base) T;refine T.gU.ok jc (fun vs H Q E h=>?_) (fun cdv A outer s H vs Q E hr h=>?_)
 ·obtain⟨_,_,_,_,_,_,rfl,_⟩:=h;rfl
 ·obtain⟨z,k,n,l,c,e,rfl,hz,hc,hl,q⟩:=h;have hl':z.length<=sizeLine:=V2 (by omega);refine aV (ah (aX (au (a4.or (aL (az hr))) (aE ax (pv 0) ag (fun _ _=>rfl)) aI (aw _)) (aq (aA fi)) aF) (ah (aD (i:=3) jc.nd rfl (Or.inl rfl) (aE aaz (b0 (v:=.ref t.cH) rfl T.FV rfl) (aE ax (pv 0) ag (fun _ _=>rfl)) (fun _ _=>rfl))) (ah (aD (i:=4) jc.nd rfl (Or.inl rfl) (av Mh (hr.mono (by decide)) rfl T.JQ T.jj.kp T.pk .nil aJ (aa (pv 1) (aa (pv 3) (aa (pv 2) ao))))) (ah (aX (au M8 (pv 4) fi (aw _)) (aq (aA fi)) aF) (ah (aD (i:=5) jc.nd rfl (Or.inl rfl) (cB (lQ (au (a4.or (aL (az hr))) (aE ax (pv 0) ag (fun _ _=>rfl)) aI (aw _)) aI (aE ax (pv 0) ag (fun _ _=>rfl))))) (aq (aA (VG (tL SY (tL (Ng (pv 5)) (tL (Ng (pv 3)) (tL (Ng (pv 4)) VF)))))))))))) ?_;unfold smS at q;tm_up;refine .inr (.inr ⟨_,_,e,rfl,rfl,hl',by rw[hz];rfl,?_⟩);tm_up;rw[qp e 83 (by lk)];have e3:z.cps.toList.getD 3 0=e:=by rw[hz];rfl
  have e2:z.cps.toList.getD 2 0=c:=by rw[hz];rfl
  have e1:z.cps.toList.getD 1 0=l:=by rw[hz];rfl
  rw[e3,e2]at q;refine aU (fun h=>?_) (fun h=>?_)
  ·rw[if_pos h]at q;tm_up;exact q
  rw[if_neg h]at q;tm_up;refine .inr (.inr ⟨_,_,c,rfl,rfl,hl',by rw[hz];rfl,?_⟩);refine⟨_,_,_,.str (Y3 c),rfl,rfl,T.Ej,by rcases hc with rfl|rfl|rfl <;> decide +kernel,?_⟩;tm_up;refine⟨k,Y3 c,n,rfl,?_⟩;tm_up;have cl:=V5 c;have ll:=V6 z;have l3:("3":Str).length=1:=LM _ (.inr (.inr (.inr (.inl rfl))));have ls:=LM "s" (.inl rfl);have lo:=LM "o" (.inr (.inl rfl));have lS:=LM "S" (.inr (.inr (.inl rfl)));generalize Y3 c=cc at q cl;rcases Ra k cc n with ht|ht|ht|ht <;> rw[ht]at q ⊢
  ·refine⟨rfl,_,rfl,mY ?_⟩;tm_up;exact q
  all_goals
   refine⟨rfl,_,rfl,jq ?_⟩;refine lA (.str (lfZ z)) ?_ ?_
   ·tm_up;refine .inr (.inr ⟨_,_,l,rfl,rfl,hl',by rw[hz];rfl,?_⟩);tm_up;rw[qp l 116 (by lk)];unfold lfZ chr;rw[e1];refine aU (fun h=>?_) (fun h=>?_)
    ·tm_up;exact jf (by rw[if_pos h])
    ·tm_up;refine .inr (.inr ⟨_,_,l,rfl,rfl,hl',by rw[hz];rfl,?_⟩);exact jf (by rw[if_neg h])
   refine⟨?_,_,rfl,.inl ⟨_,rfl,?_,?_,_,rfl,.inl ⟨_,rfl,?_,?_,_,rfl,.inl ⟨_,rfl,?_,?_,?_,?_⟩⟩⟩⟩
   all_goals first
    |exact V2 (by omega)
    |exact V2 (by simp only [PySem.Str.empty_append,TF];omega)
    |(rw[PySem.Str.empty_append];exact q)
def zq:Sp:=fun vs H Q _=>∃(z k:Str)(n:Int)(l c e:Nat),vs=[.str z,.str k,.int n]/\z.cps.toList=[51,l,c,e]/\z.length<=4/\Q (ptS z k n) H
theorem zt (T:Txt K w mg t):cA P w K mg base jG (0+2) t.cS t.j8 ["state","kind","worth"] zq:=by
 have pI:=xO (P:=P) (base:=base) T;refine T.fH.ok y8 (fun vs H Q E h=>?_) (fun cdv A outer s H vs Q E hr h=>?_)
 ·obtain⟨_,_,_,_,_,_,rfl,_⟩:=h;rfl
 ·obtain⟨z,k,n,l,c,e,rfl,hz,hl,q⟩:=h;refine aV (ah (aX (cj (PW.pt (kX (au (GU.or (vY (az hr))) (pv 2) ag (aw _)) (jV (oN (de (av pI (hr.mono (by decide)) rfl T.xI T.ke.kp T.pj .nil aJ (aa (pv 0) ao)))))))) (aq (aA fi)) aF) (ah (aX (au (a4.or (aL (az hr))) (pv 1) aI (aw _)) (aq (aA (b0 (v:=.str "2-") rfl T.om ⟨_,rfl⟩))) aF) (aq (aA (b0 (v:=.str "3n0-") rfl T.lj ⟨_,rfl⟩))))) ?_;refine lB (!decide (n=0) || !V4 z) ?_ ?_
  ·tm_up;rw[intD];cases hn:decide (n=0) with
   |false=>exact eU rfl
   |true =>
    refine jq ?_;tm_up;refine⟨z,l,c,e,rfl,hz,hl,?_⟩;have ec:V4 z=qo l c:=by unfold V4;rw[hz];rfl
    rw[<-ec];exact⟨_,rfl,rfl,rfl⟩
  unfold ptS at q;refine aU (fun h=>?_) (fun h=>?_)
  ·rw[if_pos h]at q;tm_up;exact q
  rw[if_neg h]at q;tm_up;rw[Fu];refine aU (fun h=>?_) (fun h=>?_)
  ·rw[if_pos h]at q;tm_up;exact q
  rw[if_neg h]at q;tm_up;exact q
def WN (K:Frag):Sp:=fun vs H Q _=>∃(z:Str)(p:Addr)(g:Sg)(n:Int),vs=[.str z,.ref p,.int n]/\z∈ST/\cz K H p [.str g.1.str,.int g.2]/\∀ H',ay H H'->Q (jK z g.1 n) H'
theorem WO (T:Txt K w mg t):cA P w K mg base jG (0+3) t.rT t.NT ["state","sign","worth"] (WN K):=by
 have WQ:=Uo (P:=P) (base:=base) T;have RA:=Oa (P:=P) (base:=base) T;have J1:=F0 (P:=P) (base:=base) T;have Er:=zo (P:=P) (base:=base) T;have J2:=F2 (P:=P) (base:=base) T;have Es:=zt (P:=P) (base:=base) T;refine T.Ec.ok Wz (fun vs H Q E h=>?_) (fun cdv A outer s H vs Q E hr h=>?_)
 ·obtain⟨_,_,_,_,rfl,_⟩:=h;rfl
 ·obtain⟨z,p,g,n,rfl,hz,hp,q⟩:=h;have hl:=Qg hz;refine aV (ah (aX (au (bD.or bC) (pv 0) (b0 (v:=.ref t.bF) rfl T.mn rfl) rfl) (aq (aA (av Er (hr.mono (by decide)) rfl T.zb T.fF.kp T.kg .nil aJ (aa (pv 0) (aa (aE ax (pv 1) ag (fun _ _=>rfl)) (aa (pv 2) ao)))))) aF) (ah (aX (de (av WQ (hr.mono (by decide)) rfl T.Uc T.ue.kp T.JP .nil aJ (aa (pv 1) ao))) (aq (aA (av J2 (hr.mono (by decide)) rfl T.FQ T.gU.kp T.nE .nil aJ (aa (pv 0) (aa (aE ax (pv 1) ag (fun _ _=>rfl)) (aa (pv 2) ao)))))) aF) (ah (aX (de (av RA (hr.mono (by decide)) rfl T.NX T.mh.kp T.xH .nil aJ (aa (pv 1) ao))) (aq (aA (av Es (hr.mono (by decide)) rfl T.zc T.fH.kp T.kh .nil aJ (aa (pv 0) (aa (aE ax (pv 1) ag (fun _ _=>rfl)) (aa (pv 2) ao)))))) aF) (aq (aA (av J1 (hr.mono (by decide)) rfl T.FP T.gT.kp T.nD .nil aJ (aa (pv 0) (aa (aE ax (pv 1) ag (fun _ _=>rfl)) (aa (pv 2) ao))))))))) ?_;unfold jK at q;tm_up;refine .inl ⟨_,_,rfl,.inr (T.mq _),rfl,rfl,?_⟩;rw[XR hz];tm_up;refine aU (fun h=>?_) (fun h=>?_)
  ·have h:Ft z=true:=h;rw[if_pos h]at q;refine⟨_,rfl,_,rfl,Im hp ⟨_,rfl,z,g.1.str,n,rfl,q⟩⟩
  have h:¬ Ft z=true:=h;obtain⟨l,c,e,h3⟩:=LL hz h;rw[if_neg h]at q;refine⟨_,rfl,p,g,rfl,hp,_,rfl,?_⟩;refine aU (fun h=>?_) (fun h=>?_)
  ·rw[if_pos h]at q;exact⟨_,rfl,_,rfl,Im hp ⟨_,rfl,z,g.1.str,n,l,c,e,rfl,h3,ad5 hz h3,hl,q H (ay.refl _)⟩⟩
  rw[if_neg h]at q;refine⟨_,rfl,p,g,rfl,hp,_,rfl,?_⟩;refine aU (fun h=>?_) (fun h=>?_)
  ·rw[if_pos h]at q;exact⟨_,rfl,_,rfl,Im hp ⟨_,rfl,z,g.1.str,n,l,c,e,rfl,h3,hl,q H (ay.refl _)⟩⟩
  rw[if_neg h]at q;exact⟨_,rfl,_,rfl,Im hp ⟨_,rfl,z,g.1.str,n,l,c,e,rfl,h3,hl,q⟩⟩
def Up (K:Frag):Sp:=fun vs H Q _=>∃(z:Str)(sg:Addr)(n:Int)(pz:Addr)(ys:List V)(ss:List Sg)(c:cW),vs=[.str z,.ref sg,.int n,.ref pz]/\z∈ST/\0<=n/\n<=9/\cz K H sg ys/\Paired (qM K H) ys ss/\ss.length<=10/\H pz=some (.tup [lP c.1,lP c.2.1,lP c.2.2]) /\
 ∀(l:Addr)(xs:List V)(H':Hp),ay H H'->H l=none->H' l=some (.lst xs)->Paired (LO K H') xs (aZ c z n ss)->Q (.ref l) H'
theorem Mi (T:Txt K w mg t):cA P w K mg base jG (0+4) t.nt t.JM ["state","signs","worth","prices"] (Up K):=by
 have J3:=FY (P:=P) (base:=base) T;have Zm:=WO (P:=P) (base:=base) T;refine T.qA.ok o7 (fun vs H Q E h=>?_) (fun cdv A outer s H vs Q E hr h=>?_)
 ·obtain⟨_,_,_,_,_,_,_,rfl,_⟩:=h;rfl
 ·obtain⟨z,sg,n,pz,ys,ss,c,rfl,hz,h0,h9,hsg,hss,hl,hpz,q⟩:=h;refine aV (ah (aD (i:=4) o7.nd rfl (Or.inl rfl) (gm ao)) (ah (iC PassesOwn.never rfl (SA (pv 1)) (aK (i:=5) o7.nd rfl (Or.inl rfl)) (ah (aD (i:=6) o7.nd rfl (Or.inl rfl) (av J3 (hr.mono (by decide)) rfl T.FO T.gR.kp T.nC .nil aJ (aa (pv 5) (aa (pv 3) ao)))) (ah (aD (i:=7) o7.nd rfl (Or.inl rfl) (av Zm (hr.mono (by decide)) rfl T.WB T.Ec.kp T.NY .nil aJ (aa (pv 0) (aa (pv 5) (aa (pv 2) ao))))) (aq (aX (cj (PW.pt (cM (au PK (pv 6) fi (aw _)) (fe (au PK (pv 7) fi (aw _)))))) (aq (c5 (jW plainAttrs_list slot_list_append type_list_append bO (pv 4) (aa (cY (aa (pv 5) (aa (pv 6) (aa (pv 7) ao)))) ao)))) aF))))) (aq (aA (pv 4))))) ?_;refine⟨big (by show 0<=1000;omega),fun f hf=>?_⟩;have s0:=ay.upd (o:=.lst []) hf;tm_up;refine⟨⟨ys,s0.tup hsg⟩,Vv (K:=K) (xs:=ys) (fun i σ H'=>∃(u v w:Option V)(xs:List V),σ=[some (.str z),some (.ref sg),some (.int n),some (.ref pz),some (.ref f),u,v,w]/\ay H H'/\H' f=some (.lst xs)/\Paired (LO K H') xs (aZ c z n (ss.take i))/\i<=ss.length)
   ⟨none,none,none,[],rfl,s0,ai,.nil,Nat.zero_le _⟩ ?_ ?_ ?_⟩
  ·rintro i σ H' _ ⟨u,v,w,xs,rfl,s1,_⟩;exact s1.tup hsg
  ·rintro i x σ H' hx ⟨u,v,w,xs,rfl,s1,hf1,p1,il⟩;obtain⟨s,hs,p,rfl,hp⟩:=qX hss hx;have QA:i<ss.length:=(List.getElem?_eq_some_iff.mp hs).1;have hp1:=s1.tup hp;have xl:xs.length<=10:=by
    rw[d4 p1];exact Nat.le_trans (Rb _ _ _ _) (by rw[length_take];omega)
   have ht:=NA (c:=c) (z:=z) (n:=n) hs;unfold Fv at ht;tm_up;refine⟨p,pz,s,c,rfl,hp1,s1 _ _ hpz,?_⟩;tm_up;refine⟨z,p,s,n,rfl,hz,hp1,fun H2 s2=>?_⟩;have sF:=s1.trans s2;have pF:=bK (fun _ _ q=>LO.kn s2.kn q) p1;have hfF:=s2 _ _ hf1;rcases TJ hz s.1 h0 h9 with ⟨e1,e2⟩|⟨y,hy,e1,e2⟩
   ·rw[e2]at ht;have ht:aZ c z n (ss.take (i+1))=aZ c z n (ss.take i):=by
     rw[ht];cases costOf c s.1 <;> exact append_nil _
    rw[e1];refine⟨fun b H3=>H3=H2/\b=false,?_,?_⟩
    ·cases costOf c s.1 with
     |none =>
      tm_up;exact⟨rfl,_,rfl,jq ⟨rfl,rfl⟩⟩
     |some m =>
      tm_up;refine⟨rfl,_,rfl,mY ?_⟩;tm_up;exact⟨rfl,_,rfl,rfl,rfl⟩
    ·rintro _ _ ⟨rfl,rfl⟩;exact jq ⟨_,_,_,xs,rfl,sF,hfF,by rw[ht];exact pF,QA⟩
   ·rw[e2]at ht;rw[e1];cases ec:costOf c s.1 with
    |none =>
     rw[ec]at ht;have ht:aZ c z n (ss.take (i+1))=aZ c z n (ss.take i):=by rw[ht];exact append_nil _
     refine⟨fun b H3=>H3=H2/\b=false,?_,?_⟩
     ·tm_up;exact⟨rfl,_,rfl,jq ⟨rfl,rfl⟩⟩
     ·rintro _ _ ⟨rfl,rfl⟩;exact jq ⟨_,_,_,xs,rfl,sF,hfF,by rw[ht];exact pF,QA⟩
    |some m =>
     rw[ec]at ht;refine⟨fun b H3=>H3=H2/\b=true,?_,?_⟩
     ·tm_up;refine⟨rfl,_,rfl,mY ?_⟩;tm_up;exact⟨rfl,_,rfl,rfl,rfl⟩
     ·rintro _ _ ⟨rfl,rfl⟩;refine mY ?_;tm_up;refine⟨.inl ⟨rfl,_,a6.of hfF⟩,?_⟩;tm_up;refine⟨by show 3<=sizeLine;decide,fun tp htp=>?_⟩;have sT:=ay.upd (o:=.tup [.ref p,.int m,.str y]) htp;have hfT:=sT _ _ hfF;refine⟨f,xs,_,rfl,rfl,hfT,cK (by omega),?_⟩;refine⟨_,_,_,_,rfl,i8 (sF.trans sT) hf,ai,?_,QA⟩;rw[ht];exact bK (fun _ _ q=>LO.write hfT q) (og (bK (fun _ _ q=>LO.kn sT.kn q) pF) ⟨tp,p,rfl,ai,(s2.trans sT).tup hp1⟩)
  ·rintro σ H' ⟨u,v,w,xs,rfl,s1,hf1,p1,_⟩;rw[d4 hss,take_length]at p1;tm_up;exact q f xs H' s1 hf hf1 p1
def xP (K:Frag):Sp:=fun vs H Q _=>∃(z:Str)(pz:Addr)(c:cW),vs=[.str z,.ref pz]/\z∈ST/\H pz=some (.tup [lP c.1,lP c.2.1,lP c.2.2]) /\
 ∀(l:Addr)(xs:List V)(H':Hp),ay H H'->H l=none->H' l=some (.lst xs)->Paired (LO K H') xs (aZ c z 0 gg)->Q (.ref l) H'
theorem xQ (T:Txt K w mg t):cA P w K mg base jG (0+5) t.cq t.jr ["state","prices"] (xP K):=by
 have J4:=Mi (P:=P) (base:=base) T;refine T.eW.ok xx (fun vs H Q E h=>?_) (fun cdv A outer s H vs Q E hr h=>?_)
 ·obtain⟨_,_,_,rfl,_⟩:=h;rfl
 ·obtain⟨z,pz,c,rfl,hz,hpz,q⟩:=h;refine aV (aq (aA (av J4 (hr.mono (by decide)) rfl T.L7 T.qA.kp T.BQ .nil aJ (aa (pv 0) (aa (b0 (v:=.ref t.cy) rfl T.zj rfl) (aa ag (aa (pv 1) ao))))))) ?_;tm_up;exact⟨z,_,0,pz,_,gg,c,rfl,hz,by decide,by decide,T.zk _,.cons ⟨_,rfl,T.uf _⟩ (.cons ⟨_,rfl,T.ug _⟩ (.cons ⟨_,rfl,T.uh _⟩ .nil)),by decide,hpz,q⟩
def zu (K:Frag):Sp:=fun vs H Q _=>∃(A:Addr->Prop)(d l:Addr)(z:Str)(c:Int)(kvs:List (Key×V)) (ws:List Wy) (ys:List V) (ln:List Sg),vs=[.ref d,.str z,.int c,.ref l]/\H d=some (.dK kvs)/\kvs.length<=900/\Paired (gB K A H) kvs ws/\A l/\H l=some (.lst ys)/\Paired (qM K H) ys ln /\
 ∀(kvs':List (Key×V)) (H':Hp),(∀ b o,b≠d->H b=some o->H' b=some o)->H' d=some (.dK kvs')->Paired (gB K A H') kvs' (fg ws z c ln)->Q .non H'
theorem oq (T:Txt K w mg t):cA P w K mg base jG (0+1) t.cT t.j9 ["ways","state","cost","line"] (zu K):=by
 refine T.dZ.ok y9 (fun vs H Q E h=>?_) (fun cdv A outer s H vs Q E hr h=>?_)
 ·obtain⟨_,_,_,_,_,_,_,_,_,rfl,_⟩:=h;rfl
 ·obtain⟨A',d,l,z,c,kvs,ws,ys,ln,rfl,hd,hk,hws,hA,hl,hln,q⟩:=h;refine aV (aq (aX (cj (PW.pt (kX (Yl (Q0 (G1 hr) (pv 1) (pv 0))) (jV (au oR (pv 2) (aE ax (P1 (G1 hr) (pv 0) (pv 1) (fun _ _=>rfl)) ag (fun _ _=>rfl)) (aw _)))))) (aq (VS (G1 hr) (pv 0) (pv 1) (cY (aa (pv 2) (aa (pv 3) ao))) rfl)) aF)) ?_;have fin:∀ tp,H tp=none->TK ws z c ln=fg ws z c ln->Q .non (upd (upd H tp (.tup [.int c,.ref l])) d (.dK (putK kvs (Sum.inr z) (.ref tp)))):=fun tp htp hu=>by
   have sT:=ay.upd (o:=.tup [.int c,.ref l]) htp;have hd2:=sT _ _ hd;have kn:=Kn.put (u:=.dK (putK kvs (Sum.inr z) (.ref tp))) hd2 rfl;refine q _ _ (fun b o hb e=>by rw[ar hb];exact sT _ _ e) ai ?_;have:=gB.put (gB.tS sT.kn hws) (z:=z) (v:=.ref tp) (c:=c) (ln:=ln) ⟨rfl,tp,l,ys,rfl,hA,ai,sT _ _ hl,qM.tS sT.kn hln⟩;rw[hu]at this;exact gB.tS kn this
  rcases gB.val hws z with ⟨e1,e2⟩|⟨⟨k,ol⟩,v,e1,e2,e3⟩
  ·refine lB true ?_ (mY ?_)
   ·refine⟨_,rfl,_,rfl,d,_,rfl,B6.k (k:=Sum.inr z) hd,?_⟩;rw[e2];exact⟨_,rfl,mY ⟨rfl,rfl⟩⟩
   ·tm_up;refine⟨by show 2<=sizeLine;decide,fun tp htp=>?_⟩;refine⟨_,rfl,_,rfl,d,_,rfl,QX.k (k:=Sum.inr z) ((ay.upd htp) _ _ hd) (cK (by omega)),?_⟩;exact fin tp htp (by unfold TK fg;rw[e1])
  ·obtain⟨_,tq,lq,yq,rfl,_,hq,_⟩:=e3;refine lB (decide (c<k)) ?_ ?_
   ·refine⟨_,rfl,_,rfl,d,_,rfl,B6.k (k:=Sum.inr z) hd,?_⟩;rw[e2];refine⟨_,rfl,jq ?_⟩;tm_up;have g:=B6.k (k:=Sum.inr z) hd;rw[e2]at g;refine⟨d,_,rfl,g,?_⟩;tm_up;exact⟨rfl,rfl⟩
   refine aU (fun h=>?_) (fun h=>?_)
   ·tm_up;refine⟨by show 2<=sizeLine;decide,fun tp htp=>?_⟩;refine⟨_,rfl,_,rfl,d,_,rfl,QX.k (k:=Sum.inr z) ((ay.upd htp) _ _ hd) (cK (by omega)),?_⟩;exact fin tp htp (by
     unfold TK fg;rw[e1];exact(if_pos (of_decide_eq_true h)).symm)
   ·refine q kvs H (fun _ _ _ e=>e) hd ?_;unfold fg;rw[e1];show Paired _ _ (if c<k then _ else _);rw[if_neg (fun z=>h (decide_eq_true z))];exact hws
def oB (K:Frag):Sp:=fun vs H Q _=>∃(A:Addr->Prop)(d pz:Addr)(c:cW)(kvs:List (Key×V)) (ws:List Wy) (B:Nat),vs=[.ref d,.ref pz]/\H d=some (.dK kvs)/\Paired (gB K A H) kvs ws/\fO B ws/\B<=100000/\(∀ l,H l=none->A l)/\H pz=some (.tup [lP c.1,lP c.2.1,lP c.2.2]) /\
 ∀(f:Addr)(kvs':List (Key×V)) (H':Hp),ay H H'->H f=none->H' f=some (.dK kvs')->Paired (gB K A H') kvs' (withPart c ws)->Q (.ref f) H'
theorem oC (T:Txt K w mg t):cA P w K mg base jG (0+6) t.a7 t.fv ["ways","prices"] (oB K):=by
 have zv:=xQ (P:=P) (base:=base) T;have km:=oq (P:=P) (base:=base) T;refine T.bH.ok aO (fun vs H Q E h=>?_) (fun cdv A outer s H vs Q E hr h=>?_)
 ·obtain⟨_,_,_,_,_,_,_,rfl,_⟩:=h;rfl
 ·obtain⟨A',d,pz,c,kvs,ws,B,rfl,hd,hws,X7,hB,hA,hpz,q⟩:=h;have wl:=X7.len;refine aV (ah (aD (i:=2) aO.nd rfl (Or.inl rfl) (iD Nr rfl T.WE VL (aa (pv 0) ao))) (ah (iC PassesOwn.never rfl (lR rfl T.pG (aa (b0 (v:=.int 2) rfl T.pH ⟨_,rfl⟩) ao)) (aK (i:=3) aO.nd rfl (Or.inl rfl)) (aq (iC PassesOwn.never rfl (mV (iD Nq rfl T.Qw PX (aa (pv 2) ao))) (aK (i:=4) aO.nd rfl (Or.inl rfl)) (ah (oP (P1 (G1 hr) (pv 2) (pv 4) (fun _ _=>rfl)) (iB rfl (aR (aK (i:=5) aO.nd rfl (Or.inl rfl)) (aR (aK (i:=6) aO.nd rfl (Or.inl rfl)) fN)))) (aq (iC PassesOwn.never rfl (mV (av zv (hr.mono (by decide)) rfl T.xJ T.eW.kp T.js .nil aJ (aa (pv 4) (aa (pv 1) ao)))) (iB rfl (aR (aK (i:=7) aO.nd rfl (Or.inl rfl)) (aR (aK (i:=8) aO.nd rfl (Or.inl rfl)) (aR (aK (i:=9) aO.nd rfl (Or.inl rfl)) fN)))) (aq (c5 (av km (hr.mono (by decide)) rfl T.oj T.dZ.kp T.gW .nil aJ (aa (pv 2) (aa (pv 9) (aa (aM (cN.or (aN.or cO)) (pv 5) (pv 8)) (aa (aM (cN.or (aN.or cO)) (pv 6) (gm (aa (pv 7) ao))) ao))))))))))))) (aq (aA (pv 2))))) ?_;tm_up;refine⟨d,kvs,rfl,.inl hd,fun f hf=>?_⟩;have s0:=ay.upd (o:=.dK kvs) hf;tm_up;refine⟨by decide,by decide,qj (n:=2) (fun i σ H'=>∃(v1 v2 v3 v4 v5 v6 v7:Option V)(kvs:List (Key×V)),σ=[some (.ref d),some (.ref pz),some (.ref f),v1,v2,v3,v4,v5,v6,v7]/\ay H H'/\H' f=some (.dK kvs)/\Paired (gB K A' H') kvs (yY c ws i)/\i<=2)
   ⟨none,none,none,none,none,none,none,kvs,rfl,s0,ai,gB.tS s0.kn hws,by decide⟩ ?_ ?_⟩
  ·rintro i σ H' hi ⟨v1,v2,v3,v4,v5,v6,v7,Mj,rfl,s1,hf1,w1,il⟩;have aok:=A0 (c:=c) X7 i;generalize hac:yY c ws i=ac at w1 aok;have acl:=aok.len;refine⟨_,rfl,rfl,f,Mj,rfl,.inl hf1,fun l1 hl1=>?_⟩;rw[Y6 w1];have s2:=ay.upd (o:=.lst ((ac.map (·.1)).map V.str)) hl1;have h2:=ai (H:=H') (a:=l1) (o:=.lst ((ac.map (·.1)).map V.str));have nl:H l1=none:=s1.free hl1;generalize upd H' l1 (.lst ((ac.map (·.1)).map V.str))=H2 at s2 h2;refine⟨l1,rfl,⟨_,a6.of h2⟩,lT (K:=K) (xs:=(ac.map (·.1)).map V.str) (fun j σ H'=>∃(v2 v3 v4 v5 v6 v7:Option V)(kvs:List (Key×V)),σ=[some (.ref d),some (.ref pz),some (.ref f),some (.int (0+(i:Int))),v2,v3,v4,v5,v6,v7]/\ay H H'/\H' l1=some (.lst ((ac.map (·.1)).map V.str))/\H' f=some (.dK kvs)/\Paired (gB K A' H') kvs (iy c ((ac.map (·.1)).take j) ac)/\j<=ac.length)
    ⟨v2,v3,v4,v5,v6,v7,Mj,rfl,s1.trans s2,h2,s2 _ _ hf1,gB.tS s2.kn w1,Nat.zero_le _⟩ ?_ ?_ ?_⟩
   ·rintro j σ H' _ ⟨v2,v3,v4,v5,v6,v7,kvs,rfl,_,h3,_⟩;exact a6.of h3
   ·rintro j x σ H3 hx ⟨v2,v3,v4,v5,v6,v7,Zn,rfl,s3,h3,Ul,w3,jl⟩;obtain⟨z,hz0,rfl⟩:=V3 hx;have jl2:j<ac.length:=by have:=(List.getElem?_eq_some_iff.mp hz0).1;rwa [length_map]at this
    have hzm:z∈ac.map (·.1):=mem_of_getElem? hz0;have hz:z∈ST:=by
     obtain⟨w,hw,rfl⟩:=mem_map.mp hzm;exact aok.st w hw
    have cok:=Cj (c:=c) (zs:=(ac.map (·.1)).take j) (acc:=ac) (fun y hy=>by
     obtain⟨w,hw,rfl⟩:=mem_map.mp (List.mem_of_mem_take hy);exact aok.st w hw) aok
    have hck:=Ck c ((ac.map (·.1)).take j) ac hzm;have hnx:iy c ((ac.map (·.1)).take (j+1)) ac=cX c (iy c ((ac.map (·.1)).take j) ac) z:=by rw[take_succ,hz0];exact NC c _ z ac
    have ahB:((ac.map (·.1)).take j).length<=28:=by rw[length_take,length_map];omega
    generalize iy c ((ac.map (·.1)).take j) ac=cu at w3 cok hck hnx;obtain⟨⟨k0,ql⟩,hq0⟩:=Rc hck;have qll:ql.length<=B+28 * i+28:=Nat.le_trans (cok.ln _ (j0 hq0)) (by omega);rcases gB.val w3 z with ⟨e1,_⟩|⟨q1,v,e1,e2,e3⟩
    ·rw[e1]at hq0;cases hq0
    rw[hq0]at e1;obtain rfl:(k0,ql)=q1:=Option.some.inj e1;obtain⟨_,tq,lq,yq,rfl,_,Zo,ZT,pq⟩:=e3;have g:=B6.k (k:=Sum.inr z) Ul;rw[e2]at g;refine⟨_,rfl,_,rfl,f,_,rfl,g,?_⟩;refine⟨tq,_,rfl,cz.of Zo,rfl,_,_,rfl,_,_,rfl,rfl,?_⟩;refine⟨_,rfl,_,rfl,z,pz,c,rfl,hz,s3 _ _ hpz,fun l3 YU H4 s4 n4 h4 p4=>?_⟩;have hst:cX c cu z=dm k0 ql (aZ c z 0 gg) cu:=by unfold cX;rw[hq0]
    have Uq:∀ m∈aZ c z 0 gg,m.2.2∈ST:=fun m hm=>Ci hz hm;generalize aZ c z 0 gg=ms at p4 hst Uq;refine⟨l3,rfl,⟨_,a6.of h4⟩,lT (K:=K) (xs:=YU) (fun k σ H'=>∃(v5 v6 v7:Option V)(kvs:List (Key×V)),σ=[some (.ref d),some (.ref pz),some (.ref f),some (.int (0+(i:Int))),some (.str z),some (.int k0),some (.ref lq),v5,v6,v7]/\ay H H'/\H' l1=some (.lst ((ac.map (·.1)).map V.str))/\H' l3=some (.lst YU)/\Paired (LO K H') YU ms/\H' lq=some (.lst yq)/\Paired (qM K H') yq ql/\H' f=some (.dK kvs)/\Paired (gB K A' H') kvs (dm k0 ql (ms.take k) cu)/\k<=ms.length)
     ⟨v5,v6,v7,Zn,rfl,s3.trans s4,s4 _ _ h3,h4,p4,s4 _ _ ZT,qM.tS s4.kn pq,s4 _ _ Ul,gB.tS s4.kn w3,Nat.zero_le _⟩ ?_ ?_ ?_⟩
    ·rintro k σ H' _ ⟨v5,v6,v7,kvs,rfl,_,_,h5,_⟩;exact a6.of h5
    ·rintro k y σ H5 hy ⟨v5,v6,v7,Et,rfl,s5,hl5,hm5,p5,Zp,WR,Ur,w5,kl⟩;obtain⟨m,hm,p,qq,rfl,hp,hqq⟩:=qX p5 hy;have kl2:k<ms.length:=(List.getElem?_eq_some_iff.mp hm).1;refine⟨p,_,rfl,cz.of hp,rfl,_,_,rfl,_,_,rfl,_,_,rfl,rfl,?_⟩;tm_up;refine⟨by show 1<=sizeLine;decide,fun a1 ha1=>?_⟩;have s6:=ay.upd (o:=.lst [.ref qq]) ha1;have hq6:=s6 _ _ Zp;refine .inr (.inr ⟨lq,a1,yq,[.ref qq],rfl,rfl,hq6,ai,?_,fun a2 ha2=>?_⟩)
     ·rw[d4 WR];exact Nat.le_trans (show ql.length+1<=1000000 by omega) (by decide)
     have s7:=s6.trans (ay.upd (o:=.lst (yq++[.ref qq])) ha2);have h7:=ai (H:=upd H5 a1 (.lst [.ref qq])) (a:=a2) (o:=.lst (yq++[.ref qq]));generalize upd (upd H5 a1 (.lst [.ref qq])) a2 (.lst (yq++[.ref qq]))=H7 at s7 h7;have w7:=gB.tS s7.kn w5;have sok:=o4 (B:=B+28 * i+28+1) (k:=k0) (ln:=ql) (ms:=ms.take k) (acc:=cu) (by omega) (fun x hx=>Uq x (List.mem_of_mem_take hx)) (cok.mono (by omega));refine⟨A',f,a2,_,_,Et,_,_,ql++[m.1],rfl,s7 _ _ Ur,by rw[d4 w5];have:=sok.len;omega,w7,hA _ ((s5.trans s6).free ha2),h7,og (qM.tS s7.kn WR) ⟨qq,rfl,s7.tup hqq⟩,fun Zq H8 ZU h8 w8=>?_⟩;have kn:=Kn.of (s7 _ _ Ur) ZU;refine⟨_,_,_,Zq,rfl,fun b o e=>ZU b o (aC e hf) (s7 _ _ (s5 b o e)),kn _ _ (s7 _ _ hl5) rfl,kn _ _ (s7 _ _ hm5) rfl,bK (fun _ _ q=>LO.kn (s7.kn.trans kn) q) p5,kn _ _ (s7 _ _ Zp) rfl,qM.tS (s7.kn.trans kn) WR,h8,?_,kl2⟩;have est:dm k0 ql (ms.take (k+1)) cu=fg (dm k0 ql (ms.take k) cu) m.2.2 (k0+m.2.1) (ql++[m.1]):=by
      rw[take_succ,hm];unfold dm;rw[List.foldl_append];rfl
     rw[est];exact w8
    ·rintro σ H5 ⟨v5,v6,v7,Et,rfl,s5,hl5,hm5,p5,Zp,WR,Ur,w5,_⟩;rw[d4 p5,take_length,<-hst]at w5;exact⟨_,_,_,_,_,_,Et,rfl,s5,hl5,Ur,by rw[hnx];exact w5,jl2⟩
   ·rintro σ H3 ⟨v2,v3,v4,v5,v6,v7,Zn,rfl,s3,h3,Ul,w3,jl⟩;rw[length_map,length_map,<-length_map (f:=Prod.fst),take_length]at w3;refine⟨_,_,_,_,_,_,_,Zn,rfl,s3,Ul,?_,hi⟩;show Paired _ _ (iy c ((yY c ws i).map (·.1)) (yY c ws i));rw[hac];exact w3
  ·rintro σ H' ⟨v1,v2,v3,v4,v5,v6,v7,Mj,rfl,s1,hf1,w1,il⟩;tm_up;exact q f Mj H' s1 hf hf1 w1
def Us (K:Frag):Sp:=fun vs H Q _=>∃(A:Addr->Prop)(d:Addr)(kvs:List (Key×V)) (ws:List Wy),vs=[.ref d]/\H d=some (.dK kvs)/\Paired (gB K A H) kvs ws/\ws.length<=900 /\
 ∀(l:Addr)(xs:List V)(H':Hp),ay H H'->H l=none->H' l=some (.lst xs)->Paired (NF H') xs (wc ws)->Q (.ref l) H'
theorem Ut (T:Txt K w mg t):cA P w K mg base jG (0+1) t.nu t.JN ["ways"] (Us K):=by
 refine T.qB.ok T9 (fun vs H Q E h=>?_) (fun cdv A outer s H vs Q E hr h=>?_)
 ·obtain⟨_,_,_,_,rfl,_⟩:=h;rfl
 ·obtain⟨A',d,kvs,ws,rfl,hd,hws,hl,q⟩:=h;refine aV (aq (aA (VY (AZ (cn:=["state","cost","line"]) rfl (gi.of rfl) (Ca (pv 0)) (fun _=>(iB rfl (aR (aK (i:=0) rP rfl (Or.inl rfl)) (aR (iB rfl (aR (aK (i:=1) rP rfl (Or.inl rfl)) (aR (aK (i:=2) rP rfl (Or.inl rfl)) fN))) fN)))) (fun _=>Ic) (fun _=>(cY (aa (pv 0) (aa (pv 1) ao)))))))) ?_;refine⟨_,rfl,d,kvs,rfl,hd,fun o D b hD=>?_⟩;have kn0:=Kn.put (u:=.jI o (.dK kvs)) hd rfl;have sx0:∀ b u,b≠d->H b=some u->upd H d (.jI o (.dK kvs)) b=some u:=fun b u hb e=>by rw[ar hb];exact e
  have hd1:=ai (H:=H) (a:=d) (o:=.jI o (.dK kvs));have w1:=gB.tS kn0 hws;have nDd:D≠d:=fun e=>by rw[e,hd1]at hD;cases hD
  have hD0:H D=none:=by rw[ar nDd]at hD;exact hD
  generalize upd H d (.jI o (.dK kvs))=H1 at sx0 hd1 w1 hD;have s1:=ay.upd (o:=.lst []) hD;refine Cb (fun i ys σ H'=>∃(v1 v2 v3:Option V),σ=[v1,v2,v3,some (.ref d)]/\ay H1 H'/\H' D=some (.lst ys)/\Paired (NF H') ys (wc (ws.take i))/\i<=ws.length)
   ⟨none,none,none,rfl,s1,ai,.nil,Nat.zero_le _⟩ ?_ ?_ ?_
  ·rintro i ys σ H' ⟨v1,v2,v3,rfl,s2,_⟩;exact s2 _ _ hd1
  ·rintro i ys kv tt σ H2 hkv ⟨v1,v2,v3,rfl,s2,hD2,p2,il⟩ htt N hN;obtain⟨⟨z,k0,ql⟩,hw,hk1,tq,lq,yq,hk2,_,Zo,ZT,pq⟩:=qX w1 hkv;have hk1:kv.1=Sum.inr z:=hk1;have QA:i<ws.length:=(List.getElem?_eq_some_iff.mp hw).1;rw[hk1,hk2];have st:=ay.upd (o:=.tup [kV (Sum.inr z),.ref tq]) htt;have h3:=ai (H:=H2) (a:=tt) (o:=.tup [kV (Sum.inr z),.ref tq]);generalize upd H2 tt (.tup [kV (Sum.inr z),.ref tq])=H3 at st h3;refine⟨tt,_,rfl,cz.of h3,rfl,_,_,rfl,_,_,rfl,tq,_,rfl,cz.of (st _ _ (s2 _ _ Zo)),rfl,_,_,rfl,_,_,rfl,rfl,rfl,?_⟩;tm_up;refine⟨by show 2<=sizeLine;decide,fun tp htp=>?_⟩;have sT:=st.trans (ay.upd (o:=.tup [.str z,.int k0]) htp);have hDT:=sT _ _ hD2;have yl:ys.length<=900:=by rw[d4 p2];unfold wc;rw[length_map,length_take];omega
   refine⟨hDT,cK (by omega),hN _ _ _ ⟨_,_,_,rfl,i8 (s2.trans sT) hD,ai,?_,QA⟩⟩;unfold wc;rw[take_succ,hw,map_append];exact bK (fun _ _ q=>NF.write hDT q) (og (bK (fun _ _ q=>NF.kn sT.kn q) p2) ⟨tp,rfl,ai⟩)
  ·rintro ys σ H5 ⟨v1,v2,v3,rfl,s5,hD5,p5,_⟩;rw[d4 hws,take_length]at p5;have Ob:=s5 _ _ hd1;refine⟨d,o,kvs,Ob,fun o' v' e=>?_,?_⟩
   ·have e:H d=some (.jI o' v'):=e;rw[hd]at e;cases e
   have kn:=Kn.put (u:=.dK kvs) Ob rfl;refine q D ys _ (fun b u e=>?_) hD0 (by rw[ar nDd];exact hD5) (bK (fun _ _ q=>NF.kn kn q) p5)
   by_cases hb:b=d
   ·subst hb;rw[hd]at e;cases e;exact ai
   ·rw[ar hb];exact s5 _ _ (sx0 b u hb e)
def Eu:Sp:=fun vs H Q _=>∃(b:Int),vs=[.int b]/\Q (.str (if b=3 then "3n0-" else "2-")) H
theorem Ew (T:Txt K w mg t):cA P w K mg base jG (0+1) t.dg t.jd ["begin"] Eu:=by
 refine T.eZ.ok D1 (fun vs H Q E h=>?_) (fun cdv A outer s H vs Q E hr h=>?_)
 ·obtain⟨_,rfl,_⟩:=h;rfl
 ·obtain⟨b,rfl,q⟩:=h;refine aV (ah (aX (au (a4.or (aL (az hr))) (pv 0) ag (aw _)) (aq (aA (b0 (v:=.str "3n0-") rfl T.lj ⟨_,rfl⟩))) aF) (aq (aA (b0 (v:=.str "2-") rfl T.om ⟨_,rfl⟩)))) ?_;tm_up;rw[oW];refine aU (fun h=>?_) (fun h=>?_)
  ·rw[if_pos (of_decide_eq_true h)]at q;exact q
  ·rw[if_neg (fun z=>h (decide_eq_true z))]at q;exact q
def sKs:List Kd:=[.G,.D,.s,.d]
def zw (K:Frag):Sp:=fun vs H Q _=>∃(n:Int),vs=[.int n]/\∀(sg:Addr)(ys:List V)(H':Hp),ay H H'->cz K H' sg ys->Paired (qM K H') ys (eB n)->Q (.ref sg) H'
theorem zx (T:Txt K w mg t):cA P w K mg base jG (0+1) t.cU t.ka ["tone"] (zw K):=by
 refine T.fI.ok za (fun vs H Q E h=>?_) (fun cdv A outer s H vs Q E hr h=>?_)
 ·obtain⟨_,rfl,_⟩:=h;rfl
 ·obtain⟨n,rfl,q⟩:=h;unfold eB at q;refine aV (ah (aX (au (a4.or (aL (az hr))) (pv 0) (b0 (v:=.int (-1)) rfl T.L9 ⟨_,rfl⟩) (aw _)) (aq (aA (b0 (v:=.ref t.eM) rfl T.JW rfl))) aF) (aq (aA (iD Fs rfl T.Ei B5 (aa (AZ (cn:=["kind"]) rfl (gi.of rfl) (SA (b0 (v:=.ref t.bW) rfl T.xK rfl)) (fun _=>(aK (i:=0) ua rfl (Or.inl rfl))) (fun _=>Ic) (fun _=>(cY (aa (pv 0) (aa (pv 1) ao))))) ao))))) ?_;tm_up;rw[intD];refine aU (fun h=>?_) (fun h=>?_)
  ·rw[if_pos (of_decide_eq_true h)]at q;exact q _ _ H (ay.refl _) (T.JX _) (.cons ⟨_,rfl,T.El _⟩ (.cons ⟨_,rfl,T.Em _⟩ .nil))
  rw[if_neg (fun e=>h (decide_eq_true e))]at q;refine⟨_,rfl,⟨_,T.ml _⟩,fun D b hD=>?_⟩;refine Tg (K:=K) (xs:=sKs.map fun k=>V.str k.str) (fun i ys σ H'=>∃(v:Option V),σ=[v,some (.int n)]/\ay H H'/\H' D=some (.lst ys)/\Paired (qM K H') ys ((sKs.take i).map fun k=>(k,n))/\i<=4) ⟨none,rfl,ay.upd hD,ai,.nil,by decide⟩ ?_ ?_ ?_
  ·rintro i ys σ H' ⟨v,rfl,s1,_⟩;exact T.ml _
  ·rintro i ys x σ H' hx ⟨v,rfl,s1,hD1,p1,il⟩ N hN;rw[getElem?_map]at hx;obtain⟨k,hk,rfl⟩:=Option.map_eq_some_iff.mp hx;have QA:i<4:=(List.getElem?_eq_some_iff.mp hk).1;refine qW ?_;tm_up;refine⟨by show 2<=sizeLine;decide,fun tp htp=>?_⟩;have sT:=ay.upd (o:=.tup [.str k.str,.int n]) htp;have yl:ys.length<=4:=by rw[d4 p1,length_map,length_take];omega
   refine⟨sT _ _ hD1,cK (by omega),hN _ _ _ ⟨_,rfl,i8 (s1.trans sT) hD,ai,?_,QA⟩⟩;rw[take_succ,hk,map_append];exact bK (fun _ _ q=>qM.write (sT _ _ hD1) q) (og (qM.tS sT.kn p1) ⟨tp,rfl,cz.of ai⟩)
  ·rintro ys σ H' ⟨v,rfl,s1,hD1,p1,_⟩;have p1:Paired (qM K H') ys [(.G,n),(.D,n),(.s,n),(.d,n)]:=p1;refine⟨D,ys,rfl,.inl ⟨a6.of hD1,fun l hl=>?_⟩⟩;have sT:=ay.upd (o:=.tup ys) hl;exact q l ys _ (s1.trans sT) (cz.of ai) (qM.tS sT.kn p1)
def F3 (K:Frag):Sp:=fun vs H Q _=>∃(z:Str)(wp pz:Addr)(n m:Int)(c:cW),vs=[.str z,.ref wp,.ref pz]/\z∈ST/\H wp=some (.tup [.int n,.int m])/\0<=m/\m<=9/\H pz=some (.tup [lP c.1,lP c.2.1,lP c.2.2]) /\
 ∀(l:Addr)(xs:List V)(H':Hp),ay H H'->H l=none->H' l=some (.lst xs)->Paired (LO K H') xs (aZ c z m (eB n))->Q (.ref l) H'
theorem Oc (n:Int):(eB n).length<=10:=by
 unfold eB;split <;> (show _<=10;simp)
theorem F4 (T:Txt K w mg t):cA P w K mg base jG (0+5) t.eI t.nv ["state","wish","prices"] (F3 K):=by
 have J4:=Mi (P:=P) (base:=base) T;have Ex:=zx (P:=P) (base:=base) T;refine T.gX.ok lD (fun vs H Q E h=>?_) (fun cdv A outer s H vs Q E hr h=>?_)
 ·obtain⟨_,_,_,_,_,_,rfl,_⟩:=h;rfl
 ·obtain⟨z,wp,pz,n,m,c,rfl,hz,hw,h0,h9,hpz,q⟩:=h;refine aV (ah (oP (pv 1) (iB rfl (aR (aK (i:=3) lD.nd rfl (Or.inl rfl)) (aR (aK (i:=4) lD.nd rfl (Or.inl rfl)) fN)))) (aq (aA (av J4 (hr.mono (by decide)) rfl T.L7 T.qA.kp T.BQ .nil aJ (aa (pv 0) (aa (av Ex (hr.mono (by decide)) rfl T.zd T.fI.kp T.ki .nil aJ (aa (pv 3) ao)) (aa (pv 4) (aa (pv 2) ao)))))))) ?_;refine⟨_,rfl,wp,_,rfl,cz.of hw,rfl,_,_,rfl,_,_,rfl,rfl,?_⟩;tm_up;refine fun sg ys H1 s1 hsg hss=>?_;tm_up;exact⟨z,sg,m,pz,ys,_,c,rfl,hz,h0,h9,hsg,hss,Oc n,s1 _ _ hpz,fun l xs H' s2 n2 h2 p2=>q l xs H' (s1.trans s2) (s1.free n2) h2 p2⟩
def J5 (K:Frag):Sp:=fun vs H Q _=>∃(A:Addr->Prop)(d wp pz:Addr)(n m:Int)(c:cW)(kvs:List (Key×V)) (ws:List Wy) (B:Nat),vs=[.ref d,.ref wp,.ref pz]/\H d=some (.dK kvs)/\Paired (gB K A H) kvs ws/\fO B ws/\B<=100000/\(∀ l,H l=none->A l)/\H wp=some (.tup [.int n,.int m])/\0<=m/\m<=9/\H pz=some (.tup [lP c.1,lP c.2.1,lP c.2.2]) /\
 ∀(f:Addr)(kvs':List (Key×V)) (H':Hp),ay H H'->H f=none->H' f=some (.dK kvs')->Paired (gB K A H') kvs' (o3 c ws (n,m))->Q (.ref f) H'
theorem J6 (T:Txt K w mg t):cA P w K mg base jG (0+6) t.fA t.o9 ["ways","wish","prices"] (J5 K):=by
 have J7:=F4 (P:=P) (base:=base) T;have km:=oq (P:=P) (base:=base) T;refine T.jk.ok c7 (fun vs H Q E h=>?_) (fun cdv A outer s H vs Q E hr h=>?_)
 ·obtain⟨_,_,_,_,_,_,_,_,_,_,rfl,_⟩:=h;rfl
 ·obtain⟨A',d,wp,pz,n,m,c,kvs,ws,B,rfl,hd,hws,X7,hB,hA,hwp,h0,h9,hpz,q⟩:=h;have wl:=X7.len;refine aV (ah (aD (i:=3) c7.nd rfl (Or.inl rfl) Ta) (ah (P6 (iC PassesOwn.never rfl (Ca (pv 0)) (iB rfl (aR (aK (i:=4) c7.nd rfl (Or.inl rfl)) (aR (iB rfl (aR (aK (i:=5) c7.nd rfl (Or.inl rfl)) (aR (aK (i:=6) c7.nd rfl (Or.inl rfl)) fN))) fN))) (aq (iC PassesOwn.never rfl (mV (av J7 (hr.mono (by decide)) rfl T.FR T.gX.kp T.nF .nil aJ (aa (pv 4) (aa (pv 1) (aa (pv 2) ao))))) (iB rfl (aR (aK (i:=7) c7.nd rfl (Or.inl rfl)) (aR (aK (i:=8) c7.nd rfl (Or.inl rfl)) (aR (aK (i:=9) c7.nd rfl (Or.inl rfl)) fN)))) (aq (c5 (av km (hr.mono (by decide)) rfl T.oj T.dZ.kp T.gW .nil aJ (aa (pv 3) (aa (pv 9) (aa (aM (cN.or (aN.or cO)) (pv 5) (pv 8)) (aa (aM (cN.or (aN.or cO)) (pv 6) (gm (aa (pv 7) ao))) ao))))))))))) (aq (aA (pv 3))))) ?_;refine fun f hf=>?_;have s0:=ay.upd (o:=.dK []) hf;have hd0:=s0 _ _ hd;refine⟨_,rfl,d,kvs,rfl,hd0,fun o=>?_⟩;have nfd:f≠d:=aC hd hf |>.symm
  have kn0:=Kn.put (u:=.jI o (.dK kvs)) hd0 rfl;have sx0:∀ b u,b≠d->H b=some u->upd (upd H f (.dK [])) d (.jI o (.dK kvs)) b=some u:=fun b u hb e=>by rw[ar hb];exact s0 _ _ e
  have hd1:=ai (H:=upd H f (.dK [])) (a:=d) (o:=.jI o (.dK kvs));have hf1:upd (upd H f (.dK [])) d (.jI o (.dK kvs)) f=some (.dK []):=by rw[ar nfd];exact ai
  have w1:=gB.tS (s0.kn.trans kn0) hws;generalize upd (upd H f (.dK [])) d (.jI o (.dK kvs))=H1 at sx0 hd1 hf1 w1;refine Q4 (fun i σ H'=>∃(v1 v2 v3 v4 v5 v6:Option V)(kvs':List (Key×V)),σ=[some (.ref d),some (.ref wp),some (.ref pz),some (.ref f),v1,v2,v3,v4,v5,v6]/\(∀ b u,b≠d->H b=some u->H' b=some u)/\H' d=some (.jI o (.dK kvs))/\H' f=some (.dK kvs')/\Paired (gB K A' H') kvs ws/\Paired (gB K A' H') kvs' (fk c (n,m) (ws.take i) [])/\i<=ws.length)
   ⟨none,none,none,none,none,none,[],rfl,sx0,hd1,hf1,w1,.nil,Nat.zero_le _⟩ ?_ ?_ ?_
  ·rintro i σ H' ⟨v1,v2,v3,v4,v5,v6,kvs',rfl,_,h2,_⟩;exact h2
  ·rintro i kv tt σ H2 hkv ⟨v1,v2,v3,v4,v5,v6,ae5,rfl,sx2,hd2,hf2,w2,f2,il⟩ htt;obtain⟨⟨z,k0,ql⟩,hw,hk1,tq,lq,yq,hk2,_,Zo,ZT,pq⟩:=qX w2 hkv;have hk1:kv.1=Sum.inr z:=hk1;have QA:i<ws.length:=(List.getElem?_eq_some_iff.mp hw).1;have hwm:(z,k0,ql)∈ws:=mem_of_getElem? hw;have hz:z∈ST:=X7.st _ hwm;have qll:ql.length<=B:=X7.ln _ hwm;have hnx:fk c (n,m) (ws.take (i+1)) []=dm k0 ql (aZ c z m (eB n)) (fk c (n,m) (ws.take i) []):=by rw[take_succ,hw];exact Fw c (n,m) _ _ []
   have fok:=o5 (B:=B) (c:=c) (q:=(n,m)) h0 h9 (ws:=ws.take i) (acc:=[]) (fun x hx=>X7.st x (List.mem_of_mem_take hx)) (fun x hx=>X7.ln x (List.mem_of_mem_take hx)) (fO.nil _);generalize fk c (n,m) (ws.take i) []=cu at f2 fok hnx;rw[hk1,hk2];have st:=ay.upd (o:=.tup [kV (Sum.inr z),.ref tq]) htt;have h3:=ai (H:=H2) (a:=tt) (o:=.tup [kV (Sum.inr z),.ref tq]);generalize upd H2 tt (.tup [kV (Sum.inr z),.ref tq])=H3 at st h3;have sx3:∀ b u,b≠d->H b=some u->H3 b=some u:=fun b u hb e=>st _ _ (sx2 b u hb e);refine⟨tt,_,rfl,cz.of h3,rfl,_,_,rfl,_,_,rfl,tq,_,rfl,cz.of (st _ _ Zo),rfl,_,_,rfl,_,_,rfl,rfl,rfl,?_⟩;have ae6:=sx3 wp _ (fun e=>by rw[e,hd]at hwp;cases hwp) hwp;have ae7:=sx3 pz _ (fun e=>by rw[e,hd]at hpz;cases hpz) hpz;refine⟨_,rfl,_,rfl,_,rfl,z,wp,pz,n,m,c,rfl,hz,ae6,h0,h9,ae7,fun l4 xs4 H4 s4 n4 h4 p4=>?_⟩;have Uq:∀ x∈aZ c z m (eB n),x.2.2∈ST:=fun x hx=>Cf hz h0 h9 hx;generalize aZ c z m (eB n)=ms at p4 hnx Uq;have Zr:=st.trans s4;refine⟨l4,rfl,⟨_,a6.of h4⟩,lT (K:=K) (xs:=xs4) (fun k σ H'=>∃(v4 v5 v6:Option V)(kvs':List (Key×V)),σ=[some (.ref d),some (.ref wp),some (.ref pz),some (.ref f),some (.str z),some (.int k0),some (.ref lq),v4,v5,v6]/\(∀ b u,b≠d->H b=some u->H' b=some u)/\H' d=some (.jI o (.dK kvs))/\H' l4=some (.lst xs4)/\Paired (LO K H') xs4 ms/\H' lq=some (.lst yq)/\Paired (qM K H') yq ql/\H' f=some (.dK kvs')/\Paired (gB K A' H') kvs ws/\Paired (gB K A' H') kvs' (dm k0 ql (ms.take k) cu)/\k<=ms.length)
    ⟨v4,v5,v6,ae5,rfl,fun b u hb e=>Zr _ _ (sx2 b u hb e),Zr _ _ hd2,h4,p4,Zr _ _ ZT,qM.tS Zr.kn pq,Zr _ _ hf2,gB.tS Zr.kn w2,gB.tS Zr.kn f2,Nat.zero_le _⟩ ?_ ?_ ?_⟩
   ·rintro k σ H' _ ⟨v5,v6,v7,kvs',rfl,_,_,h5,_⟩;exact a6.of h5
   ·rintro k y σ H5 hy ⟨v4,v5,v6,Et,rfl,Vp,Ob,hm5,p5,Zp,WR,Ur,w5,f5,kl⟩;obtain⟨mm,hm,p,qq,rfl,hp,hqq⟩:=qX p5 hy;have kl2:k<ms.length:=(List.getElem?_eq_some_iff.mp hm).1;refine⟨p,_,rfl,cz.of hp,rfl,_,_,rfl,_,_,rfl,_,_,rfl,rfl,?_⟩;tm_up;refine⟨by show 1<=sizeLine;decide,fun a1 ha1=>?_⟩;have s6:=ay.upd (o:=.lst [.ref qq]) ha1;have hq6:=s6 _ _ Zp;refine .inr (.inr ⟨lq,a1,yq,[.ref qq],rfl,rfl,hq6,ai,?_,fun a2 ha2=>?_⟩)
    ·rw[d4 WR];exact Nat.le_trans (show ql.length+1<=1000000 by omega) (by decide)
    have ab6:∀{x:Addr},upd H5 a1 (.lst [.ref qq]) x=none->H x=none:=fun {x} hx=>by
     cases e:H x with
     |none=>rfl
     |some u =>
      by_cases hb:x=d
      ·rw[hb,s6 _ _ Ob]at hx;cases hx
      ·rw[s6 _ _ (Vp x u hb e)]at hx;cases hx
    have s7:=s6.trans (ay.upd (o:=.lst (yq++[.ref qq])) ha2);have h7:=ai (H:=upd H5 a1 (.lst [.ref qq])) (a:=a2) (o:=.lst (yq++[.ref qq]));generalize upd (upd H5 a1 (.lst [.ref qq])) a2 (.lst (yq++[.ref qq]))=H7 at s7 h7;have f7:=gB.tS s7.kn f5;have sok:=o4 (B:=B+1) (k:=k0) (ln:=ql) (ms:=ms.take k) (acc:=cu) (by omega) (fun x hx=>Uq x (List.mem_of_mem_take hx)) fok;refine⟨A',f,a2,_,_,Et,_,_,ql++[mm.1],rfl,s7 _ _ Ur,by rw[d4 f5];have:=sok.len;omega,f7,hA _ (ab6 ha2),h7,og (qM.tS s7.kn WR) ⟨qq,rfl,s7.tup hqq⟩,fun Zq H8 ZU h8 w8=>?_⟩;have kn:=s7.kn.trans (Kn.of (s7 _ _ Ur) ZU);refine⟨_,_,_,Zq,rfl,fun b u hb e=>ZU b u (aC e hf) (s7 _ _ (Vp b u hb e)),ZU d _ nfd.symm (s7 _ _ Ob),kn _ _ hm5 rfl,bK (fun _ _ q=>LO.kn kn q) p5,kn _ _ Zp rfl,qM.tS kn WR,h8,gB.tS kn w5,?_,kl2⟩;have est:dm k0 ql (ms.take (k+1)) cu=fg (dm k0 ql (ms.take k) cu) mm.2.2 (k0+mm.2.1) (ql++[mm.1]):=by
     rw[take_succ,hm];unfold dm;rw[List.foldl_append];rfl
    rw[est];exact w8
   ·rintro σ H5 ⟨v4,v5,v6,Et,rfl,Vp,Ob,hm5,p5,Zp,WR,Ur,w5,f5,_⟩;rw[d4 p5,take_length,<-hnx]at f5;exact⟨_,_,_,_,_,_,Et,rfl,Vp,Ob,Ur,w5,f5,QA⟩
  ·rintro σ H5 ⟨v1,v2,v3,v4,v5,v6,Et,rfl,Vp,Ob,Ur,w5,f5,_⟩;rw[d4 hws,take_length]at f5;refine⟨d,o,kvs,Ob,fun o' v' e=>?_,?_⟩
   ·have e:H d=some (.jI o' v'):=e;rw[hd]at e;cases e
   have kn:=Kn.put (u:=.dK kvs) Ob rfl;refine⟨_,rfl,?_⟩;refine q f Et _ (fun b u e=>?_) hf (by rw[ar nfd];exact Ur) (gB.tS kn f5)
   by_cases hb:b=d
   ·subst hb;rw[hd]at e;cases e;exact ai
   ·rw[ar hb];exact Vp b u hb e
def WS:Sp:=fun vs H Q _=>∃(z:Str),vs=[.str z]/\z∈ST/\Q (.bl (gf z)) H
theorem WT (T:Txt K w mg t):cA P w K mg base jG (0+2) t.rV t.NU ["state"] WS:=by
 have pI:=xO (P:=P) (base:=base) T;refine T.Ee.ok WA (fun vs H Q E h=>?_) (fun cdv A outer s H vs Q E hr h=>?_)
 ·obtain⟨_,rfl,_⟩:=h;rfl
 ·obtain⟨z,rfl,hz,q⟩:=h;refine aV (ah (aX (au (bD.or bC) (pv 0) (b0 (v:=.ref t.bF) rfl T.mn rfl) rfl) (aq (aA (bR (GU.or (vY (az hr))) (pv 0) aI (aw _)))) aF) (aq (aA (av pI (hr.mono (by decide)) rfl T.xI T.ke.kp T.pj .nil aJ (aa (pv 0) ao))))) ?_;refine⟨_,rfl,.inl ⟨_,_,rfl,.inr (T.mq _),rfl,rfl,_,rfl,?_⟩⟩;show(if(inV (.str z) [.str "2-",.str "2g",.str "2G"])=true then _ else _);rw[XR hz];unfold gf at q;refine aU (fun h=>?_) (fun h=>?_)
  ·rw[if_pos h]at q;tm_up;rw[Y2];exact q
  ·rw[if_neg h]at q;obtain⟨l,c,t,e⟩:=LL hz h;rw[e]at q;tm_up;exact⟨_,_,_,_,rfl,e,Qg hz,q⟩
def ae9:Str:=(Str.ofString "written" ++ Str.ofString ".<locals>.")++Str.ofString "<lambda>"
def ot (T:Addr)(lp:Pos)(H:Hp):Prop:=P7 T lp ae9 H\/Tn T lp H
theorem ot.same {T:Addr}{lp:Pos}{H H':Hp}(s:ay H H')(h:ot T lp H):ot T lp H':=by
 rcases h with ⟨ps,c,h1,h2,h3,h4⟩|⟨ps,h1,h2,h3⟩
 ·exact .inl ⟨ps,c,s _ _ h1,h2,h3,s _ _ h4⟩
 ·exact .inr ⟨ps,s _ _ h1,h2,h3⟩
def Ml (T:Addr)(H H':Hp):Prop:=∀ b o,H b=some o->b≠T->H' b=some o
theorem gB.ab7 {K:Frag}{A:Addr->Prop}{H:Hp}{p:Addr}(hp:H p=none){kv:Key×V}{w:Wy}(h:gB K A H kv w):gB K (fun l=>l≠p/\A l) H kv w:=by
 obtain⟨e,t,l,ys,e2,a,h1,h2,h3⟩:=h;exact⟨e,t,l,ys,e2,⟨aC h2 hp,a⟩,h1,h2,h3⟩
def ZV (K:Frag)(A:Addr->Prop)(H:Hp)(y:V)(w:Wy):Prop:=∃ t l ys,y=.ref t/\A l/\H t=some (.tup [.int w.2.1,.ref l])/\H l=some (.lst ys)/\Paired (qM K H) ys w.2.2
theorem ZV.kn {K:Frag}{A:Addr->Prop}{H H':Hp}(k:Kn H H'){y:V}{w:Wy}(h:ZV K A H y w):ZV K A H' y w:=by
 obtain⟨t,l,ys,e2,a,h1,h2,h3⟩:=h;exact⟨t,l,ys,e2,a,k _ _ h1 rfl,k _ _ h2 rfl,qM.tS k h3⟩
def Ey (K:Frag)(T:Addr)(lp:Pos):Sp:=fun vs H Q _=>∃(wl pz:Addr)(b:Int)(c:cW)(ys:List V)(qs:List (Int×Int)),vs=[.ref wl,.ref pz,.int b]/\a6 K H wl ys/\Ce H ys qs/\qs.length<=70/\Vn qs/\H pz=some (.tup [lP c.1,lP c.2.1,lP c.2.2])/\ot T lp H /\
 (qN c b qs=[]->∀(r pp:Addr)(xs:List V)(H':Hp),ay H H'->H' r=some (.tup [.non,.non,.ref pp])->H' pp=some (.lst xs)->Paired (LQ pp H') xs (Fx c b qs qs.length)->Q (.ref r) H') /\
 (∀ w∈qN c b qs,(∀ w'∈qN c b qs,w.2.1<=w'.2.1)->∀(r l pp:Addr)(ys xs:List V)(H':Hp),Ml T H H'->ot T lp H'->H l=none->H pp=none->l≠pp->H' r=some (.tup [.ref l,.int w.2.1,.ref pp])->H' l=some (.lst ys)->kW K H' ys w.2.2->H' pp=some (.lst xs)->Paired (LQ pp H') xs (Fx c b qs qs.length)->Q (.ref r) H')
theorem Od (T:Txt K w mg t):cA P w K mg base jG (0+7) t.iO t.ma ["wishes","prices","begin"] (Ey K t.oi ⟨140,34,140,52⟩):=by
 have jo:=oC (P:=P) (base:=base) T;have QB:=Ut (P:=P) (base:=base) T;have F5:=Ew (P:=P) (base:=base) T;have Mm:=J6 (P:=P) (base:=base) T;have Zs:=WT (P:=P) (base:=base) T;refine T.e8.okL ft (fun vs H Q E h=>?_) (fun cdv A outer s H vs Q E hcd hr h=>?_)
 ·obtain⟨_,_,_,_,_,_,rfl,_⟩:=h;rfl
 ·obtain⟨wl,pz,b,c,ys,qs,rfl,hS,hqs,hql,hW,hpz,afa,q1,q2⟩:=h;subst hcd;refine aV (ah (aD (i:=3) ft.nd rfl (Or.inl rfl) (av jo (hr.mono (by decide)) rfl T.iz T.bH.kp T.dc .nil aJ (aa (VW (Tb (av F5 (hr.mono (by decide)) rfl T.Ed T.eZ.kp T.lE .nil aJ (aa (pv 2) ao)) (cY (aa ag (aa (gm ao) ao))) VU) rfl rfl (List.cons_ne_nil _ _) (by decide)) (aa (pv 1) ao)))) (ah (aD (i:=4) ft.nd rfl (Or.inl rfl) (gm (aa (av QB (hr.mono (by decide)) rfl T.L8 T.qB.kp T.BR .nil aJ (aa (pv 3) ao)) ao))) (ah (iC PassesOwn.never rfl (mV (pv 0)) (aK (i:=5) ft.nd rfl (Or.inl rfl)) (ah (aD (i:=3) ft.nd rfl (Or.inl rfl) (av jo (hr.mono (by decide)) rfl T.iz T.bH.kp T.dc .nil aJ (aa (av Mm (hr.mono (by decide)) rfl T.JR T.jk.kp T.pB .nil aJ (aa (pv 3) (aa (pv 5) (aa (pv 1) ao)))) (aa (pv 1) ao)))) (aq (c5 (jW plainAttrs_list slot_list_append type_list_append bO (pv 4) (aa (av QB (hr.mono (by decide)) rfl T.L8 T.qB.kp T.BR .nil aJ (aa (pv 3) ao)) ao)))))) (ah (P6 (Nm (i:=6) ft.nd rfl rfl (cn:=["state","way"]) rfl (gi.of rfl) (Ca (pv 3)) (fun _=>(iB rfl (aR (aK (i:=0) ub rfl (Or.inl rfl)) (aR (aK (i:=1) ub rfl (Or.inl rfl)) fN)))) (fun _=>(YJ (de (av Zs (hr.mono (by decide)) rfl T.WC T.Ee.kp T.NZ .nil aJ (aa (pv 0) ao))))) (fun _=>(pv 1)))) (ah (aX (au (S8 (az hr)) (pv 6) (gm ao) (aw _)) (aq (aA (cY (aa fi (aa fi (aa (pv 4) ao)))))) aF) (ah (oP (Q5 (P:=t.oi) hr rfl T.N1 T.lam (aa (pv 6) ao) rfl (fun _ _ _ _ _ _=>rfl)) (iB rfl (aR (aK (i:=7) ft.nd rfl (Or.inl rfl)) (aR (aK (i:=8) ft.nd rfl (Or.inl rfl)) fN)))) (aq (aA (cY (aa (pv 8) (aa (pv 7) (aa (pv 4) ao)))))))))))) ?_;refine fun d0 hd0=>?_;tm_up;refine⟨big (by show 0<=1000;omega),fun l0 hl0=>?_⟩;refine⟨by show 2<=sizeLine;decide,fun t0 ht0=>?_⟩;have sa:=ay.upd (o:=.dK []) hd0;have sb:=ay.upd (o:=.lst []) hl0;have sc:=ay.upd (o:=.tup [.int 0,.ref l0]) ht0;have hdc:=sc _ _ (sb _ _ (ai (H:=H) (a:=d0) (o:=.dK [])));have hlc:=sc _ _ (ai (H:=upd H d0 (.dK [])) (a:=l0) (o:=.lst []));have htc:=ai (H:=upd (upd H d0 (.dK [])) l0 (.lst [])) (a:=t0) (o:=.tup [.int 0,.ref l0]);have sC:=(sa.trans sb).trans sc;generalize upd (upd (upd H d0 (.dK [])) l0 (.lst [])) t0 (.tup [.int 0,.ref l0])=HC at hdc hlc htc sC;refine⟨hdc,[(Sum.inr (Ip b),.ref t0)],rfl,by show 1<=15;decide,?_⟩;have knD:=Kn.put (u:=.dK [((Sum.inr (Ip b):Key),V.ref t0)]) hdc rfl;have sD:=i8 (o:=.dK [((Sum.inr (Ip b):Key),V.ref t0)]) sC hd0;have hdD:=ai (H:=HC) (a:=d0) (o:=.dK [((Sum.inr (Ip b):Key),V.ref t0)]);have wD:Paired (gB K (fun l=>H l=none) (upd HC d0 (.dK [((Sum.inr (Ip b):Key),V.ref t0)]))) [((Sum.inr (Ip b):Key),V.ref t0)] [(Ip b,0,[])]:=.cons ⟨rfl,t0,l0,[],rfl,sa.free hl0,knD _ _ htc rfl,knD _ _ hlc rfl,.nil⟩ .nil;show Xl (Yj 1) Yx _ (upd HC d0 (.dK [((Sum.inr (Ip b):Key),V.ref t0)])) _;generalize upd HC d0 (.dK [((Sum.inr (Ip b):Key),V.ref t0)])=HD at sD hdD wD;refine⟨_,rfl,fun l=>H l=none,d0,pz,c,_,_,0,rfl,hdD,wD,⟨by simp,fun w hw=>by rw[mem_singleton.mp hw];exact Iq b,fun w hw=>by rw[mem_singleton.mp hw];exact Nat.le_refl _⟩,by decide,fun _ e=>sD.free e,sD _ _ hpz,fun f1 Mj H1 s1 n1 h1 w1=>?_⟩;have w1:Paired (gB K (fun l=>H l=none) H1) Mj (fm c b (qs.take 0)):=w1;have ok0:=j2 (c:=c) (b:=b) hW 0;have S1:=sD.trans s1;tm_up;refine⟨_,f1,Mj,_,rfl,h1,w1,by have:=ok0.len;omega,fun l2 oo H2 s2 n2 h2 p2=>?_⟩;refine⟨by show 1<=sizeLine;decide,fun pp hpp=>?_⟩;have s3:=ay.upd (o:=.lst [.ref l2]) hpp;have S3:=(S1.trans s2).trans s3;have Zt:H pp=none:=(S1.trans s2).free hpp;have h3:=ai (H:=H2) (a:=pp) (o:=.lst [.ref l2]);have p3:Paired (LQ pp (upd H2 pp (.lst [.ref l2]))) [.ref l2] (Fx c b qs 0):=.cons ⟨l2,oo,rfl,(fun e=>by rw[e,hpp]at h2;cases h2),s3 _ _ h2,bK (fun _ _ q=>NF.kn s3.kn q) p2⟩ .nil;have w3:=gB.tS s3.kn (bK (fun _ _ q=>gB.ab7 (A:=fun l=>H l=none) hpp q) (gB.tS s2.kn w1));have Ul:=(s2.trans s3) _ _ h1;generalize upd H2 pp (.lst [.ref l2])=H3 at s3 S3 h3 p3 w3 Ul;refine⟨_,rfl,wl,rfl,⟨_,S3.seq hS⟩,lT (K:=K) (xs:=ys) (fun i σ H'=>∃(v:Option V)(dd:Addr)(kvs:List (Key×V)) (xs:List V),σ=[some (.ref wl),some (.ref pz),some (.int b),some (.ref dd),some (.ref pp),v,none,none,none]/\ay H H'/\H dd=none/\H' dd=some (.dK kvs)/\Paired (gB K (fun l=>l≠pp/\H l=none) H') kvs (fm c b (qs.take i))/\H' pp=some (.lst xs)/\Paired (LQ pp H') xs (Fx c b qs i)/\i<=qs.length)
   ⟨none,f1,Mj,_,rfl,S3,sD.free n1,Ul,w3,h3,p3,Nat.zero_le _⟩ ?_ ?_ ?_⟩
  ·rintro i σ H' _ ⟨v,dd,kvs,xs,rfl,s4,_⟩;exact s4.seq hS
  ·rintro i x σ H4 hx ⟨v,dd,kvs,xs,rfl,s4,nd,hd4,w4,hp4,p4,il⟩;obtain⟨⟨n,m⟩,hq,wp,rfl,hwp⟩:=qX hqs hx;have QA:i<qs.length:=(List.getElem?_eq_some_iff.mp hq).1;have hm:=hW _ (mem_of_getElem? hq);have Zu:=j2 (c:=c) (b:=b) hW i;have ok5:=j2 (c:=c) (b:=b) hW (i+1);have hnx:fm c b (qs.take (i+1))=withPart c (o3 c (fm c b (qs.take i)) (n,m)):=by rw[take_succ,hq];exact j1 c b _ _
   have hA4:∀ l,H4 l=none->l≠pp/\H l=none:=fun l hl=>⟨aC hp4 hl |>.symm,s4.free hl⟩;refine⟨_,rfl,_,rfl,_,rfl,(fun l=>l≠pp/\H l=none),dd,wp,pz,n,m,c,kvs,_,_,rfl,hd4,w4,Zu,by omega,hA4,s4 _ _ hwp,hm.1,hm.2,s4 _ _ hpz,fun f5 Et H5 s5 n5 h5 w5=>?_⟩;refine⟨_,rfl,(fun l=>l≠pp/\H l=none),f5,pz,c,Et,_,_,rfl,h5,w5,o6 hm.1 hm.2 Zu,by omega,fun l hl=>hA4 l (s5.free hl),s5 _ _ (s4 _ _ hpz),fun f6 ab9 H6 s6 n6 h6 w6=>?_⟩;rw[<-hnx]at w6;have S6:=(s4.trans s5).trans s6;have hp6:=s6 _ _ (s5 _ _ hp4);tm_up;refine⟨.inl ⟨rfl,_,a6.of hp6⟩,?_⟩;tm_up;refine⟨_,f6,ab9,_,rfl,h6,w6,by have:=ok5.len;omega,fun l7 xs7 H7 s7 n7 h7 p7=>?_⟩;have ZW:=s7 _ _ hp6;have S7:=S6.trans s7;refine⟨pp,xs,_,rfl,rfl,ZW,cK (by rw[d4 p4];unfold Fx;rw[length_map,length_range];omega),?_⟩;have knP:∀{b o},H7 b=some o->b≠pp->upd H7 pp (.lst (xs++[.ref l7])) b=some o:=fun e ne=>by rw[ar ne];exact e
   refine⟨_,f6,ab9,_,rfl,i8 S7 Zt,(s4.trans s5).free n6,?_,?_,ai,?_,QA⟩
   ·rw[ar (fun e=>by rw[e,hp6]at h6;cases h6)];exact s7 _ _ h6
   ·exact bK (fun _ _ q=>gB.write ZW (fun z=>z.1 rfl) q) (gB.tS s7.kn w6)
   ·rw[Rf];exact bK (fun _ _ q=>LQ.write ZW q) (og (bK (fun _ _ q=>LQ.kn ((s5.trans s6).trans s7).kn q) p4) ⟨l7,xs7,rfl,(fun e=>by rw[e,hp6]at n7;cases n7),h7,p7⟩)
  ·rintro σ H4 ⟨v,dd,kvs,xs,rfl,s4,nd,hd4,w4,hp4,p4,il⟩;rw[d4 hqs,take_length]at w4;rw[d4 hqs]at p4;have Zu:=j2 (c:=c) (b:=b) hW qs.length;rw[take_length]at Zu;unfold qN at q1 q2;generalize fm c b qs=ws at w4 Zu q1 q2;have wl4:=Zu.len;refine⟨_,rfl,dd,kvs,rfl,hd4,fun o D b' hD=>?_⟩;have kn5:=Kn.put (u:=.jI o (.dK kvs)) hd4 rfl;have Vp:∀ b u,b≠dd->H4 b=some u->upd H4 dd (.jI o (.dK kvs)) b=some u:=fun b u hb e=>by rw[ar hb];exact e
   have Ob:=ai (H:=H4) (a:=dd) (o:=.jI o (.dK kvs));have w5:=gB.tS kn5 w4;have nDd:D≠dd:=fun e=>by rw[e,Ob]at hD;cases hD
   generalize upd H4 dd (.jI o (.dK kvs))=H5 at Vp Ob w5 hD;refine Cb (fun i zs σ H'=>∃(v1 v2 v3:Option V),σ=[v1,v2,some (.ref wl),some (.ref pz),some (.int b),some (.ref dd),some (.ref pp),v3,none,none,none]/\ay H5 H'/\H' D=some (.lst zs)/\Paired (ZV K (fun l=>l≠pp/\H l=none) H5) zs ((ws.take i).filter fun w=>gf w.1)/\i<=ws.length)
    ⟨none,none,v,rfl,ay.upd hD,ai,.nil,Nat.zero_le _⟩ ?_ ?_ ?_
   ·rintro i zs σ H' ⟨v1,v2,v3,rfl,s6,_⟩;exact s6 _ _ Ob
   ·rintro i zs kv tt σ H6 hkv ⟨v1,v2,v3,rfl,s6,hD6,p6,il6⟩ htt N hN;obtain⟨⟨z,k0,ln⟩,hw,hk1,tq,lq,yq,hk2,hAq,Zo,ZT,pq⟩:=qX w5 hkv;have hk1:kv.1=Sum.inr z:=hk1;have QA:i<ws.length:=(List.getElem?_eq_some_iff.mp hw).1;have hz:z∈ST:=Zu.st _ (mem_of_getElem? hw);rw[hk1,hk2];have st:=ay.upd (o:=.tup [kV (Sum.inr z),.ref tq]) htt;have h7:=ai (H:=H6) (a:=tt) (o:=.tup [kV (Sum.inr z),.ref tq]);generalize upd H6 tt (.tup [kV (Sum.inr z),.ref tq])=H7 at st h7;have et:=TR hw;have zl:zs.length<=28:=by
     rw[d4 p6];exact Nat.le_trans (List.length_filter_le _ _) (by rw[length_take];omega)
    refine⟨tt,_,rfl,cz.of h7,rfl,_,_,rfl,_,_,rfl,rfl,?_⟩;refine⟨_,rfl,z,rfl,hz,_,rfl,?_⟩;refine aU (fun h=>?_) (fun h=>?_)
    ·rw[if_pos h]at et;refine⟨_,rfl,st _ _ hD6,cK (by omega),hN _ _ _ ⟨_,_,_,rfl,i8 (s6.trans st) hD,ai,?_,QA⟩⟩;rw[et];exact og p6 ⟨tq,lq,yq,rfl,hAq,Zo,ZT,pq⟩
    ·rw[if_neg h,append_nil]at et;exact hN _ _ _ ⟨_,_,_,rfl,s6.trans st,st _ _ hD6,by rw[et];exact p6,QA⟩
   ·rintro zs σ H6 ⟨v1,v2,v3,rfl,s6,hD6,p6,_⟩;rw[d4 w4,take_length]at p6;have hd6:=s6 _ _ Ob;refine⟨dd,o,kvs,hd6,fun o' v' e=>?_,?_⟩
    ·have e:H dd=some (.jI o' v'):=e;rw[nd]at e;cases e
    have s7:ay H (upd H6 dd (.dK kvs)):=fun b u e=>by
     rw[ar (aC e nd)];exact s6 _ _ (Vp b u (aC e nd) (s4 b u e))
    have hD7:upd H6 dd (.dK kvs) D=some (.lst zs):=by rw[ar nDd];exact hD6
    have kn7:Kn H6 (upd H6 dd (.dK kvs)):=Kn.put hd6 rfl;have aca:Kn H4 (upd H6 dd (.dK kvs)):=(Kn.of hd4 (fun b u hb e=>s6 _ _ (Vp b u hb e))).trans kn7;have p7:=bK (fun _ _ q=>ZV.kn (s6.kn.trans kn7) q) p6;have ZW:=aca _ _ hp4 rfl;have pp7:=bK (fun _ _ q=>LQ.kn aca q) p4;generalize upd H6 dd (.dK kvs)=H7 at s7 hD7 p7 ZW pp7;have zl:zs.length<=28:=by
     rw[d4 p7];exact Nat.le_trans (List.length_filter_le _ _) wl4
    tm_up;refine⟨big (by show 0<=1000;omega),fun e0 he0=>?_⟩;have s8:=ay.upd (o:=.lst []) he0;refine⟨D,e0,zs,rfl,rfl,a6.of (s8 _ _ hD7),a6.of ai,_,rfl,?_⟩;have hD8:=s8 _ _ hD7;have hp8:=s8 _ _ ZW;have p8:=bK (fun _ _ q=>ZV.kn s8.kn q) p7;have pp8:=bK (fun _ _ q=>LQ.kn s8.kn q) pp7;have s78:=s7.trans s8;generalize upd H7 e0 (.lst [])=H8 at s8 hD8 hp8 p8 pp8 s78;generalize hE:ws.filter (fun w=>gf w.1)=es at p8 q1 q2;refine aU (fun h=>?_) (fun h=>?_)
    ·have hz:zs=[]:=List.isEmpty_iff.mp h;subst hz;cases p8;tm_up;refine⟨by show 3<=sizeLine;decide,fun r hr0=>?_⟩;have s9:=ay.upd (o:=.tup [.non,.non,.ref pp]) hr0;exact q1 rfl r pp xs _ (s78.trans s9) ai (s9 _ _ hp8) (bK (fun _ _ q=>LQ.kn s9.kn q) pp8)
    ·have hz:zs≠[]:=fun z=>h (by rw[z];rfl);have el:=d4 p8;have zp:0<zs.length:=List.length_pos_iff.mpr hz;have acb:ot t.oi _ H8:=afa.same s78;obtain⟨ps8,hT8⟩:∃ ps,H8 t.oi=some (.yL ps):=by
      rcases acb with ⟨ps,_,h1,_⟩|⟨ps,h1,_⟩ <;> exact⟨ps,h1⟩
     have nT:∀{b u},H8 b=some u->(∀ ps,u≠.yL ps)->b≠t.oi:=fun {b u} e n z=>by
      rw[z,hT8]at e;exact n _ (Option.some.inj e).symm
     refine⟨_,rfl,D,zs,fun i=>(es[i]?.map fun w=>w.2.1).getD 0,rfl,hD8,zp,acb,fun i y hy=>?_,fun i y H9 hy best keep free afe=>?_⟩
     ·obtain⟨w,hw,tq,lq,yq,rfl,_,h1,_⟩:=qX p8 hy;refine⟨tq,[.ref lq],rfl,?_⟩;dsimp only;rw[hw];exact h1
     ·obtain⟨w,hw,tq,lq,yq,rfl,hAq,h1,h2,h3⟩:=qX p8 hy;have h19:=keep _ _ h1 (nT h1 (fun _ z=>nomatch z));have h29:=keep _ _ h2 (nT h2 (fun _ z=>nomatch z));have hp9:=keep _ _ hp8 (nT hp8 (fun _ z=>nomatch z));have kt:∀{p:Addr} {xs:List V},cz K H8 p xs->cz K H9 p xs:=fun {p xs} h=>by
       rcases h with (h|⟨u,h⟩)|h
       ·exact .inl (.inl (keep _ _ h (nT h (fun _ z=>nomatch z))))
       ·exact .inl (.inr ⟨u,keep _ _ h (nT h (fun _ z=>nomatch z))⟩)
       ·exact .inr h
      have h39:kW K H9 yq w.2.2:=bK (fun _ _ ⟨p,e,q⟩=>⟨p,e,⟨kt q⟩⟩) h3;have pp9:Paired (LQ pp H9) xs (Fx c b qs qs.length):=bK (fun _ _ ⟨l,ZS,e,n,a1,a2⟩=>⟨l,ZS,e,n,keep _ _ a1 (nT a1 (fun _ z=>nomatch z)),bK (fun _ _ ⟨p,e,a3⟩=>⟨p,e,keep _ _ a3 (nT a3 (fun _ z=>nomatch z))⟩) a2⟩) pp8;refine⟨tq,_,rfl,cz.of h19,rfl,_,_,rfl,_,_,rfl,rfl,?_⟩;tm_up;refine⟨by show 3<=sizeLine;decide,fun r hr0=>?_⟩;have tE:=ay.upd (o:=.tup [.ref lq,.int w.2.1,.ref pp]) hr0;refine q2 w (mem_of_getElem? hw) (fun w' hw'=>?_) r lq pp yq xs _ (fun b u e n=>tE _ _ (keep b u (s78 _ _ e) n)) (ot.same tE (Or.inl afe)) hAq.2 Zt hAq.1 ai (tE _ _ h29) (h39.same tE) (tE _ _ hp9) (bK (fun _ _ q=>LQ.kn tE.kn q) pp9);obtain⟨j,hj⟩:=List.mem_iff_getElem?.mp hw';have hjl:j<zs.length:=by rw[el];exact(List.getElem?_eq_some_iff.mp hj).1
      have:=(best j hjl).1;dsimp only at this;rw[hw,hj]at this;exact this
def mw (ns:List Int)(k:Nat):Int:=ns.getD k 0
def J8 (K:Frag):Sp:=fun vs H Q _=>∃(a:Addr)(ns:List Int)(k:Nat),vs=[.ref a,.int (k:Int)]/\a6 K H a (ns.map V.int)/\ns.length<=63/\Q (.int (mw ns k)) H
theorem um (T:Txt K w mg t):cA P w K mg base jG (0+1) t.fB t.pb ["_law_script","_law_k"] (J8 K):=by
 refine T.bI.ok JJ (fun vs H Q E h=>?_) (fun cdv A outer s H vs Q E hr h=>?_)
 ·obtain⟨a,ns,k,rfl,_⟩:=h;rfl
 ·obtain⟨a,ns,k,rfl,hS,hl,q⟩:=h;refine aV (ah (aX (au oR (pv 1) (bS (GV rfl) rfl T.N1 S4 (aa ag (aa (bS (bX.or bY) rfl T.lF lu (aa (pv 0) ao)) ao))) (aw _)) (aq (aA (aE ax (pv 0) (pv 1) (fun _ _=>rfl)))) aF) (aq (aA ag))) ?_;refine⟨_,rfl,_,rfl,.inl ⟨_,_,rfl,.inl hS,_,_,rfl,_,_,rfl,rfl,_,rfl,?_⟩⟩;rw[length_map];refine aU (fun h=>?_) (fun h=>?_)
  ·have hk:k<ns.length:=by
    have:=of_decide_eq_true h;split at this <;> omega
   have e:(ns.map V.int)[k]? = some (V.int (mw ns k)):=by
    rw[getElem?_map,getElem?_eq_getElem hk];unfold mw;rw[List.getD_eq_getElem?_getD,getElem?_eq_getElem hk];rfl
   exact⟨_,rfl,_,rfl,.inl ⟨_,_,_,_,rfl,rfl,hS,HW e,q⟩⟩
  ·have hk:ns.length<=k:=by
    have h':¬((k:Int)<if(ns.length:Int)<63 then(ns.length:Int) else 63):=fun z=>h (decide_eq_true z);split at h' <;> omega
   have e:mw ns k=0:=by
    unfold mw;rw[List.getD_eq_getElem?_getD,List.getElem?_eq_none hk];rfl
   rw[e]at q;exact q
def Oe:Sp:=fun vs H Q _=>∃ seed k:Int,vs=[.int seed,.int k]/\∀ r:Int,0<=r->r<65521->Q (.int r) H
theorem Ez (T:Txt K w mg t):cA P w K mg base jG (0+1) t.iP t.xD ["_law_seed","_law_k"] Oe:=by
 refine T.iU.ok rO (fun vs H Q E h=>?_) (fun cdv A outer s H vs Q E hr h=>?_)
 ·obtain⟨_,_,rfl,_⟩:=h;rfl
 ·obtain⟨seed,k,rfl,q⟩:=h;refine aV (ah (aD (i:=2) rO.nd rfl (Or.inl rfl) (aM fj (aM (cN.or (aN.or cO)) (aM (cN.or (aN.or cO)) (aM (vT.or vW) (aM fj (pv 0) ag) ag) (aM (vT.or vW) (pv 1) ag)) ag) ag)) (ah (aD (i:=3) rO.nd rfl (Or.inl rfl) (aM fj (aM (cN.or (aN.or cO)) (aM (cN.or (aN.or cO)) (aM (vT.or vW) (pv 2) (pv 2)) (aM (vT.or vW) (pv 1) ag)) (aM fj (aM mX (pv 0) ag) ag)) ag)) (aq (aA (aM fj (aM (cN.or (aN.or cO)) (aM mX (aM (vT.or vW) (pv 3) (pv 3)) ag) (pv 3)) ag))))) ?_;have p2:(2:Int) ^ 64=18446744073709551616:=by decide
  refine⟨_,rfl,_,_,rfl,rfl,(by decide:(0:Int)<1000003),.inl ⟨_,_,rfl,rfl,.inr ⟨by decide,by decide⟩,_,rfl,.inl ⟨_,_,rfl,rfl,.inr ⟨by decide,by decide⟩,.inl ⟨_,_,rfl,rfl,.inl ⟨_,_,rfl,rfl,_,_,rfl,rfl,(by decide:(0:Int)<1000033),?_⟩⟩⟩⟩⟩;generalize hone:(seed % 1000003 * 48271+k * 30011+17) % 1000033=one;have b1:0<=one/\one<1000033:=by omega
  refine⟨_,rfl,_,rfl,.inl ⟨_,_,rfl,rfl,.inl ⟨by rw[p2];omega,by rw[p2];omega⟩,_,rfl,.inl ⟨_,_,rfl,rfl,.inr ⟨by decide,by decide⟩,.inl ⟨_,_,rfl,rfl,_,rfl,_,_,rfl,rfl,⟨by decide,by decide⟩,_,_,rfl,rfl,(by decide:(0:Int)<997),.inl ⟨_,_,rfl,rfl,_,_,rfl,rfl,(by decide:(0:Int)<999983),?_⟩⟩⟩⟩⟩;generalize ahN:(one * one+k * 613+seed / 1000003 % 997) % 999983=two;have b2:0<=two/\two<999983:=by omega
  refine⟨_,rfl,_,rfl,.inl ⟨_,_,rfl,rfl,.inl ⟨by rw[p2];omega,by rw[p2];omega⟩,_,_,rfl,rfl,⟨by decide,by decide⟩,_,rfl,.inl ⟨_,_,rfl,rfl,_,_,rfl,rfl,(by decide:(0:Int)<65521),?_⟩⟩⟩;exact q _ (by omega) (by omega)
def l24:List Kd:=[.G,.G,.G,.G,.G,.s,.s,.s,.s,.s,.s,.s,.s,.s,.d,.d,.r,.r,.D,.R,.dot,.dot,.three,.two]
theorem acd:(Str.ofString "GGGGGsssssssssddrrDR..32").cps.toList=l24.map Kd.cp:=by lk
theorem Mn (k:Kd):Ts k.str "GDsd"=k.gn:=by cases k <;> decide +kernel
def Uu (s:Sg):Prop:=(s.1.gn=true->0<=s.2/\s.2<100)/\(s.1.gn=false->s.2=0)
def J9:Sp:=fun vs H Q _=>∃ m:Int,vs=[.int m]/\∀(p:Addr)(s:Sg),Uu s->H p=none->Q (.ref p) (upd H p (.tup [.str s.1.str,.int s.2]))
theorem Ka (T:Txt K w mg t):cA P w K mg base jG (0+1) t.fD t.pd ["_law_number"] J9:=by
 refine T.jm.ok t7 (fun vs H Q E h=>?_) (fun cdv A outer s H vs Q E hr h=>?_)
 ·obtain⟨_,rfl,_⟩:=h;rfl
 ·obtain⟨m,rfl,q⟩:=h;refine aV (ah (aD (i:=1) t7.nd rfl (Or.inl rfl) (aE ax aI (aM fj (pv 0) ag) (fun _ _=>rfl))) (ah (aX (au (bD.or bC) (pv 1) aI rfl) (aq (aA (cY (aa (pv 1) (aa (aM fj (aM mX (pv 0) ag) ag) ao))))) aF) (aq (aA (cY (aa (pv 1) (aa ag ao))))))) ?_;obtain⟨k,hk⟩:∃ k,l24[(m % 24).toNat]? = some k:=by
   have h1:(m % 24).toNat<l24.length:=by
    show _<24;omega
   exact⟨_,getElem?_eq_getElem h1⟩
  have hat:Xo (Str.ofString "GGGGGsssssssssddrrDR..32").cps.toList (m % 24)=some k.cp:=by
   have e0:m % 24=(((m % 24).toNat:Nat):Int):=by omega
   rw[e0,acd];exact HW (by rw[getElem?_map,hk];rfl)
  refine⟨_,rfl,_,_,rfl,rfl,(by decide:(0:Int)<24),.inr (.inr ⟨_,_,_,rfl,rfl,(by lk),hat,?_⟩)⟩;rw[<-aaO k];tm_up;refine aU (fun h=>?_) (fun h=>?_)
  ·have h4:k.gn=true:=by rw[<-Mn];exact h
   tm_up;refine⟨(by show 2<=sizeLine;decide),fun p hp=>?_⟩;exact q p (k,m / 24 % 100) ⟨fun _=>by show 0<=m / 24 % 100/\m / 24 % 100<100;omega,fun z=>by rw[h4]at z;cases z⟩ hp
  ·have h4:k.gn=false:=by
    rw[<-Mn];exact Bool.eq_false_iff.mpr h
   tm_up;refine⟨(by show 2<=sizeLine;decide),fun p hp=>?_⟩;exact q p (k,0) ⟨(fun z=>by rw[h4]at z;cases z),fun _=>rfl⟩ hp
def Kb (K:Frag):Sp:=fun vs H Q _=>∃(a:Addr)(ns:List Int)(k m:Nat),vs=[.ref a,.int (k:Int),.int (m:Int)]/\a6 K H a (ns.map V.int)/\ns.length<=63/\m<=60 /\
 ∀(l:Addr)(ms:List Int)(H':Hp),ay H H'->H' l=some (.lst (ms.map V.int))->ms.length<=60->(∀ x∈ms,0<=x)->Q (.ref l) H'
theorem Kc (T:Txt K w mg t):cA P w K mg base jG (0+2) t.fE t.pe ["_law_script","_law_at","_law_many"] (Kb K):=by
 have cJ:=um (P:=P) (base:=base) T;have qD:=Ez (P:=P) (base:=base) T;refine T.jn.ok gM (fun vs H Q E h=>?_) (fun cdv A outer s H vs Q E hr h=>?_)
 ·obtain⟨_,_,_,_,rfl,_⟩:=h;rfl
 ·obtain⟨a,ns,k,m,rfl,hS,hl,hm,q⟩:=h;refine aV (ah (aD (i:=3) gM.nd rfl (Or.inr rfl) (av cJ (hr.mono (by decide)) rfl T.cD T.bI.kp T.bZ .nil aJ (aa (pv 0) (aa (pv 1) ao)))) (ah (aX (au oR (pv 3) (aM SF ag ag) (aw _)) (aq (aA (AZ (cn:=["_law_k"]) rfl (gi.of rfl) (lR rfl T.pG (aa (pv 2) ao)) (fun _=>(aK (i:=0) D2 rfl (Or.inl rfl))) (fun _=>Ic) (fun _=>(av qD (hr.mono (by decide)) rfl T.rZ T.iU.kp T.mj .nil aJ (aa (aM (cN.or (aN.or cO)) (pv 4) (aM (vT.or vW) ag (av cJ (hr.mono (by decide)) rfl T.cD T.bI.kp T.bZ .nil aJ (aa (pv 1) (aa (aM (cN.or (aN.or cO)) (aM (cN.or (aN.or cO)) (pv 2) ag) (pv 0)) ao))))) (aa (pv 0) ao))))))) aF) (ah (aD (i:=4) gM.nd rfl (Or.inl rfl) (aM lr (pv 3) (aM SF ag ag))) (ah (aD (i:=5) gM.nd rfl (Or.inl rfl) (gm ao)) (ah (BW PassesOwn.never (cj (PW.pt (cM (au BY (pv 4) ag (aw _)) (fe (au oR (bS (bX.or bY) rfl T.lF lu (aa (pv 5) ao)) ag (aw _)))))) (ah (c5 (jW plainAttrs_list slot_list_append type_list_append bO (pv 5) (aa (aM fj (pv 4) ag) ao))) (aq (aD (i:=4) gM.nd rfl (Or.inl rfl) (aM mX (pv 4) ag))))) (aq (aA (pv 5)))))))) ?_;refine⟨_,rfl,_,rfl,a,ns,k,rfl,hS,hl,?_⟩;refine⟨_,rfl,_,_,rfl,rfl,⟨by decide,by decide,by decide⟩,_,_,rfl,rfl,_,rfl,?_⟩;refine aU (fun _=>?_) (fun _=>?_)
  ·refine⟨_,rfl,(m:Int),rfl,(by omega),(by omega),fun D b hD=>?_⟩;refine Nj (lo:=0) (n:=((m:Int)).toNat) (fun i ys σ H'=>∃(v:Option V)(ms:List Int),σ=[v,some (.ref a),some (.int (k:Int)),some (.int (m:Int)),some (.int (mw ns k)),none,none]/\H'=upd H D (.lst ys)/\ys=ms.map V.int/\ms.length=i/\∀ x∈ms,0<=x) ⟨none,[],rfl,rfl,rfl,rfl,fun _ h=>nomatch h⟩ ?_ ?_
   ·rintro i ys σ H' hi ⟨v,ms,rfl,rfl,rfl,hlen,hpos⟩ N hN;refine qW ?_;refine⟨_,rfl,_,rfl,_,rfl,.inl ⟨_,_,rfl,rfl,_,rfl,.inl ⟨_,_,rfl,rfl,a,ns,k+1+i,?_,tM hS hD,hl,.inl ⟨_,_,rfl,rfl,.inl ⟨by decide,by decide⟩,?_⟩⟩⟩⟩
    ·show [V.ref a,V.int ((k:Int)+1+(0+(i:Int)))]=[V.ref a,V.int ((k+1+i:Nat):Int)];have e:(k:Int)+1+(0+(i:Int))=((k+1+i:Nat):Int):=by omega
     rw[e]
    ·refine .inl ⟨_,_,rfl,rfl,_,rfl,_,_,rfl,fun r h0 h1=>⟨ai,?_,?_⟩⟩
     ·rw[length_map];exact cK (by omega)
     ·refine hN _ _ _ ⟨some _,ms++[r],rfl,qi,by simp,by simp[hlen],fun x hx=>?_⟩;rcases mem_append.mp hx with z|z
      ·exact hpos x z
      ·have:x=r:=by simpa using z
       omega
   ·rintro ys σ H' ⟨v,ms,rfl,rfl,rfl,hlen,hpos⟩;exact q D ms _ (ay.upd hD) ai (by omega) hpos
  ·refine⟨_,rfl,_,_,rfl,rfl,⟨by decide,by decide,by decide⟩,_,_,rfl,rfl,(by decide),fun l hl0=>?_⟩;refine⟨fun mm σ H'=>∃(left:Int)(ms:List Int),σ=[some (.ref a),some (.int (k:Int)),some (.int (m:Int)),some (.int (mw ns k)),some (.int left),some (.ref l)]/\H'=upd H l (.lst (ms.map V.int))/\mm=60-ms.length/\ms.length<=60/\∀ x∈ms,0<=x,
    ⟨60,_,[],rfl,rfl,rfl,Nat.zero_le _,fun _ h=>nomatch h⟩,?_⟩
   rintro mm σ H' ⟨left,ms,rfl,rfl,rfl,hlen,hpos⟩;refine lB (decide (0<left)&&decide ((ms.length:Int)<60)) ?_ ?_
   ·refine⟨_,rfl,_,_,rfl,rfl,_,rfl,?_⟩;refine aU (fun h=>?_) (fun h=>?_)
    ·refine⟨_,rfl,.inl ⟨l,_,rfl,.inl (a6.of ai),_,_,rfl,rfl,_,rfl,?_⟩⟩;rw[length_map];exact⟨by rw[h,Bool.true_and],rfl⟩
    ·exact⟨by rw[Bool.eq_false_iff.mpr h];rfl,rfl⟩
   refine aU (fun h60=>?_) (fun _=>?_)
   ·have ahP:ms.length<60:=by
     have:=of_decide_eq_true (Bool.and_eq_true_iff.mp h60).2;omega
    refine⟨fun σ' H'=>∃ m',m'<60-ms.length/\∃(left:Int)(ms:List Int),σ'=[some (.ref a),some (.int (k:Int)),some (.int (m:Int)),some (.int (mw ns k)),some (.int left),some (.ref l)]/\H'=upd H l (.lst (ms.map V.int))/\m'=60-ms.length/\ms.length<=60/\∀ x∈ms,0<=x,fun _ _ h=>h,?_⟩;refine⟨_,rfl,.inl ⟨rfl,_,a6.of ai⟩,_,rfl,_,_,rfl,rfl,(by decide:(0:Int)<2400),l,_,_,rfl,rfl,ai,(by rw[length_map];exact cK (by omega)),_,rfl,_,_,rfl,rfl,⟨by decide,by decide⟩,60-(ms.length+1),by omega,_,ms++[left % 2400],rfl,?_,by simp,by simp;omega,fun x hx=>?_⟩
    ·rw[qi,map_append];rfl
    ·rcases mem_append.mp hx with z|z
     ·exact hpos x z
     ·have:x=left % 2400:=by simpa using z
      omega
   ·exact⟨_,rfl,q l ms _ (ay.upd hl0) ai (by omega) hpos⟩
def RB (K:Frag):Sp:=fun vs H Q _=>∃(a:Addr)(ns:List Int)(k m:Nat),vs=[.ref a,.int (k:Int),.int (m:Int)]/\a6 K H a (ns.map V.int)/\ns.length<=63/\m<=60 /\
 ∀(l:Addr)(xs:List V)(ss:List Sg)(H':Hp),ay H H'->H l=none->H' l=some (.lst xs)->Qb H' xs ss->(∀ s∈ss,Uu s)->ss.length<=60->Q (.ref l) H'
theorem RC (T:Txt K w mg t):cA P w K mg base jG (0+3) t.kb t.D6 ["_law_script","_law_at","_law_many"] (RB K):=by
 have Mo:=Ka (P:=P) (base:=base) T;have Mp:=Kc (P:=P) (base:=base) T;refine T.pE.ok Rm (fun vs H Q E h=>?_) (fun cdv A outer s H vs Q E hr h=>?_)
 ·obtain⟨_,_,_,_,rfl,_⟩:=h;rfl
 ·obtain⟨a,ns,k,m,rfl,hS,hl,hm,q⟩:=h;refine aV (aq (aA (AZ (cn:=["_law_number"]) rfl (gi.of rfl) (mV (av Mp (hr.mono (by decide)) rfl T.JT T.jn.kp T.pD .nil aJ (aa (pv 0) (aa (pv 1) (aa (pv 2) ao))))) (fun _=>(aK (i:=0) L5 rfl (Or.inl rfl))) (fun _=>Ic) (fun _=>(av Mo (hr.mono (by decide)) rfl T.JS T.jm.kp T.pC .nil aJ (aa (pv 0) ao)))))) ?_;refine⟨_,rfl,_,rfl,_,rfl,a,ns,k,m,rfl,hS,hl,hm,fun l ms H1 s1 hl1 hlen hpos=>⟨l,rfl,⟨_,a6.of hl1⟩,fun D b hD=>?_⟩⟩;refine QW (K:=K) (xs:=ms.map V.int) (fun i ys σ H'=>∃(v:Option V)(ss:List Sg),σ=[v,some (.ref a),some (.int (k:Int)),some (.int (m:Int))]/\ay H1 H'/\H' D=some (.lst ys)/\Qb H' ys ss/\ss.length=i/\i<=ms.length/\∀ s∈ss,Uu s)
   ⟨none,[],rfl,ay.upd hD,ai,.nil,rfl,Nat.zero_le _,fun _ h=>nomatch h⟩ ?_ ?_ ?_
  ·rintro i ys σ H' ⟨v,ss,rfl,s2,_⟩;exact s2.seq (a6.of hl1)
  ·rintro i ys x σ H' hx ⟨v,ss,rfl,s2,X6,hsg,hsl,hi,hg⟩ N hN;have hil:i<ms.length:=by
    have:=(List.getElem?_eq_some_iff.mp hx).1;rw[length_map]at this;exact this
   obtain⟨z,hz,rfl⟩:=Tw hx;refine qW ?_;refine⟨_,rfl,z,rfl,fun p s gs hp=>⟨ay.upd hp _ _ X6,?_,?_⟩⟩
   ·rw[d4 hsg,hsl];exact cK (by omega)
   ·have hD4:=ay.upd (o:=.tup [.str s.1.str,.int s.2]) hp _ _ X6;refine hN _ _ _ ⟨_,ss++[s],rfl,i8 (s2.trans (ay.upd hp)) hD,ai,og (Tv hD4 (hsg.same (ay.upd hp))) (XM hD4 ⟨p,rfl,ai⟩),by simp[hsl],hil,fun y hy=>?_⟩;rcases mem_append.mp hy with z|z
    ·exact hg y z
    ·have:y=s:=by simpa using z
     rw[this];exact gs
  ·rintro ys σ H' ⟨v,ss,rfl,s2,X6,hsg,hsl,hi,hg⟩;refine q D ys ss H' (s1.trans s2) (s1.free hD) X6 hsg hg ?_;rw[hsl,length_map];omega
def Of:Sp:=fun vs H Q _=>∃ n:Int,vs=[.int n]/\Q (.bl true) H
theorem Og (T:Txt K w mg t):cA P w K mg base jG (0+1) t.iQ t.xE ["_law_found"] Of:=by
 refine T.jU.ok NS (fun vs H Q E h=>?_) (fun cdv A outer s H vs Q E hr h=>?_)
 ·obtain⟨_,rfl,_⟩:=h;rfl
 ·obtain⟨n,rfl,q⟩:=h;refine aV (aq (aA (cB (mU (bS oV rfl T.gh fZ (aa (pv 0) (aa (tH (v:=.ty "int") rfl T.Eh B4 rfl) ao))) (e9 (Ym (bS oV rfl T.gh fZ (aa (pv 0) (aa (tH (v:=.ty "bool") rfl T.WD VJ rfl) ao))))))))) ?_;refine lA (.bl true) ?_ q;exact⟨_,rfl,_,_,_,_,rfl,oA.int _,rfl,_,rfl,mY ⟨_,rfl,_,_,_,_,rfl,oA.int _,rfl,_,rfl,jf rfl⟩⟩
theorem ko {a b:TS}{D:Ends}{σ:St}{H:Hp}(h:∀ N:St->Hp->Prop,(∀ σ H,b D σ H->N σ H)->a { D with nx:=N } σ H):Vt a b D σ H:=h (b D) fun _ _ z=>z
theorem HK {a b:TS}{D:Ends}{σ:St}{H:Hp}{rt:VK}{bk ct:St->Hp->Prop}(h:Vt a b D σ H):Ends.nx { nx:=Vt a b D,rt:=rt,bk:=bk,ct:=ct } σ H:=h
theorem Zv {K:Frag}{H:Hp}{a b:Addr}{xs ys:List V}{qs:List (Int×Int)}(ha:a6 K H a xs)(hb:a6 K H b ys)(h1:Ce H xs qs)(h2:Ce H ys qs):VH K H 60 (.ref a) (.ref b) :=
 .lst (n:=59) ha hb (by rw[d4 h1,d4 h2]) fun i x y hx hy=>by
  obtain⟨q,hq,p,rfl,hp⟩:=qX h1 hx;obtain⟨q',hq',p',rfl,hp'⟩:=qX h2 hy;rw[hq]at hq';cases hq';refine .tup (n:=58) (cz.of hp) (cz.of hp') rfl fun j u v hu hv=>?_;rw[hu]at hv;cases hv
  match j,hu with
  |0,hu=>obtain rfl:=Option.some.inj hu;exact .flat rfl
  |1,hu=>obtain rfl:=Option.some.inj hu;exact .flat rfl
  |j+2,hu=>exact absurd hu (by simp)
def Uv (K:Frag)(T:Addr)(lp:Pos)(c:cW)(b:Int)(qs:List (Int×Int))(H H':Hp)(r:Addr):Prop:=Ml T H H'/\ot T lp H'/\∃(w:Wy)(l pp:Addr)(zs xs:List V),w∈qN c b qs/\(∀ w'∈qN c b qs,w.2.1<=w'.2.1)/\H l=none/\H pp=none/\l≠pp/\H' r=some (.tup [.ref l,.int w.2.1,.ref pp])/\H' l=some (.lst zs)/\kW K H' zs w.2.2/\H' pp=some (.lst xs)/\xs.length<=100
structure Dk (K:Frag)(T:Addr)(lp:Pos)(a l2 f z:Addr)(ns:List Int)(oo ys:List V)(jt:List Sg)(qs:List (Int×Int))(c:cW)(H:Hp):Prop where
 hS:a6 K H a (ns.map V.int)
 h2:H l2=some (.lst oo)
 g2:Qb H oo jt
 hf:H f=some (.lst ys)
 pf:Ce H ys qs
 hz:H z=some (.tup (N4 c))
 lm:ot T lp H
section
variable {K:Frag} {T:Addr} {lp:Pos} {a l2 f z:Addr} {ns:List Int} {oo ys:List V} {jt:List Sg} {qs:List (Int×Int)} {c c':cW} {b:Int} {H H':Hp} {r:Addr}
theorem Dk.same (d:Dk K T lp a l2 f z ns oo ys jt qs c H)(s:ay H H'):Dk K T lp a l2 f z ns oo ys jt qs c H':=⟨s.seq d.hS,s _ _ d.h2,d.g2.same s,s _ _ d.hf,tR s d.pf,s _ _ d.hz,d.lm.same s⟩
theorem ot.ex (h:ot T lp H):∃ ps,H T=some (.yL ps):=by
 rcases h with ⟨ps,_,h1,_⟩|⟨ps,h1,_⟩ <;> exact⟨ps,h1⟩
theorem Ml.at (s:Ml T H H')(hT:∃ ps,H T=some (.yL ps)){y:Addr}{o:HO}(e:H y=some o)(n:∀ ps,o≠.yL ps):H' y=some o:=s y o e fun z=>by
 obtain⟨ps,h⟩:=hT;rw[z,h]at e;exact n _ (Option.some.inj e).symm
theorem Dk.wr (d:Dk K T lp a l2 f z ns oo ys jt qs c H)(s:Ml T H H')(lm:ot T lp H'):Dk K T lp a l2 f z ns oo ys jt qs c H':=by
 have hT:=d.lm.ex;refine⟨?_,s.at hT d.h2 (fun _ z=>nomatch z),bK (fun _ _ ⟨p,e,q⟩=>⟨p,e,s.at hT q (fun _ z=>nomatch z)⟩) d.g2,s.at hT d.hf (fun _ z=>nomatch z),bK (fun _ _ ⟨p,e,q⟩=>⟨p,e,s.at hT q (fun _ z=>nomatch z)⟩) d.pf,s.at hT d.hz (fun _ z=>nomatch z),lm⟩;rcases d.hS with (h|⟨u,h⟩)|h
 ·exact .inl (.inl (s.at hT h (fun _ z=>nomatch z)))
 ·exact .inl (.inr ⟨u,s.at hT h (fun _ z=>nomatch z)⟩)
 ·exact .inr h
theorem Dk.app (d:Dk K T lp a l2 f z ns oo ys jt qs c H){l:Addr}{zs:List V}{o:HO}(hl:H l=some (.lst zs))(n2:l2≠l)(nf:f≠l)(na:(∀ H',a6 K H' a (ns.map V.int))\/a≠l):Dk K T lp a l2 f z ns oo ys jt qs c (upd H l o):=by
 refine⟨na.elim (fun h=>h _) (fun h=>aaQ d.hS h),by rw[ar n2];exact d.h2,Tv hl d.g2,by rw[ar nf];exact d.hf,Qf hl d.pf,by rw[ar (qF d.hz hl (by intro z;cases z))];exact d.hz,?_⟩;rcases d.lm with ⟨ps,c',h1,h2,h3,h4⟩|⟨ps,h1,h2,h3⟩
 ·exact .inl ⟨ps,c',by rw[ar (qF h1 hl (by intro z;cases z))];exact h1,h2,h3,by rw[ar (qF h4 hl (by intro z;cases z))];exact h4⟩
 ·exact .inr ⟨ps,by rw[ar (qF h1 hl (by intro z;cases z))];exact h1,h2,h3⟩
theorem EA (d:Dk K T lp a l2 f z ns oo ys jt qs c H)(cb:Wf c')(hb:Ms b)(hG:∀ s∈jt,qO s)(hf:(b7 b (a9 jt)).2=[])(hq:qs=bU jt (b7 b (a9 jt)).1)(hl:jt.length<=60){z':Addr}(hz:H z'=some (.tup (N4 c'))){p:Int}(hp:ck c' 0 (a9 jt)=some p){Q:VK}{E:XK}
  (q:∀ r H',Uv K T lp c' b qs H H' r->Q (.ref r) H'):Ey K T lp [.ref f,.ref z',.int b] H Q E:=by
 obtain⟨w0,Sn,_⟩:=t4 cb.pos hb hG hf hp;rw[<-hq]at Sn;refine⟨f,z',b,c',ys,qs,rfl,a6.of d.hf,d.pf,?_,?_,hz,d.lm,fun e=>?_,fun w hw hbest r l pp zs xs H' s1 lm n1 n2 n3 h1 h2 h3 h4 h5=>q r H' ⟨s1,lm,w,l,pp,zs,xs,hw,hbest,n1,n2,n3,h1,h2,h3,h4,?_⟩⟩
 ·rw[hq];have:=lX jt (b7 b (a9 jt)).1;omega
 ·rw[hq];exact qu (A2 hb _)
 ·rw[e]at Sn;cases Sn
 ·rw[d4 h5];unfold Fx;rw[length_map,length_range,hq];have:=lX jt (b7 b (a9 jt)).1;omega
end
theorem Mq {σ:St}{H:Hp}{k:List V->Hp->Prop}(h:k [] H):Yx σ H k:=h
theorem Ke {o:Option Int}{x:Int}{Q:V->Prop}(h:∀ n,o=some n->1<=n)(q:Q (.int (o.getD x))):(lP o=.non/\Q (.int x))\/∃ n,lP o=.int n/\((n≠0/\Q (.int n))\/(n=0/\Q (.int x))):=by
 cases o with
 |none=>exact .inl ⟨rfl,q⟩
 |some n=>exact .inr ⟨n,rfl,.inl ⟨by have:=h n rfl;omega,q⟩⟩
set_option maxHeartbeats 8000000 in
theorem Zw (T:Txt K w mg t):cA P w K mg base jG (0+8) t.D7 t.Ua ["_law_script"] (tW K t.oi):=by
 have RD:=N3 (P:=P) (base:=base) T;have EB:=Mb (P:=P) (base:=base) T;have Oh:=Me (P:=P) (base:=base) T;have mx:=N8 (P:=P) (base:=base) T;have EC:=Mg (P:=P) (base:=base) T;have my:=Od (P:=P) (base:=base) T;have cJ:=um (P:=P) (base:=base) T;have qD:=Ez (P:=P) (base:=base) T;have Uw:=RC (P:=P) (base:=base) T;have HL:=Og (P:=P) (base:=base) T;refine T.Qv.ok gN (fun vs H Q E h=>?_) (fun cdv A outer s H vs Q E hr h=>?_)
 ·obtain⟨a,ns,rfl,_⟩:=h;rfl
 ·obtain⟨a,ns,rfl,hS,hl,hT,q⟩:=h;refine aV (ah (aD (i:=1) gN.nd rfl (Or.inl rfl) (av RD (hr.mono (by decide)) rfl T.NV T.md.kp T.xF .nil aJ (aa (av cJ (hr.mono (by decide)) rfl T.cD T.bI.kp T.bZ .nil aJ (aa (pv 0) (aa ag ao))) ao))) (ah (aD (i:=2) gN.nd rfl (Or.inl rfl) (av EB (hr.mono (by decide)) rfl T.yR T.iR.kp T.nA .nil aJ (aa (av qD (hr.mono (by decide)) rfl T.rZ T.iU.kp T.mj .nil aJ (aa (av cJ (hr.mono (by decide)) rfl T.cD T.bI.kp T.bZ .nil aJ (aa (pv 0) (aa ag ao))) (aa ag ao))) ao))) (ah (lz (aX (au (a4.or (aL (az hr))) (aM fj (aM mX (av cJ (hr.mono (by decide)) rfl T.cD T.bI.kp T.bZ .nil aJ (aa (pv 0) (aa ag ao))) ag) ag) ag (aw _)) (aq (aD (i:=2) gN.nd rfl (Or.inl rfl) (cY (aa (cB (m8 (aE ax (pv 2) ag (fun _ _=>rfl)) (e9 ag))) (aa (cB (m8 (aE ax (pv 2) ag (fun _ _=>rfl)) (e9 ag))) (aa (cB (m8 (aE ax (pv 2) ag (fun _ _=>rfl)) (e9 ag))) ao)))))) aF)) (ah (aD (i:=3) gN.nd rfl (Or.inl rfl) (aE ax (gm (aa ag (aa ag ao))) (iD (qk.or i7) rfl T.Eh B4 (aa (bR (a4.or (aL (az hr))) (aM fj (aM mX (av cJ (hr.mono (by decide)) rfl T.cD T.bI.kp T.bZ .nil aJ (aa (pv 0) (aa ag ao))) ag) ag) ag (aw _)) ao)) (fun _ _=>rfl))) (ah (aD (i:=4) gN.nd rfl (Or.inl rfl) (av Oh (hr.mono (by decide)) rfl T.L6 T.kc.kp T.rW .nil aJ (aa (B0 (HY.or (Nb.or Nh)) (av Uw (hr.mono (by decide)) rfl T.Ro T.pE.kp T.Ef .nil aJ (aa (pv 0) (aa ag (aa (aM fj (av cJ (hr.mono (by decide)) rfl T.cD T.bI.kp T.bZ .nil aJ (aa (pv 0) (aa ag ao))) (aM (cN.or (aN.or cO)) (pv 3) ag)) ao)))) HS (HU (pv 3))) (aa (pv 1) ao)))) (ah (lz (aX (au M8 (av mx (hr.mono (by decide)) rfl T.kd T.fY.kp T.iS .nil aJ (aa (pv 4) (aa (pv 2) ao))) fi (aw _)) (aq (aD (i:=2) gN.nd rfl (Or.inl rfl) (cY (aa (cB (m8 (aE ax (pv 2) ag (fun _ _=>rfl)) (e9 ag))) (aa (cB (m8 (aE ax (pv 2) ag (fun _ _=>rfl)) (e9 ag))) (aa (cB (m8 (aE ax (pv 2) ag (fun _ _=>rfl)) (e9 ag))) ao)))))) aF)) (ah (aD (i:=5) gN.nd rfl (Or.inl rfl) (av mx (hr.mono (by decide)) rfl T.kd T.fY.kp T.iS .nil aJ (aa (pv 4) (aa (pv 2) ao)))) (ah (aD (i:=6) gN.nd rfl (Or.inl rfl) (av EC (hr.mono (by decide)) rfl T.yS T.iT.kp T.nB .nil aJ (aa (pv 4) (aa (pv 1) ao)))) (ah (aD (i:=7) gN.nd rfl (Or.inl rfl) (cB (lQ (au (a4.or (aL (az hr))) (pv 1) ag (aw _)) (av my (hr.mono (by decide)) rfl T.kj T.e8.kp (M0:=[.int 3]) T.rY (.cons ⟨_,rfl⟩ (.nil)) aJ (aa (pv 6) (aa (pv 2) ao))) (av my (hr.mono (by decide)) rfl T.kj T.e8.kp T.jT .nil aJ (aa (pv 6) (aa (pv 2) (aa (pv 1) ao))))))) (ah (aX (cj (PW.pt (kX (oN (de (bS oV rfl T.gh fZ (aa (pv 7) (aa (tH (v:=.ty "tuple") rfl T.Ei B5 rfl) ao))))) (jV (au (GU.or (vY (az hr))) (bS (bX.or bY) rfl T.lF lu (aa (pv 7) ao)) ag (aw _)))))) (aq (aA Lq)) aF) (ah (aX (cj (PW.pt (kX (oN (de (av HL (hr.mono (by decide)) rfl T.Eg T.jU.kp T.qC .nil aJ (aa (aE ax (pv 7) ag (fun _ _=>rfl)) ao)))) (kX (au oR (aE ax (pv 7) ag (fun _ _=>rfl)) ag (aw _)) (kX (au BY (aE ax (pv 7) ag (fun _ _=>rfl)) (pv 5) (aw _)) (jV (oN (de (bS oV rfl T.gh fZ (aa (aE ax (pv 7) ag (fun _ _=>rfl)) (aa (tH (v:=.ty "list") rfl T.Qw PX rfl) ao))))))))))) (aq (aA Lq)) aF) (ah (aD (i:=8) gN.nd rfl (Or.inl rfl) (av EB (hr.mono (by decide)) rfl T.yR T.iR.kp T.nA .nil aJ (aa (av qD (hr.mono (by decide)) rfl T.rZ T.iU.kp T.mj .nil aJ (aa (av cJ (hr.mono (by decide)) rfl T.cD T.bI.kp T.bZ .nil aJ (aa (pv 0) (aa ag ao))) (aa ag ao))) ao))) (ah (aD (i:=8) gN.nd rfl (Or.inl rfl) (cY (aa (cB (m8 (aE ax (pv 8) ag (fun _ _=>rfl)) (e9 ag))) (aa (cB (m8 (aE ax (pv 8) ag (fun _ _=>rfl)) (e9 ag))) (aa (cB (m8 (aE ax (pv 8) ag (fun _ _=>rfl)) (e9 ag))) ao))))) (ah (aD (i:=9) gN.nd rfl (Or.inl rfl) (av my (hr.mono (by decide)) rfl T.kj T.e8.kp T.jT .nil aJ (aa (pv 6) (aa (pv 8) (aa (pv 1) ao))))) (ah (aX (cj (PW.pt (kX (oN (de (bS oV rfl T.gh fZ (aa (pv 9) (aa (tH (v:=.ty "tuple") rfl T.Ei B5 rfl) ao))))) (kX (oN (de (av HL (hr.mono (by decide)) rfl T.Eg T.jU.kp T.qC .nil aJ (aa (aE ax (pv 9) ag (fun _ _=>rfl)) ao)))) (jV (au oR (aE ax (pv 9) ag (fun _ _=>rfl)) ag (aw _))))))) (aq (aA Lq)) aF) (ah (aX (cj (PW.pt (kX (au BY (aE ax (pv 9) ag (fun _ _=>rfl)) (bS (GV rfl) rfl T.N1 S4 (aa (av mx (hr.mono (by decide)) rfl T.kd T.fY.kp T.iS .nil aJ (aa (pv 4) (aa (pv 8) ao))) (aa (av mx (hr.mono (by decide)) rfl T.kd T.fY.kp T.iS .nil aJ (aa (aE ax (pv 7) ag (fun _ _=>rfl)) (aa (pv 8) ao))) ao))) (aw _)) (jV (au (GU.or (vY (az hr))) (av mx (hr.mono (by decide)) rfl T.kd T.fY.kp T.iS .nil aJ (aa (aE ax (pv 9) ag (fun _ _=>rfl)) (aa (pv 8) ao))) (aE ax (pv 9) ag (fun _ _=>rfl)) (aw _)))))) (aq (aA Lq)) aF) (ah (aX (au BY (aM fj (av cJ (hr.mono (by decide)) rfl T.cD T.bI.kp T.bZ .nil aJ (aa (pv 0) (aa ag ao))) ag) ag (aw _)) (aq (aA (bR (a4.or (aL (az hr))) (aE ax (av my (hr.mono (by decide)) rfl T.kj T.e8.kp T.jT .nil aJ (aa (pv 6) (aa (pv 2) (aa (pv 1) ao)))) ag (fun _ _=>rfl)) (aE ax (pv 7) ag (fun _ _=>rfl)) (aw _)))) aF) (ah (c5 (jW plainAttrs_list slot_list_append type_list_append bO (aE ax (pv 7) ag (fun _ _=>rfl)) (aa (cY (aa aI (aa ag ao))) ao))) (ah (c5 (jW plainAttrs_list slot_list_append type_list_append bO (aE ax (pv 7) ag (fun _ _=>rfl)) (aa (gm ao) ao))) (ah (aD (i:=10) gN.nd rfl (Or.inl rfl) (av my (hr.mono (by decide)) rfl T.kj T.e8.kp T.jT .nil aJ (aa (pv 6) (aa (pv 2) (aa (pv 1) ao))))) (aq (aA (cB (mU (bR (a4.or (aL (az hr))) (aE ax (pv 10) ag (fun _ _=>rfl)) (aE ax (pv 7) ag (fun _ _=>rfl)) (aw _)) (e9 (bR (a4.or (aL (az hr))) (av EC (hr.mono (by decide)) rfl T.yS T.iT.kp T.nB .nil aJ (aa (aE ax (pv 10) ag (fun _ _=>rfl)) (aa (pv 1) ao))) (pv 6) (aw _))))))))))))))))))))))))))) ?_;tm_up;refine⟨a,ns,0,rfl,hS,hl,?_⟩;tm_up;refine fun b hb=>?_;have hM:Ms b:=hb;tm_up;refine⟨a,ns,1,rfl,hS,hl,?_⟩;tm_up;refine⟨_,3,rfl,fun m0 _ _=>?_⟩;refine⟨m0,rfl,fun c0 z0 H1 cb0 s1 n1 hz1=>?_⟩;refine⟨fun σ H'=>∃(c:cW)(z:Addr),σ=[some (.ref a),some (.int b),some (.ref z),none,none,none,none,none,none,none,none]/\ay H H'/\Wf c/\H' z=some (.tup (N4 c)),?_,?_⟩
  ·tm_up;refine⟨a,ns,0,rfl,s1.seq hS,hl,?_⟩;tm_up;refine aU (fun _=>?_) (fun _=>⟨c0,z0,rfl,s1,cb0,hz1⟩);refine lA (.int (c0.1.getD 2)) ?_ ?_
   ·tm_up;refine .inr (.inl ⟨z0,_,0,_,rfl,rfl,cz.of hz1,rfl,?_⟩);exact Ke (Q:=fun v=>v=V.int (c0.1.getD 2)/\H1=H1) cb0.a ⟨rfl,rfl⟩
   refine lA (.int (c0.2.1.getD 5)) ?_ ?_
   ·tm_up;refine .inr (.inl ⟨z0,_,1,_,rfl,rfl,cz.of hz1,rfl,?_⟩);exact Ke (Q:=fun v=>v=V.int (c0.2.1.getD 5)/\H1=H1) cb0.b ⟨rfl,rfl⟩
   refine lA (.int (c0.2.2.getD 3)) ?_ ?_
   ·tm_up;refine .inr (.inl ⟨z0,_,2,_,rfl,rfl,cz.of hz1,rfl,?_⟩);exact Ke (Q:=fun v=>v=V.int (c0.2.2.getD 3)/\H1=H1) cb0.c ⟨rfl,rfl⟩
   refine⟨by show 3<=sizeLine;decide,fun z hz=>?_⟩;exact⟨Zc c0 2 5 3,z,rfl,s1.trans (ay.upd hz),T4 cb0 (by decide) (by decide) (by decide),ai⟩
  rintro σ H2 ⟨c1,z1,rfl,s2,ZX,hz2⟩;clear cb0 s1 n1 hz1;have hS2:=s2.seq hS;have hT2:=s2 _ _ hT;refine HK ?_;refine ko fun N hN=>?_
  suffices hN':∀(sz:Nat)(H':Hp),(sz=20\/sz=60)->ay H2 H'->N [some (.ref a),some (.int b),some (.ref z1),some (.int (sz:Int)),none,none,none,none,none,none,none] H' by
   tm_up;refine⟨by show 2<=sizeLine;decide,fun L hL=>?_⟩;have sL:=ay.upd (o:=.lst [V.int 20,V.int 60]) hL;tm_up;refine⟨a,ns,0,rfl,sL.seq hS2,hl,?_⟩;tm_up;refine .inl (.inr ⟨_,rfl,?_⟩);generalize decide (V.int (mw ns 0 / 10 % 8)=V.int 1)=db;cases db with
   |false=>exact ZP (a6.of ai) (n:=0) rfl rfl (hN' 20 _ (.inl rfl) sL)
   |true=>exact ZP (a6.of ai) (n:=1) rfl rfl (hN' 60 _ (.inr rfl) sL)
  intro sz H3 hsz s3;refine hN _ _ ?_;clear hN N;have hS3:=s3.seq hS2;have hz3:=s3 _ _ hz2;have hT3:=s3 _ _ hT2;refine ko fun N hN=>?_;tm_up;refine⟨a,ns,2,rfl,hS3,hl,?_⟩;tm_up;refine⟨by omega,?_⟩;obtain⟨m1,hm1,hm2⟩:∃ m:Nat,mw ns 2 % ((sz:Int)+1)=(m:Int)/\m<=60:=⟨(mw ns 2 % ((sz:Int)+1)).toNat,by have:=Int.emod_nonneg (mw ns 2) (show((sz:Int)+1)≠0 by omega);omega,by have:=Int.emod_lt_of_pos (mw ns 2) (show 0<((sz:Int)+1) by omega);omega⟩;rw[hm1];refine⟨a,ns,3,m1,rfl,hS3,hl,hm2,fun l0 xs0 ss0 H4 s4 n4 h4 g4 gt4 sl4=>?_⟩;tm_up;refine .inl ⟨l0,xs0,rfl,a6.of h4,fun k1 hk1=>?_⟩;rw[XQ];have s5:=ay.upd (o:=.lst (xs0.take sz)) hk1;have k5:=ai (H:=H4) (a:=k1) (o:=.lst (xs0.take sz));generalize upd H4 k1 (.lst (xs0.take sz))=H5 at s5 k5;tm_up;refine⟨k1,b,_,ss0.take sz,rfl,hM,k5,Tu sz (g4.same s5),by rw[length_take];omega,fun l2 oo jt H6 s6 _ h6 g6 le6 ace ED=>?_⟩;have S6:=(s4.trans s5).trans s6;have gd:∀ s∈jt,qO s:=fun s hs=>by
   have:=gt4 s (List.mem_of_mem_take (ace s hs));exact⟨fun e=>⟨(this.1 e).1,by have:=(this.1 e).2;omega⟩,this.2⟩
  have ZY:jt.length<=60:=by rw[length_take]at le6;omega
  refine hN _ _ ?_;clear hN N;have hS6:=S6.seq hS3;have ZZ:=S6 _ _ hz3;have hT6:=S6 _ _ hT3;clear hS hT hS2 hT2 hS3 hz2 hz3 hT3 s2 s3 hm1 gt4 g4 h4 n4 k5 ace le6 hk1 s4 s5 s6 S6;refine⟨fun σ H'=>∃(c:cW)(z:Addr)(p:Int),σ=[some (.ref a),some (.int b),some (.ref z),some (.int (sz:Int)),some (.ref l2),none,none,none,none,none,none]/\ay H6 H'/\Wf c/\H' z=some (.tup (N4 c))/\ck c 0 (a9 jt)=some p,?_,?_⟩
  ·tm_up;refine⟨l2,z1,oo,jt,c1,rfl,a6.of h6,kW.of g6,ZZ,?_⟩;cases e:ck c1 0 (a9 jt) with
   |some p =>
    refine⟨rfl,_,rfl,jq ?_⟩;exact⟨c1,z1,p,rfl,ay.refl _,ZX,ZZ,e⟩
   |none =>
    refine⟨rfl,_,rfl,mY ?_⟩;refine lA (.int (c1.1.getD 3)) ?_ ?_
    ·tm_up;refine .inr (.inl ⟨z1,_,0,_,rfl,rfl,cz.of ZZ,rfl,?_⟩);exact Ke (Q:=fun v=>v=V.int (c1.1.getD 3)/\H6=H6) ZX.a ⟨rfl,rfl⟩
    refine lA (.int (c1.2.1.getD 2)) ?_ ?_
    ·tm_up;refine .inr (.inl ⟨z1,_,1,_,rfl,rfl,cz.of ZZ,rfl,?_⟩);exact Ke (Q:=fun v=>v=V.int (c1.2.1.getD 2)/\H6=H6) ZX.b ⟨rfl,rfl⟩
    refine lA (.int (c1.2.2.getD 1)) ?_ ?_
    ·tm_up;refine .inr (.inl ⟨z1,_,2,_,rfl,rfl,cz.of ZZ,rfl,?_⟩);exact Ke (Q:=fun v=>v=V.int (c1.2.2.getD 1)/\H6=H6) ZX.c ⟨rfl,rfl⟩
    refine⟨by show 3<=sizeLine;decide,fun z hz=>?_⟩;obtain⟨p,hp⟩:=(Qp c1 3 2 1).Qo (a9 jt) 0;exact⟨Zc c1 3 2 1,z,p,rfl,ay.upd hz,T4 ZX (by decide) (by decide) (by decide),ai,hp⟩
  rintro σ H7 ⟨c,z,p,rfl,s7,cb,hz7,hp⟩;refine HK ?_;refine ko fun N hN=>?_;tm_up;refine⟨l2,z,oo,jt,c,rfl,a6.of (s7 _ _ h6),kW.of (g6.same s7),hz7,?_⟩;rw[hp];refine hN _ _ ?_;clear hN N;refine ko fun N hN=>?_;tm_up;refine⟨l2,b,oo,jt,rfl,hM,s7 _ _ h6,kW.of (g6.same s7),by omega,fun f ys H8 s8 n8 h8 p8=>?_⟩;refine hN _ _ ?_;clear hN N;obtain⟨qs,hq⟩:∃ qs,qs=bU jt (b7 b (a9 jt)).1:=⟨_,rfl⟩;rw[<-hq]at p8;have D8:Dk K t.oi ⟨140,34,140,52⟩ a l2 f z ns oo ys jt qs c H8:=⟨(s7.trans s8).seq hS6,(s7.trans s8) _ _ h6,g6.same (s7.trans s8),h8,p8,s8 _ _ hz7,.inr ⟨#[],(s7.trans s8) _ _ hT6,trivial,rfl⟩⟩;clear hS6 h6 g6 ZZ hT6 s7 hz7 s8 h8 p8 n8 ZX;refine ko fun N hN=>?_
  suffices hN':∀(r:Addr)(H':Hp),Uv K t.oi ⟨140,34,140,52⟩ c b qs H8 H' r->N [some (.ref a),some (.int b),some (.ref z),some (.int (sz:Int)),some (.ref l2),some (.int p),some (.ref f),some (.ref r),none,none,none] H' by
   refine⟨fun v H'=>∃ r,v=.ref r/\Uv K t.oi ⟨140,34,140,52⟩ c b qs H8 H' r,?_,?_⟩
   ·tm_up;refine aU (fun h=>?_) (fun _=>?_)
    ·have hb3:b=3:=by
      have:=of_decide_eq_true h
      injection this
     subst hb3;tm_up;refine Mq ?_;exact EA D8 cb hM gd ED hq ZY D8.hz hp fun r H' w=>⟨r,rfl,w⟩
    ·tm_up;refine Mq ?_;exact EA D8 cb hM gd ED hq ZY D8.hz hp fun r H' w=>⟨r,rfl,w⟩
   ·rintro _ H' ⟨r,rfl,w⟩;exact hN' r H' w
  rintro r H9 ⟨s9,lm9,w,l,pp,zs,xs,hw,hbest,nl,Zt,lpp,hr,hl9,g9,afh,xl9⟩;refine hN _ _ ?_;clear hN N;have D9:=D8.wr s9 lm9;have nl2:l2≠l:=aC D8.h2 nl;have nlf:f≠l:=aC D8.hf nl;have npf:f≠pp:=aC D8.hf Zt;have np2:l2≠pp:=aC D8.h2 Zt;have nal:((∀ H',a6 K H' a (ns.map V.int))\/a≠l)/\((∀ H',a6 K H' a (ns.map V.int))\/a≠pp):=by
   rcases D8.hS with (h|⟨u,h⟩)|h
   ·exact⟨.inr (aC h nl),.inr (aC h Zt)⟩
   ·exact⟨.inr (aC h nl),.inr (aC h Zt)⟩
   ·exact⟨.inl fun _=>.inr h,.inl fun _=>.inr h⟩
  have wln:∀{c':cW} {w':Wy},w'∈qN c' b qs->w'.2.2.length<=5000:=fun {c' w'} h=>by
   have h1:=(List.mem_filter.mp (show w'∈(fm c' b qs).filter (fun w=>gf w.1) from h)).1;have hWq:Vn qs:=by rw[hq];exact qu (A2 hM _)
   have h2:=j2 (c:=c') (b:=b) hWq qs.length;rw[take_length]at h2;have:=h2.ln w' h1;have h3:qs.length<=60:=by rw[hq];exact Nat.le_trans (lX _ _) ZY
   omega
  have hWq:Vn qs:=by rw[hq];exact qu (A2 hM _)
  have hTq:Wb qs:=by rw[hq];exact NL fun s hs e=>⟨((gd s hs).1 e).1,by have:=((gd s hs).1 e).2;omega⟩
  obtain⟨e1,e2,e3,e4⟩:=wq hM hWq hTq hw;have wp:w.2.1<=p:=by
   obtain⟨w0,Sn,h0⟩:=t4 cb.pos hM gd ED hp;rw[<-hq]at Sn;have:=hbest w0 Sn;omega
  have w0:0<=w.2.1:=wx cb.pos _ 0 _ e3;refine lB false ?_ (jq ?_)
  ·tm_up;refine⟨_,_,_,_,rfl,oA.tup hr,rfl,_,rfl,jq ?_⟩;tm_up;refine .inl ⟨_,_,rfl,.inr (cz.of hr),?_⟩;tm_up;exact⟨rfl,rfl⟩
  refine HK ?_;refine⟨fun x H'=>x=false/\H'=H9,?_,?_⟩
  ·tm_up;refine .inr (.inl ⟨r,_,1,_,rfl,rfl,cz.of hr,rfl,?_⟩);refine⟨_,rfl,_,rfl,jq ?_⟩;tm_up;refine .inr (.inl ⟨r,_,1,_,rfl,rfl,cz.of hr,rfl,?_⟩);tm_up;rw[decide_eq_false (by omega:¬ w.2.1<0)];refine jq ?_;tm_up;refine .inr (.inl ⟨r,_,1,_,rfl,rfl,cz.of hr,rfl,?_⟩);tm_up;rw[decide_eq_false (by omega:¬ p<w.2.1)];refine jq ?_;tm_up;refine .inr (.inl ⟨r,_,0,_,rfl,rfl,cz.of hr,rfl,?_⟩);tm_up;exact⟨_,_,_,_,rfl,oA.lst hl9,rfl,_,rfl,rfl,rfl⟩
  rintro _ _ ⟨rfl,rfl⟩;refine jq ?_;refine HK ?_;refine ko fun N hN=>?_;tm_up;refine⟨a,ns,1,rfl,D9.hS,hl,?_⟩;tm_up;refine⟨_,9,rfl,fun m9 _ _=>?_⟩;refine⟨m9,rfl,fun e0 y0 M3 eb0 tE n10 WU=>?_⟩;refine hN _ _ ?_;clear hN N;have D10:=D9.same tE;refine ko fun N hN=>?_;refine lA (.int (e0.1.getD 1)) ?_ ?_
  ·tm_up;refine .inr (.inl ⟨y0,_,0,_,rfl,rfl,cz.of WU,rfl,?_⟩);exact Ke (Q:=fun v=>v=V.int (e0.1.getD 1)/\M3=M3) eb0.a ⟨rfl,rfl⟩
  refine lA (.int (e0.2.1.getD 2)) ?_ ?_
  ·tm_up;refine .inr (.inl ⟨y0,_,1,_,rfl,rfl,cz.of WU,rfl,?_⟩);exact Ke (Q:=fun v=>v=V.int (e0.2.1.getD 2)/\M3=M3) eb0.b ⟨rfl,rfl⟩
  refine lA (.int (e0.2.2.getD 4)) ?_ ?_
  ·tm_up;refine .inr (.inl ⟨y0,_,2,_,rfl,rfl,cz.of WU,rfl,?_⟩);exact Ke (Q:=fun v=>v=V.int (e0.2.2.getD 4)/\M3=M3) eb0.c ⟨rfl,rfl⟩
  refine⟨by show 3<=sizeLine;decide,fun y hy=>?_⟩;have y6:=ay.upd (o:=.tup [.int (e0.1.getD 1),.int (e0.2.1.getD 2),.int (e0.2.2.getD 4)]) hy;have Oi:=ai (H:=M3) (a:=y) (o:=.tup [.int (e0.1.getD 1),.int (e0.2.1.getD 2),.int (e0.2.2.getD 4)]);refine hN _ _ ?_;clear hN N;generalize upd M3 y (.tup [.int (e0.1.getD 1),.int (e0.2.1.getD 2),.int (e0.2.2.getD 4)])=Zf at y6 Oi;have Oi:Zf y=some (.tup (N4 (Zc e0 1 2 4))):=Oi;have cbm:Wf (Zc e0 1 2 4):=T4 eb0 (by decide) (by decide) (by decide);have cam:=Qp e0 1 2 4;generalize Zc e0 1 2 4=cm at Oi cbm cam;have Z0:=tE.trans y6;have D11:=D9.same Z0;have aci:=Z0 _ _ hr;have acj:=Z0 _ _ hl9;have g11:=g9.same Z0;have ack:=Z0 _ _ afh;clear tE y6 Z0 D10 WU n10 eb0;obtain⟨pm,hpm⟩:=cam.Qo (a9 jt) 0;obtain⟨pw,hpw⟩:=cam.Qo (a9 w.2.2) 0;refine ko fun N hN=>?_
  suffices hN':∀(r2:Addr)(H':Hp),Uv K t.oi ⟨140,34,140,52⟩ cm b qs Zf H' r2->N [some (.ref a),some (.int b),some (.ref z),some (.int (sz:Int)),some (.ref l2),some (.int p),some (.ref f),some (.ref r),some (.ref y),some (.ref r2),none] H' by
   tm_up;refine Mq ?_;exact EA D11 cbm hM gd ED hq ZY Oi hpm fun r2 H' w=>hN' r2 H' w
  rintro r2 xt ⟨s12,acm,v,l',pp',ZS,xs',hv,Ux,_,_,_,RE,afk,g12,_⟩;refine hN _ _ ?_;clear hN N;have Oj:=D11.lm.ex;have D12:=D11.wr s12 acm;have hrA:=s12.at Oj aci (fun _ z=>nomatch z);have hlA:=s12.at Oj acj (fun _ z=>nomatch z);have hpA:=s12.at Oj ack (fun _ z=>nomatch z);have hyA:=s12.at Oj Oi (fun _ z=>nomatch z);have gA:kW K xt zs w.2.2:=bK (fun _ _ ⟨p,e,h⟩=>⟨p,e,⟨by
   rcases h.h with (h|⟨u,h⟩)|h
   ·exact .inl (.inl (s12.at Oj h (fun _ z=>nomatch z)))
   ·exact .inl (.inr ⟨u,s12.at Oj h (fun _ z=>nomatch z)⟩)
   ·exact .inr h⟩⟩) g11
  obtain⟨v1,v2,v3,v4⟩:=wq hM hWq hTq hv;have v0:0<=v.2.1:=wx cbm.pos _ 0 _ v3;have vpm:v.2.1<=pm:=by
   obtain⟨w0,Sn,h0⟩:=t4 cbm.pos hM gd ED hpm;rw[<-hq]at Sn;have:=Ux w0 Sn;omega
  have vpw:v.2.1<=pw:=by
   obtain⟨w0,Sn,h0⟩:=t4 cbm.pos hM e4 e1 hpw;rw[e2]at Sn;have:=Ux w0 Sn;omega
  clear s12 acm D11 aci acj ack Oi g11 Oj;refine lB false ?_ (jq ?_)
  ·tm_up;refine⟨_,_,_,_,rfl,oA.tup RE,rfl,_,rfl,jq ?_⟩;tm_up;refine .inr (.inl ⟨r2,_,1,_,rfl,rfl,cz.of RE,rfl,?_⟩);refine⟨_,rfl,_,rfl,jq ?_⟩;tm_up;refine .inr (.inl ⟨r2,_,1,_,rfl,rfl,cz.of RE,rfl,?_⟩);tm_up;rw[decide_eq_false (by omega:¬ v.2.1<0)];exact⟨rfl,rfl⟩
  refine HK ?_;refine⟨fun x H'=>x=false/\xt=H',?_,?_⟩
  ·tm_up;refine .inr (.inl ⟨r2,_,1,_,rfl,rfl,cz.of RE,rfl,?_⟩);tm_up;refine⟨l2,y,oo,jt,cm,rfl,a6.of D12.h2,kW.of D12.g2,hyA,?_⟩;rw[hpm];tm_up;refine .inr (.inl ⟨r,_,0,_,rfl,rfl,cz.of hrA,rfl,?_⟩);tm_up;refine⟨l,y,zs,_,cm,rfl,a6.of hlA,gA,hyA,?_⟩;rw[hpw];tm_up;refine⟨pm,pw,rfl,?_⟩;tm_up;have hmn:¬(if pw<pm then pw else pm)<v.2.1:=by split <;> omega
   rw[decide_eq_false hmn];refine jq ?_;tm_up;refine .inr (.inl ⟨r2,_,0,_,rfl,rfl,cz.of RE,rfl,?_⟩);tm_up;refine⟨l',y,ZS,_,cm,rfl,a6.of afk,g12,hyA,?_⟩;rw[v3];tm_up;refine .inr (.inl ⟨r2,_,1,_,rfl,rfl,cz.of RE,rfl,?_⟩);tm_up;rw[show decide (lP (some v.2.1)=V.int v.2.1)=true from decide_eq_true rfl];exact⟨rfl,rfl⟩
  rintro _ _ ⟨rfl,rfl⟩;refine jq ?_;tm_up;refine⟨a,ns,1,rfl,D12.hS,hl,?_⟩;tm_up;refine aU (fun _=>?_) (fun _=>?_)
  ·tm_up;refine Mq ?_;refine EA D12 cb hM gd ED hq ZY D12.hz hp fun r3 H13 ⟨Zx,ahY,u,l3,pp3,zs3,YU,hu,Ol,_,_,_,Uy,_⟩=>?_;have hrB:=Zx.at D12.lm.ex hrA (fun _ z=>nomatch z);have e13:u.2.1=w.2.1:=Int.le_antisymm (Ol w hw) (hbest u hu);tm_up;refine .inr (.inl ⟨r3,_,1,_,rfl,rfl,cz.of Uy,rfl,?_⟩);tm_up;refine .inr (.inl ⟨r,_,1,_,rfl,rfl,cz.of hrB,rfl,?_⟩);tm_up;rw[e13,show decide (V.int w.2.1=V.int w.2.1)=true from decide_eq_true rfl];exact q _
  ·refine HK ?_;refine ko fun N hN=>?_;tm_up;refine .inr (.inl ⟨r,_,0,_,rfl,rfl,cz.of hrA,rfl,?_⟩);refine⟨.inl ⟨rfl,_,a6.of hlA⟩,?_⟩;tm_up;refine⟨by show 2<=sizeLine;decide,fun tp htp=>?_⟩;have Zx:=ay.upd (o:=.tup [.str "R",.int 0]) htp;have WV:=Zx _ _ hlA;have Uy:=Zx _ _ hrA;have acn:=Zx _ _ hpA;have D13:=D12.same Zx;generalize upd xt tp (.tup [.str "R",.int 0])=H13 at Zx WV Uy acn D13;refine⟨l,zs,_,rfl,rfl,WV,eX (by rw[d4 gA];have:=wln hw;omega),?_⟩;have D14:=D13.app (o:=.lst (zs++[.ref tp])) WV nl2 nlf nal.1;have Zy:upd H13 l (.lst (zs++[.ref tp])) pp=some (.lst xs):=by rw[ar (Ne.symm lpp)];exact acn
   have Zz:upd H13 l (.lst (zs++[.ref tp])) r=some (.tup [.ref l,.int w.2.1,.ref pp]):=by rw[ar (qF Uy WV (by intro z;cases z))];exact Uy
   refine hN _ _ ?_;clear hN N;generalize upd H13 l (.lst (zs++[.ref tp]))=H14 at D14 Zy Zz;refine ko fun N hN=>?_;tm_up;refine .inr (.inl ⟨r,_,2,_,rfl,rfl,cz.of Zz,rfl,?_⟩);refine⟨.inl ⟨rfl,_,a6.of Zy⟩,?_⟩;tm_up;refine⟨big (by show 0<=1000;omega),fun e0 he0=>?_⟩;have s15:=ay.upd (o:=.lst []) he0;have ZA:=s15 _ _ Zz;have WW:=s15 _ _ Zy;have D15:=D14.same s15;generalize upd H14 e0 (.lst [])=H15 at s15 ZA WW D15;refine⟨pp,xs,_,rfl,rfl,WW,eX (by omega),?_⟩;have D16:=D15.app (o:=.lst (xs++[.ref e0])) WW np2 npf nal.2;have aco:upd H15 pp (.lst (xs++[.ref e0])) r=some (.tup [.ref l,.int w.2.1,.ref pp]):=by rw[ar (qF ZA WW (by intro z;cases z))];exact ZA
   refine hN _ _ ?_;clear hN N;generalize upd H15 pp (.lst (xs++[.ref e0]))=H16 at D16 aco;refine ko fun N hN=>?_
   suffices hN':∀(r3:Addr)(H':Hp),Uv K t.oi ⟨140,34,140,52⟩ c b qs H16 H' r3->N [some (.ref a),some (.int b),some (.ref z),some (.int (sz:Int)),some (.ref l2),some (.int p),some (.ref f),some (.ref r),some (.ref y),some (.ref r2),some (.ref r3)] H' by
    tm_up;refine Mq ?_;exact EA D16 cb hM gd ED hq ZY D16.hz hp fun r3 H' w=>hN' r3 H' w
   rintro r3 H17 ⟨s17,afo,u,l3,pp3,zs3,YU,hu,Ol,_,_,_,acp,afp,g17,_⟩;refine hN _ _ ?_;clear hN N;have hrB:=s17.at D16.lm.ex aco (fun _ z=>nomatch z);have D17:=D16.wr s17 afo;have e17:u.2.1=w.2.1:=Int.le_antisymm (Ol w hw) (hbest u hu);obtain⟨u1,u2,u3,u4⟩:=wq hM hWq hTq hu;refine⟨fun x _=>x=.bl true,?_,?_⟩
   ·tm_up;refine .inr (.inl ⟨r3,_,1,_,rfl,rfl,cz.of acp,rfl,?_⟩);tm_up;refine .inr (.inl ⟨r,_,1,_,rfl,rfl,cz.of hrB,rfl,?_⟩);tm_up;rw[e17,show decide (V.int w.2.1=V.int w.2.1)=true from decide_eq_true rfl];refine mY ?_;tm_up;refine .inr (.inl ⟨r3,_,0,_,rfl,rfl,cz.of acp,rfl,?_⟩);tm_up;refine⟨l3,b,zs3,_,rfl,hM,afp,g17,wln hu,fun f2 y2 H18 s18 n18 h18 p18=>?_⟩;rw[u2]at p18;tm_up;exact⟨Zv (a6.of h18) (a6.of (s18 _ _ D17.hf)) p18 (tR s18 D17.pf),rfl⟩
   ·rintro _ H18 rfl;exact q _
theorem acq {us:List Value}(h:us.length=0):us=[]:=match us,h with|[],_=>rfl
theorem X8 {us:List Value}(h:us.length=1):∃ a0,us=[a0]:=match us,h with|[a0],_=>⟨a0,rfl⟩
theorem mz {p:List Value->Prop}(h:∀ a0,p [a0])(us:List Value)(e:us.length=1):p us:=by obtain⟨_,rfl⟩:=X8 e;exact h _
theorem acr {us:List Value}(h:(us++[]).length=1):∃ a0,us=[a0]:=X8 (by rw[append_nil]at h;exact h)
theorem X9 {us:List Value}(h:us.length=2):∃ a0 a1,us=[a0,a1]:=match us,h with|[a0,a1],_=>⟨a0,a1,rfl⟩
theorem pJ {p:List Value->Prop}(h:∀ a0 a1,p [a0,a1])(us:List Value)(e:us.length=2):p us:=by obtain⟨_,_,rfl⟩:=X9 e;exact h _ _
theorem Yb {us:List Value}(h:us.length=3):∃ a0 a1 a2,us=[a0,a1,a2]:=match us,h with|[a0,a1,a2],_=>⟨a0,a1,a2,rfl⟩
theorem qR {p:List Value->Prop}(h:∀ a0 a1 a2,p [a0,a1,a2])(us:List Value)(e:us.length=3):p us:=by obtain⟨_,_,_,rfl⟩:=Yb e;exact h _ _ _
theorem acs {us:List Value}(h:(us++[]).length=3):∃ a0 a1 a2,us=[a0,a1,a2]:=Yb (by rw[append_nil]at h;exact h)
theorem acu {us:List Value}(h:us.length=4):∃ a0 a1 a2 a3,us=[a0,a1,a2,a3]:=match us,h with|[a0,a1,a2,a3],_=>⟨a0,a1,a2,a3,rfl⟩
theorem Uz {p:List Value->Prop}(h:∀ a0 a1 a2 a3,p [a0,a1,a2,a3])(us:List Value)(e:us.length=4):p us:=by obtain⟨_,_,_,_,rfl⟩:=acu e;exact h _ _ _ _
set_option maxHeartbeats 0 in
theorem all_mk {l:OpenLaw}{w:World}{K:Frag}{h:Heap}{mg:Str->Option Value}{fa iK gq j4 iL ni j5 gr iM gu eC nk iN aW j6 bM eE cR fu eF cS rT nt cq cT a7 nu dg gQ cU eI fA rV iO ny fB iP fD fE kb iQ D7 dh cw cx bW eJ bF cH bP mB mC mD mE mF mG mH mI mJ mK cI pK pL pM pN cy b9 cf cg eM dX dY PW:Addr}(X:K.In h)(G:h.Ns mainGlobals mg)(hfa:mg "law"=some (.ref fa)){Om Oo Mr Mt RF RG Oq Ot UA UB RH RI Mu Mw Ou Ov Mx My F6 F7 UC UD Ow Ox mL mM RJ RK sh si F8 F9 zy zz Kf Kg Ga Gb zA zB WX WY UE UG xR xS zC zD oD oE UH UI EF EG zE zF zG Gd Ge Kh Ki WZ W0 Oy Oz Mz Kj Kk OA OB Kl Km Ko Kp RL RM OC OD ZC ZD EH xT xU uo Gf uq ur uu uv uw ux uy uz uA uB uC zH zI zJ zK xV sj sk sm Gg zL zM:Option Addr}{OE MA RO OF UJ RP MB OG MC Gh UK OH mN RQ sq Gi zN Kq Gj zO W2 UL xW zP oF UM EI zQ zR Gk Kr W3 OI MD Ks OJ Kt Ku RS OK ZE EJ xX xY uD Gm uE uF uG uH uI uJ uK uL uM uN uO zS zT zU zV xZ sr su sv Gn zW zX:Array (Option Value)}{OL OM ON OO EK OP ME MF MG MH yT MI RU RV RW RX HM RY OQ OR OS OT EL OU UN UO UP UQ MJ UR RZ R0 R1 R3 HN R4 MK ML MM MN yU MO OV OW OX OY EM OZ MP MQ MR MS yV MT Gp Gq Gr Gs qS Gu US UT UU UW MU UX O0 O1 O2 O3 EN O4 mO mP mQ mR gK mS R7 R8 R9 Sa HP Sb sA sE sG sH kq sI Gv Gw Gx Gy qT Gz zY zZ z6 z7 ou z8 Kv Kw Kx Ky uP Kz GA GB GC GD qU GF z9 Aa Ab Ac ow Ad W4 W5 W6 W7 QC W8 UY UZ U0 U1 MV U2 x3 x4 x5 x6 mT x8 Ae Af Ag Ah ox Ai oG oH oI oJ iA oK U3 U4 U5 U6 MW U7 EO ER ES ET pO EU Aj Ak Al Am An oy Ao GG GH GI GJ qV GK KA KC KG KH uQ KJ W9 Xa Xb Xc QD Xd O5 O6 O7 O8 sJ O9 MX KL KN KO KQ uR KR Pa Pb Pc Pd EV Pe KS KU KW KY uS KZ K0 K1 K2 K3 uT K4 Sd Se Sf Si HQ Sj Pf Pg Ph Pj EW Pk ZF ZG ZH ZI U8 ZJ:Value}{eV ji EX EY EZ x9 ya yb yc yd uU uV uW uX GL GN lh uY uZ u0 gk fh cC Ap Aq Ar As Au Av u5 u6 u7 u9 va vb vd ve vf vg vh vi vj vk vm vn vo vp vq vt vv vw vx vy vz vA vB vC vD vE Aw Ax Ay Az AA AB AD AE AF AG AH AI sM sN sO sP sQ sR AJ AK AL AM c8:Tok}{AN MY GO AO AQ ye K5 yf GP AR vF vG vH vI vJ vK vL vM vN vO GQ AS AU AV AW AX vP vQ vR K6 E1 E2:Nat}(yg:nsIn K mainGlobals "_law_begin"=some (some (.ref iK)))(yh:K.lookup iK=some ⟨OL,Om,.func (fnOf "_law_begin" "_law_begin" (ak jL) (aj jL) (ae jL) .none OM ON OO Oo EK OP),OE⟩)(yi:codeIn K EK "_law_begin"=true)(yj:keepIn K (.ref iK)=true)(sS:nsIn K mainGlobals "_law_prices"=some (some (.ref gq)))(sU:K.lookup gq=some ⟨ME,Mr,.func (fnOf "_law_prices" "_law_prices" (ak iH) (aj iH) (ae iH) .none MF MG MH Mt yT MI),MA⟩)(sV:codeIn K yT "_law_prices"=true)(sW:keepIn K (.ref gq)=true)(E3:nsIn K mainGlobals "_law_base"=some (some (.ref j4)))(E4:K.lookup j4=some ⟨RU,RF,.func (fnOf "_law_base" "_law_base" (ak lY) (aj lY) (ae lY) .none RV RW RX RG HM RY),RO⟩)(E5:codeIn K HM "_law_base"=true)(E6:keepIn K (.ref j4)=true)(yk:nsIn K mainGlobals "_law_three"=some (some (.ref iL)))(ym:K.lookup iL=some ⟨OQ,Oq,.func (fnOf "_law_three" "_law_three" (ak jM) (aj jM) (ae jM) .none OR OS OT Ot EL OU),OF⟩)(yn:codeIn K EL "_law_three"=true)(yo:keepIn K (.ref iL)=true)(K7:nsIn K mainGlobals "_law_run"=some (some (.ref ni)))(K8:K.lookup ni=some ⟨UN,UA,.func (fnOf "_law_run" "_law_run" (ak qw) (aj qw) (ae qw) .none UO UP UQ UB MJ UR),UJ⟩)(K9:codeIn K MJ "_law_run"=true)(La:keepIn K (.ref ni)=true)(E7:nsIn K mainGlobals "_law_read"=some (some (.ref j5)))(E8:K.lookup j5=some ⟨RZ,RH,.func (fnOf "_law_read" "_law_read" (ak lZ) (aj lZ) (ae lZ) .none R0 R1 R3 RI HN R4),RP⟩)(E9:codeIn K HN "_law_read"=true)(Fb:keepIn K (.ref j5)=true)(sX:nsIn K mainGlobals "_law_firmed"=some (some (.ref gr)))(sY:K.lookup gr=some ⟨MK,Mu,.func (fnOf "_law_firmed" "_law_firmed" (ak iI) (aj iI) (ae iI) .none ML MM MN Mw yU MO),MB⟩)(sZ:codeIn K yU "_law_firmed"=true)(tf:keepIn K (.ref gr)=true)(yp:nsIn K mainGlobals "_law_price"=some (some (.ref iM)))(yr:K.lookup iM=some ⟨OV,Ou,.func (fnOf "_law_price" "_law_price" (ak jN) (aj jN) (ae jN) .none OW OX OY Ov EM OZ),OG⟩)(yt:codeIn K EM "_law_price"=true)(yu:keepIn K (.ref iM)=true)(tj:nsIn K mainGlobals "_law_wishes"=some (some (.ref gu)))(tu:K.lookup gu=some ⟨MP,Mx,.func (fnOf "_law_wishes" "_law_wishes" (ak iJ) (aj iJ) (ae iJ) .none MQ MR MS My yV MT),MC⟩)(tw:codeIn K yV "_law_wishes"=true)(tD:keepIn K (.ref gu)=true)(nH:nsIn K mainGlobals "sign_price"=some (some (.ref eC)))(nI:K.lookup eC=some ⟨Gp,F6,.func (fnOf "sign_price" "sign_price" (ak fU) (aj fU) (ae fU) .none Gq Gr Gs F7 qS Gu),Gh⟩)(nJ:codeIn K qS "sign_price"=true)(nK:keepIn K (.ref eC)=true)(Lb:nsIn K mainGlobals "small"=some (some (.ref nk)))(Lc:K.lookup nk=some ⟨US,UC,.func (fnOf "small" "small" (ak qx) (aj qx) (ae qx) .none UT UU UW UD MU UX),UK⟩)(Ld:codeIn K MU "small"=true)(uj:keepIn K (.ref nk)=true)(yv:nsIn K mainGlobals "parting"=some (some (.ref iN)))(yw:K.lookup iN=some ⟨O0,Ow,.func (fnOf "parting" "parting" (ak jO) (aj jO) (ae jO) .none O1 O2 O3 Ox EN O4),OH⟩)(yx:codeIn K EN "parting"=true)(yy:keepIn K (.ref iN)=true)(eP:nsIn K mainGlobals "closes_by_right_note"=some (some (.ref aW)))(eQ:K.lookup aW=some ⟨mO,mL,.func (fnOf "closes_by_right_note" "closes_by_right_note" (ak a8) (aj a8) (ae a8) .none mP mQ mR mM gK mS),mN⟩)(eR:codeIn K gK "closes_by_right_note"=true)(eT:keepIn K (.ref aW)=true)(Fc:nsIn K mainGlobals "closes"=some (some (.ref j6)))(Fd:K.lookup j6=some ⟨R7,RJ,.func (fnOf "closes" "closes" (ak l5) (aj l5) (ae l5) .none R8 R9 Sa RK HP Sb),RQ⟩)(Fe:codeIn K HP "closes"=true)(Ff:keepIn K (.ref j6)=true)(gZ:nsIn K mainGlobals "closes_by_great"=some (some (.ref bM)))(g0:K.lookup bM=some ⟨sA,sh,.func (fnOf "closes_by_great" "closes_by_great" (ak b8) (aj b8) (ae b8) .none sE sG sH si kq sI),sq⟩)(hI:codeIn K kq "closes_by_great"=true)(hU:keepIn K (.ref bM)=true)(nL:nsIn K mainGlobals "great_step"=some (some (.ref eE)))(nM:K.lookup eE=some ⟨Gv,F8,.func (fnOf "great_step" "great_step" (ak fV) (aj fV) (ae fV) .none Gw Gx Gy F9 qT Gz),Gi⟩)(nN:codeIn K qT "great_step"=true)(nO:keepIn K (.ref eE)=true)(kr:nsIn K mainGlobals "twofold_step"=some (some (.ref cR)))(ku:K.lookup cR=some ⟨zY,zy,.func (fnOf "twofold_step" "twofold_step" (ak dR) (aj dR) (ae dR) .none zZ z6 z7 zz ou z8),zN⟩)(kx:codeIn K ou "twofold_step"=true)(ky:keepIn K (.ref cR)=true)(pP:nsIn K mainGlobals "told_last"=some (some (.ref fu)))(pQ:K.lookup fu=some ⟨Kv,Kf,.func (fnOf "told_last" "told_last" (ak gD) (aj gD) (ae gD) .none Kw Kx Ky Kg uP Kz),Kq⟩)(pR:codeIn K uP "told_last"=true)(pS:keepIn K (.ref fu)=true)(nQ:nsIn K mainGlobals "small_step"=some (some (.ref eF)))(nR:K.lookup eF=some ⟨GA,Ga,.func (fnOf "small_step" "small_step" (ak fW) (aj fW) (ae fW) .none GB GC GD Gb qU GF),Gj⟩)(nS:codeIn K qU "small_step"=true)(nU:keepIn K (.ref eF)=true)(kz:nsIn K mainGlobals "parting_step"=some (some (.ref cS)))(kA:K.lookup cS=some ⟨z9,zA,.func (fnOf "parting_step" "parting_step" (ak dS) (aj dS) (ae dS) .none Aa Ab Ac zB ow Ad),zO⟩)(kB:codeIn K ow "parting_step"=true)(kC:keepIn K (.ref cS)=true)(Pl:nsIn K mainGlobals "step"=some (some (.ref rT)))(Pm:K.lookup rT=some ⟨W4,WX,.func (fnOf "step" "step" (ak xu) (aj xu) (ae xu) .none W5 W6 W7 WY QC W8),W2⟩)(Pn:codeIn K QC "step"=true)(Po:keepIn K (.ref rT)=true)(Le:nsIn K mainGlobals "moves"=some (some (.ref nt)))(Lf:K.lookup nt=some ⟨UY,UE,.func (fnOf "moves" "moves" (ak qy) (aj qy) (ae qy) .none UZ U0 U1 UG MV U2),UL⟩)(Lg:codeIn K MV "moves"=true)(Lh:keepIn K (.ref nt)=true)(ju:nsIn K mainGlobals "parting_moves"=some (some (.ref cq)))(jv:K.lookup cq=some ⟨x3,xR,.func (fnOf "parting_moves" "parting_moves" (ak cZ) (aj cZ) (ae cZ) .none x4 x5 x6 xS mT x8),xW⟩)(jw:codeIn K mT "parting_moves"=true)(jx:keepIn K (.ref cq)=true)(kD:nsIn K mainGlobals "keep_cheaper"=some (some (.ref cT)))(kE:K.lookup cT=some ⟨Ae,zC,.func (fnOf "keep_cheaper" "keep_cheaper" (ak dU) (aj dU) (ae dU) .none Af Ag Ah zD ox Ai),zP⟩)(kF:codeIn K ox "keep_cheaper"=true)(kH:keepIn K (.ref cT)=true)(fJ:nsIn K mainGlobals "with_parting_signs"=some (some (.ref a7)))(fK:K.lookup a7=some ⟨oG,oD,.func (fnOf "with_parting_signs" "with_parting_signs" (ak bE) (aj bE) (ae bE) .none oH oI oJ oE iA oK),oF⟩)(fL:codeIn K iA "with_parting_signs"=true)(fM:keepIn K (.ref a7)=true)(Li:nsIn K mainGlobals "costs"=some (some (.ref nu)))(Lj:K.lookup nu=some ⟨U3,UH,.func (fnOf "costs" "costs" (ak qz) (aj qz) (ae qz) .none U4 U5 U6 UI MW U7),UM⟩)(Lk:codeIn K MW "costs"=true)(Ll:keepIn K (.ref nu)=true)(lG:nsIn K mainGlobals "begin_state"=some (some (.ref dg)))(lH:K.lookup dg=some ⟨EO,EF,.func (fnOf "begin_state" "begin_state" (ak eY) (aj eY) (ae eY) (.ref gQ) ER ES ET EG pO EU),EI⟩)(lI:codeIn K pO "begin_state"=true)(lJ:keepIn K (.ref dg)=true)(hV:K.lookup gQ=some ⟨Aj,zE,.seq #[.int 3 eV] AN,zQ⟩)(kI:nsIn K mainGlobals "wished_signs"=some (some (.ref cU)))(kJ:K.lookup cU=some ⟨Ak,zF,.func (fnOf "wished_signs" "wished_signs" (ak dW) (aj dW) (ae dW) .none Al Am An zG oy Ao),zR⟩)(kK:codeIn K oy "wished_signs"=true)(kL:keepIn K (.ref cU)=true)(nV:nsIn K mainGlobals "wish_moves"=some (some (.ref eI)))(nW:K.lookup eI=some ⟨GG,Gd,.func (fnOf "wish_moves" "wish_moves" (ak fX) (aj fX) (ae fX) .none GH GI GJ Ge qV GK),Gk⟩)(nX:codeIn K qV "wish_moves"=true)(nY:keepIn K (.ref eI)=true)(pT:nsIn K mainGlobals "with_wish"=some (some (.ref fA)))(pU:K.lookup fA=some ⟨KA,Kh,.func (fnOf "with_wish" "with_wish" (ak gE) (aj gE) (ae gE) .none KC KG KH Ki uQ KJ),Kr⟩)(pV:codeIn K uQ "with_wish"=true)(pW:keepIn K (.ref fA)=true)(Pp:nsIn K mainGlobals "ends"=some (some (.ref rV)))(Pq:K.lookup rV=some ⟨W9,WZ,.func (fnOf "ends" "ends" (ak xw) (aj xw) (ae xw) .none Xa Xb Xc W0 QD Xd),W3⟩)(Pr:codeIn K QD "ends"=true)(Pt:keepIn K (.ref rV)=true)(yz:nsIn K mainGlobals "written"=some (some (.ref iO)))(l_written:K.lookup iO=some ⟨O5,Oy,.func (fnOf "written" "written" (ak jP) (aj jP) (ae jP) (.ref ny) O6 O7 O8 Oz sJ O9),OI⟩)(yA:codeIn K sJ "written"=true)(yB:keepIn K (.ref iO)=true)(nZ:K.lookup ny=some ⟨MX,Mz,.seq #[.int 3 ji] MY,MD⟩)(pX:nsIn K mainGlobals "_law_cell_at"=some (some (.ref fB)))(pY:K.lookup fB=some ⟨KL,Kj,.func (fnOf "_law_cell_at" "_law_cell_at" (ak gF) (aj gF) (ae gF) .none KN KO KQ Kk uR KR),Ks⟩)(pZ:codeIn K uR "_law_cell_at"=true)(p0:keepIn K (.ref fB)=true)(yC:nsIn K mainGlobals "_law_mixed"=some (some (.ref iP)))(yD:K.lookup iP=some ⟨Pa,OA,.func (fnOf "_law_mixed" "_law_mixed" (ak jQ) (aj jQ) (ae jQ) .none Pb Pc Pd OB EV Pe),OJ⟩)(yE:codeIn K EV "_law_mixed"=true)(yF:keepIn K (.ref iP)=true)(qa:nsIn K mainGlobals "_law_sign_by"=some (some (.ref fD)))(qb:K.lookup fD=some ⟨KS,Kl,.func (fnOf "_law_sign_by" "_law_sign_by" (ak gG) (aj gG) (ae gG) .none KU KW KY Km uS KZ),Kt⟩)(qc:codeIn K uS "_law_sign_by"=true)(qd:keepIn K (.ref fD)=true)(qe:nsIn K mainGlobals "_law_numbers"=some (some (.ref fE)))(qf:K.lookup fE=some ⟨K0,Ko,.func (fnOf "_law_numbers" "_law_numbers" (ak gH) (aj gH) (ae gH) .none K1 K2 K3 Kp uT K4),Ku⟩)(qg:codeIn K uT "_law_numbers"=true)(qh:keepIn K (.ref fE)=true)(Fg:nsIn K mainGlobals "_law_line"=some (some (.ref kb)))(Fh:K.lookup kb=some ⟨Sd,RL,.func (fnOf "_law_line" "_law_line" (ak l6) (aj l6) (ae l6) .none Se Sf Si RM HQ Sj),RS⟩)(Fi:codeIn K HQ "_law_line"=true)(Fj:keepIn K (.ref kb)=true)(yG:nsIn K mainGlobals "_law_whole"=some (some (.ref iQ)))(yH:K.lookup iQ=some ⟨Pf,OC,.func (fnOf "_law_whole" "_law_whole" (ak jR) (aj jR) (ae jR) .none Pg Ph Pj OD EW Pk),OK⟩)(yI:codeIn K EW "_law_whole"=true)(yJ:keepIn K (.ref iQ)=true)(QE:nsIn K mainGlobals "law"=some (some (.ref D7)))(U9:K.lookup D7=some ⟨ZF,ZC,.func (fnOf "law" "law" (ak HG) (aj HG) (ae HG) .none ZG ZH ZI ZD U8 ZJ),ZE⟩)(Va:codeIn K U8 "law"=true)(Vb:keepIn K (.ref D7)=true)(Pu:nsIn K mainGlobals "bool"=some none)(Pw:nsIn K mainGlobals "dict"=some none)(Vc:nsIn K mainGlobals "int"=some none)(oa:nsIn K mainGlobals "isinstance"=some none)(Vd:nsIn K mainGlobals "len"=some none)(Px:nsIn K mainGlobals "list"=some none)(Ve:nsIn K mainGlobals "max"=some none)(Vf:nsIn K mainGlobals "min"=some none)(Lm:nsIn K mainGlobals "range"=some none)(Ln:nsIn K mainGlobals "tuple"=some none)(Vg:nsIn K mainGlobals "zip"=some none)(kM:nsIn K mainGlobals "SMALL_KINDS"=some (some (.ref dh)))(kN:K.lookup dh=some ⟨.type "tuple",EH,.seq #[.str (Str.ofString "s") EX,.str (Str.ofString "d") EY,.str (Str.ofString "r") EZ] GO,EJ⟩)(iV:nsIn K mainGlobals "PARTING_KINDS"=some (some (.ref cw)))(iW:K.lookup cw=some ⟨.type "tuple",xT,.seq #[.str (Str.ofString ".") x9,.str (Str.ofString "3") ya,.str (Str.ofString "2") yb] AO,xX⟩)(iX:nsIn K mainGlobals "MEASURE_KINDS"=some (some (.ref cx)))(iY:K.lookup cx=some ⟨.type "tuple",xU,.seq #[.str (Str.ofString "3") yc,.str (Str.ofString "2") yd] AQ,xY⟩)(hX:nsIn K mainGlobals "SOUNDING_KINDS"=some (some (.ref bW)))(hZ:K.lookup bW=some ⟨.type "tuple",uo,.seq #[.str (Str.ofString "G") uU,.str (Str.ofString "D") uV,.str (Str.ofString "s") uW,.str (Str.ofString "d") uX] ye,uD⟩)(lK:nsIn K mainGlobals "DARK_KINDS"=some (some (.ref eJ)))(lL:K.lookup eJ=some ⟨.type "tuple",Gf,.seq #[.str (Str.ofString "D") GL,.str (Str.ofString "d") GN] K5,Gm⟩)(oe:nsIn K mainGlobals "REST_TONE"=some (some (.int (-1) lh)))(ia:nsIn K mainGlobals "TWOFOLD_STATES"=some (some (.ref bF)))(ib:K.lookup bF=some ⟨.type "tuple",uq,.seq #[.str (Str.ofString "2-") uY,.str (Str.ofString "2g") uZ,.str (Str.ofString "2G") u0] yf,uE⟩)(iZ:nsIn K mainGlobals "TWOFOLD_BEGIN"=some (some (.str (Str.ofString "2-") gk)))(gv:nsIn K mainGlobals "THREEFOLD_BEGIN"=some (some (.str (Str.ofString "3n0-") fh)))(d3:nsIn K mainGlobals "SHORTENED_FROM_AHEAD"=some (some (.str (Str.ofString "3t0-") cC)))(kO:nsIn K mainGlobals "NEXT_COUNTS"=some (some (.ref cH)))(kP:K.lookup cH=some ⟨.type "dict",none,.dict #[⟨PyData.keyHash w.params (Str.ofString "0"),.str (Str.ofString "0") As,.str (Str.ofString "1") Ap⟩,⟨PyData.keyHash w.params (Str.ofString "1"),.str (Str.ofString "1") Au,.str (Str.ofString "2") Aq⟩,⟨PyData.keyHash w.params (Str.ofString "2"),.str (Str.ofString "2") Av,.str (Str.ofString "0") Ar⟩] GP,#[]⟩)(kQ:(cH==sysModules)=false)(i0:nsIn K mainGlobals "TWOFOLD_STEPS"=some (some (.ref bP)))(i3:K.lookup bP=some ⟨.type "dict",none,.dict #[⟨Hd.th w.params (Str.ofString "s") 1,.ref mB,.str (Str.ofString "2-") u5⟩,⟨Hd.th w.params (Str.ofString "d") 1,.ref mC,.str (Str.ofString "2-") u6⟩,⟨Hd.th w.params (Str.ofString "r") 1,.ref mD,.str (Str.ofString "2-") u7⟩,⟨Hd.th w.params (Str.ofString "D") 2,.ref mE,.str (Str.ofString "2-") u9⟩,⟨Hd.th w.params (Str.ofString "R") 2,.ref mF,.str (Str.ofString "2-") va⟩,⟨Hd.th w.params (Str.ofString "G") 2,.ref mG,.str (Str.ofString "2g") vb⟩,⟨Hd.th w.params (Str.ofString "G") 3,.ref mH,.str (Str.ofString "2G") vd⟩,⟨Hd.th w.params (Str.ofString ".") 0,.ref mI,.str (Str.ofString "2-") ve⟩,⟨Hd.th w.params (Str.ofString "2") 0,.ref mJ,.str (Str.ofString "2-") vf⟩,⟨Hd.th w.params (Str.ofString "3") 0,.ref mK,.str (Str.ofString "3n0-") vg⟩] AR,#[]⟩)(ic:K.lookup mB=some ⟨.type "tuple",ur,.seq #[.str (Str.ofString "s") vh,.int 1 vi] vF,uF⟩)(ie:K.lookup mC=some ⟨.type "tuple",uu,.seq #[.str (Str.ofString "d") vj,.int 1 vk] vG,uG⟩)(ig:K.lookup mD=some ⟨.type "tuple",uv,.seq #[.str (Str.ofString "r") vm,.int 1 vn] vH,uH⟩)(ij:K.lookup mE=some ⟨.type "tuple",uw,.seq #[.str (Str.ofString "D") vo,.int 2 vp] vI,uI⟩)(ik:K.lookup mF=some ⟨.type "tuple",ux,.seq #[.str (Str.ofString "R") vq,.int 2 vt] vJ,uJ⟩)(ip:K.lookup mG=some ⟨.type "tuple",uy,.seq #[.str (Str.ofString "G") vv,.int 2 vw] vK,uK⟩)(iq:K.lookup mH=some ⟨.type "tuple",uz,.seq #[.str (Str.ofString "G") vx,.int 3 vy] vL,uL⟩)(ir:K.lookup mI=some ⟨.type "tuple",uA,.seq #[.str (Str.ofString ".") vz,.int 0 vA] vM,uM⟩)(iu:K.lookup mJ=some ⟨.type "tuple",uB,.seq #[.str (Str.ofString "2") vB,.int 0 vC] vN,uN⟩)(iw:K.lookup mK=some ⟨.type "tuple",uC,.seq #[.str (Str.ofString "3") vD,.int 0 vE] vO,uO⟩)(i4:(bP==sysModules)=false)(kR:nsIn K mainGlobals "GREAT_STEPS"=some (some (.ref cI)))(kS:K.lookup cI=some ⟨.type "dict",none,.dict #[⟨Hd.th w.params (Str.ofString "G") 3,.ref pK,.str (Str.ofString "3w0-") Aw⟩,⟨Hd.th w.params (Str.ofString "G") 2,.ref pL,.str (Str.ofString "3h0-") Ax⟩,⟨Hd.th w.params (Str.ofString "D") 2,.ref pM,.str (Str.ofString "3n0-") Ay⟩,⟨Hd.th w.params (Str.ofString "R") 3,.ref pN,.str (Str.ofString "3n0-") Az⟩] GQ,#[]⟩)(jy:K.lookup pK=some ⟨.type "tuple",zH,.seq #[.str (Str.ofString "G") AA,.int 3 AB] AS,zS⟩)(jz:K.lookup pL=some ⟨.type "tuple",zI,.seq #[.str (Str.ofString "G") AD,.int 2 AE] AU,zT⟩)(jA:K.lookup pM=some ⟨.type "tuple",zJ,.seq #[.str (Str.ofString "D") AF,.int 2 AG] AV,zU⟩)(jB:K.lookup pN=some ⟨.type "tuple",zK,.seq #[.str (Str.ofString "R") AH,.int 3 AI] AW,zV⟩)(kT:(cI==sysModules)=false)(i5:nsIn K mainGlobals "PARTING_SIGNS"=some (some (.ref cy)))(i6:K.lookup cy=some ⟨.type "tuple",xV,.seq #[.ref b9,.ref cf,.ref cg] AX,xZ⟩)(gw:K.lookup b9=some ⟨.type "tuple",sj,.seq #[.str (Str.ofString ".") sM,.int 0 sN] vP,sr⟩)(gx:K.lookup cf=some ⟨.type "tuple",sk,.seq #[.str (Str.ofString "3") sO,.int 0 sP] vQ,su⟩)(gy:K.lookup cg=some ⟨.type "tuple",sm,.seq #[.str (Str.ofString "2") sQ,.int 0 sR] vR,sv⟩)(lM:nsIn K mainGlobals "REST_SIGNS"=some (some (.ref eM)))(lN:K.lookup eM=some ⟨.type "tuple",Gg,.seq #[.ref dX,.ref dY] K6,Gn⟩)(jC:K.lookup dX=some ⟨.type "tuple",zL,.seq #[.str (Str.ofString "R") AJ,.int 0 AK] E1,zW⟩)(jD:K.lookup dY=some ⟨.type "tuple",zM,.seq #[.str (Str.ofString "r") AL,.int 0 AM] E2,zX⟩)(fc:nsIn K mainGlobals "MOST_PARTING_SIGNS"=some (some (.int 2 c8)))(Xe:LK K mg sJ PW) :
  ∃ fd:FuncData,(∀(s:Shared)(v:Value),BindsTo s fd ⟨[v],[]⟩ [("_law_script",v)])/\(∃ cv,LK K mg cv PW)/\∀ base:Heap,K.In base->base.Ns mainGlobals mg->cA l.prog w K mg base jG 8 fa fd ["_law_script"] (tW K PW):=by
 have e:=hfa.symm.trans (mg_of X G QE);cases e;have md:=aY (st:=jL) yh yi yj;have xF:=md.binds (ps:=["_law_cell"]) fun _ _ _ _ _ _=>mz fun _=>rfl;have iR:=aY (st:=iH) sU sV sW;have nA:=iR.binds (ps:=["_law_cell"]) fun _ _ _ _ _ _=>mz fun _=>rfl;have ph:=aY (st:=lY) E4 E5 E6;have Eb:=ph.binds (ps:=["_law_line_here","_law_begin_here"]) fun _ _ _ _ _ _=>pJ fun _ _=>rfl;have me:=aY (st:=jM) ym yn yo;have xG:=me.binds (ps:=["_law_line_here","_law_begin_here"]) fun _ _ _ _ _ _=>pJ fun _ _=>rfl;have uc:=aY (st:=qw) K8 K9 La;have JO:=uc.binds (ps:=["_law_line_here","_law_told","_law_low","_law_high"]) fun _ _ _ _ _ _=>Uz fun _ _ _ _=>rfl;have mf:=aY (st:=lZ) E8 E9 Fb;have ud:=mf.binds (ps:=["_law_line_here","_law_begin_here"]) fun _ _ _ _ _ _=>pJ fun _ _=>rfl;have kc:=aY (st:=iI) sY sZ tf;have rW:=kc.binds (ps:=["_law_line_here","_law_begin_here"]) fun _ _ _ _ _ _=>pJ fun _ _=>rfl;have fY:=aY (st:=jN) yr yt yu;have iS:=fY.binds (ps:=["_law_line_here","_law_prices_here"]) fun _ _ _ _ _ _=>pJ fun _ _=>rfl;have iT:=aY (st:=iJ) tu tw tD;have nB:=iT.binds (ps:=["_law_line_here","_law_begin_here"]) fun _ _ _ _ _ _=>pJ fun _ _=>rfl;have gR:=aY (st:=fU) nI nJ nK;have nC:=gR.binds (ps:=["sign","prices"]) fun _ _ _ _ _ _=>pJ fun _ _=>rfl;have ue:=aY (st:=qx) Lc Ld uj;have JP:=ue.binds (ps:=["sign"]) fun _ _ _ _ _ _=>mz fun _=>rfl;have mh:=aY (st:=jO) yw yx yy;have xH:=mh.binds (ps:=["sign"]) fun _ _ _ _ _ _=>mz fun _=>rfl;have bN:=aY (st:=a8) eQ eR eT;have eN:=bN.binds (ps:=["state"]) fun _ _ _ _ _ _=>mz fun _=>rfl;have ke:=aY (st:=l5) Fd Fe Ff;have pj:=ke.binds (ps:=["state"]) fun _ _ _ _ _ _=>mz fun _=>rfl;have c9:=aY (st:=b8) g0 hI hU;have gS:=c9.binds (ps:=["state"]) fun _ _ _ _ _ _=>mz fun _=>rfl;have gT:=aY (st:=fV) nM nN nO;have nD:=gT.binds (ps:=["state","kind","worth"]) fun _ _ _ _ _ _=>qR fun _ _ _=>rfl;have fF:=aY (st:=dR) ku kx ky;have kg:=fF.binds (ps:=["state","kind","worth"]) fun _ _ _ _ _ _=>qR fun _ _ _=>rfl;have jj:=aY (st:=gD) pQ pR pS;have pk:=jj.binds (ps:=["kind","count","worth"]) fun _ _ _ _ _ _=>qR fun _ _ _=>rfl;have gU:=aY (st:=fW) nR nS nU;have nE:=gU.binds (ps:=["state","kind","worth"]) fun _ _ _ _ _ _=>qR fun _ _ _=>rfl;have fH:=aY (st:=dS) kA kB kC;have kh:=fH.binds (ps:=["state","kind","worth"]) fun _ _ _ _ _ _=>qR fun _ _ _=>rfl;have Ec:=aY (st:=xu) Pm Pn Po;have NY:=Ec.binds (ps:=["state","sign","worth"]) fun _ _ _ _ _ _=>qR fun _ _ _=>rfl;have qA:=aY (st:=qy) Lf Lg Lh;have BQ:=qA.binds (ps:=["state","signs","worth","prices"]) fun _ _ _ _ _ _=>Uz fun _ _ _ _=>rfl;have eW:=aY (st:=cZ) jv jw jx;have js:=eW.binds (ps:=["state","prices"]) fun _ _ _ _ _ _=>pJ fun _ _=>rfl;have dZ:=aY (st:=dU) kE kF kH;have gW:=dZ.binds (ps:=["ways","state","cost","line"]) fun _ _ _ _ _ _=>Uz fun _ _ _ _=>rfl;have bH:=aY (st:=bE) fK fL fM;have dc:=bH.binds (ps:=["ways","prices"]) fun _ _ _ _ _ _=>pJ fun _ _=>rfl;have qB:=aY (st:=qz) Lj Lk Ll;have BR:=qB.binds (ps:=["ways"]) fun _ _ _ _ _ _=>mz fun _=>rfl;have eZ:=PZ (st:=eY) lH lI lJ;have lE:Binds K _ ["begin"] []:=eZ.binds (ds:=[]) hV rfl fun _ _ _ _ _ _ us hl=>by obtain⟨_,rfl⟩:=acr hl;exact⟨_,rfl,rfl⟩
 have pA:Binds K _ ["begin"] [.int 3 eV]:=eZ.binds hV rfl fun _ _ _ _ _ _ us hl=>by have hl:us.length=0:=(by simpa using hl);obtain rfl:=acq hl;exact⟨_,rfl,rfl⟩
 have fI:=aY (st:=dW) kJ kK kL;have ki:=fI.binds (ps:=["tone"]) fun _ _ _ _ _ _=>mz fun _=>rfl;have gX:=aY (st:=fX) nW nX nY;have nF:=gX.binds (ps:=["state","wish","prices"]) fun _ _ _ _ _ _=>qR fun _ _ _=>rfl;have jk:=aY (st:=gE) pU pV pW;have pB:=jk.binds (ps:=["ways","wish","prices"]) fun _ _ _ _ _ _=>qR fun _ _ _=>rfl;have Ee:=aY (st:=xw) Pq Pr Pt;have NZ:=Ee.binds (ps:=["state"]) fun _ _ _ _ _ _=>mz fun _=>rfl;have e8:=PZ (st:=jP) l_written yA yB;have jT:Binds K _ ["wishes","prices","begin"] []:=e8.binds (ds:=[]) nZ rfl fun _ _ _ _ _ _ us hl=>by obtain⟨_,_,_,rfl⟩:=acs hl;exact⟨_,rfl,rfl⟩
 have rY:Binds K _ ["wishes","prices","begin"] [.int 3 ji]:=e8.binds nZ rfl fun _ _ _ _ _ _ us hl=>by have hl:us.length=2:=(by simpa using hl);obtain⟨_,_,rfl⟩:=X9 hl;exact⟨_,rfl,rfl⟩
 have bI:=aY (st:=gF) pY pZ p0;have bZ:=bI.binds (ps:=["_law_script","_law_k"]) fun _ _ _ _ _ _=>pJ fun _ _=>rfl;have iU:=aY (st:=jQ) yD yE yF;have mj:=iU.binds (ps:=["_law_seed","_law_k"]) fun _ _ _ _ _ _=>pJ fun _ _=>rfl;have jm:=aY (st:=gG) qb qc qd;have pC:=jm.binds (ps:=["_law_number"]) fun _ _ _ _ _ _=>mz fun _=>rfl;have jn:=aY (st:=gH) qf qg qh;have pD:=jn.binds (ps:=["_law_script","_law_at","_law_many"]) fun _ _ _ _ _ _=>qR fun _ _ _=>rfl;have pE:=aY (st:=l6) Fh Fi Fj;have Ef:=pE.binds (ps:=["_law_script","_law_at","_law_many"]) fun _ _ _ _ _ _=>qR fun _ _ _=>rfl;have jU:=aY (st:=jR) yH yI yJ;have qC:=jU.binds (ps:=["_law_found"]) fun _ _ _ _ _ _=>mz fun _=>rfl;have Qv:=aY (st:=HG) U9 Va Vb;have X3:=Qv.binds (ps:=["_law_script"]) fun _ _ _ _ _ _=>mz fun _=>rfl;have T:Txt K w mg ⟨_,_,_,_,_,_,_,_,_,_,_,_,_,_,_,_,_,_,_,_,_,_,_,_,_,_,_,_,_,_,_,_,_,_,_,_,_,_,_,_,_,_,_,_,_,_,_,_,_,_,_,_,_,_,_,eV,_,_,_,_,_,_,_,_,_,_,_,ji,_,_,_,_,_,_,_,_,_,_,_,_,_,_,dh,cw,cx,bW,eJ,lh,bF,gk,fh,cC,cH,bP,cI,cy,b9,cf,cg,eM,dX,dY,c8,PW⟩:=⟨md,xF,mg_of X G yg,iR,nA,mg_of X G sS,ph,Eb,mg_of X G E3,me,xG,mg_of X G yk,uc,JO,mg_of X G K7,mf,ud,mg_of X G E7,kc,rW,mg_of X G sX,fY,iS,mg_of X G yp,iT,nB,mg_of X G tj,gR,nC,mg_of X G nH,ue,JP,mg_of X G Lb,mh,xH,mg_of X G yv,bN,eN,mg_of X G eP,ke,pj,mg_of X G Fc,c9,gS,mg_of X G gZ,gT,nD,mg_of X G nL,fF,kg,mg_of X G kr,jj,pk,mg_of X G pP,gU,nE,mg_of X G nQ,fH,kh,mg_of X G kz,Ec,NY,mg_of X G Pl,qA,BQ,mg_of X G Le,eW,js,mg_of X G ju,dZ,gW,mg_of X G kD,bH,dc,mg_of X G fJ,qB,BR,mg_of X G Li,eZ,pA,lE,mg_of X G lG,fI,ki,mg_of X G kI,gX,nF,mg_of X G nV,jk,pB,mg_of X G pT,Ee,NZ,mg_of X G Pp,e8,rY,jT,mg_of X G yz,bI,bZ,mg_of X G pX,iU,mj,mg_of X G yC,jm,pC,mg_of X G qa,jn,pD,mg_of X G qe,pE,Ef,mg_of X G Fg,jU,qC,mg_of X G yG,Qv,X3,mg_of X G QE,mg_none_of X G Pu,mg_none_of X G Pw,mg_none_of X G Vc,mg_none_of X G oa,mg_none_of X G Vd,mg_none_of X G Px,mg_none_of X G Ve,mg_none_of X G Vf,mg_none_of X G Lm,mg_none_of X G Ln,mg_none_of X G Vg,mg_of X G kM,(fun H=>.inr ⟨_,_,_,kN,rfl,rfl,(by show 3<=sizeLine;decide),(.cons ⟨_,rfl⟩ (.cons ⟨_,rfl⟩ (.cons ⟨_,rfl⟩ .nil)))⟩),mg_of X G iV,(fun H=>.inr ⟨_,_,_,iW,rfl,rfl,(by show 3<=sizeLine;decide),(.cons ⟨_,rfl⟩ (.cons ⟨_,rfl⟩ (.cons ⟨_,rfl⟩ .nil)))⟩),mg_of X G iX,(fun H=>.inr ⟨_,_,_,iY,rfl,rfl,(by show 2<=sizeLine;decide),(.cons ⟨_,rfl⟩ (.cons ⟨_,rfl⟩ .nil))⟩),mg_of X G hX,(fun H=>.inr ⟨_,_,_,hZ,rfl,rfl,(by show 4<=sizeLine;decide),(.cons ⟨_,rfl⟩ (.cons ⟨_,rfl⟩ (.cons ⟨_,rfl⟩ (.cons ⟨_,rfl⟩ .nil))))⟩),mg_of X G lK,(fun H=>.inr ⟨_,_,_,lL,rfl,rfl,(by show 2<=sizeLine;decide),(.cons ⟨_,rfl⟩ (.cons ⟨_,rfl⟩ .nil))⟩),mg_of X G oe,mg_of X G ia,(fun H=>.inr ⟨_,_,_,ib,rfl,rfl,(by show 3<=sizeLine;decide),(.cons ⟨_,rfl⟩ (.cons ⟨_,rfl⟩ (.cons ⟨_,rfl⟩ .nil)))⟩),mg_of X G iZ,mg_of X G gv,mg_of X G d3,mg_of X G kO,⟨kQ,_,_,kP,(.cons ⟨_,rfl⟩ (.cons ⟨_,rfl⟩ (.cons ⟨_,rfl⟩ .nil))),by lk⟩,mg_of X G i0,⟨i4,_,_,i3,(.cons ic ⟨_,rfl⟩ (.cons ie ⟨_,rfl⟩ (.cons ig ⟨_,rfl⟩ (.cons ij ⟨_,rfl⟩ (.cons ik ⟨_,rfl⟩ (.cons ip ⟨_,rfl⟩ (.cons iq ⟨_,rfl⟩ (.cons ir ⟨_,rfl⟩ (.cons iu ⟨_,rfl⟩ (.cons iw ⟨_,rfl⟩ .nil)))))))))),by lk⟩,mg_of X G kR,⟨kT,_,_,kS,(.cons jy ⟨_,rfl⟩ (.cons jz ⟨_,rfl⟩ (.cons jA ⟨_,rfl⟩ (.cons jB ⟨_,rfl⟩ .nil)))),by lk⟩,mg_of X G i5,(fun H=>.inr ⟨_,_,_,i6,rfl,rfl,(by show 3<=sizeLine;decide),(.cons rfl (.cons rfl (.cons rfl .nil)))⟩),(fun H=>.inr ⟨_,_,_,gw,rfl,rfl,(by show 2<=sizeLine;decide),(.cons ⟨_,rfl⟩ (.cons ⟨_,rfl⟩ .nil))⟩),(fun H=>.inr ⟨_,_,_,gx,rfl,rfl,(by show 2<=sizeLine;decide),(.cons ⟨_,rfl⟩ (.cons ⟨_,rfl⟩ .nil))⟩),(fun H=>.inr ⟨_,_,_,gy,rfl,rfl,(by show 2<=sizeLine;decide),(.cons ⟨_,rfl⟩ (.cons ⟨_,rfl⟩ .nil))⟩),mg_of X G lM,(fun H=>.inr ⟨_,_,_,lN,rfl,rfl,(by show 2<=sizeLine;decide),(.cons rfl (.cons rfl .nil))⟩),(fun H=>.inr ⟨_,_,_,jC,rfl,rfl,(by show 2<=sizeLine;decide),(.cons ⟨_,rfl⟩ (.cons ⟨_,rfl⟩ .nil))⟩),(fun H=>.inr ⟨_,_,_,jD,rfl,rfl,(by show 2<=sizeLine;decide),(.cons ⟨_,rfl⟩ (.cons ⟨_,rfl⟩ .nil))⟩),mg_of X G fc,Xe⟩;exact⟨_,fun s v=>.of_eq rfl,⟨_,Xe⟩,fun base _ _=>Zw T⟩
theorem walk {l:OpenLaw}{q:Program}{loose:List Str}{XP:(Str->Option Value)->Heap->Prop}{YP:World->Heap->Prop}{d:DefRec}{K K':Params->Frag}{T:Addr}(hn:l.most=some 63)(hdf:d.params.defaults=[])
  (hY:∀(w:World)(h:Heap),YP w h->(K' w.params).In h) (hKK:∀(p:Params) a o,(K p).lookup a=some o->(K' p).lookup a=some o) (hT:∀ p:Params,(K' p).lookup T=some (tabObj #[])) (hKT:∀ p:Params,(K p).lookup T=none)
  (F:∀(w:World)(mg:Str->Option Value)(fa:Addr)(h:Heap),(K w.params).In h->h.Ns mainGlobals mg->mg d.name=some (.ref fa) ->
   ∃ fd:FuncData,(∀(s:Shared)(u:Value),BindsTo s fd ⟨[u],[]⟩ [("_law_script",u)])/\(∃ cv,LK (K w.params) mg cv T)/\∀ base:Heap,(K w.params).In base->base.Ns mainGlobals mg->cA l.prog w (K w.params) mg base jG 8 fa fd ["_law_script"] (tW (K w.params) T)) :
  WalkO q loose XP YP l.row.toRowW d [] (fun f vs=>PySem.call f vs) :=
 L2.Tq (n:=63) (k:=8) (x:="_law_script") (CX:=fun _=>jG) (sp:=fun w=>tW (K w.params) T) hn (by decide) hdf ⟨rfl,by decide,by decide⟩ hY hKK hT hKT F (fun _ H a ns hl hO hS=>NJ hl hO hS) fun _ _ _ _ _ z=>z
end jY
open PySem PySem.W PyProof.Rows
set_option maxRecDepth 100000 in
set_option maxHeartbeats 0 in
theorem PySem.Challenge.cw_noteworth_k26_whole_none_cheaper_holds : PySem.Challenge.rw_noteworth_k26_whole_none_cheaper.Holds := by
 w_on;o_law
 refine holds_open (q:=Hd.view) (loose:=Hd.loose) (Xt:=fun s=>xlAt Hd.view [] s&&recOk _ s) (XP:=XL Hd.view []) (Yf:=Hd.hook.obs) (Ya:=Hd.hook.val) (YP:=Hd.hook.says) (N:=Hd.fuel) ?hl Hd.hook.of Hd.hook.keeps (fun s e=>xl_of s (Bool.and_eq_true_iff.mp e).1) XL.keeps (by rfl) (by rfl) (by rfl) (fun s e=>recFacts_of (Bool.and_eq_true_iff.mp e).2) (by rfl) (by assumption) (by lk) ⟨rfl,rfl,rfl,rfl,rfl,by lk⟩ ?hw ?hc
 case hl=>exact LeftO.of_pieces (boot_open (by kernel_rfl) (by decide) (fun _=>by kernel_rfl)) (fun w=>by kernel_rfl) Hd.r1 (by decide) (fun w=>by kernel_rfl)
 case hw=>w_witness2
 refine jY.walk (l:=PySem.Challenge.rw_noteworth_k26_whole_none_cheaper) (K:=Hd.Zg) (K':=Hd.T7) (T:=Hd.Wx) rfl rfl (fun w h Y=>PySem.W.kIn_of Y) Hd.abN (fun _=>rfl) Hd.X2 ?F
 case F =>
  intro w mg fa h KX G hmg
  k_fill
  refine' jY.all_mk KX G hmg ?yg ?yh ?yi ?yj ?sS ?sU ?sV ?sW ?E3 ?E4 ?E5 ?E6 ?yk ?ym ?yn ?yo ?K7 ?K8 ?K9 ?La ?E7 ?E8 ?E9 ?Fb ?sX ?sY ?sZ ?tf ?yp ?yr ?yt ?yu ?tj ?tu ?tw ?tD ?nH ?nI ?nJ ?nK ?Lb ?Lc ?Ld ?uj ?yv ?yw ?yx ?yy ?eP ?eQ ?eR ?eT ?Fc ?Fd ?Fe ?Ff ?gZ ?g0 ?hI ?hU ?nL ?nM ?nN ?nO ?kr ?ku ?kx ?ky ?pP ?pQ ?pR ?pS ?nQ ?nR ?nS ?nU ?kz ?kA ?kB ?kC ?Pl ?Pm ?Pn ?Po ?Le ?Lf ?Lg ?Lh ?ju ?jv ?jw ?jx ?kD ?kE ?kF ?kH ?fJ ?fK ?fL ?fM ?Li ?Lj ?Lk ?Ll ?lG ?lH ?lI ?lJ ?hV ?kI ?kJ ?kK ?kL ?nV ?nW ?nX ?nY ?pT ?pU ?pV ?pW ?Pp ?Pq ?Pr ?Pt ?yz ?l_written ?yA ?yB ?nZ ?pX ?pY ?pZ ?p0 ?yC ?yD ?yE ?yF ?qa ?qb ?qc ?qd ?qe ?qf ?qg ?qh ?Fg ?Fh ?Fi ?Fj ?yG ?yH ?yI ?yJ ?QE ?U9 ?Va ?Vb ?Pu ?Pw ?Vc ?oa ?Vd ?Px ?Ve ?Vf ?Lm ?Ln ?Vg ?kM ?kN ?iV ?iW ?iX ?iY ?hX ?hZ ?lK ?lL ?oe ?ia ?ib ?iZ ?gv ?d3 ?kO ?kP ?kQ ?i0 ?i3 ?ic ?ie ?ig ?ij ?ik ?ip ?iq ?ir ?iu ?iw ?i4 ?kR ?kS ?jy ?jz ?jA ?jB ?kT ?i5 ?i6 ?gw ?gx ?gy ?lM ?lN ?jC ?jD ?fc ?Xe
  (case yg|yh|yi|yj|sS|sU|sV|sW|E3|E4|E5|E6|yk|ym|yn|yo|K7|K8|K9|La|E7|E8|E9|Fb|sX|sY|sZ|tf|yp|yr|yt|yu|tj|tu|tw|tD|nH|nI|nJ|nK|Lb|Lc|Ld|uj|yv|yw|yx|yy|eP|eQ|eR|eT|Fc|Fd|Fe|Ff|gZ|g0|hI|hU|nL|nM|nN|nO|kr|ku|kx|ky|pP|pQ|pR|pS|nQ|nR|nS|nU|kz|kA|kB|kC|Pl|Pm|Pn|Po|Le|Lf|Lg|Lh|ju|jv|jw|jx|kD|kE|kF|kH|fJ|fK|fL|fM|Li|Lj|Lk|Ll|lG|lH|lI|lJ|hV|kI|kJ|kK|kL|nV|nW|nX|nY|pT|pU|pV|pW|Pp|Pq|Pr|Pt|yz|l_written|yA|yB|nZ|pX|pY|pZ|p0|yC|yD|yE|yF|qa|qb|qc|qd|qe|qf|qg|qh|Fg|Fh|Fi|Fj|yG|yH|yI|yJ|QE|U9|Va|Vb|Pu|Pw|Vc|oa|Vd|Px|Ve|Vf|Lm|Ln|Vg|kM|kN|iV|iW|iX|iY|hX|hZ|lK|lL|oe|ia|ib|iZ|gv|d3|kO|kP=>k_is)
  (case kQ=>rfl)
  (case i0|i3|ic|ie|ig|ij|ik|ip|iq|ir|iu|iw=>k_is)
  (case i4=>rfl)
  (case kR|kS|jy|jz|jA|jB=>k_is)
  (case kT=>rfl)
  (case i5|i6|gw|gx|gy|lM|lN|jC|jD|fc=>k_is)
  (case Xe=>exact Hd.aeK KX G)
