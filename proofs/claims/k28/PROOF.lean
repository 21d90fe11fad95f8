import PyProof.Rows.All
import Wide.All
import OpenK.AllK
import Wide.FinOn
import Lean
import PyProof.EqAt
import PyProof.EqKinds
import PyProof.TupleCall
import PySem.Challenge.RW_noteworth_k28_papers_told
set_option Elab.async false
set_option linter.all false
set_option maxRecDepth 100000
open PySem.W (CodeHd Frag OpenLaw WalkO codeIn excIn findIn fnOf instObj isFn keepIn kia_one kitOne kitx_dict kitx_list kla_fn kla_obj lookIn methodObj mg_none_of mg_of mroIn nsIn plainGet specialIn tabObj)
open List (length_map length_append length_take length_drop mem_append mem_singleton mem_cons_self mem_cons_of_mem mem_append_left mem_append_right mem_of_getElem? size_toArray take_length getElem?_map map_append map_cons length_cons take_succ getElem?_eq_getElem getElem?_append_right mem_map all_eq_true length_range mem_range append_nil nil_append)
open PySem.F (entry_dict_get plainAttrs_dict plainAttrs_list slot_dict_get type_dict_get)
local macro_rules | `(tactic| lk) => `(tactic| decide +kernel)
local macro_rules | `(tactic| z_go) => `(tactic| first | (exact fun _ _ _ _ _ _ us hl => match us, hl with | [_], _ => rfl) | (exact fun _ _ _ _ _ _ us hl => match us, hl with | [_, _], _ => rfl) | (exact fun _ _ _ _ _ _ us hl => match us, hl with | [_, _, _], _ => rfl) | (exact fun _ _ _ _ _ _ us hl => match us, hl with | [_, _, _, _], _ => rfl) | (exact fun _ _ _ _ _ _ us hl => match us, hl with | [_, _, _, _, _], _ => rfl) | (exact fun _ _ _ _ _ _ us hl => match us, hl with | [_, _, _, _, _, _], _ => rfl))
def C' := @Nat.le_refl
def F' := @List.getElem?_eq_some_iff
def G' := @List.getElem?_eq_getElem
def J' := @PySem.Heap.get?_push_of_some
def L' := @if_neg
def M' := @of_decide_eq_true
def O' := @List.length_map
def P' := @Bool.eq_false_iff
def R' := @if_pos
def S' := @PySem.wpAny_bind
def T' := @PySem.Heap.lt_size
def U' := @Nat.lt_of_lt_of_le
def V' := @Nat.zero_le
def W' := @decide_eq_true
def X' := @List.getD_eq_getElem?_getD
def Y' := @Bool.false_ne_true
def Z' := @List.mem_of_getElem?
def i' := @decide_eq_false
def j' := @PySem.wpAny_pure
def Za' := @Option.some.inj
def Zb' := @List.mem_cons_of_mem
namespace L2
open PySem PySem.Spec PyProof.Rows
abbrev Key:=Sum Int Str
def EO:Key->Value->Bool
 |.inl k,v=>Value.isInt k v
 |.inr x,v=>Value.isStrOf x v
def am4 (w:World):Key->Int
 |.inl k=>hashInt k
 |.inr x=>hashStr w x
theorem de:∀{k:Key} {v:Value},EO k v=true->(∃ i t,k=Sum.inl i/\v=Value.int i t)\/(∃ x t,k=Sum.inr x/\v=Value.str x t)
 |.inl i,v,h=>by
  obtain⟨t,e⟩:=Value.isInt_shape (k:=i) (v:=v) h;exact .inl ⟨i,t,rfl,e⟩
 |.inr x,v,h=>by
  obtain⟨t,e⟩:=Value.isStrOf_shape (x:=x) (v:=v) h;exact .inr ⟨x,t,rfl,e⟩
theorem Zj (i:Int)(t:Tok):EO (.inl i) (.int i t)=true:=by simp[EO,Value.isInt]
theorem Zk (x:Str)(t:Tok):EO (.inr x) (.str x t)=true:=by simp[EO,Value.isStrOf]
theorem ail (a b:Int):decide ((Sum.inl a:Key)=Sum.inl b)=(a==b):=by
 by_cases e:a=b
 ·subst e;simp
 ·have h:¬(Sum.inl a:Key)=Sum.inl b:=fun q=>e (Sum.inl.inj q);rw[i' h];exact(beq_eq_false_iff_ne.mpr e).symm
theorem aim (a b:Str):decide ((Sum.inr a:Key)=Sum.inr b)=decide (a=b):=by
 by_cases e:a=b
 ·subst e;simp
 ·have h:¬(Sum.inr a:Key)=Sum.inr b:=fun q=>e (Sum.inr.inj q);rw[i' h,i' e]
theorem ain (a:Int)(b:Str):decide ((Sum.inl a:Key)=Sum.inr b)=false:=i' (fun q=>nomatch q)
theorem aio (a:Str)(b:Int):decide ((Sum.inr a:Key)=Sum.inl b)=false:=i' (fun q=>nomatch q)
def aW (prog:Program)(w:World):PySem.KeyKind prog w Key where
 is:=EO
 hash:=am4 w
 inj:=fun v a b ha hb=>by
  rcases de ha with ⟨i,t,rfl,rfl⟩|⟨x,t,rfl,rfl⟩
  ·rcases de hb with ⟨j,u,rfl,e⟩|⟨y,u,rfl,e⟩
   ·injection e with e1 _;rw[e1]
   ·exact nomatch e
  ·rcases de hb with ⟨j,u,rfl,e⟩|⟨y,u,rfl,e⟩
   ·exact nomatch e
   ·injection e with e1 _;rw[e1]
 byValue:=fun k v h=>by
  rcases de h with ⟨i,t,rfl,rfl⟩|⟨x,t,rfl,rfl⟩ <;> rfl
 pyHash:=fun hv h=>by
  rcases de hv with ⟨i,t,rfl,rfl⟩|⟨x,t,rfl,rfl⟩
  ·exact wpAny_pyHash_int h
  ·exact wpAny_pyHash_str h
 eqBool:=fun hu hv h=>by
  rcases de hu with ⟨i,t,rfl,rfl⟩|⟨x,t,rfl,rfl⟩
  ·rcases de hv with ⟨j,u,rfl,rfl⟩|⟨y,u,rfl,rfl⟩
   ·rw[ail]at h;exact wpAny_eqBool_int h
   ·rw[ain]at h;exact SeqAt.EqAt.int_str i t y u _ _ _ _ h
  ·rcases de hv with ⟨j,u,rfl,rfl⟩|⟨y,u,rfl,rfl⟩
   ·rw[aio]at h;exact SeqAt.EqAt.str_int x t j u _ _ _ _ h
   ·rw[aim]at h;exact wpAny_eqBool_str h
 «strs»:=fun k x t v h=>by
  rcases de h with ⟨i,u,rfl,e⟩|⟨y,u,rfl,e⟩
  ·exact nomatch e
  ·injection e with e1 _
   subst e1;cases v <;> rfl
theorem BV (prog:Program)(w:World)(i:Int)(t:Tok):(aW prog w).is (.inl i) (.int i t)=true:=Zj i t
theorem kB (prog:Program)(w:World)(x:Str)(t:Tok):(aW prog w).is (.inr x) (.str x t)=true:=Zk x t
end L2
namespace L2
open PySem PySem.Spec PyProof.Rows
inductive V where
 |non|bl (b:Bool)|int (i:Int)|str (x:Str)|byt (b:Array UInt8)|flt (b:UInt64)|ref (a:Addr)|ty (n:String)
 deriving DecidableEq
def RelV:V->Value->Prop
 |.non,u=>u=Value.none
 |.bl b,u=>u=Value.bool b
 |.int i,u=>∃ t,u=Value.int i t
 |.str x,u=>∃ t,u=Value.str x t
 |.byt b,u=>∃ t,u=Value.bytes b t
 |.flt b,u=>∃ t,u=Value.float b t
 |.ref a,u=>u=Value.ref a
 |.ty n,u=>u=Value.type n
abbrev Vals:List V->List Value->Prop:=Paired RelV
theorem Vals.length {xs:List V}{us:List Value}(r:Vals xs us):xs.length=us.length:=Paired.length r
theorem Vals.get:∀{xs:List V} {us:List Value} {i:Nat} {x:V},Vals xs us->xs[i]? = some x->∃ u,us[i]? = some u/\RelV x u
 |_,_,_,_,.nil,e=>by simp at e
 |_,_,0,_,.cons r _,e=>by simp at e;subst e;exact⟨_,rfl,r⟩
 |_,_,i+1,x,.cons _ t,e=>by
  obtain⟨u,h1,h2⟩:=Vals.get (i:=i) (x:=x) t (by simpa using e);exact⟨u,by simpa using h1,h2⟩
theorem Vals.set {x:V}{u:Value}(r:RelV x u):∀{xs:List V} {us:List Value} (i:Nat),Vals xs us->Vals (xs.set i x) (us.set i u)
 |_,_,_,.nil=>.nil
 |_,_,0,.cons _ t=>.cons r t
 |_,_,i+1,.cons q t=>.cons q (Vals.set r i t)
theorem Vals.append:∀{xs ys:List V} {us ws:List Value},Vals xs us->Vals ys ws->Vals (xs++ys) (us++ws)
 |_,_,_,_,.nil,s=>s
 |_,_,_,_,.cons r t,s=>.cons r (Vals.append t s)
theorem Vals.take:∀{xs:List V} {us:List Value} (n:Nat),Vals xs us->Vals (xs.take n) (us.take n)
 |_,_,0,_=>.nil
 |_,_,_+1,.nil=>.nil
 |_,_,n+1,.cons r t=>.cons r (Vals.take n t)
theorem Vals.drop:∀{xs:List V} {us:List Value} (n:Nat),Vals xs us->Vals (xs.drop n) (us.drop n)
 |_,_,0,r=>r
 |_,_,_+1,.nil=>.nil
 |_,_,n+1,.cons _ t=>Vals.drop n t
def oG:Option V->Option Value->Prop
 |some v,some u=>RelV v u
 |none,none=>True
 |_,_=>False
def KV {κ:Type}:List (κ×V)->List (κ×Value)->Prop:=Paired fun(p:κ×V)(q:κ×Value)=>p.1=q.1/\RelV p.2 q.2
def kV:Key->V
 |.inl i=>.int i
 |.inr x=>.str x
inductive HO where
 /-- a list -/
 |lst (xs:List V)
 /-- a tuple (never changes) -/
 |tup (xs:List V)
 /-- a dict whose keys are ints and texts;one whose keys are tuples of ints and texts (the empty one is both) -/
 |dK (kvs:List (Key×V))|dT (kvs:List (List Key×V))
 /-- a set of ints: its members,its size -/
 |set (S:Int->Bool) (n:Nat)
 /-- an instance of the class at C,its dict at dx,its attributes -/
 |ins (C dx:Addr) (fs:List (Str×V))
 /-- the dict of the instance at x -/
 |own (x:Addr)
 /-- the dict of an exception -/
 |xd (fs:List (Str×V))
 /-- a bound method,f of x -/
 |met (f x:Addr)
 /-- a range object lo,lo+1,.. below hi -/
 |rng (lo hi:Int)
 /-- a thing that is known to the object (the script;a dict while a loop walks it): read,never written while it is so -/
 |fe (o:Obj) (u:HO)
 /-- a code object's table -/
 |EA (ps:Array Value)
 /-- any other thing,by what is true of its one object (a def of one's own: aqq a S n:=HO.ext fun h=>..) -/
 |ext (φ:Heap->Prop)
abbrev Hp:=Addr->Option HO
def upd (H:Hp)(a:Addr)(o:HO):Hp:=fun b=>if b=a then some o else H b
theorem af {H:Hp}{a:Addr}{o:HO}:upd H a o a=some o:=by unfold upd;rw[R' rfl]
theorem ax {H:Hp}{a b:Addr}{o:HO}(h:b≠a):upd H a o b=H b:=by unfold upd;rw[L' h]
theorem iX {H:Hp}{a:Addr}{o u:HO}:upd (upd H a o) a u=upd H a u:=by
 funext b;unfold upd;split <;> rfl
theorem X4 {H:Hp}{a b:Addr}{o u:HO}(h:H a=some o)(h':H b=some u)(d:o≠u):a≠b:=by
 intro e;subst e;rw[h]at h';exact d (Za' h')
theorem aN {H:Hp}{a b:Addr}{o:HO}(h:H a=some o)(h':H b=none):a≠b:=by
 intro e;subst e;rw[h]at h';cases h'
section
variable (P:Program) (w:World)
def cH (H:Hp)(h:Heap)(a:Addr):HO->Prop
 |.lst xs=>xs.length<=sizeLine/\∃(its:List Value)(n:Nat),Vals xs its/\h.get? a=some { cls:=.type "list",data:=.seq its.toArray n }
 |.tup xs=>xs.length<=sizeLine/\∃ its:List Value,Vals xs its/\IsTup h a its.toArray
 |.dK kvs=>kvs.length<=sizeLine/\(a==sysModules)=false/\∃ vs,KV kvs vs/\h.DictOf (aW P w) a vs
 |.dT kvs=>kvs.length<=sizeLine/\(a==sysModules)=false/\∃ xs:List (List Key×Addr×Value),
   Paired (fun(p:List Key×V)(q:List Key×Addr×Value)=>p.1=q.1/\H q.2.1=some (.tup (p.1.map kV))/\RelV p.2 q.2.2) kvs xs /\
   ∃ o es ep,h.get? a=some o/\o.ExactDict/\o.data=.dict es ep/\es.toList=xs.map (entryOfKey (tupleKind (aW P w)))/\(xs.map (·.1)).Nodup
 |.set S n=>h.SetOf (intKind P w) a S n
 |.ins C dx fs=>H dx=some (.own a)/\fs.length<=1000/\dx≠a/\h.get? a=some (instObj C dx) /\
   ∃ mA,h.Ns1 dx mA/\(∀ f,oG (fs.lookup f) (mA f))/\PySem.Within mA (fs.map (·.1))
 |.own _=>∃ o,h.get? a=some o
 |.xd fs=>∃ mA,h.Ns1 a mA/\∀ f,oG (fs.lookup f) (mA f)
 |.rng lo hi=>∃ t u v,h.get? a=some { cls:=.type "range",data:=.fields #[.int lo t,.int hi u,.int 1 v] }
 |.fe o u=>h.get? a=some o/\cH H h a u
 |.EA ps=>h.get? a=some { cls:=.none,data:=.fields ps }
 |.met f x=>h.get? a=some (methodObj (.ref f) (.ref x))
 |.ext φ=>φ h/\(∃ o,h.get? a=some o)/\∀ h1 h2:Heap,φ h1->(∀ o,h1.get? a=some o->h2.get? a=some o)->φ h2
def vb (H:Hp)(h:Heap):Prop:=∀ a o,H a=some o->cH P w H h a o
end
section
variable {P:Program} {w:World} {H H':Hp} {h h':Heap} {a:Addr} {o:HO}
theorem cH.lt (x:cH P w H h a o):a<h.objs.size:=by
 cases o with
 |lst xs=>obtain⟨_,_,_,_,e⟩:=x;exact T' e
 |tup xs=>obtain⟨_,_,_,p⟩:=x;exact p.lt
 |dK kvs=>obtain⟨_,_,_,_,o,_,_,e,_⟩:=x;exact T' e
 |dT kvs=>obtain⟨_,_,_,_,o,_,_,e,_⟩:=x;exact T' e
 |set S n=>obtain⟨o,_,_,_,e,_⟩:=x;exact T' e
 |ins C dx fs=>obtain⟨_,_,_,e,_⟩:=x;exact T' e
 |own y=>obtain⟨_,e⟩:=x;exact T' e
 |xd fs=>obtain⟨_,⟨_,_,_,e,_⟩,_⟩:=x;exact T' e
 |rng lo hi=>obtain⟨_,_,_,e⟩:=x;exact T' e
 |fe ob u=>obtain⟨e,_⟩:=x;exact T' e
 |EA ps=>exact T' (show h.get? a=some _ from x)
 |met f y=>exact T' (show h.get? a=some _ from x)
 |ext φ=>obtain⟨_,⟨_,e⟩,_⟩:=x;exact T' e
theorem Paired.aip {α β:Type}{F G:α->β->Prop}:∀{l₁:List α} {l₂:List β},Paired F l₁ l₂->(∀ a b,F a b->G a b)->Paired G l₁ l₂
 |_,_,.nil,_=>.nil
 |_,_,.cons r t,f=>.cons (f _ _ r) (Paired.aip t f)
theorem cH.stay (x:cH P w H h a o)(k:∀ b u,(b=a\/H b=some (.own a))->h.get? b=some u->h'.get? b=some u)
  (ho:∀ b,H b=some (.own a)->H' b=some (.own a)) (ht:∀ b xs,H b=some (.tup xs)->H' b=some (.tup xs)):cH P w H' h' a o:=by
 induction o with
 |lst xs=>obtain⟨z,its,n,r,e⟩:=x;exact⟨z,its,n,r,k _ _ (.inl rfl) e⟩
 |tup xs=>obtain⟨z,its,r,ob,e,c⟩:=x;exact⟨z,its,r,ob,k _ _ (.inl rfl) e,c⟩
 |dK kvs=>obtain⟨z,y,vs,r,ob,es,ep,e,c⟩:=x;exact⟨z,y,vs,r,ob,es,ep,k _ _ (.inl rfl) e,c⟩
 |dT kvs =>
  obtain⟨z,y,xs,r,ob,es,ep,e,c⟩:=x;exact⟨z,y,xs,Paired.aip r fun p q z=>⟨z.1,ht _ _ z.2.1,z.2.2⟩,ob,es,ep,k _ _ (.inl rfl) e,c⟩
 |set S n=>obtain⟨ob,es,ep,t,e,c⟩:=x;exact⟨ob,es,ep,t,k _ _ (.inl rfl) e,c⟩
 |ins C dx fs =>
  obtain⟨d,z,ne,e,mA,⟨od,es,ep,e2,c⟩,r⟩:=x;exact⟨ho _ d,z,ne,k _ _ (.inl rfl) e,mA,⟨od,es,ep,k _ _ (.inr d) e2,c⟩,r⟩
 |own y=>obtain⟨ob,e⟩:=x;exact⟨ob,k _ _ (.inl rfl) e⟩
 |xd fs=>obtain⟨mA,⟨od,es,ep,e,c⟩,r⟩:=x;exact⟨mA,⟨od,es,ep,k _ _ (.inl rfl) e,c⟩,r⟩
 |rng lo hi=>obtain⟨t,u,v,e⟩:=x;exact⟨t,u,v,k _ _ (.inl rfl) e⟩
 |fe ob u ih=>obtain⟨e,q⟩:=x;exact⟨k _ _ (.inl rfl) e,ih q⟩
 |EA ps =>
  have e:h.get? a=some { cls:=.none,data:=.fields ps }:=x;show h'.get? a=some { cls:=.none,data:=.fields ps };exact k a _ (.inl rfl) e
 |met f y =>
  have e:h.get? a=some (methodObj (.ref f) (.ref y)):=x;show h'.get? a=some (methodObj (.ref f) (.ref y));exact k a _ (.inl rfl) e
 |ext φ=>obtain⟨p,⟨o,e⟩,st⟩:=x;exact⟨st _ _ p fun o q=>k _ _ (.inl rfl) q,⟨o,k _ _ (.inl rfl) e⟩,st⟩
theorem vb.lt (x:vb P w H h)(e:H a=some o):a<h.objs.size:=(x a o e).lt
theorem vb.fresh (x:vb P w H h)(e:h.objs.size<=a):H a=none:=by
 cases q:H a with
 |none=>rfl
 |some u=>exact absurd (U' (x.lt q) e) (Nat.lt_irrefl _)
theorem vb.kept (x:vb P w H h)(k:∀ b u,h.get? b=some u->h'.get? b=some u):vb P w H h':=fun a o e =>
 (x a o e).stay (fun b u _ q=>k b u q) (fun _ q=>q) fun _ _ q=>q
theorem vb.laid (x:vb P w H h)(k:∀ b u,h.get? b=some u->h'.get? b=some u)(hp:h.objs.size<=a)(new:cH P w (upd H a o) h' a o):vb P w (upd H a o) h':=fun b u e=>by
 have hn:=x.fresh hp
 by_cases hb:b=a
 ·subst hb;rw[af]at e;cases e;exact new
 ·rw[ax hb]at e;exact(x b u e).stay (fun c v _ q=>k c v q) (fun c q=>by rw[ax (aN q hn)];exact q) fun c xs q=>by rw[ax (aN q hn)];exact q
end
def Rd (H:Hp)(a:Addr)(u:HO):Prop:=H a=some u\/∃ o,H a=some (.fe o u)
theorem Rd.ok {P:Program}{w:World}{H:Hp}{h:Heap}{a:Addr}{u:HO}(r:Rd H a u)(x:vb P w H h):cH P w H h a u:=by
 rcases r with r|⟨o,r⟩
 ·exact x a u r
 ·obtain⟨_,q⟩:=x a _ r;exact q
def Mut:Option HO->Prop
 |some (.lst _)=>True
 |some (.dK _)=>True
 |some (.dT _)=>True
 |some (.set _ _)=>True
 |some (.ins _ _ _)=>True
 |some (.ext _)=>True
 |_=>False
section
variable {P:Program} {w:World} {H:Hp} {h h':Heap} {x e:Addr} {o':HO}
theorem vb.write (ok:vb P w H h)(mu:Mut (H x))(he:e=x\/H e=some (.own x))(k:∀ b u,b≠e->h.get? b=some u->h'.get? b=some u)(heo:∃ u,h'.get? e=some u)
  (new:cH P w (upd H x o') h' x o'):vb P w (upd H x o') h':=fun b u q=>by
 have aka:∀ c y,H c=some (.own y)->c≠x:=fun c y r z=>by subst z;rw[r]at mu;exact mu
 have am6:∀ c xs,H c=some (.tup xs)->c≠x:=fun c xs r z=>by subst z;rw[r]at mu;exact mu
 by_cases hb:b=x
 ·subst hb;rw[af]at q;cases q;exact new
 ·rw[ax hb]at q
  by_cases hbe:b=e
  ·have q':H b=some (.own x):=by
    rcases he with z|z
    ·exact absurd (hbe.trans z) hb
    ·rw[hbe];exact z
   rw[q]at q';cases q';obtain⟨v,hv⟩:=heo;exact⟨v,by rw[hbe];exact hv⟩
  ·refine(ok b u q).stay (fun c v hc r=>k c v ?_ r) (fun c r=>by rw[ax (aka c b r)];exact r) fun c xs r=>by rw[ax (am6 c xs r)];exact r
   rcases hc with rfl|hc
   ·exact hbe
   ·rintro rfl;rcases he with z|z
    ·exact aka c b hc z
    ·rw[hc]at z;cases z;exact hb rfl
end
structure Un (fs ex:List Addr)(H H':Hp)(h h':Heap):Prop where
 keep:∀ b o,h.get? b=some o->H b=none->b ∉ fs->b ∉ ex->h'.get? b=some o
 slot:∀ b o,h.get? b=some o->H b=none->b∈fs->b ∉ ex->∃ sl,h'.get? b=some { o with slots:=sl }
 free:∀ b o,h.get? b=some o->H b=none->b ∉ ex->H' b=none
 there:∀ b o,h.get? b=some o->b ∉ ex->∃ o',h'.get? b=some o'
 tups:∀ b xs,H b=some (.tup xs)->H' b=some (.tup xs)
 Cc:∀ b o u,H b=some (.fe o u)->H' b=some (.fe o u)
 ER:∀ b ps,H b=some (.EA ps)->∃ more,H' b=some (.EA (ps++more))
section
variable {fs fs' ex ex':List Addr} {H H1 H2:Hp} {h h1 h2 h':Heap} {a x e:Addr} {o:HO}
theorem Un.any (u:Un fs ex H H1 h h1){b:Addr}{ob:Obj}(q:h.get? b=some ob)(n:H b=none)(hx:b ∉ ex):∃ sl,h1.get? b=some { ob with slots:=sl }:=by
 by_cases hb:b∈fs
 ·exact u.slot b ob q n hb hx
 ·exact⟨ob.slots,u.keep b ob q n hb hx⟩
theorem Un.kept (k:∀ b u,h.get? b=some u->h'.get? b=some u):Un fs ex H H h h' :=
 ⟨fun b ob q _ _ _=>k b ob q,fun b ob q _ _ _=>⟨ob.slots,k b ob q⟩,fun _ _ _ n _=>n,fun b ob q _=>⟨ob,k b ob q⟩,fun _ _ q=>q,fun _ _ _ q=>q,fun _ ps q=>⟨#[],by rw[q];simp⟩⟩
theorem Un.refl:Un fs ex H H h h:=Un.kept fun _ _ q=>q
theorem Un.laid (k:∀ b u,h.get? b=some u->h'.get? b=some u)(hp:h.objs.size<=a)(hn:H a=none):Un fs ex H (upd H a o) h h' where
 keep:=fun b u q _ _ _=>k b u q
 slot:=fun b u q _ _ _=>⟨u.slots,k b u q⟩
 free:=fun b u q n _=>by rw[ax (Nat.ne_of_lt (U' (T' q) hp))];exact n
 there:=fun b u q _=>⟨u,k b u q⟩
 tups:=fun b xs q=>by rw[ax (aN q hn)];exact q
 Cc:=fun b u xs q=>by rw[ax (aN q hn)];exact q
 ER:=fun b ps q=>⟨#[],by rw[ax (aN q hn),q];simp⟩
theorem Un.write (mu:Mut (H x))(he:e=x\/H e=some (.own x))(k:∀ b u,b≠e->h.get? b=some u->h'.get? b=some u)(heo:∃ u,h'.get? e=some u):Un fs ex H (upd H x o) h h':=by
 have hx:∀ b,H b=none->b≠x:=fun b n z=>by subst z;rw[n]at mu;exact mu
 have hb:∀ b,H b=none->b≠e:=fun b n z=>by
  subst z;rcases he with r|r
  ·exact hx b n r
  ·rw[n]at r;cases r
 have hm:∀ b u,H b=some u->¬ Mut (some u)->b≠x:=fun b u q nm z=>by subst z;rw[q]at mu;exact nm mu
 refine⟨fun b u q n _ _=>k b u (hb b n) q,fun b u q n _ _=>⟨u.slots,k b u (hb b n) q⟩,fun b u q n _=>by rw[ax (hx b n)];exact n,fun b u q _=>?_,
  fun b xs q=>by rw[ax (hm b _ q fun z=>z)];exact q,fun b u xs q=>by rw[ax (hm b _ q fun z=>z)];exact q,fun b ps q=>⟨#[],by rw[ax (hm b _ q fun z=>z),q];simp⟩⟩
 by_cases hbe:b=e
 ·subst hbe;exact heo
 ·exact⟨u,k b u hbe q⟩
end
def trk (h:Heap)(H:Hp):List Addr:=(List.range h.objs.size).filter fun a=>(H a).isSome
def Kc (h:Heap)(H:Hp):Heap:=PySem.W.hideAll h (trk h H)
theorem Zl (h:Heap)(H:Hp):(Kc h H).objs.size=h.objs.size:=PySem.W.hideAll_size _ _
theorem abV {h:Heap}{H:Hp}{b:Addr}{o:Obj}(e:h.get? b=some o)(n:H b=none):(Kc h H).get? b=some o :=
 PySem.W.hideAll_get _ e fun hm=>by
  have q:(H b).isSome=true:=(List.mem_filter.mp hm).2;rw[n]at q;simp at q
theorem afD {h:Heap}{H:Hp}{b:Addr}{o:Obj}(e:(Kc h H).get? b=some o):h.get? b=some o/\H b=none:=by
 have e':h.get? b=some o:=PySem.W.of_hideAll (trk h H) e;refine⟨e',?_⟩;cases q:H b with
 |none=>rfl
 |some x =>
  have hm:b∈trk h H:=List.mem_filter.mpr ⟨mem_range.mpr (T' e'),by simp[q]⟩;have z:(Kc h H).get? b=none:=PySem.W.hideAll_none (trk h H) hm;rw[z]at e;cases e
def afE (g h:Heap)(L:Addr):List (Addr×Obj):=(List.range h.objs.size).filterMap fun a=>if a=L\/(g.get? a).isSome=true then none else(h.get? a).map fun o=>(a,o)
def rest (g h:Heap)(L d:Addr):List (Addr×Obj):=(afE g h L).filter fun p=>decide (p.1≠d)
end L2
namespace L2
open PySem PySem.Spec PyProof.Rows
structure Mod (K:Frag)(mg:Str->Option Value)(base:Heap):Prop where
 kin:K.In base
 glob:base.Ns mainGlobals mg
 blt:∃ mb,base.Ns builtinsNs mb/\∀ x:Str,x ≠ "__name__"->mb x=bootBuiltins x
 nolimit:base.NoLimit
structure Cx where
 prog:Program
 w:World
 K:Frag
 mg:Str->Option Value
 base:Heap
 A:Around
 N:List Str
 s₀:Shared
 H₀:Hp
 env:Env
 outer:List Env
 stack:List Env
 ex:List Addr
 fn:Str->Bool
 calm:Bool
 pn:List (Addr×Obj)
 xe:Value->Shared->Prop
def frs (l:List Env):List Addr:=l.filterMap (·.frame)
abbrev Cx.fs (X:Cx):List Addr:=frs X.outer
def Vis (sc:Scope)(x:Str):Prop:=sc.names.lookup x=some .local\/sc.names.lookup x=some .cell\/sc.names.lookup x=some .free
def Loc (sc:Scope)(x:Str):Prop:=sc.names.lookup x=some .local\/sc.names.lookup x=some .cell
def Look (env:Env)(h:Heap)(m:Str->Option Value)(x:Str)(u:Value):Prop :=
 (env.kindOf x=some .local/\m x=some u)\/((env.kindOf x=some .cell\/env.kindOf x=some .free)/\∃ c,env.cells.lookup x=some c/\h.IsCell c (some u))
structure Cx.Ok (X:Cx):Prop where
 mod:Mod X.K X.mg X.base
 kind:X.env.scope.kind=.function
 glob:X.env.globals=mainGlobals
 blt:X.env.builtins=builtinsNs
 above:X.s₀.heap.objs.size<=X.env.locals
 inj:∀ x y c,X.env.cells.lookup x=some c->X.env.cells.lookup y=some c->x=y
 has:∀ x,(X.env.kindOf x=some .cell\/X.env.kindOf x=some .free)->∃ c,X.env.cells.lookup x=some c
 cab:∀ x c,X.fn x=true->X.env.cells.lookup x=some c->X.s₀.heap.objs.size<=c
 hd:X.calm=true->X.A.handled=none
 frames:X.A.frames=some X.stack
 stk:X.stack=X.outer\/(X.stack=X.env::X.outer/\X.env.frame=some X.env.locals)
 exf:∀ b∈X.ex,b≠X.env.locals/\∀ x c,X.env.cells.lookup x=some c->c≠b
 bs:∀ b o,X.base.get? b=some o->X.s₀.heap.get? b=some o/\X.H₀ b=none
 Zm:X.base.objs.size<=X.s₀.heap.objs.size
 Zn:∀ b o,X.base.get? b=some o->b ∉ X.ex
 Zo:∀ b∈X.ex,b ∉ X.fs
 ES:X.s₀.heap.FunFrames X.base X.outer
 frf:∀ b∈X.fs,X.H₀ b=none
structure Inv (X:Cx)(pins:List (Addr×Obj))(σ:List (Option V))(H:Hp)(s:Shared):Prop where
 ok:X.Ok
 os:s.os=X.s₀.os
 bare:AllBare s.gens
 base:Un X.fs X.ex X.H₀ H X.s₀.heap s.heap
 loc:∃ m,s.heap.Ns X.env.locals m/\∀(i:Nat)(x:Str)(v:V),X.N[i]? = some x->σ[i]? = some (some v)->Vis X.env.scope x->∃ u,RelV v u/\Look X.env s.heap m x u
 cell:∀ x c,X.env.cells.lookup x=some c->∃ v,s.heap.IsCell c v
 free:H X.env.locals=none
 rA:∀ x c,X.env.cells.lookup x=some c->H c=none
 pin:∀ p∈X.pn++pins,s.heap.get? p.1=some p.2/\H p.1=none/\p.1≠X.env.locals/\p.1 ∉ X.fs/\∀ v,p.2.data≠.cell v
 hok:vb X.prog X.w H s.heap
 len:σ.length=X.N.length
section
variable {X:Cx} {pins:List (Addr×Obj)} {σ:List (Option V)} {H H':Hp} {s:Shared} {h':Heap}
theorem Cx.Ok.am7 (ok:X.Ok){b:Addr}{o:Obj}(e:X.base.get? b=some o):b ∉ X.fs:=fun hb=>by
 have:=(ok.ES.mem hb).1;rw[e]at this;cases this
theorem Inv.bs (I:Inv X pins σ H s):∀ b o,X.base.get? b=some o->s.heap.get? b=some o/\H b=none:=fun b o e =>
 ⟨I.base.keep b o (I.ok.bs b o e).1 (I.ok.bs b o e).2 (I.ok.am7 e) (I.ok.Zn b o e),I.base.free b o (I.ok.bs b o e).1 (I.ok.bs b o e).2 (I.ok.Zn b o e)⟩
theorem Inv.bk (I:Inv X pins σ H s):∀ b o,X.base.get? b=some o->s.heap.get? b=some o:=fun b o e=>(I.bs b o e).1
theorem Inv.mod (I:Inv X pins σ H s):Mod X.K X.mg X.base:=I.ok.mod
theorem Inv.Ho (I:Inv X pins σ H s):X.K.In s.heap:=I.ok.mod.kin.keeps I.bk
theorem Inv.lt (I:Inv X pins σ H s):X.env.locals<s.heap.objs.size:=let ⟨_,hn,_⟩:=I.loc;hn.lt
theorem Inv.sz (I:Inv X pins σ H s):X.s₀.heap.objs.size<=s.heap.objs.size:=Nat.le_trans I.ok.above (Nat.le_of_lt I.lt)
theorem Inv.am8 (I:Inv X pins σ H s){a:Addr}(h:s.heap.objs.size<=a):a ∉ X.fs:=fun hb=>by
 obtain⟨_,o,ho,_⟩:=I.ok.ES.mem hb;exact absurd (U' (T' ho) (Nat.le_trans I.sz h)) (Nat.lt_irrefl _)
theorem Inv.cne (I:Inv X pins σ H s):∀ x c,X.env.cells.lookup x=some c->c≠X.env.locals:=fun x c e z=>by
 obtain⟨v,o,ho,hd⟩:=I.cell x c e;obtain⟨m,⟨o',es,ep,ho',hd',_⟩,_⟩:=I.loc;rw[z,ho']at ho;cases ho;rw[hd']at hd;cases hd
theorem Inv.ES (I:Inv X pins σ H s):s.heap.FunFrames X.base X.outer:=by
 have all:∀(l:List Env),(∀ b∈frs l,b∈X.fs)->X.s₀.heap.FunFrames X.base l->s.heap.FunFrames X.base l:=by
  intro l
  induction l with
  |nil=>intro _ _;trivial
  |cons env r ih =>
   intro hs hl;obtain⟨hk,⟨L,o,hf,hn,ho,hd⟩,hr⟩:=hl;have hL:L∈X.fs:=hs L (by unfold frs;rw[List.filterMap_cons,hf];exact mem_cons_self);obtain⟨sl,e⟩:=I.base.slot L o ho (I.ok.frf L hL) hL fun z=>I.ok.Zo L z hL;exact⟨hk,⟨L,_,hf,hn,e,hd⟩,ih (fun b hb=>hs b (by unfold frs;rw[List.filterMap_cons,hf];exact Zb' _ hb)) hr⟩
 exact all X.outer (fun _ hb=>hb) I.ok.ES
theorem Inv.stack (I:Inv X pins σ H s):s.heap.FunFrames X.base X.stack:=by
 rcases I.ok.stk with e|⟨e,hf⟩
 ·rw[e];exact I.ES
 ·rw[e];obtain⟨m,hn,_⟩:=I.loc;refine .cons (by rw[I.ok.kind];decide) hf hn ?_ I.ES;exact Heap.get?_none_of_le (Nat.le_trans I.ok.Zm I.ok.above)
theorem Inv.Ke (I:Inv X pins σ H s):∀ b∈frs X.stack,b∈X.env.locals::X.fs:=fun b hb=>by
 rcases I.ok.stk with e|⟨e,hf⟩
 ·rw[e]at hb;exact Zb' _ hb
 ·rw[e]at hb;unfold frs at hb;rw[List.filterMap_cons,hf]at hb;exact hb
theorem Inv.Kf (I:Inv X pins σ H s):∀ b∈frs X.stack,H b=none:=fun b hb=>by
 rcases List.mem_cons.mp (I.Ke b hb) with e|hb
 ·rw[e];exact I.free
 ·obtain⟨_,o,ho,_⟩:=I.ok.ES.mem hb;exact I.base.free b o ho (I.ok.frf b hb) fun z=>I.ok.Zo b z hb
theorem Inv.step {g':Array GenState}{t':Nat}{d':Drawn}{ch:List Addr}(I:Inv X pins σ H s)
  (hch:∀ b∈ch,(b∈X.ex\/X.s₀.heap.objs.size<=b)/\b≠X.env.locals/\(∀ x c,X.env.cells.lookup x=some c->c≠b)/\∀ p∈X.pn++pins,p.1≠b)
  (keep:∀ b o,b≠X.env.locals->b ∉ X.fs->b ∉ ch->s.heap.get? b=some o->H b=none->h'.get? b=some o)
  (slot:∀ b o,b≠X.env.locals->b∈X.fs->b ∉ ch->s.heap.get? b=some o->H b=none->∃ sl,h'.get? b=some { o with slots:=sl }) (free:∀ b o,b ∉ ch->s.heap.get? b=some o->H b=none->H' b=none)
  (there:∀ b o,b ∉ ch->s.heap.get? b=some o->∃ o',h'.get? b=some o')
  (tups:∀ b xs,H b=some (.tup xs)->H' b=some (.tup xs)) (Cc:∀ b o u,H b=some (.fe o u)->H' b=some (.fe o u)) (ER:∀ b ps,H b=some (.EA ps)->∃ more,H' b=some (.EA (ps++more)))
  (ns:∀ m,s.heap.Ns X.env.locals m->h'.Ns X.env.locals m) (hok:vb X.prog X.w H' h') (hg:AllBare g') :
  Inv X pins σ H' { s with heap:=h',gens:=g',drawn:=d',toks:=t' }:=by
 have neL:∀ b o,X.s₀.heap.get? b=some o->b≠X.env.locals:=fun b o e=>Nat.ne_of_lt (U' (T' e) I.ok.above);have neC:∀ b o,X.s₀.heap.get? b=some o->b ∉ X.ex->b ∉ ch:=fun b o e hx hb=>by
  rcases (hch b hb).1 with z|z
  ·exact hx z
  ·exact absurd (U' (T' e) z) (Nat.lt_irrefl _)
 have cellK:∀ x c,X.env.cells.lookup x=some c->∀ v,s.heap.IsCell c v->h'.IsCell c v:=fun x c e v ⟨o,ho,hd⟩=>by
  have nch:c ∉ ch:=fun z=>(hch c z).2.2.1 x c e rfl
  by_cases hc:c∈X.fs
  ·obtain⟨sl,q⟩:=slot c o (I.cne x c e) hc nch ho (I.rA x c e);exact⟨_,q,hd⟩
  ·exact⟨o,keep c o (I.cne x c e) hc nch ho (I.rA x c e),hd⟩
 refine⟨I.ok,I.os,hg,⟨fun b o e n hb hx=>?_,fun b o e n hb hx=>?_,fun b o e n hx=>?_,fun b o e hx=>?_,fun b xs e=>tups b xs (I.base.tups b xs e),fun b o xs e=>Cc b o xs (I.base.Cc b o xs e),fun b ps e=>?_⟩,?_,fun x c e=>?_,?_,fun x c e=>?_,fun p hp=>?_,hok,I.len⟩
 ·exact keep b o (neL b o e) hb (neC b o e hx) (I.base.keep b o e n hb hx) (I.base.free b o e n hx)
 ·obtain⟨sl,e1⟩:=I.base.slot b o e n hb hx;obtain⟨sl',e2⟩:=slot b _ (neL b o e) hb (neC b o e hx) e1 (I.base.free b o e n hx);exact⟨sl',e2⟩
 ·obtain⟨o',e1⟩:=I.base.there b o e hx;exact free b o' (neC b o e hx) e1 (I.base.free b o e n hx)
 ·obtain⟨o',e1⟩:=I.base.there b o e hx;exact there b o' (neC b o e hx) e1
 ·obtain⟨m1,e1⟩:=I.base.ER b ps e;obtain⟨m2,e2⟩:=ER b _ e1;exact⟨m1++m2,by rw[e2,Array.append_assoc]⟩
 ·obtain⟨m,hn,hl⟩:=I.loc;refine⟨m,ns m hn,fun i x v e1 e2 e3=>?_⟩;obtain⟨u,r,l⟩:=hl i x v e1 e2 e3;refine⟨u,r,?_⟩;rcases l with l|⟨k,c,e,z⟩
  ·exact .inl l
  ·exact .inr ⟨k,c,e,cellK x c e _ z⟩
 ·obtain⟨v,z⟩:=I.cell x c e;exact⟨v,cellK x c e v z⟩
 ·obtain⟨m,⟨o,_,_,ho,_⟩,_⟩:=I.loc;exact free _ o (fun z=>(hch _ z).2.1 rfl) ho I.free
 ·obtain⟨v,o,ho,hd⟩:=I.cell x c e;exact free c o (fun z=>(hch c z).2.2.1 x c e rfl) ho (I.rA x c e)
 ·obtain⟨e,n,ne,nf,d⟩:=I.pin p hp;have nch:p.1 ∉ ch:=fun z=>(hch p.1 z).2.2.2 p hp rfl;exact⟨keep p.1 p.2 ne nf nch e n,free p.1 p.2 nch e n,ne,nf,d⟩
theorem Inv.un {t':Nat}(I:Inv X pins σ H s)(u:Un X.fs [] H H' s.heap h')(hok:vb X.prog X.w H' h'):Inv X pins σ H' { s with heap:=h',toks:=t' }:=by
 obtain⟨m,⟨o,es,ep,ho,r⟩,_⟩:=id I.loc;obtain⟨sl,hL⟩:=u.any ho I.free (by simp);exact I.step (g':=s.gens) (d':=s.drawn) (ch:=[]) (fun _ z=>nomatch z) (fun b o _ hb _ e n=>u.keep b o e n hb (by simp)) (fun b o _ hb _ e n=>u.slot b o e n hb (by simp)) (fun b o _ e n=>u.free b o e n (by simp)) (fun b o _ e=>u.there b o e (by simp)) u.tups u.Cc u.ER (fun m' hm=>by
  obtain⟨o',es',ep',ho',r'⟩:=hm;rw[ho]at ho';cases ho';exact⟨_,es',ep',hL,r'⟩) hok I.bare
theorem Inv.call {g':Array GenState}{t':Nat}{d':Drawn}{ch:List Addr}(I:Inv X pins σ H s)(u:Un (frs X.stack) ch H H' s.heap h')(hok:vb X.prog X.w H' h')(hg:AllBare g')
  (hch:∀ b∈ch,(b∈X.ex\/X.s₀.heap.objs.size<=b)/\b≠X.env.locals/\(∀ x c,X.env.cells.lookup x=some c->c≠b)/\∀ p∈X.pn++pins,p.1≠b) :
  Inv X pins σ H' { s with heap:=h',gens:=g',drawn:=d',toks:=t' }:=by
 obtain⟨m,⟨o,es,ep,ho,r⟩,_⟩:=id I.loc;obtain⟨sl,hL⟩:=u.any ho I.free fun z=>(hch _ z).2.1 rfl;exact I.step (ch:=ch) hch (fun b o hL hb hc e n=>u.keep b o e n (fun z=>(List.mem_cons.mp (I.Ke b z)).elim hL hb) hc) (fun b o _ _ hc e n=>u.any e n hc) (fun b o hc e n=>u.free b o e n hc) (fun b o hc e=>u.there b o e hc) u.tups u.Cc u.ER (fun m' hm=>by
  obtain⟨o',es',ep',ho',r'⟩:=hm;rw[ho]at ho';cases ho';exact⟨_,es',ep',hL,r'⟩) hok hg
theorem Inv.turned {t':Nat}{it:Addr}(I:Inv X pins σ H s)(k:∀ b o,b≠it->s.heap.get? b=some o->h'.get? b=some o)(hn:H it=none)(hL:it≠X.env.locals)
  (h1:it∈X.ex\/X.s₀.heap.objs.size<=it) (h2:∀ x c,X.env.cells.lookup x=some c->c≠it) (h3:∀ p∈X.pn++pins,p.1≠it):Inv X pins σ H { s with heap:=h',toks:=t' }:=by
 have nit:∀ b u,H b=some u->b≠it:=fun b u e z=>by rw[z,hn]at e;cases e
 refine I.step (g':=s.gens) (d':=s.drawn) (ch:=[it]) (fun b hb=>?_) (fun b o _ _ hc e _=>k b o (fun z=>hc (by simp[z])) e) (fun b o _ _ hc e _=>⟨o.slots,k b o (fun z=>hc (by simp[z])) e⟩) (fun _ _ _ _ n=>n)
  (fun b o hc e=>⟨o,k b o (fun z=>hc (by simp[z])) e⟩) (fun _ _ e=>e) (fun _ _ _ e=>e) (fun b ps e=>⟨#[],by rw[e];simp⟩) (fun m hm=>?_) (fun b u e=>?_) I.bare
 ·have e:b=it:=by simpa using hb
  subst e;exact⟨h1,hL,h2,h3⟩
 ·obtain⟨o,es,ep,ho,r⟩:=hm;exact⟨o,es,ep,k _ o (Ne.symm hL) ho,r⟩
 ·refine(I.hok b u e).stay (fun c v hc q=>k c v ?_ q) (fun _ q=>q) fun _ _ q=>q;rcases hc with z|z
  ·rw[z];exact nit b u e
  ·exact nit c _ z
theorem Inv.tok (I:Inv X pins σ H s)(t:Nat):Inv X pins σ H { s with toks:=t }:=I.un (h':=s.heap) (t':=t) Un.refl I.hok
theorem Inv.kept {t':Nat}(I:Inv X pins σ H s)(k:∀ b u,s.heap.get? b=some u->h'.get? b=some u):Inv X pins σ H { s with heap:=h',toks:=t' }:=I.un (Un.kept k) (I.hok.kept k)
theorem Inv.laid {a:Addr}{o:HO}{t':Nat}(I:Inv X pins σ H s)(k:∀ b u,s.heap.get? b=some u->h'.get? b=some u)(hp:s.heap.objs.size<=a)(new:cH X.prog X.w (upd H a o) h' a o) :
  Inv X pins σ (upd H a o) { s with heap:=h',toks:=t' }:=I.un (Un.laid k hp (I.hok.fresh hp)) (I.hok.laid k hp new)
theorem Inv.write {x e:Addr}{o:HO}{t':Nat}(I:Inv X pins σ H s)(mu:Mut (H x))(he:e=x\/H e=some (.own x))(k:∀ b u,b≠e->s.heap.get? b=some u->h'.get? b=some u)(heo:∃ u,h'.get? e=some u)
  (new:cH X.prog X.w (upd H x o) h' x o):Inv X pins σ (upd H x o) { s with heap:=h',toks:=t' }:=I.un (Un.write mu he k heo) (I.hok.write mu he k heo new)
theorem Inv.X5 {abW:List (Addr×Obj)}(I:Inv X pins σ H s)(h:∀ p∈abW,s.heap.get? p.1=some p.2/\H p.1=none/\p.1≠X.env.locals/\p.1 ∉ X.fs/\∀ v,p.2.data≠.cell v):Inv X abW σ H s :=
 ⟨I.ok,I.os,I.bare,I.base,I.loc,I.cell,I.free,I.rA,fun p hp=>(mem_append.mp hp).elim (fun z=>I.pin p (mem_append_left _ z)) (h p),I.hok,I.len⟩
theorem PH {N:List Str}(hN:N.Nodup){i j:Nat}{x:Str}(a:N[i]? = some x)(b:N[j]? = some x):i=j:=by
 obtain⟨h1,e1⟩:=F'.mp a;obtain⟨h2,e2⟩:=F'.mp b;exact(List.getElem_inj hN).mp (e1.trans e2.symm)
theorem Jv {M:Model}{A:Around}{E:Value->Shared->Prop}{i:Nat}{x:Str}{v:V}{u:Value}{Q:Unit->Shared->Prop}(I:Inv X pins σ H s)(hN:X.N.Nodup)(hi:X.N[i]? = some x)(hx:Loc X.env.scope x)(r:RelV v u)
  (h:∀ s',Inv X pins (σ.set i (some v)) H s'->(∃ a,Heap.SameBut a s.heap s'.heap/\(a=X.env.locals\/X.env.cells.lookup x=some a))->Q () s') (hf:X.fn x=true\/X.env.scope.names.lookup x=some .local:=by first|exact .inl rfl|exact .inr rfl|assumption):wpAny M A (storeName X.env x u) Q E s:=by
 obtain⟨m,hn,hl⟩:=id I.loc;have hcls:(X.env.scope.kind == .class||(X.env.scope.kind == .module&&X.env.locals != X.env.globals))=false:=by rw[I.ok.kind];rfl
 have apw:i<σ.length:=by rw[I.len];exact(F'.mp hi).1
 have cne:=I.cne;have tracked:∀{a:Addr} {h':Heap},(∃ o,s.heap.get? a=some o/\H a=none)->Heap.SameBut a s.heap h'->vb X.prog X.w H h':=fun {a h'} ha hs b ob e=>by
  obtain⟨_,_,hfree⟩:=ha;refine(I.hok b ob e).stay (fun c w' hc q=>(hs.2 c ?_).trans q) (fun _ q=>q) fun _ _ q=>q;rintro rfl;rcases hc with rfl|hc
  ·rw[hfree]at e;cases e
  ·rw[hfree]at hc;cases hc
 rcases hx with hk|hk
 ·refine wpAny_storeName_local hk hn (fun h' hn' hs=>?_) hcls;obtain⟨oL,_,_,hoL,_⟩:=id hn;refine h _ ⟨I.ok,I.os,I.bare,⟨fun b o e n hb hx=>?_,fun b o e n hb hx=>?_,I.base.free,fun b o e hx=>?_,I.base.tups,I.base.Cc,I.base.ER⟩,⟨_,hn',fun j y v' e1 e2 e3=>?_⟩,fun y c e=>?_,I.free,I.rA,fun p hp=>?_,tracked ⟨oL,hoL,I.free⟩ hs,by simpa using I.len⟩ ⟨_,hs,.inl rfl⟩
  ·exact(hs.2 b (Nat.ne_of_lt (U' (T' e) I.ok.above))).trans (I.base.keep b o e n hb hx)
  ·obtain⟨sl,e1⟩:=I.base.slot b o e n hb hx;exact⟨sl,(hs.2 b (Nat.ne_of_lt (U' (T' e) I.ok.above))).trans e1⟩
  ·obtain⟨o',e1⟩:=I.base.there b o e hx;exact⟨o',(hs.2 b (Nat.ne_of_lt (U' (T' e) I.ok.above))).trans e1⟩
  ·by_cases hj:j=i
   ·subst hj;rw[hi]at e1;cases e1;rw[List.getElem?_set_self apw]at e2;cases e2;exact⟨u,r,.inl ⟨hk,by simp⟩⟩
   ·rw[List.getElem?_set_ne (Ne.symm hj)]at e2;obtain⟨u',r',q⟩:=hl j y v' e1 e2 e3;refine⟨u',r',?_⟩;rcases q with ⟨k,e⟩|⟨k,c,e,z⟩
    ·refine .inl ⟨k,?_⟩;have:y≠x:=fun e=>hj (PH hN e1 (e ▸ hi));simp[this,e]
    ·exact .inr ⟨k,c,e,z.sameBut hs (cne y c e)⟩
  ·obtain⟨w',z⟩:=I.cell y c e;exact⟨w',z.sameBut hs (cne y c e)⟩
  ·obtain⟨e,n,ne,nf,d⟩:=I.pin p hp;exact⟨(hs.2 p.1 ne).trans e,n,ne,nf,d⟩
 ·have hfn:X.fn x=true:=by
   rcases hf with z|z
   ·exact z
   ·rw[z]at hk;cases hk
  obtain⟨c,hc⟩:=I.ok.has x (.inl hk);obtain⟨w',z⟩:=I.cell x c hc;refine wpAny_storeName_cell I.ok.kind hk hc z (fun h' hc' hs=>?_);obtain⟨oc,hoc,am9⟩:=id z;refine h { s with heap:=h' } ⟨I.ok,I.os,I.bare,⟨fun b o e n hb hx=>?_,fun b o e n hb hx=>?_,I.base.free,fun b o e hx=>?_,I.base.tups,I.base.Cc,I.base.ER⟩,⟨m,hn.sameBut hs (Ne.symm (cne x c hc)),fun j y v' e1 e2 e3=>?_⟩,fun y c' e=>?_,I.free,I.rA,fun p hp=>?_,tracked ⟨oc,hoc,I.rA x c hc⟩ hs,by simpa using I.len⟩ ⟨c,hs,.inr hc⟩
  ·exact(hs.2 b (Nat.ne_of_lt (U' (T' e) (I.ok.cab x c hfn hc)))).trans (I.base.keep b o e n hb hx)
  ·obtain⟨sl,e1⟩:=I.base.slot b o e n hb hx;exact⟨sl,(hs.2 b (Nat.ne_of_lt (U' (T' e) (I.ok.cab x c hfn hc)))).trans e1⟩
  ·obtain⟨o',e1⟩:=I.base.there b o e hx;exact⟨o',(hs.2 b (Nat.ne_of_lt (U' (T' e) (I.ok.cab x c hfn hc)))).trans e1⟩
  ·by_cases hj:j=i
   ·subst hj;rw[hi]at e1;cases e1;rw[List.getElem?_set_self apw]at e2;cases e2;exact⟨u,r,.inr ⟨.inl hk,c,hc,hc'⟩⟩
   ·rw[List.getElem?_set_ne (Ne.symm hj)]at e2;obtain⟨u',r',q⟩:=hl j y v' e1 e2 e3;refine⟨u',r',?_⟩;rcases q with q|⟨k,c',e,z'⟩
    ·exact .inl q
    ·refine .inr ⟨k,c',e,z'.sameBut hs ?_⟩;rintro rfl;exact hj (PH hN e1 (I.ok.inj _ _ _ e hc ▸ hi))
  ·by_cases hcc:c'=c
   ·subst hcc;exact⟨_,hc'⟩
   ·obtain⟨w2,z2⟩:=I.cell y c' e;exact⟨w2,z2.sameBut hs hcc⟩
  ·obtain⟨e,n,ne,nf,d⟩:=I.pin p hp;refine⟨(hs.2 p.1 ?_).trans e,n,ne,nf,d⟩;intro q;rw[q,hoc]at e;have q':oc=p.2:=Za' e;exact d w' (by rw[<-q'];exact am9)
theorem xo {M:Model}{A:Around}{E:Value->Shared->Prop}{i:Nat}{x:Str}{v:V}{u:Value}{Q:Unit->Shared->Prop}(I:Inv X pins σ H s)(hN:X.N.Nodup)(hi:X.N[i]? = some x)(hx:Loc X.env.scope x)(r:RelV v u)
  (h:∀ s',Inv X pins (σ.set i (some v)) H s'->Q () s') (hf:X.fn x=true\/X.env.scope.names.lookup x=some .local:=by first|exact .inl rfl|exact .inr rfl|assumption):wpAny M A (storeName X.env x u) Q E s :=
 Jv I hN hi hx r (fun s' I' _=>h s' I') hf
theorem Inv.call' {s':Shared}{ch:List Addr}(I:Inv X pins σ H s)(ho:s'.os=s.os)(u:Un (frs X.stack) ch H H' s.heap s'.heap)(hok:vb X.prog X.w H' s'.heap)(hg:AllBare s'.gens)
  (hch:∀ b∈ch,(b∈X.ex\/X.s₀.heap.objs.size<=b)/\b≠X.env.locals/\(∀ x c,X.env.cells.lookup x=some c->c≠b)/\∀ p∈X.pn++pins,p.1≠b):Inv X pins σ H' s':=by
 obtain⟨h',g',d',t',o'⟩:=s';have e:o'=s.os:=ho;subst e;exact I.call (g':=g') (t':=t') (d':=d') u hok hg hch
end
abbrev XK:=Value->Option Addr->Hp->Prop
abbrev St:=List (Option V)
abbrev VK:=V->Hp->Prop
abbrev TE:=St->Hp->VK->Prop
abbrev TT:=St->Hp->(Bool->Hp->Prop)->Prop
abbrev TA:=St->Hp->(List V->Hp->Prop)->Prop
structure Ends where
 nx:St->Hp->Prop
 rt:VK
 bk:St->Hp->Prop:=fun _ _=>False
 ct:St->Hp->Prop:=fun _ _=>False
abbrev TS:=Ends->St->Hp->Prop
def EP (X:Cx)(pins:List (Addr×Obj))(σ:St)(Q:VK)(u:Value)(s':Shared):Prop:=∃ v H',Inv X pins σ H' s'/\RelV v u/\Q v H'
def TP (X:Cx)(pins:List (Addr×Obj))(σ:St)(Q:Bool->Hp->Prop)(b:Bool)(s':Shared):Prop:=∃ H',Inv X pins σ H' s'/\Q b H'
def AP (X:Cx)(pins:List (Addr×Obj))(σ:St)(Q:List V->Hp->Prop)(us:List Value)(s':Shared):Prop:=∃ vs H',Inv X pins σ H' s'/\Vals vs us/\Q vs H'
def SP (X:Cx)(pins:List (Addr×Obj))(D:Ends)(f:Flow)(s':Shared):Prop :=
 match f with
 |.next=>∃ σ' H',Inv X pins σ' H' s'/\D.nx σ' H'
 |.brk=>∃ σ' H',Inv X pins σ' H' s'/\D.bk σ' H'
 |.cont=>∃ σ' H',Inv X pins σ' H' s'/\D.ct σ' H'
 |.ret u=>∃ v σ' H',Inv X pins σ' H' s'/\RelV v u/\D.rt v H'
def PE (X:Cx)(e:Expr)(t:TE):Prop :=
 ∀(pins:List (Addr×Obj)) (s:Shared) (σ:St) (H:Hp) (Q:VK),Inv X pins σ H s->t σ H Q->wpAny (model X.prog X.w) X.A (eval e X.env) (EP X pins σ Q) X.xe s
def PT (X:Cx)(e:Expr)(t:TT):Prop :=
 ∀(pins:List (Addr×Obj)) (s:Shared) (σ:St) (H:Hp) (Q:Bool->Hp->Prop),Inv X pins σ H s->t σ H Q->wpAny (model X.prog X.w) X.A (isTrue e X.env (eval e X.env)) (TP X pins σ Q) X.xe s
def PW (X:Cx)(e:Expr)(t:TT):Prop :=
 ∀(whole:Sem Value)(pins:List (Addr×Obj)) (s:Shared) (σ:St) (H:Hp) (Q:Bool->Hp->Prop),Inv X pins σ H s->t σ H Q->wpAny (model X.prog X.w) X.A (isTrue e X.env whole) (TP X pins σ Q) X.xe s
theorem PW.pt {X:Cx}{e:Expr}{t:TT}(h:PW X e t):PT X e t:=h _
def PA (X:Cx)(es:List Expr)(t:TA):Prop :=
 ∀(pos:Pos)(pins:List (Addr×Obj)) (s:Shared) (σ:St) (H:Hp) (Q:List V->Hp->Prop),Inv X pins σ H s->t σ H Q->wpAny (model X.prog X.w) X.A (spliced (backTo pos (starEach es X.env))) (AP X pins σ Q) X.xe s
def PS (X:Cx)(st:Stmt)(t:TS):Prop :=
 ∀(pins:List (Addr×Obj)) (s:Shared) (σ:St) (H:Hp) (D:Ends),Inv X pins σ H s->t D σ H->wpAny (model X.prog X.w) X.A (exec st X.env) (SP X pins D) X.xe s
def PJ (X:Cx)(st:List Stmt)(t:TS):Prop :=
 ∀(pins:List (Addr×Obj)) (s:Shared) (σ:St) (H:Hp) (D:Ends),Inv X pins σ H s->t D σ H->wpAny (model X.prog X.w) X.A (execs st X.env) (SP X pins D) X.xe s
theorem cJ {α:Type}{t:Sem α}{Q Q':α->Shared->Prop}{M:Model}{A:Around}{E:Value->Shared->Prop}{s:Shared}(h:wpAny M A t Q E s)(hQ:∀ a s,Q a s->Q' a s):wpAny M A t Q' E s:=wpAny_mono h hQ fun _ _ x=>x
end L2
namespace L2
open PySem PySem.Spec PyProof.Rows
section
variable {X:Cx}
inductive ahj (i:Nat)(σ:St)(H:Hp)(Q:VK):Prop
 |mk (v:_) (vh:σ[i]? = some (some v)) (vi:Q v H):ahj i σ H Q
def air (i:Nat):TE:=fun σ H Q=>ahj i σ H Q
def tC (v:V):TE:=fun _ H Q=>Q v H
theorem ais {i:Nat}{x:Str}{pos:Pos}(hN:X.N[i]? = some x)(hv:Vis X.env.scope x)(hd:(x==("__debug__":Str))=false:=by decide)(hcd:(x==("__classdict__":Str))=false:=by decide):PE X (.Name x pos) (air i):=by
 intro pins s σ H Q I h;obtain⟨v,e,h⟩:=h;obtain⟨m,hn,hl⟩:=I.loc;obtain⟨u,r,l⟩:=hl i x v hN e hv;have fin:EP X pins σ Q u s:=⟨v,H,I,r,h⟩;rcases l with ⟨hk,hm⟩|⟨hk,c,hc,hcell⟩
 ·exact wpAny_Name (wpAny_loadName_local I.ok.kind hk hn hm fin) hd
 ·rcases hk with hk|hk
  ·exact wpAny_Name (wpAny_loadName_cell I.ok.kind hk hc hcell fin) hd
  ·exact wpAny_Name (wpAny_loadName_free I.ok.kind hk hc hcell fin hcd) hd
theorem ai {i j pos}:PE X (.Constant (.int i) j pos) (tC (.int i)):=fun _ _ _ H _ I h=>wpAny_Constant_int ⟨.int i,H,I.tok _,⟨_,rfl⟩,h⟩
theorem ez {b j pos}:PE X (.Constant (.bool b) j pos) (tC (.bl b)):=fun _ _ _ H _ I h=>Constant_bool ⟨.bl b,H,I,rfl,h⟩
theorem bI {j pos}:PE X (.Constant .none j pos) (tC .non):=fun _ _ _ H _ I h=>Constant_none ⟨.non,H,I,rfl,h⟩
theorem av {x j pos}:PE X (.Constant (.str x) j pos) (tC (.str x)):=fun _ _ _ H _ I h=>Calls.Constant_str ⟨.str x,H,I.tok _,⟨_,rfl⟩,h⟩
def Gl (X:Cx)(x:Str):Prop:=X.env.kindOf x=some .globalImplicit
theorem Kg {E:Value->Shared->Prop}{pins:List (Addr×Obj)}{s:Shared}{σ:St}{H:Hp}{x:Str}{u:Value}{pos:Pos}{Q:Value->Shared->Prop}(I:Inv X pins σ H s)(hg:Gl X x)(hm:X.mg x=some u)(h:Q u s)
  (hd:(x==("__debug__":Str))=false:=by decide):wpAny (model X.prog X.w) X.A (eval (.Name x pos) X.env) Q E s :=
 Calls.Name_function_global I.ok.kind hg (Calls.loadGlobal_global (by rw[I.ok.glob];exact I.mod.glob.keeps I.bk) hm h) hd
theorem vB {E:Value->Shared->Prop}{pins:List (Addr×Obj)}{s:Shared}{σ:St}{H:Hp}{x:Str}{u:Value}{pos:Pos}{Q:Value->Shared->Prop}(I:Inv X pins σ H s)(hg:Gl X x)(hm:X.mg x=none)(hv:bootBuiltins x=some u)(h:Q u s)
  (hn:x ≠ "__name__":=by decide) (hd:(x==("__debug__":Str))=false:=by decide):wpAny (model X.prog X.w) X.A (eval (.Name x pos) X.env) Q E s:=by
 obtain⟨mb,h1,h2⟩:=I.mod.blt;exact Calls.Name_function_global I.ok.kind hg (Calls.loadGlobal_builtin (by rw[I.ok.glob];exact I.mod.glob.keeps I.bk) hm (by rw[I.ok.blt];exact h1.keeps I.bk) ((h2 x hn).trans hv) h) hd
theorem bP {x:Str}{v:V}{u:Value}{pos:Pos}(hg:Gl X x)(hm:X.mg x=some u)(r:RelV v u)(hd:(x==("__debug__":Str))=false:=by decide):PE X (.Name x pos) (tC v) :=
 fun _ _ _ H _ I h=>Kg I hg hm ⟨v,H,I,r,h⟩ hd
theorem qi {x:Str}{v:V}{u:Value}{pos:Pos}(hg:Gl X x)(hm:X.mg x=none)(hv:bootBuiltins x=some u)(r:RelV v u)(hn:x ≠ "__name__":=by decide)(hd:(x==("__debug__":Str))=false:=by decide):PE X (.Name x pos) (tC v) :=
 fun _ _ _ H _ I h=>vB I hg hm hv ⟨v,H,I,r,h⟩ hn hd
variable {a b:Expr} {ta tb:TE} {pos:Pos}
def PC (X:Cx)(op:CmpOp)(a b:Expr)(t:TE):Prop :=
 ∀(pins:List (Addr×Obj)) (s:Shared) (σ:St) (H:Hp) (Q:VK),Inv X pins σ H s->t σ H Q ->
  wpAny (model X.prog X.w) X.A (eval a X.env) (fun v s₁=>wpAny (model X.prog X.w) X.A (eval b X.env) (fun u s₂=>wpAny (model X.prog X.w) X.A (compareOp op v u) (EP X pins σ Q) X.xe s₂) X.xe s₁) X.xe s
def tB (t:TE):TT:=fun σ H Q=>t σ H fun x H1=>∃ c,x=.bl c/\Q c H1
theorem ait {op:CmpOp}{t:TE}(h:PC X op a b t)(h1:behindInMarks op b=false:=by first|exact abX _ (by decide) (by decide)|rfl):PE X (.Compare a [op] [b] pos) t:=fun pins s σ H Q I hw=>wpAny_Compare1 (h pins s σ H Q I hw) h1
theorem RV {op:CmpOp}{t:TE}(h:PC X op a b t)(h1:behindInMarks op b=false:=by first|exact abX _ (by decide) (by decide)|rfl):PT X (.Compare a [op] [b] pos) (tB t):=by
 intro pins s σ H Q I hw;refine wpAny_isTrue_Compare1 (cJ (h pins s σ H _ I hw) fun v s1 h1=>cJ h1 fun u s2 h2=>cJ h2 fun c s3 ⟨x,H1,I1,r1,q1⟩=>?_) h1;obtain⟨d,rfl,q⟩:=q1;cases r1;exact wpAny_truthy_bool ⟨H1,I1,q⟩
theorem bB {e:Expr}{t:TE}(h:PE X e t)(he:∀ whole,isTrue e X.env whole=(do let v <-whole;standAt e.pos;holding [v] (truthy v)):=by intro _;rfl):PT X e (tB t):=by
 intro pins s σ H Q I hw;refine isTrue_plain (cJ (h pins s σ H _ I hw) fun v s1 ⟨x,H1,I1,r1,q1⟩=>?_) (he _);obtain⟨d,rfl,q⟩:=q1;cases r1;exact wpAny_truthy_bool ⟨H1,I1,q⟩
variable {tA tB':TT} {rest:List Expr}
def ana (t u:TT):TT:=fun σ H Q=>t σ H fun c H1=>if c=true then u σ H1 Q else Q false H1
def tOr (t u:TT):TT:=fun σ H Q=>t σ H fun c H1=>if c=true then Q true H1 else u σ H1 Q
def anb (t:TT):TT:=fun σ H Q=>t σ H fun c H1=>Q (!c) H1
theorem bM (ha:PT X a tA):PW X (.BoolOp .And [a] pos) tA:=by
 intro wh pins s σ H Q I h;refine isTrue_and (cJ (ha pins s σ H Q I h) fun c s1 e=>?_);cases c with
 |true=>exact isTrue_and_nil e
 |false=>exact e
theorem eB (ha:PT X a tA):PW X (.BoolOp .Or [a] pos) tA:=by
 intro wh pins s σ H Q I h;refine isTrue_or (cJ (ha pins s σ H Q I h) fun c s1 e=>?_);cases c with
 |false=>exact isTrue_or_nil e
 |true=>exact e
theorem bu (ha:PT X a tA)(hb:PW X (.BoolOp .And (b::rest) pos) tB'):PW X (.BoolOp .And (a::b::rest) pos) (ana tA tB'):=by
 intro wh pins s σ H Q I h;refine isTrue_and (cJ (ha pins s σ H _ I h) fun c s1 ⟨H1,I1,q1⟩=>?_);cases c with
 |true=>exact hb wh pins s1 σ H1 Q I1 q1
 |false=>exact⟨H1,I1,q1⟩
theorem ij (ha:PT X a tA)(hb:PW X (.BoolOp .Or (b::rest) pos) tB'):PW X (.BoolOp .Or (a::b::rest) pos) (tOr tA tB'):=by
 intro wh pins s σ H Q I h;refine isTrue_or (cJ (ha pins s σ H _ I h) fun c s1 ⟨H1,I1,q1⟩=>?_);cases c with
 |true=>exact⟨H1,I1,q1⟩
 |false=>exact hb wh pins s1 σ H1 Q I1 q1
theorem eC (ha:PT X a tA):PT X (.UnaryOp .Not a pos) (anb tA):=by
 intro pins s σ H Q I h;exact isTrue_not (ha pins s σ H (fun c H1=>Q (!c) H1) I h)
def akd (ta tb:TE):TE:=fun σ H Q=>ta σ H fun x H1=>∃ c,x=.bl c/\if c=true then tb σ H1 Q else Q (.bl false) H1
def anc (ta tb:TE):TE:=fun σ H Q=>ta σ H fun x H1=>∃ c,x=.bl c/\if c=true then Q (.bl true) H1 else tb σ H1 Q
def ake (ta:TE):TE:=fun σ H Q=>ta σ H fun x H1=>∃ c,x=.bl c/\Q (.bl (!c)) H1
theorem iY {op}{t:TE}(h:PE X a t):PE X (.BoolOp op [a] pos) t:=fun pins s σ H Q I hw=>BoolOp_one (h pins s σ H Q I hw)
theorem jF (ha:PE X a ta)(hb:PE X (.BoolOp .And (b::rest) pos) tb):PE X (.BoolOp .And (a::b::rest) pos) (akd ta tb):=by
 intro pins s σ H Q I h;refine BoolOp_and (cJ (ha pins s σ H _ I h) fun v s1 ⟨x,H1,I1,r1,q1⟩=>?_);obtain⟨c,rfl,q1⟩:=q1;cases r1;refine wpAny_truthy_bool ?_;cases c with
 |true=>exact hb pins s1 σ H1 Q I1 q1
 |false=>exact⟨.bl false,H1,I1,rfl,q1⟩
theorem X6 (ha:PE X a ta)(hb:PE X (.BoolOp .Or (b::rest) pos) tb):PE X (.BoolOp .Or (a::b::rest) pos) (anc ta tb):=by
 intro pins s σ H Q I h;refine BoolOp_or (cJ (ha pins s σ H _ I h) fun v s1 ⟨x,H1,I1,r1,q1⟩=>?_);obtain⟨c,rfl,q1⟩:=q1;cases r1;refine wpAny_truthy_bool ?_;cases c with
 |false=>exact hb pins s1 σ H1 Q I1 q1
 |true=>exact⟨.bl true,H1,I1,rfl,q1⟩
theorem aiu (ha:PE X a ta):PE X (.UnaryOp .Not a pos) (ake ta):=by
 intro pins s σ H Q I h;refine UnaryOp_ (cJ (ha pins s σ H _ I h) fun v s1 ⟨x,H1,I1,r1,q1⟩=>?_);obtain⟨c,rfl,q1⟩:=q1;cases r1;exact not_of (wpAny_truthy_bool ⟨.bl (!c),H1,I1,rfl,q1⟩)
def tIf (t:TT)(ta tb:TE):TE:=fun σ H Q=>t σ H fun c H1=>if c=true then ta σ H1 Q else tb σ H1 Q
theorem bz {c:Expr}(hc:PT X c tA)(ha:PE X a ta)(hb:PE X b tb):PE X (.IfExp c a b pos) (tIf tA ta tb):=by
 intro pins s σ H Q I h;refine wpAny_IfExp (cJ (hc pins s σ H _ I h) fun d s1 ⟨H1,I1,q1⟩=>?_);cases d with
 |true=>exact ha pins s1 σ H1 Q I1 q1
 |false=>exact hb pins s1 σ H1 Q I1 q1
end
end L2
namespace L2
open PySem PySem.Spec PyProof.Rows
def aX (K:Frag)(H:Hp)(a:Addr)(xs:List V):Prop :=
 Rd H a (.lst xs) \/
  ∃(o:Obj)(its:Array Value)(n:Nat),K.lookup a=some o/\o.cls=.type "list"/\o.dict=none/\o.data=.seq its n/\its.size<=sizeLine/\Vals xs its.toList
def dh (K:Frag)(H:Hp)(a:Addr)(xs:List V):Prop :=
 Rd H a (.tup xs) \/
  ∃(o:Obj)(its:Array Value)(n:Nat),K.lookup a=some o/\o.cls=.type "tuple"/\o.data=.seq its n/\its.size<=sizeLine/\Vals xs its.toList
def anf:Value->Option V
 |.none=>some .non
 |.bool b=>some (.bl b)
 |.int i _=>some (.int i)
 |.str x _=>some (.str x)
 |.bytes b _=>some (.byt b)
 |.float b _=>some (.flt b)
 |.ref a=>some (.ref a)
 |.type n=>some (.ty n)
 |_=>none
theorem RelV.abs {x:V}{u:Value}(r:RelV x u):anf u=some x:=by
 cases x with
 |non=>cases r;rfl
 |bl _=>cases r;rfl
 |int _=>obtain⟨t,rfl⟩:=r;rfl
 |str _=>obtain⟨t,rfl⟩:=r;rfl
 |byt _=>obtain⟨t,rfl⟩:=r;rfl
 |flt _=>obtain⟨t,rfl⟩:=r;rfl
 |ref _=>cases r;rfl
 |ty _=>cases r;rfl
theorem RelV.inj {x y:V}{u:Value}(r:RelV x u)(q:RelV y u):x=y:=Za' (r.abs.symm.trans q.abs)
theorem Vals.inj:∀{xs ys:List V} {us:List Value},Vals xs us->Vals ys us->xs=ys
 |_,_,_,.nil,.nil=>rfl
 |_,_,_,.cons r t,.cons r' t'=>by rw[r.inj r',Vals.inj t t']
section
variable {X:Cx} {pins:List (Addr×Obj)} {σ:St} {H:Hp} {s:Shared} {a:Addr} {xs ys:List V}
theorem aX.of {K:Frag}(h:H a=some (.lst xs)):aX K H a xs:=.inl (.inl h)
theorem dh.of {K:Frag}(h:H a=some (.tup xs)):dh K H a xs:=.inl (.inl h)
theorem Inv.list (I:Inv X pins σ H s)(h:aX X.K H a xs):∃ its:List Value,Vals xs its/\PlainL s.heap a its.toArray/\xs.length<=sizeLine:=by
 rcases h with h|⟨o,its,n,hk,hc,hd,hs,hz,r⟩
 ·obtain⟨z,its,n,r,e⟩:=h.ok I.hok;exact⟨its,r,⟨_,n,e,rfl,rfl,rfl⟩,z⟩
 ·refine⟨its.toList,r,⟨o,n,I.Ho a o hk,hc,hd,by simpa using hs⟩,?_⟩;have e:=r.length;simp only [Array.length_toList]at e;omega
theorem Inv.tuple (I:Inv X pins σ H s)(h:dh X.K H a xs):∃ its:List Value,Vals xs its/\IsTup s.heap a its.toArray/\xs.length<=sizeLine:=by
 rcases h with h|⟨o,its,n,hk,hc,hs,hz,r⟩
 ·obtain⟨z,its,r,p⟩:=h.ok I.hok;exact⟨its,r,p,z⟩
 ·refine⟨its.toList,r,⟨o,I.Ho a o hk,hc,n,by simpa using hs⟩,?_⟩;have e:=r.length;simp only [Array.length_toList]at e;omega
theorem Inv.PK (I:Inv X pins σ H s)(h:aX X.K H a xs)(h':aX X.K H a ys):xs=ys:=by
 obtain⟨its,r,⟨o,n,e,_,_,d⟩,_⟩:=I.list h;obtain⟨its',r',⟨o',n',e',_,_,d'⟩,_⟩:=I.list h';rw[e]at e';cases e';rw[d]at d'
 injection d' with d1 _
 have:its=its':=by simpa using congrArg Array.toList d1
 subst this;exact r.inj r'
theorem Inv.Zq (I:Inv X pins σ H s)(h:dh X.K H a xs)(h':dh X.K H a ys):xs=ys:=by
 obtain⟨its,r,⟨o,e,_,n,d⟩,_⟩:=I.tuple h;obtain⟨its',r',⟨o',e',_,n',d'⟩,_⟩:=I.tuple h';rw[e]at e';cases e';rw[d]at d'
 injection d' with d1 _
 have:its=its':=by simpa using congrArg Array.toList d1
 subst this;exact r.inj r'
end
abbrev Cx.wish (X:Cx)(E:Value->Shared->Prop):Cx:={ X with xe:=E }
abbrev Cx.nox (X:Cx):Cx:=X.wish fun _ _=>False
theorem Cx.Ok.wish {X:Cx}(ok:X.Ok)(E:Value->Shared->Prop):(X.wish E).Ok :=
 ⟨ok.mod,ok.kind,ok.glob,ok.blt,ok.above,ok.inj,ok.has,ok.cab,ok.hd,ok.frames,ok.stk,ok.exf,ok.bs,ok.Zm,ok.Zn,ok.Zo,ok.ES,ok.frf⟩
theorem Cx.Ok.si {X:Cx}{E:Value->Shared->Prop}(ok:(X.wish E).Ok):X.Ok :=
 ⟨ok.mod,ok.kind,ok.glob,ok.blt,ok.above,ok.inj,ok.has,ok.cab,ok.hd,ok.frames,ok.stk,ok.exf,ok.bs,ok.Zm,ok.Zn,ok.Zo,ok.ES,ok.frf⟩
section
variable {X:Cx} {pins:List (Addr×Obj)} {σ:St} {H:Hp} {s:Shared} {E:Value->Shared->Prop}
theorem Inv.wish (I:Inv X pins σ H s)(E:Value->Shared->Prop):Inv (X.wish E) pins σ H s:=⟨I.ok.wish E,I.os,I.bare,I.base,I.loc,I.cell,I.free,I.rA,I.pin,I.hok,I.len⟩
theorem Inv.si (I:Inv (X.wish E) pins σ H s):Inv X pins σ H s:=⟨I.ok.si,I.os,I.bare,I.base,I.loc,I.cell,I.free,I.rA,I.pin,I.hok,I.len⟩
theorem SP.si {D:Ends}{f:Flow}{s':Shared}(h:SP (X.wish E) pins D f s'):SP X pins D f s':=by
 cases f with
 |next=>obtain⟨σ',H',I,q⟩:=h;exact⟨σ',H',I.si,q⟩
 |brk=>obtain⟨σ',H',I,q⟩:=h;exact⟨σ',H',I.si,q⟩
 |cont=>obtain⟨σ',H',I,q⟩:=h;exact⟨σ',H',I.si,q⟩
 |ret u=>obtain⟨v,σ',H',I,r,q⟩:=h;exact⟨v,σ',H',I.si,r,q⟩
theorem PJ.nox {st:List Stmt}{t:TS}(h:PJ X.nox st t):PJ X st t:=fun pins s σ H D I hw =>
 wpAny_mono (h pins s σ H D (I.wish _) hw) (fun _ _ q=>q.si) fun _ _ z=>False.elim z
end
section
variable {X:Cx} {st:Stmt} {rest:List Stmt} {t u:TS} {e:Expr} {te:TE} {pos:Pos}
def akf:TS:=fun D σ H=>D.nx σ H
def afF (t u:TS):TS:=fun D σ H=>t { D with nx:=u D } σ H
theorem aB:PJ X [] akf:=fun _ _ σ H _ I h=>wpAny_execs_nil ⟨σ,H,I,h⟩
theorem ag (h1:PS X st t)(h2:PJ X rest u):PJ X (st::rest) (afF t u):=by
 intro pins s σ H D I h;refine wpAny_execs_cons (cJ (h1 pins s σ H { D with nx:=u D } I h) fun f s1 q=>?_);cases f with
 |next =>
  obtain⟨σ',H',I',q⟩:=q;exact h2 pins s1 σ' H' D I' q
 |ret v=>exact q
 |brk=>exact q
 |cont=>exact q
theorem aj (h1:PS X st t):PJ X [st] t:=by
 intro pins s σ H D I h;refine wpAny_execs_cons (cJ (h1 pins s σ H D I h) fun f s1 q=>?_);cases f with
 |next=>exact wpAny_execs_nil q
 |ret v=>exact q
 |brk=>exact q
 |cont=>exact q
theorem Inv.quiet {pins:List (Addr×Obj)}{σ:St}{H:Hp}{s:Shared}(I:Inv X pins σ H s):interactive X.env=false:=by simp[interactive,I.ok.kind]
def akg (te:TE):TS:=fun D σ H=>te σ H fun _ H1=>D.nx σ H1
theorem bX (he:PE X e te)(hs:swapsWith e none pos.line X.env=pure false:=by rfl):PS X (.Expr e pos) (akg te):=by
 intro pins s σ H D I h;exact wpAny_Expr_any (cJ (he pins s σ H _ I h) fun v s1 ⟨x,H1,I1,r1,q1⟩=>⟨σ,H1,I1,q1⟩) I.quiet hs
def ang (te:TE):TS:=fun D σ H=>te σ H D.rt
theorem ay (he:PE X e te):PS X (.Return (some e) pos) (ang te):=by
 intro pins s σ H D I h;exact wpAny_Return_some (cJ (he pins s σ H _ I h) fun v s1 ⟨x,H1,I1,r1,q1⟩=>⟨x,σ,H1,I1,r1,q1⟩)
def anh (c:TT)(t u:TS):TS:=fun D σ H=>c σ H fun b H1=>if b=true then t D σ H1 else u D σ H1
theorem aO {c:Expr}{a b:List Stmt}{tc:TT}(hc:PT X c tc)(ha:PJ X a t)(hb:PJ X b u):PS X (.If c a b pos) (anh tc t u):=by
 intro pins s σ H D I h;refine wpAny_If (cJ (hc pins s σ H _ I h) fun d s1 ⟨H1,I1,q1⟩=>?_);cases d with
 |true=>exact ha pins s1 σ H1 D I1 q1
 |false=>exact hb pins s1 σ H1 D I1 q1
end
abbrev TG:=V->St->Hp->(St->Hp->Prop)->Prop
abbrev TGs:=List V->St->Hp->(St->Hp->Prop)->Prop
def PG (X:Cx)(target:Expr)(t:TG):Prop :=
 ∀(pins:List (Addr×Obj)) (s:Shared) (σ:St) (H:Hp) (v:V) (u:Value) (Q:St->Hp->Prop),Inv X pins σ H s->RelV v u->t v σ H Q ->
  wpAny (model X.prog X.w) X.A (assign target X.env u) (fun _ s'=>∃ σ' H',Inv X pins σ' H' s'/\Q σ' H') X.xe s
def PGs (X:Cx)(ts:List Expr)(t:TGs):Prop :=
 ∀(pins:List (Addr×Obj)) (s:Shared) (σ:St) (H:Hp) (vs:List V) (us:List Value) (Q:St->Hp->Prop),Inv X pins σ H s->Vals vs us->t vs σ H Q ->
  wpAny (model X.prog X.w) X.A (assignInOrder ((assignEach ts X.env).map (·.2)) us) (fun _ s'=>∃ σ' H',Inv X pins σ' H' s'/\Q σ' H') X.xe s
abbrev aiv:=V->V->V->Hp->(Hp->Prop)->Prop
def akh (X:Cx)(t:aiv):Prop :=
 ∀(pins:List (Addr×Obj)) (s:Shared) (σ:St) (H:Hp) (o i v:V) (ov iv u:Value) (Q:Hp->Prop),Inv X pins σ H s->RelV o ov->RelV i iv->RelV v u->t o i v H Q ->
  wpAny (model X.prog X.w) X.A (setItem ov iv u) (fun _ s'=>∃ H',Inv X pins σ H' s'/\Q H') X.xe s
section
variable {X:Cx} {pos:Pos}
def PL (i:Nat):TG:=fun v σ H Q=>Q (σ.set i (some v)) H
theorem aC {i:Nat}{x:Str}(hN:X.N.Nodup)(hi:X.N[i]? = some x)(hx:Loc X.env.scope x)(hf:X.fn x=true\/X.env.scope.names.lookup x=some .local:=by first|exact .inl rfl|exact .inr rfl|assumption):PG X (.Name x pos) (PL i):=by
 intro pins s σ H v u Q I r h;exact wpAny_assign_Name (xo I hN hi hx r (fun s' I'=>⟨_,H,I',h⟩) hf)
def ani:TGs:=fun vs σ H Q=>vs=[]/\Q σ H
inductive abY (t:TG)(u:TGs)(vs:List V)(σ:St)(H:Hp)(Q:(St->Hp->Prop)):Prop
 |mk (v:_) (r:_) (vh:vs=v::r) (vi:t v σ H fun σ' H'=>u r σ' H' Q):abY t u vs σ H Q
def aki (t:TG)(u:TGs):TGs:=fun vs σ H Q=>abY t u vs σ H Q
theorem bQ:PGs X [] ani:=by
 intro pins s σ H vs us Q I r h;obtain⟨e,h⟩:=h;subst e;cases r;exact assignInOrder_nil ⟨σ,H,I,h⟩
theorem aG {e:Expr}{es:List Expr}{t:TG}{u:TGs}(h1:PG X e t)(h2:PGs X es u)
  (hs:(assignEach (e::es) X.env).map (·.2)=assign e X.env::(assignEach es X.env).map (·.2):=by rfl):PGs X (e::es) (aki t u):=by
 intro pins s σ H vs us Q I r h;obtain⟨v,vr,e1,h⟩:=h;subst e1;cases r with
 |cons r rr =>
  rw[hs];refine assignInOrder_cons (cJ (h1 pins s σ H _ _ _ I r h) fun _ s1 ⟨σ1,H1,I1,q1⟩=>?_);exact h2 pins s1 σ1 H1 _ _ Q I1 rr q1
inductive ahl (K:Frag)(n:Nat)(t:TGs)(v:V)(σ:St)(H:Hp)(Q:(St->Hp->Prop)):Prop
 |mk (a:_) (xs:_) (vh:v=.ref a) (vi:dh K H a xs) (EB:xs.length=n) (RQ:t xs σ H Q):ahl K n t v σ H Q
def anj (K:Frag)(n:Nat)(t:TGs):TG:=fun v σ H Q=>ahl K n t v σ H Q
theorem cU {es:List Expr}{k:Nat}{t:TGs}{n:Nat}(hc:X.calm=true)(h:PGs X es t)
  (hn:(assignEach es X.env).length=n:=by rfl) (hst:(assignEach es X.env).findIdx? (·.1)=none:=by rfl):PG X (.Tuple es k pos) (anj X.K n t):=by
 intro pins s σ H v u Q I r hw;obtain⟨a,xs,e1,hq,hl,hw⟩:=hw;subst e1;cases r;obtain⟨its,rv,ht,hz⟩:=I.tuple hq;refine assign_Tuple_tuple (I.ok.hd hc) ht (by simp[hn,<-hl,rv.length]) hst fun h' hx=>?_;have I1:Inv X pins σ H { s with heap:=h' }:=I.kept (t':=s.toks) fun b o e=>hx b o (Nat.ne_of_lt (T' e)) e;exact h pins _ σ H xs _ Q I1 (by simpa using rv) hw
def ank (to ti:TE)(t:aiv):TG:=fun v σ H Q=>to σ H fun o H1=>ti σ H1 fun i H2=>t o i v H2 fun H3=>Q σ H3
theorem RW {o i:Expr}{to ti:TE}{t:aiv}(ho:PE X o to)(hi:PE X i ti)(hs:akh X t)
  (ha:∀ v,assign (.Subscript o i pos) X.env v=(do
   let ov <-holding [v] (eval o X.env)
   let iv <-holding [v,ov] (eval i X.env)
   standAt pos
   holding [v,ov,iv] (setItem ov iv v)
   release [v,ov,iv] []):=by intro _;rfl):PG X (.Subscript o i pos) (ank to ti t):=by
 intro pins s σ H v u Q I r h;rw[ha];refine S' (wpAny_holding (cJ (ho pins s σ H _ I h) fun ov s1 ⟨x,H1,I1,r1,q1⟩=>?_));refine S' (wpAny_holding (cJ (hi pins s1 σ H1 _ I1 q1) fun iv s2 ⟨y,H2,I2,r2,q2⟩=>?_));refine S' (wpAny_standAt (S' (wpAny_holding (cJ (hs pins s2 σ H2 x y v ov iv u _ I2 r1 r2 r q2) fun _ s3 ⟨H3,I3,q3⟩=>?_))));exact wpAny_release ⟨σ,H3,I3,q3⟩
def aiw (te:TE)(g:TG):TS:=fun D σ H=>te σ H fun x H1=>g x σ H1 D.nx
theorem sj {tg e:Expr}{te:TE}{g:TG}(he:PE X e te)(hg:PG X tg g)(hs:swapsWithSole [tg] e pos.line X.env=pure false:=by rfl)(hw:swappedStores [tg] e X.env=pure none:=by rfl)
  (h1:(assignEach [tg] X.env).map (·.2)=[assign tg X.env]:=by rfl):PS X (.Assign [tg] e pos) (aiw te g):=by
 intro pins s σ H D I h;refine wpAny_Assign_stores (cJ (he pins s σ H _ I h) fun v s1 ⟨x,H1,I1,r1,q1⟩=>?_) hs hw;rw[h1];exact cJ (hg pins s1 σ H1 x v _ I1 r1 q1) fun _ s2 q=>q
theorem aK {i:Nat}{x:Str}{e:Expr}{te:TE}{pos':Pos}(hN:X.N.Nodup)(hi:X.N[i]? = some x)(hx:Loc X.env.scope x)(he:PE X e te)(hs:swapsWith e (some (.Name x pos')) pos.line X.env=pure false:=by rfl)(hf:X.fn x=true\/X.env.scope.names.lookup x=some .local:=by first|exact .inl rfl|exact .inr rfl|assumption) :
  PS X (.Assign [.Name x pos'] e pos) (aiw te (PL i)):=by
 intro pins s σ H D I h;refine wpAny_Assign_Name (cJ (he pins s σ H _ I h) fun v s1 ⟨y,H1,I1,r1,q1⟩=>?_) hs;exact xo I1 hN hi hx r1 (fun s2 I2=>⟨_,H1,I2,q1⟩) hf
def anl (i j:Nat)(ta:TA):TS:=fun D σ H=>ta σ H fun vs H1=>∃ v w,vs=[v,w]/\D.nx ((σ.set i (some v)).set j (some w)) H1
theorem aix {i j:Nat}{x y:Str}{a b:Expr}{ta:TA}{px py pt:Pos}{kt k2 pt2}(hc:X.calm=true)(hN:X.N.Nodup)(hi:X.N[i]? = some x)(hj:X.N[j]? = some y)(hij:i≠j)
  (hx:X.env.scope.names.lookup x=some .local) (hy:X.env.scope.names.lookup y=some .local) (ha:PA X [a,b] ta)
  (hw:swappedStores [.Tuple [.Name x px,.Name y py] kt pt] (.Tuple [a,b] k2 pt2) X.env=pure (some [x,y]))
  (hs:swapsWithSole [.Tuple [.Name x px,.Name y py] kt pt] (.Tuple [a,b] k2 pt2) pos.line X.env=pure false:=by rfl) :
  PS X (.Assign [.Tuple [.Name x px,.Name y py] kt pt] (.Tuple [a,b] k2 pt2) pos) (anl i j ta):=by
 intro pins s σ H D I h;rw[exec_Assign_arm];refine S' (wpAny_standAt ?_);rw[hs];refine S' (j' ?_);rw[L' (by decide)];refine S' (Tuple_ (cJ (ha _ pins s σ H _ I h) fun us s1 ⟨vs,H1,I1,r1,q1⟩=>?_));obtain⟨v,w,e1,q1⟩:=q1;subst e1;obtain⟨u1,u2,rfl,rv,RS⟩:∃ u1 u2,us=[u1,u2]/\RelV v u1/\RelV w u2:=by
  cases r1 with
  |cons p q =>
   cases q with
   |cons p' q' =>
    cases q';exact⟨_,_,rfl,p,p'⟩
 refine wpAny_newObj_type ?_ (by show 2<=sizeLine;decide);have I2:Inv X pins σ H1 { s1 with heap:=s1.heap.push { cls:=.type "tuple",data:=.seq [u1,u2].toArray } }:=I1.kept (t':=s1.toks) fun b o e=>J' _ e;rw[hw];refine S' (j' ?_);show wpAny (model X.prog X.w) X.A (do rule "assign.swapped-stores";let items <-unpackItems (.ref s1.heap.objs.size) 2 none;assignInOrder [fun v=>bindName X.env y v,fun v=>bindName X.env x v] items.reverse;pure Flow.next) _ _ _;refine S' (wpAny_rule (S' (unpackItems_tuple (items:=#[u1,u2]) (I.ok.hd hc) (IsTup.new s1.heap _) fun h' hx'=>?_)));have I3:=I2.kept (h':=h') (t':=s1.toks) fun b o e=>hx' b o (Nat.ne_of_lt (T' e)) e;show wpAny _ _ (assignInOrder [fun v=>bindName X.env y v,fun v=>bindName X.env x v] [u2,u1] >>= fun _=>pure Flow.next) _ _ _;refine S' (assignInOrder_cons (wpAny_bindName (xo I3 hN hj (.inl hy) RS (fun s2 I4=>?_) (.inr hy))));refine assignInOrder_cons (wpAny_bindName (xo I4 hN hi (.inl hx) rv (fun s3 I5=>assignInOrder_nil (j' ?_)) (.inr hx)));rw[List.set_comm _ _ (Ne.symm hij)]at I5;exact⟨_,H1,I5,q1⟩
end
section
variable {X:Cx} {pos:Pos}
def aiy (c:TT)(tb:TS):TS:=fun D σ H=>∃ W:Nat->St->Hp->Prop,(∃ m,W m σ H)/\∀ m σ H,W m σ H ->
 c σ H fun b H1=>if b=true then ∃ N:St->Hp->Prop,(∀ σ' H',N σ' H'->∃ m',m'<m/\W m' σ' H')/\tb { D with nx:=N,ct:=N,bk:=D.nx } σ H1 else D.nx σ H1
theorem ET {c:Expr}{body:List Stmt}{tc:TT}{tb:TS}(hp:PassesOwn (model X.prog X.w) X.A X.env X.xe)(hc:PT X c tc)(hb:PJ X body tb):PS X (.While c body [] pos) (aiy tc tb):=by
 intro pins s σ H D I h;obtain⟨W,⟨m0,w0⟩,turn⟩:=h;refine wpAny_While (codeAny_whileLoop (fun n s'=>∃ σ' H',Inv X pins σ' H' s'/\W n σ' H') ?_ m0 ⟨σ,H,I,w0⟩);rintro n s1 ⟨σ1,H1,I1,w1⟩;refine wpAny_passesOwn hp (cJ (hc pins s1 σ1 H1 _ I1 (turn n σ1 H1 w1)) fun b s2 ⟨H2,I2,q2⟩=>?_);cases b with
 |true =>
  obtain⟨N,hN,q2⟩:=q2;rw[R' rfl];refine wpAny_passesOwn hp (cJ (hb pins s2 σ1 H2 _ I2 q2) fun f s3 q3=>?_);cases f with
  |next =>
   obtain⟨σ3,H3,I3,n3⟩:=q3;obtain⟨m',hm,w3⟩:=hN σ3 H3 n3;exact⟨m',hm,σ3,H3,I3,w3⟩
  |cont =>
   obtain⟨σ3,H3,I3,n3⟩:=q3;obtain⟨m',hm,w3⟩:=hN σ3 H3 n3;exact⟨m',hm,σ3,H3,I3,w3⟩
  |brk=>exact q3
  |ret v=>exact q3
 |false =>
  rw[L' Y'];exact wpAny_execs_nil ⟨σ1,H2,I2,q2⟩
end
structure It where
 go:Nat->Hp->Prop
 RX:Nat->Hp->V->Hp->Prop
 stop:Nat->Hp->Prop
def nX (X:Cx)(pins:List (Addr×Obj))(H:Hp)(b:Addr):Prop :=
 H b=none/\b≠X.env.locals/\b ∉ X.fs/\(b∈X.ex\/X.s₀.heap.objs.size<=b)/\(∀ x c,X.env.cells.lookup x=some c->c≠b)/\∀ p∈X.pn++pins,p.1≠b
theorem Inv.PM {X:Cx}{pins:List (Addr×Obj)}{σ:St}{H H':Hp}{s:Shared}{b:Addr}(I:Inv X pins σ H s)(hb:s.heap.objs.size<=b)(hn:H' b=none):nX X pins H' b:=by
 refine⟨hn,Nat.ne_of_gt (U' I.lt hb),I.am8 hb,.inr (Nat.le_trans I.sz hb),fun x c e z=>?_,fun p hp z=>?_⟩
 ·obtain⟨v,q⟩:=I.cell x c e;exact absurd (U' q.lt (by rw[z];exact hb)) (Nat.lt_irrefl _)
 ·exact absurd (U' (T' (I.pin p hp).1) (by rw[z];exact hb)) (Nat.lt_irrefl _)
structure Turn (P:Program)(w:World)(K:Frag)(tg:Expr)(J:It)(fp:List Addr)(it:Addr)(tn:Nat->Heap->Prop):Prop where
 mem:it∈fp
 obj:∀ i h,tn i h->∀ b∈fp,∃ o,h.get? b=some o/\∀ v,o.data≠.cell v
 keep:∀ i h h',tn i h->(∀ b∈fp,∀ o,h.get? b=some o->h'.get? b=some o)->tn i h'
 item:∀(X:Cx),X.prog=P->X.w=w->X.K=K->X.calm=true->∀(i:Nat)(pins:List (Addr×Obj)) (s:Shared) (σ:St) (H:Hp) (E:Value->Shared->Prop),Inv X pins σ H s->(∀ b∈fp,nX X pins H b)->tn i s.heap->J.go i H ->
  wpAny (model P w) X.A (pyNext (.ref it)) (fun r s1=>∃ u,r=some u /\
   wpAny (model P w) X.A (letOwnedTupleGo tg (.ref it) u) (fun _ s2=>∃ x H',Inv X pins σ H' s2/\RelV x u/\J.RX i H x H'/\tn (i+1) s2.heap/\∀ b∈fp,H' b=none) E s1) E s
 done:∀(X:Cx),X.prog=P->X.w=w->X.K=K->X.calm=true->∀(i:Nat)(pins:List (Addr×Obj)) (s:Shared) (σ:St) (H:Hp) (E:Value->Shared->Prop),Inv X pins σ H s->(∀ b∈fp,nX X pins H b)->tn i s.heap->J.stop i H ->
  wpAny (model P w) X.A (pyNext (.ref it)) (fun r s1=>r=none/\Inv X pins σ H s1) E s
 self:∀(A:Around)(i:Nat)(s:Shared)(Q:Value->Shared->Prop)(E:Value->Shared->Prop),tn i s.heap->Q (.ref it) s->wpAny (model P w) A (pyIter (.ref it)) Q E s
abbrev TI:=St->Hp->(It->Hp->Prop)->Prop
def PIE (X:Cx)(pins:List (Addr×Obj))(σ:St)(tg:Expr)(R:It->Hp->Prop)(itv:Value)(s2:Shared):Prop :=
 ∃(it:Addr)(fp:List Addr)(tn:Nat->Heap->Prop)(J:It)(H':Hp),itv=.ref it/\Inv X pins σ H' s2/\Turn X.prog X.w X.K tg J fp it tn/\tn 0 s2.heap/\(∀ b∈fp,nX X pins H' b)/\R J H'
def PI (X:Cx)(tg iter:Expr)(wi:TI):Prop :=
 ∀(pins:List (Addr×Obj)) (s:Shared) (σ:St) (H:Hp) (R:It->Hp->Prop),Inv X pins σ H s->wi σ H R ->
  wpAny (model X.prog X.w) X.A (eval iter X.env) (fun v s1=>wpAny (model X.prog X.w) X.A (pyIter v) (PIE X pins σ tg R) X.xe s1) X.xe s
theorem X7 {M:Model}{A:Around}{E:Value->Shared->Prop}{s:Shared}{tg:Expr}{it:Addr}{u:Value}{o:Obj}{n:String}{vs:Array Value}{Q:Unit->Shared->Prop}(ho:s.heap.get? it=some o)(hc:o.cls=.type n)(hd:o.data=.fields vs)
  (hn:["enumerate","zip","dict_itemiterator","dict_reverseitemiterator","odict_iterator","itertools.zip_longest","itertools.pairwise"].contains n=false) (hQ:Q () s):wpAny M A (letOwnedTupleGo tg (.ref it) u) Q E s:=by
 unfold letOwnedTupleGo;cases tg <;> first
  |exact j' hQ
  |(cases u <;> first
    |exact j' hQ
    |(refine S' (wpAny_load ho ?_);rw[hc,hd];show wpAny M A (if(["enumerate","zip","dict_itemiterator","dict_reverseitemiterator","odict_iterator","itertools.zip_longest","itertools.pairwise"].contains n&&vs[0]? == some (rawInt _))=true then _ else _) Q E s;rw[L' (by intro h;rw[hn,Bool.false_and]at h;cases h)];exact j' hQ))
def Itl (K:Frag)(a:Addr):It :=
 ⟨fun i H=>∃ xs x,aX K H a xs/\xs[i]? = some x,fun i H x H'=>H'=H/\∀ xs,aX K H a xs->xs[i]? = some x,fun i H=>∃ xs,aX K H a xs/\xs.length<=i⟩
def Itt (K:Frag)(a:Addr):It :=
 ⟨fun i H=>∃ xs x,dh K H a xs/\xs[i]? = some x,fun i H x H'=>H'=H/\∀ xs,dh K H a xs->xs[i]? = some x,fun i H=>∃ xs,dh K H a xs/\xs.length<=i⟩
def Itr (lo:Int)(n:Nat):It:=⟨fun i _=>i<n,fun i H x H'=>H'=H/\x=.int (lo+i),fun i _=>n<=i⟩
theorem Zr {P:Program}{w:World}{K:Frag}{tg:Expr}(a it:Addr):Turn P w K tg (Itl K a) [it] it (fun i h=>h.IsListIter it a i) where
 mem:=by simp
 obj:=fun i h st b hb=>by
  have e:b=it:=by simpa using hb
  subst e;obtain⟨o,e,c,d⟩:=st;exact⟨o,e,fun v z=>by rw[d]at z;cases z⟩
 keep:=fun i h h' st k=>st.at fun o e=>k it (by simp) o e
 item:=by
  intro X hP hw hK hc i pins s σ H E I hf st hg;subst hP hw hK;obtain⟨xs,x,hq,hx⟩:=hg;obtain⟨its,rv,p,hz⟩:=I.list hq;obtain⟨u,hu,ru⟩:=rv.get hx;obtain⟨f0,f1,f2,f3,f4,f5⟩:=hf it (by simp);refine wpAny_pyNext_list_item st p.isList (x:=u) (by simpa using hu) fun h' st' sb=>?_;have I1:Inv X pins σ H { s with heap:=h' }:=I.turned (t':=s.toks) (fun b o hb e=>(sb.2 b hb).trans e) f0 f1 f3 f4 f5;obtain⟨o,e,c,d⟩:=id st';exact⟨u,rfl,X7 (s:={ s with heap:=h' }) e c d (by decide) ⟨x,H,I1,ru,⟨rfl,fun ys hy=>by rw[I.PK hy hq];exact hx⟩,st',fun b hb=>(hf b hb).1⟩⟩
 done:=by
  intro X hP hw hK hc i pins s σ H E I hf st hg;subst hP hw hK;obtain⟨xs,hq,hx⟩:=hg;obtain⟨its,rv,p,hz⟩:=I.list hq;obtain⟨f0,f1,f2,f3,f4,f5⟩:=hf it (by simp);have hl:=rv.length;exact wpAny_pyNext_list_end (I.ok.hd hc) st p.isList (by simp;omega) fun h' eb=>⟨rfl,I.turned (t':=s.toks) (fun b o hb e=>eb b o hb e) f0 f1 f3 f4 f5⟩
 self:=fun _ _ _ _ _ st h=>wpAny_pyIter_listiter st h
theorem RY {P:Program}{w:World}{K:Frag}{tg:Expr}(a it:Addr):Turn P w K tg (Itt K a) [it] it (fun i h=>h.IsTupleIter it a i) where
 mem:=by simp
 obj:=fun i h st b hb=>by
  have e:b=it:=by simpa using hb
  subst e;obtain⟨o,e,c,d⟩:=st;exact⟨o,e,fun v z=>by rw[d]at z;cases z⟩
 keep:=fun i h h' st k=>st.at fun o e=>k it (by simp) o e
 item:=by
  intro X hP hw hK hc i pins s σ H E I hf st hg;subst hP hw hK;obtain⟨xs,x,hq,hx⟩:=hg;obtain⟨its,rv,p,hz⟩:=I.tuple hq;obtain⟨u,hu,ru⟩:=rv.get hx;obtain⟨f0,f1,f2,f3,f4,f5⟩:=hf it (by simp);refine wpAny_pyNext_tuple_item st (show s.heap.IsTuple a its.toArray from p) (x:=u) (by simpa using hu) fun h' st' sb=>?_;have I1:Inv X pins σ H { s with heap:=h' }:=I.turned (t':=s.toks) (fun b o hb e=>(sb.2 b hb).trans e) f0 f1 f3 f4 f5;obtain⟨o,e,c,d⟩:=id st';exact⟨u,rfl,X7 (s:={ s with heap:=h' }) e c d (by decide) ⟨x,H,I1,ru,⟨rfl,fun ys hy=>by rw[I.Zq hy hq];exact hx⟩,st',fun b hb=>(hf b hb).1⟩⟩
 done:=by
  intro X hP hw hK hc i pins s σ H E I hf st hg;subst hP hw hK;obtain⟨xs,hq,hx⟩:=hg;obtain⟨its,rv,p,hz⟩:=I.tuple hq;obtain⟨f0,f1,f2,f3,f4,f5⟩:=hf it (by simp);have hl:=rv.length;exact wpAny_pyNext_tuple_end (I.ok.hd hc) st (show s.heap.IsTuple a its.toArray from p) (by simp;omega) fun h' eb=>⟨rfl,I.turned (t':=s.toks) (fun b o hb e=>eb b o hb e) f0 f1 f3 f4 f5⟩
 self:=fun _ _ _ _ _ st h=>wpAny_pyIter_tupleiter st h
theorem RZ {P:Program}{w:World}{K:Frag}{tg:Expr}(it:Addr)(lo:Int)(n:Nat):Turn P w K tg (Itr lo n) [it] it (fun i h=>IsRangeIter h it (lo+(i:Nat) * 1) ((n:Int)-(i:Nat)) 1) where
 mem:=by simp
 obj:=fun i h st b hb=>by
  have e:b=it:=by simpa using hb
  subst e;exact⟨_,st,fun v z=>by
   have z':Data.fields _=Data.cell v:=z;cases z'⟩
 keep:=fun i h h' st k=>k it (by simp) _ st
 item:=by
  intro X hP hw hK hc i pins s σ H E I hf st hg;subst hP hw hK;obtain⟨f0,f1,f2,f3,f4,f5⟩:=hf it (by simp);have W:=Walks.range (prog:=X.prog) (w:=X.w) (I.ok.hd hc) it lo 1 n;refine W.item i s _ _ hg st fun v h' tk hv st' kk=>?_;obtain⟨t,rfl⟩:=hv;have I1:Inv X pins σ H { s with heap:=h',toks:=tk }:=I.turned (fun b o hb e=>kk b o (by simpa using hb) e) f0 f1 f3 f4 f5;refine⟨_,rfl,X7 (s:={ s with heap:=h',toks:=tk }) (n:="range_iterator") st' rfl rfl (by decide) ⟨.int (lo+i),H,I1,⟨t,?_⟩,⟨rfl,rfl⟩,st',fun b hb=>(hf b hb).1⟩⟩;rw[Int.mul_one]
 done:=by
  intro X hP hw hK hc i pins s σ H E I hf st hg;subst hP hw hK;obtain⟨f0,f1,f2,f3,f4,f5⟩:=hf it (by simp);exact wpAny_pyNext_range_end (I.ok.hd hc) st (by have:n<=i:=hg;omega) fun h' eb=>⟨rfl,I.turned (t':=s.toks) (fun b o hb e=>eb b o hb e) f0 f1 f3 f4 f5⟩
 self:=fun _ _ _ _ _ st h=>wpAny_pyIter_rangeiter st h
end L2
namespace L2
open PySem PySem.Spec PyProof.Rows
section
variable {X:Cx} {tg:Expr}
inductive abZ (K:Frag)(R:(It->Hp->Prop))(x:V)(H1:Hp):Prop
 |mk (a:_) (vh:x=.ref a) (vi:(∃ xs,aX K H1 a xs)/\R (Itl K a) H1):abZ K R x H1
def akj (K:Frag)(tl:TE):TI:=fun σ H R=>tl σ H fun x H1=>abZ K R x H1
inductive ahn (K:Frag)(R:(It->Hp->Prop))(x:V)(H1:Hp):Prop
 |mk (a:_) (vh:x=.ref a) (vi:(∃ xs,dh K H1 a xs)/\R (Itt K a) H1):ahn K R x H1
def ano (K:Frag)(tl:TE):TI:=fun σ H R=>tl σ H fun x H1=>ahn K R x H1
theorem cq {l:Expr}{tl:TE}(hl:PE X l tl):PI X tg l (akj X.K tl):=by
 intro pins s σ H R I h;refine cJ (hl pins s σ H _ I h) fun v s1 ⟨x,H1,I1,r1,q1⟩=>?_;obtain⟨a,e,⟨xs,hq⟩,q⟩:=q1;subst e;cases r1;obtain⟨its,rv,p,hz⟩:=I1.list hq;refine wpAny_pyIter_list p.isList ?_;refine⟨s1.heap.objs.size,[s1.heap.objs.size],_,_,H1,rfl,I1.kept (t':=s1.toks) fun b o e=>J' _ e,Zr a _,⟨_,Heap.get?_push_size _ rfl,rfl,rfl⟩,fun b hb=>?_,q⟩;have e:b=s1.heap.objs.size:=by simpa using hb
 subst e;exact I1.PM (C' _) (I1.hok.fresh (C' _))
theorem Kh {l:Expr}{tl:TE}(hl:PE X l tl):PI X tg l (ano X.K tl):=by
 intro pins s σ H R I h;refine cJ (hl pins s σ H _ I h) fun v s1 ⟨x,H1,I1,r1,q1⟩=>?_;obtain⟨a,e,⟨xs,hq⟩,q⟩:=q1;subst e;cases r1;obtain⟨its,rv,p,hz⟩:=I1.tuple hq;refine wpAny_pyIter_tuple (show s1.heap.IsTuple a its.toArray from p) ?_;refine⟨s1.heap.objs.size,[s1.heap.objs.size],_,_,H1,rfl,I1.kept (t':=s1.toks) fun b o e=>J' _ e,RY a _,⟨_,Heap.get?_push_size _ rfl,rfl,rfl⟩,fun b hb=>?_,q⟩;have e:b=s1.heap.objs.size:=by simpa using hb
 subst e;exact I1.PM (C' _) (I1.hok.fresh (C' _))
theorem ab0 {pins:List (Addr×Obj)}{σ:St}{H:Hp}{s:Shared}{R:It->Hp->Prop}{E:Value->Shared->Prop}{lo hi:Int}{t u v:Tok}{tk:Nat}(I:Inv X pins σ H s)(h1:-(2 ^ 62)<=lo)(h2:lo<2 ^ 62)(h3:-(2 ^ 62)<=hi)(h4:hi<2 ^ 62)
  (q:R (Itr lo (hi-lo).toNat) H):wpAny (model X.prog X.w) X.A (pyIter (.ref s.heap.objs.size)) (PIE X pins σ tg R) E { s with heap:=s.heap.push { cls:=.type "range",data:=.fields #[.int lo t,.int hi u,.int 1 v] },toks:=tk }:=by
 refine wpAny_pyIter_range (IsRange.new ..) (small_one h1 h2 h3 h4) ?_;have I1:Inv X pins σ H { s with heap:=s.heap.push { cls:=.type "range",data:=.fields #[.int lo t,.int hi u,.int 1 v] },toks:=tk }:=I.kept fun b o e=>J' _ e;refine⟨(s.heap.push { cls:=.type "range",data:=.fields #[.int lo t,.int hi u,.int 1 v] }).objs.size,[(s.heap.push { cls:=.type "range",data:=.fields #[.int lo t,.int hi u,.int 1 v] }).objs.size],_,_,H,rfl,
  I1.kept (t':=tk) fun b o e=>J' _ e,RZ _ lo (hi-lo).toNat,?_,fun b hb=>?_,q⟩
 ·have e1:lo+((0:Nat):Int) * 1=lo:=by simp
  have e2:(((hi-lo).toNat:Nat):Int)-((0:Nat):Int)=Builtin.Range.rangeSize lo hi 1:=by rw[rangeSize_one];split <;> omega
  show IsRangeIter _ _ (lo+((0:Nat):Int) * 1) ((((hi-lo).toNat:Nat):Int)-((0:Nat):Int)) 1;rw[e1,e2];exact Heap.get?_push_size _ rfl
 ·have e:b=(s.heap.push { cls:=.type "range",data:=.fields #[.int lo t,.int hi u,.int 1 v] }).objs.size:=by simpa using hb
  subst e;exact I1.PM (C' _) (I1.hok.fresh (C' _))
inductive ab1 (R:(It->Hp->Prop))(vs:List V)(H1:Hp):Prop
 |mk (j:Int) (vh:vs=[.int j]) (vi:-(2 ^ 62)<=j/\j<2 ^ 62/\R (Itr 0 j.toNat) H1):ab1 R vs H1
def akk (ta:TA):TI:=fun σ H R=>ta σ H fun vs H1=>ab1 R vs H1
theorem jG {a:Expr}{ta:TA}{p pos:Pos}(hg:Gl X "range")(hm:X.mg "range"=none)(ha:PA X [a] ta)(hs:starEach [a] X.env=[(false,eval a X.env)]:=by rfl):PI X tg (.Call (.Name "range" p) [a] [] pos) (akk ta):=by
 intro pins s σ H R I h;refine Call_ (vB I hg hm boot_range (PyProof.Rows.callWith_type1 (cJ (ha pos pins s σ H _ I h) fun us s1 ⟨vs,H1,I1,r1,q1⟩=>?_) hs rfl));obtain⟨j,e,q1,q2,q⟩:=q1;subst e;cases r1 with
 |cons r rr =>
  cases rr;obtain⟨t,rfl⟩:=r;exact call_range_1 (ab0 I1 (by omega) (by omega) q1 q2 (by simpa using q))
def anp (wi:TI)(g:TG)(tb:TS):TS:=fun D σ H=>wi σ H fun J H1=>∃ W:Nat->Nat->St->Hp->Prop,(∃ m,W 0 m σ H1)/\∀ i m σ H,W i m σ H ->
 (J.stop i H/\D.nx σ H)\/(J.go i H/\∃ N:St->Hp->Prop,(∀ σ' H',N σ' H'->∃ m',m'<m/\W (i+1) m' σ' H')/\∀ x H',J.RX i H x H'->g x σ H' fun σ2 H2=>tb { D with nx:=N,ct:=N,bk:=D.nx } σ2 H2)
def zL (fp:List Addr)(h:Heap):List (Addr×Obj):=fp.filterMap fun b=>(h.get? b).map fun o=>(b,o)
theorem jH {fp:List Addr}{h:Heap}{b:Addr}{o:Obj}(hb:b∈fp)(e:h.get? b=some o):(b,o)∈zL fp h:=List.mem_filterMap.mpr ⟨b,hb,by rw[e];rfl⟩
theorem Zs {fp:List Addr}{h:Heap}{p:Addr×Obj}(hp:p∈zL fp h):p.1∈fp/\h.get? p.1=some p.2:=by
 obtain⟨b,hb,e⟩:=List.mem_filterMap.mp hp;cases q:h.get? b with
 |none=>rw[q]at e;cases e
 |some o =>
  rw[q]at e;have e':(b,o)=p:=Za' e;subst e';exact⟨hb,q⟩
theorem Inv.pinned {pins:List (Addr×Obj)}{σ:St}{H:Hp}{s:Shared}{fp:List Addr}(I:Inv X pins σ H s)(hf:∀ b∈fp,nX X pins H b)(ho:∀ b∈fp,∃ o,s.heap.get? b=some o/\∀ v,o.data≠.cell v):Inv X (pins++zL fp s.heap) σ H s :=
 I.X5 fun p hp=>(mem_append.mp hp).elim (fun z=>I.pin p (mem_append_right _ z)) fun z=>by
  obtain⟨hb,e⟩:=Zs z;obtain⟨f0,f1,f2,_⟩:=hf p.1 hb;obtain⟨o,e',d⟩:=ho p.1 hb;rw[e]at e';cases e';exact⟨e,f0,f1,f2,d⟩
theorem Inv.l6 {pins pl:List (Addr×Obj)}{σ:St}{H:Hp}{s:Shared}(I:Inv X (pins++pl) σ H s):Inv X pins σ H s:=I.X5 fun p hp=>I.pin p (mem_append_right _ (mem_append_left _ hp))
theorem bW {iter:Expr}{body:List Stmt}{wi:TI}{g:TG}{tb:TS}{pos:Pos}(hp:PassesOwn (model X.prog X.w) X.A X.env X.xe)(hc:X.calm=true)(hi:PI X tg iter wi)(hg:PG X tg g)(hb:PJ X body tb)
  (hs:∀ x,foldedSetIterable iter X.env x=pure x:=by intro _;rfl):PS X (.For tg iter body [] pos) (anp wi g tb):=by
 intro pins s σ H D I h;refine wpAny_For (cJ (hi pins s σ H _ I h) fun v s1 h1=>cJ h1 fun itv s2 h2=>?_) hs;obtain⟨it,fp,tn,J,H2,e,I2,T,st2,f2,W,⟨m0,w0⟩,turn⟩:=h2;subst e;have stat:∀{H':Hp},(∀ b∈fp,H' b=none)->∀ b∈fp,nX X pins H' b:=fun hn b hb=>⟨hn b hb,(f2 b hb).2⟩;refine codeAny_forLoop_any (fun n s'=>∃ i σ' H',Inv X pins σ' H' s'/\tn i s'.heap/\(∀ b∈fp,H' b=none)/\W i n σ' H') ?_ m0 ⟨0,σ,H2,I2,st2,fun b hb=>(f2 b hb).1,w0⟩;rintro n s3 ⟨i,σ3,H3,I3,st3,fr3,w3⟩;rcases turn i n σ3 H3 w3 with ⟨stop,qn⟩|⟨go,N,hN,step⟩
 ·refine wpAny_passesOwn hp (cJ (T.done X rfl rfl rfl hc i pins s3 σ3 H3 X.xe I3 (stat fr3) st3 stop) fun r s4 ⟨hr,I4⟩=>?_);subst hr;exact wpAny_execs_nil ⟨σ3,H3,I4,qn⟩
 ·refine wpAny_passesOwn hp (cJ (T.item X rfl rfl rfl hc i pins s3 σ3 H3 X.xe I3 (stat fr3) st3 go) fun r s4 ⟨u,hr,h4⟩=>?_);subst hr;refine wpAny_passesOwn hp (cJ h4 fun _ s5 ⟨x,H5,I5,r5,y5,Zt,fr5⟩=>?_);have I5':=I5.pinned (stat fr5) (T.obj _ _ Zt);refine wpAny_passesOwn hp (cJ (hg _ s5 σ3 H5 x u _ I5' r5 (step x H5 y5)) fun _ s6 ⟨σ6,H6,I6,q6⟩=>?_);refine wpAny_passesOwn hp (cJ (hb _ s6 σ6 H6 _ I6 q6) fun f s7 q7=>?_);have again:∀{σ7:St} {H7:Hp},Inv X (pins++zL fp s5.heap) σ7 H7 s7->N σ7 H7->∃ m,m<n/\∃ i σ' H',Inv X pins σ' H' s7/\tn i s7.heap/\(∀ b∈fp,H' b=none)/\W i m σ' H':=fun {σ7 H7} I7 n7=>by
   obtain⟨m',hm,w7⟩:=hN σ7 H7 n7;refine⟨m',hm,i+1,σ7,H7,I7.l6,T.keep _ _ _ Zt fun b hb o e=>(I7.pin (b,o) (mem_append_right _ (mem_append_right _ (jH hb e)))).1,fun b hb=>?_,w7⟩;obtain⟨o,e,d⟩:=T.obj _ _ Zt b hb;exact(I7.pin (b,o) (mem_append_right _ (mem_append_right _ (jH hb e)))).2.1
  cases f with
  |next=>obtain⟨σ7,H7,I7,n7⟩:=q7;exact again I7 n7
  |cont=>obtain⟨σ7,H7,I7,n7⟩:=q7;exact again I7 n7
  |brk=>obtain⟨σ7,H7,I7,q7⟩:=q7;exact⟨σ7,H7,I7.l6,q7⟩
  |ret v=>obtain⟨x7,σ7,H7,I7,r7,q7⟩:=q7;exact⟨x7,σ7,H7,I7.l6,r7,q7⟩
end
theorem dD {K:Frag}{a:Addr}{xs:List V}{g:TG}{tb:TS}{D:Ends}{σ:St}{H:Hp}(Pv:Nat->St->Hp->Prop)(h0:Pv 0 σ H)(hl:∀ i σ H,i<=xs.length->Pv i σ H->aX K H a xs)
  (hs:∀ i x σ H,xs[i]? = some x->Pv i σ H->g x σ H fun σ2 H2=>tb { D with nx:=Pv (i+1),ct:=Pv (i+1),bk:=D.nx } σ2 H2) (hd:∀ σ H,Pv xs.length σ H->D.nx σ H) :
  ∃ W:Nat->Nat->St->Hp->Prop,(∃ m,W 0 m σ H)/\∀ i m σ H,W i m σ H ->
   ((Itl K a).stop i H/\D.nx σ H)\/((Itl K a).go i H/\∃ N:St->Hp->Prop,(∀ σ' H',N σ' H'->∃ m',m'<m/\W (i+1) m' σ' H')/\∀ x H',(Itl K a).RX i H x H'->g x σ H' fun σ2 H2=>tb { D with nx:=N,ct:=N,bk:=D.nx } σ2 H2):=by
 refine⟨fun i m σ H=>m=xs.length-i/\i<=xs.length/\Pv i σ H,⟨xs.length,by simp,V' _,h0⟩,?_⟩;rintro i m σ H ⟨rfl,hi,p⟩;have q:=hl i σ H hi p
 by_cases hlt:i<xs.length
 ·refine .inr ⟨⟨xs,xs[i],q,by simp[hlt]⟩,Pv (i+1),fun σ' H' p'=>⟨xs.length-(i+1),by omega,rfl,hlt,p'⟩,fun x H' y=>?_⟩;obtain⟨e,y⟩:=y;subst e;exact hs i x σ _ (y xs q) p
 ·have e:i=xs.length:=by omega
  subst e;exact .inl ⟨⟨xs,q,C' _⟩,hd σ H p⟩
theorem Ki {K:Frag}{a:Addr}{xs:List V}{g:TG}{tb:TS}{D:Ends}{σ:St}{H:Hp}(Pv:Nat->St->Hp->Prop)(h0:Pv 0 σ H)(hl:∀ i σ H,i<=xs.length->Pv i σ H->dh K H a xs)
  (hs:∀ i x σ H,xs[i]? = some x->Pv i σ H->g x σ H fun σ2 H2=>tb { D with nx:=Pv (i+1),ct:=Pv (i+1),bk:=D.nx } σ2 H2) (hd:∀ σ H,Pv xs.length σ H->D.nx σ H) :
  ∃ W:Nat->Nat->St->Hp->Prop,(∃ m,W 0 m σ H)/\∀ i m σ H,W i m σ H ->
   ((Itt K a).stop i H/\D.nx σ H)\/((Itt K a).go i H/\∃ N:St->Hp->Prop,(∀ σ' H',N σ' H'->∃ m',m'<m/\W (i+1) m' σ' H')/\∀ x H',(Itt K a).RX i H x H'->g x σ H' fun σ2 H2=>tb { D with nx:=N,ct:=N,bk:=D.nx } σ2 H2):=by
 refine⟨fun i m σ H=>m=xs.length-i/\i<=xs.length/\Pv i σ H,⟨xs.length,by simp,V' _,h0⟩,?_⟩;rintro i m σ H ⟨rfl,hi,p⟩;have q:=hl i σ H hi p
 by_cases hlt:i<xs.length
 ·refine .inr ⟨⟨xs,xs[i],q,by simp[hlt]⟩,Pv (i+1),fun σ' H' p'=>⟨xs.length-(i+1),by omega,rfl,hlt,p'⟩,fun x H' y=>?_⟩;obtain⟨e,y⟩:=y;subst e;exact hs i x σ _ (y xs q) p
 ·have e:i=xs.length:=by omega
  subst e;exact .inl ⟨⟨xs,q,C' _⟩,hd σ H p⟩
theorem lK {lo:Int}{n:Nat}{g:TG}{tb:TS}{D:Ends}{σ:St}{H:Hp}(Pv:Nat->St->Hp->Prop)(h0:Pv 0 σ H)
  (hs:∀ i σ H,i<n->Pv i σ H->g (.int (lo+i)) σ H fun σ2 H2=>tb { D with nx:=Pv (i+1),ct:=Pv (i+1),bk:=D.nx } σ2 H2) (hd:∀ σ H,Pv n σ H->D.nx σ H) :
  ∃ W:Nat->Nat->St->Hp->Prop,(∃ m,W 0 m σ H)/\∀ i m σ H,W i m σ H ->
   ((Itr lo n).stop i H/\D.nx σ H)\/((Itr lo n).go i H/\∃ N:St->Hp->Prop,(∀ σ' H',N σ' H'->∃ m',m'<m/\W (i+1) m' σ' H')/\∀ x H',(Itr lo n).RX i H x H'->g x σ H' fun σ2 H2=>tb { D with nx:=N,ct:=N,bk:=D.nx } σ2 H2):=by
 refine⟨fun i m σ H=>m=n-i/\i<=n/\Pv i σ H,⟨n,by simp,V' _,h0⟩,?_⟩;rintro i m σ H ⟨rfl,hi,p⟩
 by_cases hlt:i<n
 ·refine .inr ⟨hlt,Pv (i+1),fun σ' H' p'=>⟨n-(i+1),by omega,rfl,hlt,p'⟩,fun x H' y=>?_⟩;obtain⟨e,y⟩:=y;subst e y;exact hs i σ _ hlt p
 ·have e:i=n:=by omega
  subst e;exact .inl ⟨C' _,hd σ H p⟩
end L2
namespace L2
open PySem PySem.Spec PyProof.Rows
abbrev R2:=V->V->Hp->VK->Prop
def sf (X:Cx)(f:Value->Value->Sem Value)(r:R2):Prop :=
 ∀(pins:List (Addr×Obj)) (s:Shared) (σ:St) (H:Hp) (x y:V) (v u:Value) (Q:VK),Inv X pins σ H s->RelV x v->RelV y u->r x y H Q ->
  wpAny (model X.prog X.w) X.A (f v u) (EP X pins σ Q) X.xe s
def UnR (X:Cx)(f:Value->Sem Value)(r:V->Hp->VK->Prop):Prop :=
 ∀(pins:List (Addr×Obj)) (s:Shared) (σ:St) (H:Hp) (x:V) (v:Value) (Q:VK),Inv X pins σ H s->RelV x v->r x H Q ->
  wpAny (model X.prog X.w) X.A (f v) (EP X pins σ Q) X.xe s
def gU (X:Cx)(f:Value)(r:List V->Hp->VK->Prop):Prop :=
 ∀(pins:List (Addr×Obj)) (s:Shared) (σ:St) (H:Hp) (xs:List V) (us:List Value) (Q:VK),Inv X pins σ H s->Vals xs us->r xs H Q ->
  wpAny (model X.prog X.w) X.A (call f us) (EP X pins σ Q) X.xe s
def tOp (r:R2)(ta tb:TE):TE:=fun σ H Q=>ta σ H fun x H1=>tb σ H1 fun y H2=>r x y H2 Q
def tUn (r:V->Hp->VK->Prop)(ta:TE):TE:=fun σ H Q=>ta σ H fun x H1=>r x H1 Q
inductive rII (C:Int->Int->Prop)(g:Int->Int->V)(x:V)(y:V)(H:Hp)(Q:VK):Prop
 |mk (i:_) (j:_) (vh:x=.int i) (vi:y=.int j) (EB:C i j/\Q (g i j) H):rII C g x y H Q
def rI (C:Int->Int->Prop)(g:Int->Int->V):R2:=fun x y H Q=>rII C g x y H Q
inductive akn (g:Int->Int->V)(x:V)(y:V)(H:Hp)(Q:VK):Prop
 |mk (i:_) (j:_) (vh:x=.int i) (vi:y=.int j) (EB:Q (g i j) H):akn g x y H Q
def rI0 (g:Int->Int->V):R2:=fun x y H Q=>akn g x y H Q
def rU (g:Int->V):V->Hp->VK->Prop:=fun x H Q=>∃ i,x=.int i/\Q (g i) H
section
variable {X:Cx} {a b c:Expr} {ta tb tc:TE} {pos:Pos}
theorem aiB (ha:PE X a ta)(hb:PE X b tb){pins:List (Addr×Obj)}{s:Shared}{σ:St}{H:Hp}{R:V->V->Hp->Prop}(I:Inv X pins σ H s)
  (h:ta σ H fun x H1=>tb σ H1 fun y H2=>R x y H2) {Q:Value->Shared->Prop} {f:Value->Value->Sem Value}
  (hf:∀ v u s2 x y H2,Inv X pins σ H2 s2->RelV x v->RelV y u->R x y H2->wpAny (model X.prog X.w) X.A (f v u) Q X.xe s2) :
  wpAny (model X.prog X.w) X.A (eval a X.env) (fun v s₁=>wpAny (model X.prog X.w) X.A (eval b X.env) (fun u s₂=>wpAny (model X.prog X.w) X.A (f v u) Q X.xe s₂) X.xe s₁) X.xe s:=by
 refine cJ (ha pins s σ H _ I h) fun v s1 ⟨x,H1,I1,r1,q1⟩=>?_;refine cJ (hb pins s1 σ H1 _ I1 q1) fun u s2 ⟨y,H2,I2,r2,q2⟩=>?_;exact hf v u s2 x y H2 I2 r1 r2 q2
theorem aJ {op:Operator}{r:R2}(ho:sf X (binaryOp op) r)(ha:PE X a ta)(hb:PE X b tb):PE X (.BinOp a op b pos) (tOp r ta tb):=by
 intro pins s σ H Q I h;exact wpAny_BinOp (aiB ha hb I h fun v u s2 x y H2 I2 rx ry q=>ho pins s2 σ H2 x y v u Q I2 rx ry q)
theorem ab2 {op:UnaryOp}{r:V->Hp->VK->Prop}(ho:UnR X (unaryOp op) r)(ha:PE X a ta):PE X (.UnaryOp op a pos) (tUn r ta):=by
 intro pins s σ H Q I h;exact UnaryOp_ (cJ (ha pins s σ H _ I h) fun v s1 ⟨x,H1,I1,r1,q1⟩=>ho pins s1 σ H1 x v Q I1 r1 q1)
theorem opI {f:Value->Value->Sem Value}{C:Int->Int->Prop}{g:Int->Int->Int}
  (rule:∀(i j:Int)(t u:Tok)(s:Shared)(Q:Value->Shared->Prop)(E:Value->Shared->Prop),C i j->Q (.int (g i j) s.toks) { s with toks:=s.toks+1 }->wpAny (model X.prog X.w) X.A (f (.int i t) (.int j u)) Q E s) :
  sf X f (rI C fun i j=>.int (g i j)):=by
 intro pins s σ H x y v u Q I rx ry h;obtain⟨i,j,rfl,rfl,hc,q⟩:=h;obtain⟨t,rfl⟩:=rx;obtain⟨t',rfl⟩:=ry;exact rule i j t t' s _ _ hc ⟨.int (g i j),H,I.tok _,⟨_,rfl⟩,q⟩
theorem ako {f:Value->Value->Sem Value}{g:Int->Int->Int}
  (rule:∀(i j:Int)(t u:Tok)(s:Shared)(Q:Value->Shared->Prop)(E:Value->Shared->Prop),Q (.int (g i j) s.toks) { s with toks:=s.toks+1 }->wpAny (model X.prog X.w) X.A (f (.int i t) (.int j u)) Q E s) :
  sf X f (rI0 fun i j=>.int (g i j)):=by
 intro pins s σ H x y v u Q I rx ry h;obtain⟨i,j,rfl,rfl,q⟩:=h;obtain⟨t,rfl⟩:=rx;obtain⟨t',rfl⟩:=ry;exact rule i j t t' s _ _ ⟨.int (g i j),H,I.tok _,⟨_,rfl⟩,q⟩
theorem afH {f:Value->Value->Sem Value}{g:Int->Int->Bool}
  (rule:∀(i j:Int)(t u:Tok)(s:Shared)(Q:Value->Shared->Prop)(E:Value->Shared->Prop),Q (.bool (g i j)) s->wpAny (model X.prog X.w) X.A (f (.int i t) (.int j u)) Q E s) :
  sf X f (rI0 fun i j=>.bl (g i j)):=by
 intro pins s σ H x y v u Q I rx ry h;obtain⟨i,j,rfl,rfl,q⟩:=h;obtain⟨t,rfl⟩:=rx;obtain⟨t',rfl⟩:=ry;exact rule i j t t' s _ _ ⟨.bl (g i j),H,I,rfl,q⟩
def anr (i j:Int):Prop:=0<j/\j<1073741824
def ans (i j:Int):Prop:=0<=j/\j<=1000000/\i.natAbs<2 ^ 64
def aiC (i j:Int):Prop:=(-(2 ^ 64)<i/\i<2 ^ 64)\/(-(2 ^ 64)<j/\j<2 ^ 64)
theorem aiC.ok {i j:Int}(h:aiC i j):IntMulOk i j:=by
 rcases h with ⟨h1,h2⟩|⟨h1,h2⟩
 ·exact .of_left (intBits_le_64 h1 h2)
 ·exact .of_right (intBits_le_64 h1 h2)
theorem a9:sf X (binaryOp .Add) (rI0 fun i j=>.int (i+j)):=ako fun _ _ _ _ _ _ _ q=>add_int q
theorem l8:sf X (binaryOp .Sub) (rI0 fun i j=>.int (i-j)):=ako fun _ _ _ _ _ _ _ q=>sub_int q
theorem vC:sf X (binaryOp .Mult) (rI aiC fun i j=>.int (i * j)):=opI fun _ _ _ _ _ _ _ hc q=>mul_int q hc.ok
theorem lH:sf X (binaryOp .FloorDiv) (rI anr fun i j=>.int (i / j)):=opI fun i j _ _ _ _ _ hc q=>by
 have h1:(0:Int)<j:=hc.1;have h2:j<1073741824:=hc.2;exact floordiv_int (by omega) (by rw[Int.fdiv_eq_ediv_of_nonneg i (by omega)];exact q) (.inl (PyProof.noPylong_small (by omega)))
theorem dv:sf X (binaryOp .Mod) (rI (fun _ j=>0<j) fun i j=>.int (i % j)):=opI fun i j _ _ _ _ _ hc q=>by
 have h1:(0:Int)<j:=hc;exact mod_int' (by omega) (by rw[Int.fmod_eq_emod_of_nonneg i (by omega)];exact q)
theorem ab3:sf X (binaryOp .Pow) (rI ans fun i j=>.int (i ^ j.toNat)):=opI fun _ _ _ _ _ _ _ hc q=>pow_int_small hc.1 hc.2.1 hc.2.2 q
theorem unI {f:Value->Sem Value}{g:Int->Int}
  (rule:∀(i:Int)(t:Tok)(s:Shared)(Q:Value->Shared->Prop)(E:Value->Shared->Prop),Q (.int (g i) s.toks) { s with toks:=s.toks+1 }->wpAny (model X.prog X.w) X.A (f (.int i t)) Q E s) :
  UnR X f (rU fun i=>.int (g i)):=by
 intro pins s σ H x v Q I rx h;obtain⟨i,rfl,q⟩:=h;obtain⟨t,rfl⟩:=rx;exact rule i t s _ _ ⟨.int (g i),H,I.tok _,⟨_,rfl⟩,q⟩
theorem R0:UnR X (unaryOp .USub) (rU fun i=>.int (-i)):=unI fun _ _ _ _ _ q=>neg_int q
end
def akp:V->V->Bool
 |.non,.non=>true|.non,.int _=>true|.int _,.non=>true|.non,.bl _=>true|.bl _,.non=>true|.non,.str _=>true|.str _,.non=>true
 |.int _,.int _=>true|.bl _,.bl _=>true|.str _,.str _=>true|.byt _,.byt _=>true
 |.int _,.str _=>true|.str _,.int _=>true|.bl _,.str _=>true|.str _,.bl _=>true
 |_,_=>false
def rEq:R2:=fun x y H Q=>akp x y=true/\Q (.bl (decide (x=y))) H
def rNe:R2:=fun x y H Q=>akp x y=true/\Q (.bl (!decide (x=y))) H
theorem X8 {i j:Int}:decide (V.int i=V.int j)=(i==j):=by
 rw[Bool.eq_iff_iff];simp
theorem ab4 {i j:Bool}:decide (V.bl i=V.bl j)=(i==j):=by
 rw[Bool.eq_iff_iff];simp
theorem X9 {i j:Str}:decide (V.str i=V.str j)=(i==j):=by
 rw[Bool.eq_iff_iff];simp
theorem Yb {i j:Array UInt8}:decide (V.byt i=V.byt j)=(i.toList==j.toList):=by
 rw[Bool.eq_iff_iff];cases i;cases j;simp
section
variable {X:Cx} {a b c:Expr} {ta tb tc:TE} {pos:Pos}
theorem bJ {pins:List (Addr×Obj)}{σ:St}{H:Hp}{s:Shared}{Q:VK}{k k':Bool}(I:Inv X pins σ H s)(q:Q (.bl k) H)(e:k=k'):EP X pins σ Q (.bool k') s:=by
 subst e;exact⟨.bl k,H,I,rfl,q⟩
theorem aL:sf X (compareOp .Eq) rEq:=by
 intro pins s σ H x y v u Q I rx ry h;obtain⟨hs,q⟩:=h;cases x with
 |non =>
  cases rx;cases y with
  |non=>cases ry;exact PySem.EqNone.eq_none_none (bJ I q (by simp))
  |bl j=>cases ry;exact PySem.EqNone.eq_none_bool (bJ I q (by simp))
  |int j=>obtain⟨t',rfl⟩:=ry;exact PySem.EqNone.eq_none_int (bJ I q (by simp))
  |str j=>obtain⟨t',rfl⟩:=ry;exact PySem.EqNone.eq_none_str (bJ I q (by simp))
  |_=>exact absurd (show false=true from hs) Y'
 |bl i =>
  cases rx;cases y with
  |non=>cases ry;exact PySem.EqNone.eq_bool_none (bJ I q (by simp))
  |bl j=>cases ry;exact eq_bool (bJ I q ab4)
  |str j=>obtain⟨t',rfl⟩:=ry;exact PySem.EqMixed.eq_bool_str (bJ I q (by simp))
  |_=>exact absurd (show false=true from hs) Y'
 |int i =>
  obtain⟨t,rfl⟩:=rx;cases y with
  |non=>cases ry;exact PySem.EqNone.eq_int_none (bJ I q (by simp))
  |int j=>obtain⟨t',rfl⟩:=ry;exact eq_int (bJ I q X8)
  |str j=>obtain⟨t',rfl⟩:=ry;exact PySem.EqMixed.eq_int_str (bJ I q (by simp))
  |_=>exact absurd (show false=true from hs) Y'
 |str i =>
  obtain⟨t,rfl⟩:=rx;cases y with
  |non=>cases ry;exact PySem.EqNone.eq_str_none (bJ I q (by simp))
  |bl j=>cases ry;exact PySem.EqMixed.eq_str_bool (bJ I q (by simp))
  |int j=>obtain⟨t',rfl⟩:=ry;exact PySem.EqMixed.eq_str_int (bJ I q (by simp))
  |str j=>obtain⟨t',rfl⟩:=ry;exact eq_str (bJ I q X9)
  |_=>exact absurd (show false=true from hs) Y'
 |byt i =>
  obtain⟨t,rfl⟩:=rx;cases y with
  |byt j=>obtain⟨t',rfl⟩:=ry;exact PySem.W.eq_bytes (bJ I q Yb)
  |_=>exact absurd (show false=true from hs) Y'
 |_=>cases y <;> exact absurd (show false=true from hs) Y'
theorem l9:sf X (compareOp .NotEq) rNe:=by
 intro pins s σ H x y v u Q I rx ry h;obtain⟨hs,q⟩:=h;cases x with
 |non =>
  cases rx;cases y with
  |non=>cases ry;exact PySem.EqNone.ne_none_none (bJ I q (by simp))
  |bl j=>cases ry;exact PySem.EqNone.ne_none_bool (bJ I q (by simp))
  |int j=>obtain⟨t',rfl⟩:=ry;exact PySem.EqNone.ne_none_int (bJ I q (by simp))
  |str j=>obtain⟨t',rfl⟩:=ry;exact PySem.EqNone.ne_none_str (bJ I q (by simp))
  |_=>exact absurd (show false=true from hs) Y'
 |bl i =>
  cases rx;cases y with
  |non=>cases ry;exact PySem.EqNone.ne_bool_none (bJ I q (by simp))
  |bl j=>cases ry;exact ne_bool (bJ I q (congrArg not ab4))
  |str j=>obtain⟨t',rfl⟩:=ry;exact PySem.EqMixed.ne_bool_str (bJ I q (by simp))
  |_=>exact absurd (show false=true from hs) Y'
 |int i =>
  obtain⟨t,rfl⟩:=rx;cases y with
  |non=>cases ry;exact PySem.EqNone.ne_int_none (bJ I q (by simp))
  |int j=>obtain⟨t',rfl⟩:=ry;exact ne_int (bJ I q (congrArg not X8))
  |str j=>obtain⟨t',rfl⟩:=ry;exact PySem.EqMixed.ne_int_str (bJ I q (by simp))
  |_=>exact absurd (show false=true from hs) Y'
 |str i =>
  obtain⟨t,rfl⟩:=rx;cases y with
  |non=>cases ry;exact PySem.EqNone.ne_str_none (bJ I q (by simp))
  |bl j=>cases ry;exact PySem.EqMixed.ne_str_bool (bJ I q (by simp))
  |int j=>obtain⟨t',rfl⟩:=ry;exact PySem.EqMixed.ne_str_int (bJ I q (by simp))
  |str j=>obtain⟨t',rfl⟩:=ry;exact ne_str (bJ I q (congrArg not X9))
  |_=>exact absurd (show false=true from hs) Y'
 |byt i =>
  obtain⟨t,rfl⟩:=rx;cases y with
  |byt j=>obtain⟨t',rfl⟩:=ry;exact PySem.W.ne_bytes (bJ I q (congrArg not Yb))
  |_=>exact absurd (show false=true from hs) Y'
 |_=>cases y <;> exact absurd (show false=true from hs) Y'
theorem rB:sf X (compareOp .Lt) (rI0 fun i j=>.bl (decide (i<j))):=afH fun _ _ _ _ _ _ _ q=>lt_int q
theorem akq:sf X (compareOp .LtE) (rI0 fun i j=>.bl (decide (i<=j))):=afH fun _ _ _ _ _ _ _ q=>le_int q
theorem Jw:sf X (compareOp .Gt) (rI0 fun i j=>.bl (decide (j<i))):=afH fun _ _ _ _ _ _ _ q=>gt_int q
theorem ahp:sf X (compareOp .GtE) (rI0 fun i j=>.bl (decide (j<=i))):=afH fun _ _ _ _ _ _ _ q=>ge_int q
theorem bg:sf X (compareOp .In) (fun x y H Q=>∃ i j,x=.str i/\y=.str j/\Q (.bl (!(Builtin.Str.occurrences j i 0 j.length 1).isEmpty)) H):=by
 intro pins s σ H x y v u Q I rx ry h;obtain⟨i,j,rfl,rfl,q⟩:=h;obtain⟨t,rfl⟩:=rx;obtain⟨t',rfl⟩:=ry;exact in_str (bJ I q rfl)
theorem Kj:sf X (compareOp .Is) (fun x y H Q=>y=.non/\Q (.bl (decide (x=.non))) H):=by
 intro pins s σ H x y v u Q I rx ry h;obtain⟨rfl,q⟩:=h;cases ry;refine is_none_gen (bJ I q ?_);cases x <;> first
  |(cases rx;rfl)
  |(obtain⟨t,rfl⟩:=rx;rfl)
theorem uS:sf X (compareOp .IsNot) (fun x y H Q=>y=.non/\Q (.bl (!decide (x=.non))) H):=by
 intro pins s σ H x y v u Q I rx ry h;obtain⟨rfl,q⟩:=h;cases ry;refine isnot_none_gen (bJ I q ?_);cases x <;> first
  |(cases rx;rfl)
  |(obtain⟨t,rfl⟩:=rx;rfl)
theorem sf.or {f:Value->Value->Sem Value}{r r':R2}(h:sf X f r)(h':sf X f r'):sf X f (fun x y H Q=>r x y H Q\/r' x y H Q):=by
 intro pins s σ H x y v u Q I rx ry q;rcases q with q|q
 ·exact h pins s σ H x y v u Q I rx ry q
 ·exact h' pins s σ H x y v u Q I rx ry q
theorem au (b:Expr){op:CmpOp}(h:op≠.In:=by decide)(h2:op≠.NotIn:=by decide):behindInMarks op b=false:=by
 have e1:(op==CmpOp.In)=false:=by cases op <;> first|rfl|exact absurd rfl h
 have e2:(op==CmpOp.NotIn)=false:=by cases op <;> first|rfl|exact absurd rfl h2
 cases b <;> simp[behindInMarks,e1,e2]
theorem bf {op:CmpOp}{r:R2}(ho:sf X (compareOp op) r)(ha:PE X a ta)(hb:PE X b tb)(hm:behindInMarks op b=false):PE X (.Compare a [op] [b] pos) (tOp r ta tb):=by
 intro pins s σ H Q I h;exact wpAny_Compare1 (aiB ha hb I h fun v u s2 x y H2 I2 rx ry q=>ho pins s2 σ H2 x y v u Q I2 rx ry q) hm
inductive ab5 (Q:(Bool->Hp->Prop))(x:V)(H':Hp):Prop
 |mk (k:_) (vh:x=.bl k) (vi:Q k H'):ab5 Q x H'
def akr (t:TE):TT:=fun σ H Q=>t σ H fun x H'=>ab5 Q x H'
theorem ar {op:CmpOp}{r:R2}(ho:sf X (compareOp op) r)(ha:PE X a ta)(hb:PE X b tb)(hm:behindInMarks op b=false):PT X (.Compare a [op] [b] pos) (akr (tOp r ta tb)):=by
 intro pins s σ H Q I h;refine wpAny_isTrue_Compare1 (cJ (ha pins s σ H _ I h) fun v s1 ⟨x,H1,I1,r1,q1⟩=>cJ (hb pins s1 σ H1 _ I1 q1) fun u s2 ⟨y,H2,I2,r2,q2⟩ =>
  cJ (ho pins s2 σ H2 x y v u _ I2 r1 r2 q2) fun c s3 ⟨z,H3,I3,r3,k,e,q3⟩=>?_) hm
 subst e;cases r3;exact wpAny_truthy_bool ⟨H3,I3,q3⟩
theorem zM:(sizeLine:Nat)<2 ^ 63:=by rw[sizeLine_eq];decide
theorem aF:sf X (binaryOp .Add) (fun x y H Q=>∃ i j,x=.str i/\y=.str j/\i.length+j.length<=sizeLine/\Q (.str (i++j)) H):=by
 intro pins s σ H x y v u Q I rx ry h;obtain⟨i,j,rfl,rfl,hz,q⟩:=h;obtain⟨t,rfl⟩:=rx;obtain⟨t',rfl⟩:=ry;exact add_str (fun t' tk=>⟨.str (i++j),H,I.tok _,⟨_,rfl⟩,q⟩) hz
theorem vals1 {x:V}{us:List Value}(r:Vals [x] us):∃ u,us=[u]/\RelV x u:=by
 cases r with
 |cons r1 r2=>cases r2;exact⟨_,rfl,r1⟩
theorem vals2 {x y:V}{us:List Value}(r:Vals [x,y] us):∃ u w',us=[u,w']/\RelV x u/\RelV y w':=by
 cases r with
 |cons r1 r2 =>
  cases r2 with
  |cons r3 r4=>cases r4;exact⟨_,_,rfl,r1,r3⟩
theorem Zu (hc:X.calm=true):gU X (.builtin "max") (fun xs H Q=>∃ i j,xs=[.int i,.int j]/\Q (.int (if j > i then j else i)) H):=by
 intro pins s σ H xs us Q I r h;obtain⟨i,j,rfl,q⟩:=h;obtain⟨u,w',rfl,⟨t,rfl⟩,⟨t',rfl⟩⟩:=vals2 r;refine max_two_ints (I.ok.hd hc) fun h' tk k=>⟨_,H,I.kept k,?_,q⟩
 by_cases hj:j > i
 ·rw[R' hj,R' hj];exact⟨_,rfl⟩
 ·rw[L' hj,L' hj];exact⟨_,rfl⟩
theorem Zv (hc:X.calm=true):gU X (.builtin "min") (fun xs H Q=>∃ i j,xs=[.int i,.int j]/\Q (.int (if j<i then j else i)) H):=by
 intro pins s σ H xs us Q I r h;obtain⟨i,j,rfl,q⟩:=h;obtain⟨u,w',rfl,⟨t,rfl⟩,⟨t',rfl⟩⟩:=vals2 r;refine min_two_ints (I.ok.hd hc) fun h' tk k=>⟨_,H,I.kept k,?_,q⟩
 by_cases hj:j<i
 ·rw[R' hj,R' hj];exact⟨_,rfl⟩
 ·rw[L' hj,L' hj];exact⟨_,rfl⟩
theorem lL:gU X (.type "int") (fun xs H Q=>(∃ i,xs=[.int i]/\Q (.int i) H)\/∃ k,xs=[.bl k]/\Q (.int (if k then 1 else 0)) H):=by
 intro pins s σ H xs us Q I r h;rcases h with ⟨i,rfl,q⟩|⟨k,rfl,q⟩
 ·obtain⟨u,rfl,t,rfl⟩:=vals1 r;exact call_int_int ⟨.int i,H,I,⟨_,rfl⟩,q⟩
 ·obtain⟨u,rfl,r1⟩:=vals1 r;cases r1;exact call_int_bool ⟨.int (if k then 1 else 0),H,I.tok _,⟨_,rfl⟩,q⟩
theorem Kk:gU X (.type "str") (fun xs H Q=>∃ i,xs=[.int i]/\i.natAbs.log2<1920/\Q (.str (toString i)) H):=by
 intro pins s σ H xs us Q I r h;obtain⟨i,rfl,hz,q⟩:=h;obtain⟨u,rfl,t,rfl⟩:=vals1 r;exact PySem.P.str_of_int hz ⟨.str _,H,I.tok _,⟨_,rfl⟩,q⟩
end
end L2
namespace L2
open PySem PySem.Spec PyProof.Rows
structure aiD (h:Heap)(x dx C:Addr)(mA:Str->Option Value):Prop where
 obj:h.get? x=some (instObj C dx)
 ns:h.Ns1 dx mA
 ne:dx≠x
theorem Zw {h:Heap}{dx:Addr}{mA:Str->Option Value}(n:h.Ns1 dx mA):∃ od,h.get? dx=some od/\∀ name,lookIn name od=some (mA name):=by
 obtain⟨o,es,ep,ho,hd,hk,_,hm⟩:=n;refine⟨o,ho,fun name=>?_⟩;have e:=hm name;unfold nsFind findBy at e;rw[<-Array.find?_toList]at e;unfold lookIn;rw[hd];dsimp only;split
 ·rename_i y q
  rw[q]at e;exact congrArg some e
 ·rename_i q
  rw[q]at e;have a:es.toList.any (·.refKey)=false:=by
   rw[List.any_eq_false];intro y hy;obtain⟨z,t,hkey⟩:=hk y (Array.mem_toList_iff.mp hy);simp[DictEntry.refKey,hkey]
  have a':¬ es.toList.any (·.refKey)=true:=by rw[a];exact Y'
  rw[L' a'];exact congrArg some e
theorem aiD.look {h:Heap}{x dx C:Addr}{mA:Str->Option Value}(I:aiD h x dx C mA):∃ od,PySem.W.InstAt h x (instObj C dx) C (some od)/\∀ name,lookIn name od=some (mA name) :=
 let ⟨od,ho,hl⟩:=Zw I.ns
 ⟨od,⟨I.obj,rfl,rfl,ho⟩,hl⟩
section
variable {prog:Program} {w:World} {A:Around} {E:Value->Shared->Prop} {s:Shared} {K:Frag} {x dx C f:Addr} {mA:Str->Option Value} {name:Str} {v:Value}
end
theorem oG.some_of {v:V}{o:Option Value}(r:oG (some v) o):∃ u,o=some u/\RelV v u:=by
 cases o with
 |none=>exact(show False from r).elim
 |some u=>exact⟨u,rfl,r⟩
section
variable {P:Program} {w:World} {H H':Hp} {h h':Heap} {a C dx:Addr} {fs fs':List (Str×V)}
theorem afI (hok:vb P w H h)(e:H a=some (.ins C dx fs)):∃ mA,aiD h a dx C mA/\(∀ f,oG (fs.lookup f) (mA f))/\PySem.Within mA (fs.map (·.1))/\fs.length<=1000/\H dx=some (.own a):=by
 obtain⟨d,z,ne,ob,mA,n,r,q⟩:=(show cH P w H h a (.ins C dx fs) from hok a _ e);exact⟨mA,⟨ob,n,ne⟩,r,q,z,d⟩
end
structure Cls (K:Frag)(C:Addr):Prop where
 pg:plainGet K C Str.empty=true
 hd:PySem.W.hasDictIn K C=true
 po:PySem.W.plainOver K C=true
 sa:findIn K (.ref C) "__setattr__"=some (some (.builtin "object.__setattr__"))
theorem Cls.get {K:Frag}{C:Addr}(c:Cls K C)(f:Str):plainGet K C f=true:=c.pg
section
variable {X:Cx} {pins:List (Addr×Obj)} {σ:St} {H:Hp} {s:Shared} {a C dx:Addr} {fs:List (Str×V)} {f:Str} {v:V} {A:Around} {E:Value->Shared->Prop}
end
section
variable {X:Cx} {o e value:Expr} {f:Str} {pos pos' tpos:Pos} {ta tv:TE}
end
section
variable {X:Cx} {pins:List (Addr×Obj)} {σ:St} {H:Hp} {s:Shared} {A:Around} {E:Value->Shared->Prop} {Q:Value->Shared->Prop} {c:Value} {b:Bool}
inductive oH (K:Frag)(H:Hp):V->Value->Prop where
 |non:oH K H .non (.type "NoneType")
 |bl (x:Bool):oH K H (.bl x) (.type "bool")
 |int (i:Int):oH K H (.int i) (.type "int")
 |str (x:Str):oH K H (.str x) (.type "str")
 |flt (x:UInt64):oH K H (.flt x) (.type "float")
 |lst {a:Addr} {xs:List V} (e:H a=some (.lst xs)):oH K H (.ref a) (.type "list")
 |fe {a:Addr} {o:Obj} {xs:List V} (e:H a=some (.fe o (.lst xs))):oH K H (.ref a) (.type "list")
 |tup {a:Addr} {xs:List V} (e:H a=some (.tup xs)):oH K H (.ref a) (.type "tuple")
 |dK {a:Addr} {kvs:List (Key×V)} (e:H a=some (.dK kvs)):oH K H (.ref a) (.type "dict")
 |dT {a:Addr} {kvs:List (List Key×V)} (e:H a=some (.dT kvs)):oH K H (.ref a) (.type "dict")
 |ins {a C dx:Addr} {fs:List (Str×V)} (e:H a=some (.ins C dx fs)) (cl:Cls K C) (ha:findIn K (.ref C) "__class__"=some (some (.builtin "object.__class__")))
   (hn:specialIn K (.builtin "object.__class__") "__get__"=some (some (.builtin "getset_descriptor.__get__"))) (htk:PySem.W.takesIn K (.builtin "object.__class__")=some true)
   (hm:mroIn K C (.type "object")=some true):oH K H (.ref a) (.ref C)
theorem Zx {x:V}{u t:Value}(I:Inv X pins σ H s)(rx:RelV x u)(ty:oH X.K H x t)(e:kitOne X.K t c=some b)(h:∀ tk,Q (.bool b) { s with toks:=tk }) :
  wpAny (model X.prog X.w) A (call (.builtin "isinstance") [u,c]) Q E s:=by
 cases ty with
 |non=>cases (show u=Value.none from rx);exact kia_one PySem.W.kitx_none I.Ho True.intro e (fun z=>nomatch z) h
 |bl y=>cases (show u=Value.bool y from rx);exact kia_one PySem.W.kitx_bool I.Ho True.intro e (fun z=>nomatch z) h
 |int i=>obtain⟨t,q⟩:=(show ∃ t,u=Value.int i t from rx);cases q;exact kia_one PySem.W.kitx_int I.Ho True.intro e (fun z=>nomatch z) h
 |str y=>obtain⟨t,q⟩:=(show ∃ t,u=Value.str y t from rx);cases q;exact kia_one PySem.W.kitx_str I.Ho True.intro e (fun z=>nomatch z) h
 |flt y=>obtain⟨t,q⟩:=(show ∃ t,u=Value.float y t from rx);cases q;exact kia_one PySem.W.kitx_float I.Ho True.intro e (fun z=>nomatch z) h
 | @lst a xs ea =>
  cases (show u=Value.ref a from rx);obtain⟨_,_,n,_,h1⟩:=(show cH X.prog X.w H s.heap a (.lst xs) from I.hok a _ ea);exact kia_one kitx_list I.Ho ⟨_,h1,rfl⟩ e (fun z=>nomatch z) h
 | @fe a ob xs ea =>
  cases (show u=Value.ref a from rx);obtain⟨_,_,_,n,_,h1⟩:=(show cH X.prog X.w H s.heap a (.fe ob (.lst xs)) from I.hok a _ ea);exact kia_one kitx_list I.Ho ⟨_,h1,rfl⟩ e (fun z=>nomatch z) h
 | @tup a xs ea =>
  cases (show u=Value.ref a from rx);obtain⟨_,_,_,p⟩:=(show cH X.prog X.w H s.heap a (.tup xs) from I.hok a _ ea);obtain⟨o,h1,h2,_⟩:=p;exact kia_one PySem.W.kitx_tuple I.Ho ⟨o,h1,h2⟩ e (fun z=>nomatch z) h
 | @dK a kvs ea =>
  cases (show u=Value.ref a from rx);obtain⟨_,_,vs,_,p⟩:=(show cH X.prog X.w H s.heap a (.dK kvs) from I.hok a _ ea);obtain⟨o,es,ep,h1,h2,_⟩:=p;exact kia_one kitx_dict I.Ho ⟨o,h1,h2.1⟩ e (fun z=>nomatch z) h
 | @dT a kvs ea =>
  cases (show u=Value.ref a from rx);obtain⟨_,_,xs,_,o,es,ep,h1,h2,_⟩:=(show cH X.prog X.w H s.heap a (.dT kvs) from I.hok a _ ea);exact kia_one kitx_dict I.Ho ⟨o,h1,h2.1⟩ e (fun z=>nomatch z) h
 | @ins a C dx fs ea cl ha hn htk hm =>
  cases (show u=Value.ref a from rx);obtain⟨mA,O,_⟩:=afI I.hok ea;obtain⟨od,J,_⟩:=O.look;exact kia_one (PySem.W.kitx_own (cl.get _) cl.hd ha hn htk hm) I.Ho J e (fun z=>nomatch z) h
end
end L2
namespace L2
open PySem PySem.Spec PyProof.Rows
structure ma (k:Nat)(A:Around):Prop where
 hd:A.handled=none
 dp:A.depth+3 * k+5<recursionLimit
 un:A.units+16 * k+200<cLine
theorem ma.mono {j k:Nat}{A:Around}(r:ma k A)(h:j<=k):ma j A:=⟨r.hd,by have:=r.dp;omega,by have:=r.un;omega⟩
theorem ma.deeper {k:Nat}{A:Around}(r:ma (k+1) A)(env:Env):ma k (A.deeper env) :=
 ⟨r.hd,by have:=r.dp;show A.depth+1+3 * k+5<_;omega,by have:=r.un;show A.units+3+16 * k+200<_;omega⟩
theorem ma.depth {k:Nat}{A:Around}(r:ma k A):A.depth<recursionLimit:=by have:=r.dp;omega
theorem ma.units {k:Nat}{A:Around}(r:ma k A):A.units+64<cLine:=by have:=r.un;omega
def ab7:TA:=fun _ H Q=>Q [] H
def BW (ta:TE)(tr:TA):TA:=fun σ H Q=>ta σ H fun x H1=>tr σ H1 fun xs H2=>Q (x::xs) H2
section
variable {X:Cx} {e:Expr} {es:List Expr} {te:TE} {t:TA} {pos:Pos}
theorem ao:PA X [] ab7:=fun _ _ _ _ H Q I h=>Calls.spliced_nil ⟨[],H,I,.nil,h⟩
theorem aa (ha:PE X e te)(hr:PA X es t)(hs:starEach (e::es) X.env=(false,eval e X.env)::starEach es X.env:=by rfl):PA X (e::es) (BW te t):=by
 intro pos pins s σ H Q I h;rw[hs];show wpAny _ _ (spliced ((false,eval e X.env)::backTo pos (starEach es X.env))) _ _ s;refine Calls.spliced_cons (cJ (ha pins s σ H _ I h) fun u s1 ⟨x,H1,I1,r1,q1⟩=>?_);exact cJ (hr pos pins s1 σ H1 _ I1 q1) fun us s2 ⟨xs,H2,I2,r2,q2⟩=>⟨x::xs,H2,I2,.cons r1 r2,q2⟩
def ant (t:TA):TE:=fun σ H Q=>t σ H fun xs H1=>xs.length<=sizeLine/\∀ p,H1 p=none->Q (.ref p) (upd H1 p (.tup xs))
def anu (t:TA):TE:=fun σ H Q=>t σ H fun xs H1=>xs.length<=sizeLine/\∀ p,H1 p=none->Q (.ref p) (upd H1 p (.lst xs))
theorem bY {x1}(h:PA X es t):PE X (.Tuple es x1 pos) (ant t):=by
 intro pins s σ H Q I hq;refine wpAny_Tuple_spliced (cJ (h pos pins s σ H _ I hq) fun us s1 ⟨xs,H1,I1,r,z,q⟩=>⟨by rw[<-r.length];exact z,?_⟩);have hf:H1 s1.heap.objs.size=none:=I1.hok.fresh (C' _);refine⟨.ref s1.heap.objs.size,upd H1 s1.heap.objs.size (.tup xs),I1.laid (t':=s1.toks) (fun b u e=>J' _ e) (C' _) ?_,rfl,q _ hf⟩;exact⟨z,us,r,⟨_,Heap.get?_push_size _ rfl,rfl,_,rfl⟩⟩
theorem c8 (h:PA X es t):PE X (.List es pos) (anu t):=by
 intro pins s σ H Q I hq;refine wpAny_List_spliced (cJ (h pos pins s σ H _ I hq) fun us s1 ⟨xs,H1,I1,r,z,q⟩=>⟨by rw[<-r.length];exact z,?_⟩);have hf:H1 s1.heap.objs.size=none:=I1.hok.fresh (C' _);refine⟨.ref s1.heap.objs.size,upd H1 s1.heap.objs.size (.lst xs),I1.laid (t':=s1.toks) (fun b u e=>J' _ e) (C' _) ?_,rfl,q _ hf⟩;exact⟨z,us,0,r,Heap.get?_push_size _ rfl⟩
end
abbrev Sp:=List V->Hp->VK->XK->Prop
abbrev CXT:=List Env->Hp->Shared->XK->Value->Shared->Prop
structure afJ (P:Program)(w:World)(K:Frag)(mg:Str->Option Value)(base:Heap)(A:Around)(outer:List Env)(s:Shared)(H:Hp):Prop where
 frames:A.frames=some outer
 mod:Mod K mg base
 bs:∀ b o,base.get? b=some o->s.heap.get? b=some o/\H b=none
 Zm:base.objs.size<=s.heap.objs.size
 ES:s.heap.FunFrames base outer
 frf:∀ b∈frs outer,H b=none
 hok:vb P w H s.heap
 bare:AllBare s.gens
def CE (outer:List Env)(P:Program)(w:World)(H:Hp)(s:Shared)(Q:VK)(u:Value)(s':Shared):Prop :=
 ∃ v H',s'.os=s.os/\AllBare s'.gens/\Un (frs outer) [] H H' s.heap s'.heap/\vb P w H' s'.heap/\RelV v u/\Q v H'
def CR (CX:CXT)(outer:List Env)(P:Program)(w:World)(H:Hp)(s:Shared)(Q:VK)(E:XK)(r:Result)(s':Shared):Prop :=
 match r with
 |.ok (.ret u)=>CE outer P w H s Q u s'
 |.ok _=>False
 |.error e=>CX outer H s E e s'
structure bK (P:Program)(w:World)(K:Frag)(mg:Str->Option Value)(base:Heap)(CX:CXT)(k:Nat)(f:Addr)(fd:FuncData)(ps:List Str)(sp:Sp):Prop where
 len:∀ vs H Q E,sp vs H Q E->vs.length=ps.length
 run:∀(A:Around)(outer:List Env)(s:Shared)(H:Hp)(args:Args)(us:List Value)(vs:List V)(Q:VK)(E:XK),ma k A->afJ P w K mg base A outer s H->BindsTo s fd args (ps.zip us)->Vals vs us->sp vs H Q E ->
  codeAny (model P w) A (.call (.ref f) args) (CR CX outer P w H s Q E) s
section
variable {X:Cx} {pins:List (Addr×Obj)} {σ:St} {H:Hp} {s s':Shared}
theorem Inv.env0 (I:Inv X pins σ H s):afJ X.prog X.w X.K X.mg X.base X.A X.stack s H :=
 ⟨I.ok.frames,I.ok.mod,I.bs,Nat.le_trans I.ok.Zm I.sz,I.stack,I.Kf,I.hok,I.bare⟩
theorem Inv.after {Q:VK}{u:Value}(I:Inv X pins σ H s)(h:CE X.stack X.prog X.w H s Q u s'):EP X pins σ Q u s':=by
 obtain⟨v,H',os,bare,un,hok,r,q⟩:=h;obtain⟨hh,g,d,t,os'⟩:=s';obtain rfl:os'=s.os:=os;exact⟨v,H',I.call (h':=hh) (g':=g) (d':=d) (t':=t) (ch:=[]) un hok bare (fun b z=>absurd z (by simp)),r,q⟩
end
def ahq (sp:Sp)(PB:List V)(E:XK)(t:TA):TE:=fun σ H Q=>t σ H fun vs H1=>sp (vs++PB) H1 Q E
def Binds (K:Frag)(fd:FuncData)(ps:List Str)(ds:List Value):Prop :=
 ∀(s:Shared)(us:List Value),K.In s.heap->(us++ds).length=ps.length->BindsTo s fd ⟨us,[]⟩ (ps.zip (us++ds))
theorem Binds.all {K:Frag}{fd:FuncData}{ps:List Str}(h:∀ us:List Value,us.length=ps.length->bindArgs fd ⟨us,[]⟩=pure (ps.zip us)):Binds K fd ps []:=fun s us _ hl=>by
 rw[append_nil]at hl ⊢;exact .of_eq (h us hl)
def Passes (CX:CXT)(X:Cx)(E:XK):Prop:=∀(pins:List (Addr×Obj)) (σ:St) (H:Hp) (s:Shared) (e:Value) (s':Shared),Inv X pins σ H s->CX X.stack H s E e s'->X.xe e s'
section
variable {X:Cx} {CX:CXT} {k:Nat} {f C:Addr} {fd:FuncData} {ps:List Str} {sp:Sp} {PB:List V} {ds:List Value} {E:XK} {x m:Str} {p pos apos:Pos} {e o:Expr} {es:List Expr} {ta:TE} {t:TA}
theorem ab9 {pins:List (Addr×Obj)}{σ:St}{H:Hp}{s:Shared}{Q:VK}{us:List Value}{vs:List V}(F:bK X.prog X.w X.K X.mg X.base CX k f fd ps sp)(hr:ma k X.A)(hb:Binds X.K fd ps ds)(hd:Vals PB ds)(hx:Passes CX X E)
  (I:Inv X pins σ H s) (r:Vals vs us) (h:sp (vs++PB) H Q E):wpAny (model X.prog X.w) X.A (call (.ref f) us) (EP X pins σ Q) X.xe s:=by
 have r2:Vals (vs++PB) (us++ds):=r.append hd;have hl:(us++ds).length=ps.length:=by rw[<-r2.length];exact F.len _ _ _ _ h
 refine wpAny_call (codeAny_mono (F.run X.A X.stack s H ⟨us,[]⟩ (us++ds) (vs++PB) Q E hr I.env0 (hb s us I.Ho hl) r2 h) fun r s' hq=>?_);cases r with
 |error e=>exact hx pins σ H s e s' I hq
 |ok fl =>
  cases fl with
  |ret u=>exact I.after hq
  |next=>exact False.elim hq
  |brk=>exact False.elim hq
  |cont=>exact False.elim hq
theorem aA (F:bK X.prog X.w X.K X.mg X.base CX k f fd ps sp)(hr:ma k X.A)(hg:Gl X x)(hm:X.mg x=some (.ref f))(hk:keepIn X.K (.ref f)=true)(hb:Binds X.K fd ps ds)(hd:Vals PB ds)(hx:Passes CX X E)
  (ha:PA X (e::es) t) (hdb:(x==("__debug__":Str))=false:=by decide) (he:starEach (e::es) X.env=(false,eval e X.env)::starEach es X.env:=by rfl) (hpl:(backTo pos (starEach es X.env)).any (·.1)=false:=by rfl) :
  PE X (.Call (.Name x p) (e::es) [] pos) (ahq sp PB E t):=by
 intro pins s σ H Q I h;refine wpAny_Call_Name_kw (Kg I hg hm ?_ hdb);refine PySem.W.callWith_K (h₀:=X.base) I.ok.mod.kin hk (cJ (ha pos pins s σ H _ I h) fun us s1 ⟨vs,H1,I1,r,q⟩=>⟨I1.Ho,?_⟩) he hpl;exact ab9 F hr hb hd hx I1 r q
theorem PN (F:bK X.prog X.w X.K X.mg X.base CX k f fd ps sp)(hr:ma k X.A)(hg:Gl X x)(hm:X.mg x=some (.ref f))(hk:keepIn X.K (.ref f)=true)(hb:Binds X.K fd ps ds)(hd:Vals PB ds)(hx:Passes CX X E)
  (hdb:(x==("__debug__":Str))=false:=by decide):PE X (.Call (.Name x p) [] [] pos) (ahq sp PB E ab7):=by
 intro pins s σ H Q I h;refine wpAny_Call_Name_kw (Kg I hg hm ?_ hdb);exact PySem.W.callWith_K0 I.Ho hk (ab9 (us:=[]) F hr hb hd hx I .nil h)
end
section
variable {X:Cx} {CX:CXT} {k:Nat} {f C:Addr} {fd:FuncData} {ps ks:List Str} {sp:Sp} {E:XK} {x m:Str} {p pos apos aqA:Pos} {e o:Expr} {es:List Expr} {kws:List Keyword} {te ta:TE} {t tk:TA} {nm:Option Str}
variable {g:List Value->List Value->List Value} {gV:List V->List V->List V}
end
structure aH (N P:List Str)(sc:Scope):Prop where
 kind:sc.kind=.function
 co:sc.isCoroutine=false
 gen:sc.isGenerator=false
 nd:N.Nodup
 pre:N.take P.length=P
 par:∀ x∈P,sc.names.lookup x=some .local\/sc.names.lookup x=some .cell
 aiF:∀ y∈sc.names,y.2≠.free
theorem Jx {kindOf:Str->Option NameKind}{x:Str}:∀{binds:List (Str×Value)} {m:Str->Option Value},(∀ v,(x,v) ∉ binds)->bindL kindOf binds m x=m x
 |[],_,_=>rfl
 |(n,v)::r,m,h=>by
  unfold bindL;rw[Jx fun w hw=>h w (Zb' _ hw)];split
  ·have:x≠n:=by rintro rfl;exact h v mem_cons_self
   simp[this]
  ·rfl
theorem Jy {kindOf:Str->Option NameKind}{x:Str}:∀{binds:List (Str×Value)} {m:Str->Option Value},(∀ v,(x,v) ∉ binds)->bindC kindOf binds m x=m x
 |[],_,_=>rfl
 |(n,v)::r,m,h=>by
  unfold bindC;rw[Jy fun w hw=>h w (Zb' _ hw)];split
  ·rfl
  ·have:x≠n:=by rintro rfl;exact h v mem_cons_self
   simp[this]
theorem Jz {kindOf:Str->Option NameKind}{x:Str}{v:Value}:∀{P:List Str} {vs:List Value} {i:Nat} {m:Str->Option Value},P.Nodup->P[i]? = some x->vs[i]? = some v->kindOf x=some .local ->
  bindL kindOf (P.zip vs) m x=some v
 |[],_,_,_,_,h,_,_=>by simp at h
 |_::_,[],_,_,_,_,h,_=>by simp at h
 |p::P,w::vs,0,m,nd,h1,h2,hk=>by
  simp at h1 h2;subst h1;subst h2;show bindL kindOf ((p,w)::P.zip vs) m p=_;unfold bindL;rw[Jx fun v hv=>(List.nodup_cons.mp nd).1 (List.of_mem_zip hv).1,R' hk];simp
 |p::P,w::vs,i+1,m,nd,h1,h2,hk=>by
  show bindL kindOf ((p,w)::P.zip vs) m x=_;unfold bindL;exact Jz (i:=i) (List.nodup_cons.mp nd).2 (by simpa using h1) (by simpa using h2) hk
theorem JA {kindOf:Str->Option NameKind}{x:Str}{v:Value}:∀{P:List Str} {vs:List Value} {i:Nat} {m:Str->Option Value},P.Nodup->P[i]? = some x->vs[i]? = some v->kindOf x≠some .local ->
  bindC kindOf (P.zip vs) m x=some v
 |[],_,_,_,_,h,_,_=>by simp at h
 |_::_,[],_,_,_,_,h,_=>by simp at h
 |p::P,w::vs,0,m,nd,h1,h2,hk=>by
  simp at h1 h2;subst h1;subst h2;show bindC kindOf ((p,w)::P.zip vs) m p=_;unfold bindC;rw[Jy fun v hv=>(List.nodup_cons.mp nd).1 (List.of_mem_zip hv).1,L' hk];simp
 |p::P,w::vs,i+1,m,nd,h1,h2,hk=>by
  show bindC kindOf ((p,w)::P.zip vs) m x=_;unfold bindC;exact JA (i:=i) (List.nodup_cons.mp nd).2 (by simpa using h1) (by simpa using h2) hk
def start (N:List Str)(vs:List V):St:=vs.map some++List.replicate (N.length-vs.length) none
def PQ (CX:CXT)(P:Program)(w:World)(K:Frag)(mg:Str->Option Value)(base:Heap)(N:List Str)(qual:Str)(scope:Scope)(f:Addr)(cd:Value)(A:Around)(outer:List Env)(s:Shared)(H:Hp)(E:XK):Cx where
 prog:=P
 w:=w
 K:=K
 mg:=mg
 base:=base
 A:=A.deeper (envOfC qual scope s.heap.objs.size f cd)
 N:=N
 s₀:=s
 H₀:=H
 env:=envOfC qual scope s.heap.objs.size f cd
 outer:=outer
 stack:=envOfC qual scope s.heap.objs.size f cd::outer
 ex:=[]
 calm:=true
 fn:=fun _=>true
 pn:=[]
 xe:=fun e s'=>wpAny (model P w) (A.deeper (envOfC qual scope s.heap.objs.size f cd)) (leaving (envOfC qual scope s.heap.objs.size f cd) e) (fun _ s''=>CX outer H s E e s'') (fun e' s''=>CX outer H s E e' s'') s'
theorem PR {sc:Scope}{n:Nat}{x:Str}(h:sc.names.lookup x=some .cell):∃ c,(cellsFrom n sc.names []).lookup x=some c:=by
 have q:=PySem.W.cellsFrom_some sc.names n [] (.inl h);exact Option.isSome_iff_exists.mp q
theorem Zy {CX:CXT}{P:Program}{w:World}{K:Frag}{mg:Str->Option Value}{base:Heap}{N ps:List Str}{qual:Str}{scope:Scope}{f:Addr}{cd:Value}{A:Around}{outer:List Env}{s s1:Shared}{H:Hp}{E:XK}{us:List Value}{vs:List V}
  (S:aH N ps scope) (hd:A.handled=none) (e0:afJ P w K mg base A outer s H) (hl:vs.length=ps.length) (r:Vals vs us)
  (x:InCallC s s.heap.objs.size (bindL (envOfC qual scope s.heap.objs.size f cd).kindOf (ps.zip us) fun _=>none) (cellsFrom (s.heap.objs.size+1) scope.names []) (bindC (envOfC qual scope s.heap.objs.size f cd).kindOf (ps.zip us) fun _=>none) s1) :
  Inv (PQ CX P w K mg base N qual scope f cd A outer s H E) [] (start N vs) H s1:=by
 have hpl:ps.length<=N.length:=by have:=congrArg List.length S.pre;rw[length_take]at this;omega
 obtain⟨h1,tk,rfl,hk⟩:=x.done;have noA:∀ b:Addr,b ∉ (PQ CX P w K mg base N qual scope f cd A outer s H E).ex:=fun b z=>absurd (show b∈([]:List Addr) from z) (by simp);refine⟨⟨e0.mod,S.kind,rfl,rfl,C' _,fun y z c h1 h2=>?_,fun y hy=>?_,fun y c _ h=>?_,fun _=>hd,Around.frames_deeper e0.frames,.inr ⟨rfl,rfl⟩,fun b z=>absurd z (noA b),e0.bs,e0.Zm,fun b _ _=>noA b,fun b z=>absurd z (noA b),e0.ES,e0.frf⟩,
  rfl,e0.bare,Un.kept hk,⟨_,x.toInCall.ns,fun i y v h1 h2 h3=>?_⟩,fun y c h=>⟨_,x.cell y c h⟩,e0.hok.fresh (C' _),fun y c h=>?_,fun p hp=>absurd (show p∈([]:List (Addr×Obj)) from hp) (by simp),e0.hok.kept hk,?_⟩
 ·exact name_of_addr x.apart (PySem.mem_of_lookup h1) (PySem.mem_of_lookup h2)
 ·have hy:scope.names.lookup y=some .cell\/scope.names.lookup y=some .free:=hy;rcases hy with hy|hy
  ·exact PR hy
  ·exact absurd rfl (S.aiF _ (PySem.mem_of_lookup hy))
 ·exact Nat.le_of_lt (x.above y c (PySem.mem_of_lookup h))
 ·have hi:i<vs.length:=by
   unfold start at h2
   by_cases hi:i<vs.length
   ·exact hi
   ·rw[getElem?_append_right (by simpa using hi)]at h2;rw[List.getElem?_replicate]at h2;split at h2 <;> cases h2
  have ha:vs[i]? = some v:=by
   unfold start at h2;rw[List.getElem?_append_left (by simpa using hi),getElem?_map]at h2;cases e:vs[i]? with
   |none=>rw[e]at h2;cases h2
   |some a=>rw[e]at h2;cases h2;rfl
  obtain⟨u,hu,rv⟩:=r.get ha;have hp:ps[i]? = some y:=by
   rw[<-S.pre,List.getElem?_take_of_lt (by omega)];exact h1
  have ndP:ps.Nodup:=by rw[<-S.pre];exact S.nd.sublist (List.take_sublist _ _)
  refine⟨u,rv,?_⟩;rcases S.par y (Z' hp) with k|k
  ·exact .inl ⟨k,Jz ndP hp hu k⟩
  ·obtain⟨c,e⟩:=PR (n:=s.heap.objs.size+1) k;refine .inr ⟨.inl k,c,e,?_⟩;have q:=x.cell y c e;rw[JA ndP hp hu (by show scope.names.lookup y≠_;rw[k];decide)]at q;exact q
 ·exact e0.hok.fresh (Nat.le_of_lt (x.above y c (PySem.mem_of_lookup h)))
 ·unfold start;show _=N.length;rw[length_append,O',List.length_replicate];omega
theorem aca {CX:CXT}{P:Program}{w:World}{K:Frag}{mg:Str->Option Value}{base:Heap}{k:Nat}{f:Addr}{name qual:Str}{params:Arguments}{body:List Stmt}{scope:Scope}{dV kV doc pm cdv ct oc:Value}{an od:Option Addr}
  {osl:Array (Option Value)} {N ps:List Str} {sp:Sp} (lk:K.lookup f=some ⟨oc,od,.func (fnOf name qual params body scope dV kV doc pm an cdv ct),osl⟩) (hcd:codeIn K cdv qual=true) (S:aH N ps scope)
  (len:∀ vs H Q E,sp vs H Q E->vs.length=ps.length)
  (hbody:∀(A:Around)(outer:List Env)(s:Shared)(H:Hp)(vs:List V)(Q:VK)(E:XK),ma k (A.deeper (envOfC qual scope s.heap.objs.size f cdv))->sp vs H Q E ->
   ∃ t,PJ (PQ CX P w K mg base N qual scope f cdv A outer s H E) body t/\t { nx:=fun _ H'=>Q .non H',rt:=Q } (start N vs) H) :
  bK P w K mg base CX (k+1) f (fnOf name qual params body scope dV kV doc pm an cdv ct) ps sp:=by
 refine⟨len,fun A outer s H args us vs Q E hr e0 hb r hsp=>?_⟩;have hl:=len _ _ _ _ hsp;have KX:K.In s.heap:=e0.mod.kin.keeps fun b o e=>(e0.bs b o e).1;have lim:s.heap.NoLimit:=e0.mod.nolimit.keeps fun b o e=>(e0.bs b o e).1;have hkind:∀ y∈ps.zip us,scope.names.lookup y.1=some .local\/(scope.names.lookup y.1=some .cell/\((cellsFrom (s.heap.objs.size+1) scope.names []).lookup y.1).isSome=true):=fun⟨n,v⟩ hy=>by
  rcases S.par n (List.of_mem_zip hy).1 with q|q
  ·exact .inl q
  ·exact .inr ⟨q,PySem.W.cellsFrom_some _ _ _ (.inl q)⟩
 refine codeAny_call_function hr.depth (KX _ _ lk) rfl S.co S.gen rfl (PySem.W.codeRec_of KX hcd) (hb _ _ _ _ ?_);refine wpAny_newFunctionEnv_cells S.kind hkind fun env he s1 x=>?_;subst he;refine⟨lim.keeps x.toInCall.keep,codeAny_func ?_⟩;obtain⟨t,ht,hq⟩:=hbody A outer s H vs Q E (hr.deeper _) hsp;have I:Inv (PQ CX P w K mg base N qual scope f cdv A outer s H E) [] (start N vs) H s1:=Zy S hr.hd e0 hl r x;refine wpAny_mono (ht [] s1 (start N vs) H _ I hq) (fun fl s' hs=>?_) fun e s' hs=>hs;have fin:∀{σ':St} {H':Hp} {v:V} {u:Value},Inv (PQ CX P w K mg base N qual scope f cdv A outer s H E) [] σ' H' s'->RelV v u->Q v H'->CE outer P w H s Q u s' :=
  fun {σ' H' v u} J rv q=>⟨v,H',J.os,J.bare,J.base,J.hok,rv,q⟩
 cases fl with
 |ret u =>
  obtain⟨v,σ',H',J,rv,q⟩:=hs;exact fin J rv q
 |next =>
  obtain⟨σ',H',J,q⟩:=hs;exact fin (v:=V.non) (u:=Value.none) J rfl q
 |brk =>
  obtain⟨_,_,_,q⟩:=hs;exact False.elim q
 |cont =>
  obtain⟨_,_,_,q⟩:=hs;exact False.elim q
end L2
namespace L2
open PySem PySem.Spec PyProof.Rows
section
variable {X:Cx} {x:Str} {p pos:Pos} {e:Expr} {es:List Expr} {t:TA} {id T:String} {r:List V->Hp->VK->Prop}
def tCB (r:List V->Hp->VK->Prop)(t:TA):TE:=fun σ H Q=>t σ H fun vs H1=>r vs H1 Q
theorem aV (hc:gU X (.builtin id) r)(hg:Gl X x)(hm:X.mg x=none)(hv:bootBuiltins x=some (.builtin id))(ha:PA X (e::es) t)(hn:x ≠ "__name__":=by decide)(hdb:(x==("__debug__":Str))=false:=by decide)
  (he:starEach (e::es) X.env=(false,eval e X.env)::starEach es X.env:=by rfl) (hpl:(backTo pos (starEach es X.env)).any (·.1)=false:=by rfl):PE X (.Call (.Name x p) (e::es) [] pos) (tCB r t):=by
 intro pins s σ H Q I h;refine wpAny_Call_Name_kw (vB I hg hm hv ?_ hn hdb);exact PyProof.Rows.callWith_builtin1 (cJ (ha pos pins s σ H _ I h) fun us s1 ⟨vs,H1,I1,r1,q1⟩=>hc pins s1 σ H1 vs us Q I1 r1 q1) he hpl
theorem di (hc:gU X (.type T) r)(hg:Gl X x)(hm:X.mg x=none)(hv:bootBuiltins x=some (.type T))(ha:PA X (e::es) t)(hn:x ≠ "__name__":=by decide)(hdb:(x==("__debug__":Str))=false:=by decide)
  (he:starEach (e::es) X.env=(false,eval e X.env)::starEach es X.env:=by rfl) (hpl:(backTo pos (starEach es X.env)).any (·.1)=false:=by rfl):PE X (.Call (.Name x p) (e::es) [] pos) (tCB r t):=by
 intro pins s σ H Q I h;refine wpAny_Call_Name_kw (vB I hg hm hv ?_ hn hdb);exact PyProof.Rows.callWith_type1 (cJ (ha pos pins s σ H _ I h) fun us s1 ⟨vs,H1,I1,r1,q1⟩=>hc pins s1 σ H1 vs us Q I1 r1 q1) he hpl
end
end L2
namespace HT
open PySem PyProof.Rows
section
open PySem.SeqAt
open PySem.AutoSeq1 (wpAny_loadPart')
open PySem.MeetsSeq PySem.MeetsSeq2 PySem.MeetsSeq3
end
section
variable {prog:Program} {w:World} {A:Around} {E:Value->Shared->Prop} {s:Shared}
def jI (n d:Nat):Option Int->Nat
 |none=>d
 |some v=>if v<0 then(v+(n:Int)).toNat else min v.toNat n
theorem PU (n d:Nat):jI n d none=d:=rfl
theorem Yc (n d k:Nat):jI n d (some (k:Int))=min k n:=by
 show(if(k:Int)<0 then((k:Int)+(n:Int)).toNat else min (k:Int).toNat n)=min k n;rw[L' (by omega),Int.toNat_natCast]
theorem aiG (n d:Nat)(hd:d<=n)(o:Option Int):jI n d o<=n:=by
 cases o with
 |none=>exact hd
 |some v =>
  show(if v<0 then(v+(n:Int)).toNat else min v.toNat n)<=n
  by_cases hv:v<0
  ·rw[R' hv];omega
  ·rw[L' hv];exact Nat.min_le_right _ _
theorem Yd (v:Int)(n d:Nat):(if v<0 then max (v+(n:Int)) 0 else min v (n:Int))=((jI n d (some v):Nat):Int):=by
 show(if v<0 then max (v+(n:Int)) 0 else min v (n:Int))=(((if v<0 then(v+(n:Int)).toNat else min v.toNat n):Nat):Int)
 by_cases hv:v<0
 ·simp only [R' hv];omega
 ·simp only [L' hv];omega
theorem R1 (lo hi:Option Int)(n:Nat):Builtin.Slice.sliceAdjust lo hi 1 (n:Int)=(((jI n 0 lo:Nat):Int),((jI n n hi:Nat):Int)):=by
 have h1:¬((1:Int)<0):=by omega
 unfold Builtin.Slice.sliceAdjust;simp only [h1,if_false];refine Prod.ext ?_ ?_
 ·cases lo with
  |none=>rfl
  |some v=>exact Yd v n 0
 ·cases hi with
  |none=>rfl
  |some v=>exact Yd v n n
theorem R3 (i j:Nat):Builtin.Slice.slicePlaces (i:Int) (j:Int) 1=j-i:=by
 unfold Builtin.Slice.slicePlaces;have h1:(1:Int) > 0:=by omega
 simp only [h1,if_true,Int.ediv_one];split <;> omega
theorem EU {v:Value}{o:Option Int}{Q:Option Int->Shared->Prop}(p:IsPart v o)(h:Q o s):wpAny (model prog w) A (Builtin.Slice.slicePartIndex v) Q E s:=by
 cases p with
 |none=>exact slicePart_none h
 |int i t=>exact slicePart_int h
theorem zN {sl:Addr}{vl vu:Value}{lo hi:Option Int}{n:Nat}{Q:Int×Int×Nat->Shared->Prop}(hs:s.heap.IsSliceOf sl vl vu .none)(pl:IsPart vl lo)(pu:IsPart vu hi)
  (h:Q (((jI n 0 lo:Nat):Int),1,jI n n hi-jI n 0 lo) s):wpAny (model prog w) A (Builtin.Slice.sliceApplied (.ref sl) (pure (n:Int))) Q E s:=by
 obtain⟨os,hos,hcs,hds⟩:=id hs;unfold Builtin.Slice.sliceApplied Builtin.Slice.sliceFields;refine S' (S' (wpAny_field hos hds (x:=vl) rfl (S' (wpAny_field hos hds (x:=vu) rfl (S' (wpAny_field hos hds (x:=.none) rfl (j' ?_)))))));refine S' (slicePart_none ?_);show wpAny _ _ (if((1:Int)==0)=true then _ else _) _ _ s;rw[L' (by decide)];refine S' (EU pl (S' (EU pu (S' (j' ?_)))));show wpAny _ _ (match Builtin.Slice.sliceAdjust lo hi 1 (n:Int) with|(lo,hi)=>pure (lo,(1:Int),Builtin.Slice.slicePlaces lo hi 1)) _ _ s;rw[R1 lo hi n];show wpAny _ _ (pure (((jI n 0 lo:Nat):Int),(1:Int),Builtin.Slice.slicePlaces ((jI n 0 lo:Nat):Int) ((jI n n hi:Nat):Int) 1)) _ _ s;rw[R3];exact j' h
theorem acb (xs:Array Value)(i k:Nat):((List.range k).filterMap fun(m:Nat)=>xs[((i:Int)+(m:Int) * 1).toNat]?).toArray=((xs.toList.drop i).take k).toArray:=by
 have e:(fun(m:Nat)=>xs[((i:Int)+(m:Int) * 1).toNat]?)=fun m=>xs[i+m]?:=by
  funext m
  have:((i:Int)+(m:Int) * 1).toNat=i+m:=by omega
  rw[this]
 rw[e];have:=pick_run xs i k;rw[List.filterMap_map]at this;have e2:((fun x=>xs[x]?) ∘ fun x=>i+x)=fun m=>xs[i+m]?:=rfl;rw[e2]at this;rw[this]
theorem xp {t sl:Addr}{items:Array Value}{vl vu:Value}{lo hi:Option Int}{Q:Value->Shared->Prop}(ht:IsTup s.heap t items)(hs:s.heap.IsSliceOf sl vl vu .none)(pl:IsPart vl lo)(pu:IsPart vu hi)
  (hw:¬(jI items.size 0 lo=0/\jI items.size items.size hi=items.size))
  (h:Q (.ref s.heap.objs.size) { s with heap:=s.heap.push { cls:=.type "tuple",data:=.seq ((items.toList.drop (jI items.size 0 lo)).take (jI items.size items.size hi-jI items.size 0 lo)).toArray } })
  (hsz:items.size<=sizeLine):wpAny (model prog w) A (getItem (.ref t) (.ref sl)) Q E s:=by
 have Ye:sizeOk (.seq ((items.toList.drop (jI items.size 0 lo)).take (jI items.size items.size hi-jI items.size 0 lo)).toArray):=by
  show((items.toList.drop (jI items.size 0 lo)).take (jI items.size items.size hi-jI items.size 0 lo)).toArray.size<=sizeLine;rw[size_toArray,length_take,length_drop,Array.length_toList];omega
 have hj:jI items.size items.size hi<=items.size:=aiG _ _ (C' _) hi;obtain⟨os,hos,hcs,hds⟩:=id hs;have hTs:s.TypeIs (.ref sl) "slice":=⟨os,hos,hcs⟩;unfold getItem
 try with_reducible refine wpAny_holding ?_
 first|refine S' (j' ?_)|skip
 refine S' (wpAny_sequenceKey ht.typeIs (by decide) ?_);refine S' (wpAny_callSpecial?_slot (name:=Str.ofString "__getitem__") ht.typeIs PyProof.Rows.slot_tuple_getitem
  (wpAny_call_entry PyProof.Rows.slot_tuple_getitem ht.typeIs entry_tuple_getitem ?_ (args_tuple_getitem _ _)))
 show wpAny _ _ (Builtin.Tuple.tupleItemsOf (.ref t) >>= _) _ _ s;refine S' (tupleItemsOf_ ht ?_);refine S' (wpAny_typeOf hTs ?_);rw[R' (by decide)];refine S' (zN hs pl pu ?_);have hno:¬((((jI items.size 0 lo:Nat):Int)==0&&(1:Int)==1&&(jI items.size items.size hi-jI items.size 0 lo)==items.size)=true):=by
  intro q;rw[Bool.and_eq_true,Bool.and_eq_true]at q;have q1:((jI items.size 0 lo:Nat):Int)=0:=eq_of_beq q.1.1;have q2:jI items.size items.size hi-jI items.size 0 lo=items.size:=eq_of_beq q.2;exact hw ⟨by omega,by omega⟩
 show wpAny _ _ (if(((jI items.size 0 lo:Nat):Int)==0&&(1:Int)==1&&(jI items.size items.size hi-jI items.size 0 lo)==items.size)=true then _ else _) _ _ s;rw[L' hno,acb]
 first
  |exact S' (m:=Builtin.Tuple.tupleExact _) (wpAny_newObj_type (j' ⟨_,rfl,j' h⟩) Ye)
  |exact S' (m:=Builtin.Tuple.tupleExact _) (wpAny_newObj_type (S' (j' (j' ⟨_,rfl,j' h⟩))) Ye)
  |exact S' (S' (m:=Builtin.Tuple.tupleExact _) (wpAny_newObj_type (j' (j' ⟨_,rfl,j' h⟩)) Ye))
  |exact S' (S' (m:=Builtin.Tuple.tupleExact _) (wpAny_newObj_type (j' ⟨_,rfl,j' h⟩) Ye))
end
end HT
namespace L2
open PySem PySem.Spec PyProof.Rows
abbrev TO:=St->Hp->(Option Int->Hp->Prop)->Prop
def PO (X:Cx)(e:Option Expr)(t:TO):Prop :=
 ∀(pins:List (Addr×Obj)) (s:Shared) (σ:St) (H:Hp) (Q:Option Int->Hp->Prop),Inv X pins σ H s->t σ H Q ->
  wpAny (model X.prog X.w) X.A (evalPart e X.env) (fun u s'=>∃ o H',Inv X pins σ H' s'/\IsPart u o/\Q o H') X.xe s
def afK:TO:=fun _ H Q=>Q none H
inductive acd (Q:(Option Int->Hp->Prop))(x:V)(H1:Hp):Prop
 |mk (i:_) (vh:x=.int i) (vi:Q (some i) H1):acd Q x H1
def akx (t:TE):TO:=fun σ H Q=>t σ H fun x H1=>acd Q x H1
section
variable {X:Cx} {e:Expr} {te:TE} {lo hi:Option Expr} {tl th:TO} {pos p2:Pos}
theorem Kl:PO X none afK:=by
 intro pins s σ H Q I h;rw[evalPart_none];exact j' ⟨none,H,I,.none,h⟩
theorem Km (h:PE X e te):PO X (some e) (akx te):=by
 intro pins s σ H Q I hw;rw[evalPart_some];refine cJ (h pins s σ H _ I hw) fun u s1 ⟨x,H1,I1,r1,q1⟩=>?_;obtain⟨i,rfl,q⟩:=q1;obtain⟨t,rfl⟩:=r1;exact⟨some i,H1,I1,.int i t,q⟩
def SlR (X:Cx)(r:V->Option Int->Option Int->Hp->VK->Prop):Prop :=
 ∀(pins:List (Addr×Obj)) (s:Shared) (σ:St) (H:Hp) (x:V) (v vl vu:Value) (lo hi:Option Int) (sl:Addr) (Q:VK),Inv X pins σ H s->RelV x v->s.heap.IsSliceOf sl vl vu .none->IsPart vl lo->IsPart vu hi->r x lo hi H Q ->
  ∃ T id,typeLookup (.type T) "__getitem__"=pure (some (.builtin id))/\s.TypeIs v T/\wpAny (model X.prog X.w) X.A (getItem v (.ref sl)) (EP X pins σ Q) X.xe s
theorem SlR.or {r r':V->Option Int->Option Int->Hp->VK->Prop}(h:SlR X r)(h':SlR X r'):SlR X (fun x lo hi H Q=>r x lo hi H Q\/r' x lo hi H Q):=by
 intro pins s σ H x v vl vu lo hi sl Q I rx hs pl pu q;rcases q with q|q
 ·exact h pins s σ H x v vl vu lo hi sl Q I rx hs pl pu q
 ·exact h' pins s σ H x v vl vu lo hi sl Q I rx hs pl pu q
def tSl (r:V->Option Int->Option Int->Hp->VK->Prop)(te:TE)(tl th:TO):TE:=fun σ H Q=>te σ H fun x H1=>tl σ H1 fun l H2=>th σ H2 fun u H3=>r x l u H3 Q
theorem EV {r:V->Option Int->Option Int->Hp->VK->Prop}(hr:SlR X r)(he:PE X e te)(hl:PO X lo tl)(hu:PO X hi th):PE X (.Subscript e (.Slice lo hi none p2) pos) (tSl r te tl th):=by
 intro pins s σ H Q I h;refine Subscript_ (cJ (he pins s σ H _ I h) fun v s1 ⟨x,H1,I1,r1,q1⟩=>?_);refine wpAny_Slice (cJ (hl pins s1 σ H1 _ I1 q1) fun vl s2 ⟨l,H2,I2,pl,q2⟩=>cJ (hu pins s2 σ H2 _ I2 q2) fun vu s3 ⟨u,H3,I3,pu,q3⟩=>?_);rw[evalPart_none];refine j' ?_;have I4:Inv X pins σ H3 { s3 with heap:=s3.heap.push { cls:=.type "slice",data:=.fields #[vl,vu,.none] } }:=I3.kept (t':=s3.toks) fun b ob q=>J' _ q;obtain⟨T,id,hT,ht,hg⟩:=hr pins { s3 with heap:=s3.heap.push { cls:=.type "slice",data:=.fields #[vl,vu,.none] } } σ H3 x v vl vu l u s3.heap.objs.size Q I4 r1 (Heap.IsSliceOf.new ..) pl pu q3;show wpAny (model X.prog X.w) X.A (subscriptTail e (.Slice lo hi none p2) v (.ref s3.heap.objs.size)) (EP X pins σ Q) X.xe { s3 with heap:=s3.heap.push { cls:=.type "slice",data:=.fields #[vl,vu,.none] } };exact tail_any (ops:=[.ref s3.heap.objs.size,v]) ht hT hg (by with_unfolding_all rfl)
def Hq (xs:List V)(lo hi:Option Int):List V:=(xs.drop (HT.jI xs.length 0 lo)).take (HT.jI xs.length xs.length hi-HT.jI xs.length 0 lo)
theorem BX (xs:List V)(lo hi:Option Int):(Hq xs lo hi).length<=xs.length:=by
 unfold Hq;rw[length_take,length_drop];omega
inductive ahs (K:Frag)(x:V)(lo:Option Int)(hi:Option Int)(H:Hp)(Q:VK):Prop
 |mk (a:_) (xs:_) (vh:x=.ref a) (vi:dh K H a xs) (EB:¬(HT.jI xs.length 0 lo=0/\HT.jI xs.length xs.length hi=xs.length)) (RQ:∀ p,H p=none->Q (.ref p) (upd H p (.tup (Hq xs lo hi)))):ahs K x lo hi H Q
def anw (K:Frag):V->Option Int->Option Int->Hp->VK->Prop:=fun x lo hi H Q=>ahs K x lo hi H Q
theorem R6:SlR X (anw X.K):=by
 intro pins s σ H x v vl vu lo hi sl Q I rx hs pl pu h;obtain⟨a,xs,rfl,hx,hw,q⟩:=h;cases rx;obtain⟨its,r,ht,hz⟩:=I.tuple hx;have hlen:its.toArray.size=xs.length:=by rw[size_toArray];exact r.length.symm
 refine⟨"tuple",_,PyProof.Rows.slot_tuple_getitem.lookup,ht.typeIs,?_⟩;refine HT.xp ht hs pl pu (by rw[hlen];exact hw) ?_ (by rw[hlen];exact hz);rw[hlen];refine⟨.ref s.heap.objs.size,_,I.laid (t':=s.toks) (o:=.tup (Hq xs lo hi)) (fun b ob q=>J' _ q) (C' _) ?_,rfl,q _ (I.hok.fresh (C' _))⟩;exact⟨Nat.le_trans (BX xs lo hi) hz,_,(r.drop (HT.jI xs.length 0 lo)).take (HT.jI xs.length xs.length hi-HT.jI xs.length 0 lo),IsTup.new _ _⟩
end
end L2
namespace L2
open PySem PySem.Spec PyProof.Rows
def ixN (n:Nat)(i:Int):Option Nat:=if 0<=i then(if i<n then some i.toNat else none) else if -(n:Int)<=i then some (i+n).toNat else none
def atI {α:Type}(xs:List α)(i:Int):Option α:=(ixN xs.length i).bind fun j=>xs[j]?
theorem Yg {n:Nat}{i:Int}{j:Nat}(h:ixN n i=some j):seqIndex? i n=some j/\j<n/\-(n:Int)<=i/\i<n:=by
 unfold ixN at h
 by_cases h0:0<=i
 ·rw[R' h0]at h
  by_cases h1:i<n
  ·rw[R' h1]at h;have e:i.toNat=j:=Za' h;exact⟨by rw[seqIndex_of h0 h1,e],by omega,by omega,h1⟩
  ·rw[L' h1]at h;cases h
 ·rw[L' h0]at h
  by_cases h1:-(n:Int)<=i
  ·rw[R' h1]at h;have e:(i+n).toNat=j:=Za' h;exact⟨by rw[seqIndex_neg (by omega) h1,e],by omega,h1,by omega⟩
  ·rw[L' h1]at h;cases h
theorem Ko {α:Type}{xs:List α}{i:Int}{v:α}(h:atI xs i=some v):∃ j,seqIndex? i xs.length=some j/\xs[j]? = some v/\j<xs.length/\-(xs.length:Int)<=i/\i<xs.length:=by
 unfold atI at h;cases e:ixN xs.length i with
 |none=>rw[e]at h;cases h
 |some j =>
  rw[e]at h;obtain⟨h1,h2,h3,h4⟩:=Yg e;exact⟨j,h1,h,h2,h3,h4⟩
theorem xq {α:Type}{xs:List α}{j:Nat}{v:α}(h:xs[j]? = some v):atI xs (j:Int)=some v:=by
 have hj:j<xs.length:=(F'.mp h).1;have e:ixN xs.length (j:Int)=some j:=by
  unfold ixN;rw[R' (by omega),R' (by omega)];simp
 unfold atI;rw[e];exact h
def afL (b:Expr):Prop:=∀ o i,subscripted b false o i=operate [o,i] (getItem o i)
def IxR (X:Cx)(r:R2):Prop :=
 ∀(value slice:Expr)(pins:List (Addr×Obj)) (s:Shared) (σ:St) (H:Hp) (x y:V) (v u:Value) (Q:VK),Inv X pins σ H s->RelV x v->RelV y u->r x y H Q ->
  subscripted slice false v u=operate [v,u] (getItem v u)->wpAny (model X.prog X.w) X.A (subscriptTail value slice v u) (EP X pins σ Q) X.xe s
def MtR (X:Cx)(id:String)(r:V->List V->Hp->VK->Prop):Prop :=
 ∀(pins:List (Addr×Obj)) (s:Shared) (σ:St) (H:Hp) (x:V) (xs:List V) (v:Value) (us:List Value) (Q:VK),Inv X pins σ H s->RelV x v->Vals xs us->r x xs H Q ->
  wpAny (model X.prog X.w) X.A (call (.builtin id) (v::us)) (EP X pins σ Q) X.xe s
section
variable {X:Cx} {a b:Expr} {ta tb:TE} {pos:Pos}
theorem IxR.or {r r':R2}(h:IxR X r)(h':IxR X r'):IxR X (fun x y H Q=>r x y H Q\/r' x y H Q):=by
 intro value slice pins s σ H x y v u Q I rx ry q hs;rcases q with q|q
 ·exact h value slice pins s σ H x y v u Q I rx ry q hs
 ·exact h' value slice pins s σ H x y v u Q I rx ry q hs
theorem aI {r:R2}(hr:IxR X r)(ha:PE X a ta)(hb:PE X b tb)(hs:afL b):PE X (.Subscript a b pos) (tOp r ta tb):=by
 intro pins s σ H Q I h;exact Subscript_ (aiB ha hb I h fun v u s2 x y H2 I2 rx ry q=>hr a b pins s2 σ H2 x y v u Q I2 rx ry q (hs _ _))
inductive aht (K:Frag)(x:V)(y:V)(H:Hp)(Q:VK):Prop
 |mk (p:_) (xs:_) (i:_) (v:_) (vh:x=.ref p) (vi:y=.int i) (EB:aX K H p xs) (RQ:atI xs i=some v) (h4_:Q v H):aht K x y H Q
def Hr (K:Frag):R2:=fun x y H Q=>aht K x y H Q
inductive ahu (K:Frag)(x:V)(y:V)(H:Hp)(Q:VK):Prop
 |mk (p:_) (xs:_) (i:_) (v:_) (vh:x=.ref p) (vi:y=.int i) (EB:dh K H p xs) (RQ:atI xs i=some v) (h4_:Q v H):ahu K x y H Q
def Hs (K:Frag):R2:=fun x y H Q=>ahu K x y H Q
inductive ahv (x:V)(y:V)(H:Hp)(Q:VK):Prop
 |mk (z:_) (i:_) (c:_) (vh:x=.str z) (vi:y=.int i) (EB:z.length<=sizeLine) (RQ:atI z.cps.toList i=some c) (h4_:Q (.str ⟨#[c]⟩) H):ahv x y H Q
def Ht :R2:=fun x y H Q=>ahv x y H Q
theorem afM:IxR X (Hr X.K):=by
 intro value slice pins s σ H x y v u Q I rx ry h hs;obtain⟨p,xs,i,z,rfl,rfl,hq,he,q⟩:=h;cases rx;obtain⟨t,rfl⟩:=ry;obtain⟨its,r,pl,hz⟩:=I.list hq;obtain⟨j,h1,h2,h3,h4,h5⟩:=Ko he;obtain⟨w,ew,RS⟩:=r.get h2;have hl:=r.length;have hn:=zM;have fin:EP X pins σ Q w s:=⟨z,H,I,RS,q⟩
 by_cases h0:0<=i
 ·have hj:i.toNat=j:=by
   rw[seqIndex_of h0 h5]at h1;exact Za' h1
  exact item_listR pl.isList h0 (by omega) (by rw[hj];simpa using ew) fin hs
 ·have hj:(i+(its.toArray.size:Int)).toNat=j:=by
   rw[seqIndex_neg (by omega) h4]at h1;rw[size_toArray,<-hl];exact Za' h1
  exact subscriptTail_builtinR (x:=w) pl.isList.typeIs slot_list_getitem.lookup
   (wpAny_getItem_list_neg (Q:=fun r s'=>r=w/\EP X pins σ Q r s') pl.isList (by omega) (by rw[size_toArray] <;> omega) (by omega) (by rw[hj];simpa using ew) ⟨rfl,fin⟩) hs
theorem aiH:IxR X (Hs X.K):=by
 intro value slice pins s σ H x y v u Q I rx ry h hs;obtain⟨p,xs,i,z,rfl,rfl,hq,he,q⟩:=h;cases rx;obtain⟨t,rfl⟩:=ry;obtain⟨its,r,pl,hz⟩:=I.tuple hq;obtain⟨j,h1,h2,h3,h4,h5⟩:=Ko he;obtain⟨w,ew,RS⟩:=r.get h2;have hl:=r.length;have hn:=zM;have fin:EP X pins σ Q w s:=⟨z,H,I,RS,q⟩;exact subscriptTail_builtinR (x:=w) pl.typeIs slot_tuple_getitem.lookup
  (getItem_tuple (j:=j) (Q:=fun r s'=>r=w/\EP X pins σ Q r s') pl (by omega) (by omega) (by rw[size_toArray,<-hl];exact h1) (by simpa using ew) ⟨rfl,fin⟩) hs
theorem aiI:IxR X Ht:=by
 intro value slice pins s σ H x y v u Q I rx ry h hs;obtain⟨z,i,c,rfl,rfl,hz,he,q⟩:=h;obtain⟨t,rfl⟩:=rx;obtain⟨t',rfl⟩:=ry;obtain⟨j,h1,h2,h3,h4,h5⟩:=Ko he;have hl:z.cps.toList.length=z.length:=by simp[Str.length]
 rw[hl]at h1 h4 h5;have hn:=zM;exact tail_any (typeIs_str s z t) slot_str_getitem.lookup (getItem_str (c:=c) (by
  have e1:decide (i < -(2 ^ 63:Int))=false:=i' (by omega);have e2:decide (i ≥ 2 ^ 63)=false:=i' (by omega);rw[e1,e2,Bool.or_false]) (by rw[h1];simpa using h2) ⟨.str ⟨#[c]⟩,H,I.tok _,⟨_,rfl⟩,q⟩) hs
def rIx (K:Frag):R2:=fun x y H Q=>Hr K x y H Q\/Hs K x y H Q\/Ht x y H Q
theorem aD:IxR X (rIx X.K):=afM.or (aiH.or aiI)
theorem R7 (its:List Value)(n j:Nat)(u:Value):Obj.mapSeq (·.setIfInBounds j u) { cls:=.type "list",data:=.seq its.toArray n } = { cls:=.type "list",data:=.seq (its.set j u).toArray n }:=by
 simp[Obj.mapSeq]
theorem Inv.lst {pins:List (Addr×Obj)}{σ:St}{H:Hp}{s:Shared}{p:Addr}{xs:List V}(I:Inv X pins σ H s)(h:H p=some (.lst xs)) :
  ∃(its:List Value)(n:Nat),Vals xs its/\s.heap.get? p=some { cls:=.type "list",data:=.seq its.toArray n }/\xs.length<=sizeLine:=by
 obtain⟨z,its,n,r,e⟩:=I.hok p _ h;exact⟨its,n,r,e,z⟩
theorem Inv.aiJ {pins:List (Addr×Obj)}{σ:St}{H:Hp}{s:Shared}{p:Addr}{xs ys:List V}{its its':List Value}{n n':Nat}{f:Obj->Obj}(I:Inv X pins σ H s)(h:H p=some (.lst xs))
  (ho:s.heap.get? p=some { cls:=.type "list",data:=.seq its.toArray n }) (hf:f { cls:=.type "list",data:=.seq its.toArray n } = { cls:=.type "list",data:=.seq its'.toArray n' }) (r:Vals ys its') (hz:ys.length<=sizeLine) (t:Nat) :
  Inv X pins σ (upd H p (.lst ys)) { s with heap:=s.heap.update p f,toks:=t }:=by
 have e:(s.heap.update p f).get? p=some { cls:=.type "list",data:=.seq its'.toArray n' }:=by
  rw[Heap.get?_update_self f ho (by rw[hf] <;> rfl),hf]
 refine I.write (x:=p) (e:=p) (by rw[h];trivial) (.inl rfl) (fun b u hb q=>(Heap.get?_update_other _ _ (Ne.symm hb)).trans q) ⟨_,e⟩ ?_;exact⟨hz,its',n',r,e⟩
inductive acf (o:V)(i:V)(v:V)(H:Hp)(Q:(Hp->Prop)):Prop
 |mk (p:_) (xs:_) (k:_) (j:_) (vh:o=.ref p) (vi:i=.int k) (EB:H p=some (.lst xs)) (RQ:ixN xs.length k=some j) (h4_:Q (upd H p (.lst (xs.set j v)))):acf o i v H Q
def aky :V->V->V->Hp->(Hp->Prop)->Prop:=fun o i v H Q=>acf o i v H Q
theorem set_list:akh X aky:=by
 intro pins s σ H o i v ov iv u Q I ro ri rv h;obtain⟨p,xs,k,j,rfl,rfl,hp,hj,q⟩:=h;cases ro;obtain⟨t,rfl⟩:=ri;obtain⟨its,n,r,ho,hz⟩:=I.lst hp;obtain⟨h1,h2,h3,h4⟩:=Yg hj;have hl:=r.length;have hn:=zM;have I':Inv X pins σ (upd H p (.lst (xs.set j v))) { s with heap:=s.heap.update p (Obj.mapSeq (·.setIfInBounds j u)) } :=
  I.aiJ hp ho (R7 its n j u) (r.set rv j) (by rw[List.length_set];exact hz) s.toks
 by_cases h0:0<=k
 ·have hk:k.toNat=j:=by
   rw[seqIndex_of h0 h4]at h1;exact Za' h1
  exact PySem.W.ki_setAt ho h0 (by omega) (by rw[size_toArray,<-hl];exact h4) (by rw[hk];exact⟨_,I',q⟩)
 ·have hk:(k+(its.toArray.size:Int)).toNat=j:=by
   rw[seqIndex_neg (by omega) h3]at h1;rw[size_toArray,<-hl];exact Za' h1
  exact PySem.W.ki_setBack ho (by omega) (by rw[size_toArray,<-hl];exact h3) (by omega) (by rw[hk];exact⟨_,I',q⟩)
theorem Kp (lo hi:Option Int)(n:Nat):(sliceBounds lo hi none n).1=((HT.jI n 0 lo:Nat):Int)/\(sliceBounds lo hi none n).2.1=((HT.jI n n hi:Nat):Int)/\(sliceBounds lo hi none n).2.2=1:=by
 refine⟨?_,?_,rfl⟩
 ·cases lo with
  |none=>simp[sliceBounds,HT.jI]
  |some i =>
   simp only [sliceBounds,HT.jI,Option.getD_none,show(1:Int) > 0 by decide,if_true]
   by_cases h:i<0
   ·simp only [h,if_true] <;> omega
   ·simp only [h,if_false] <;> omega
 ·cases hi with
  |none=>simp[sliceBounds,HT.jI]
  |some i =>
   simp only [sliceBounds,HT.jI,Option.getD_none,show(1:Int) > 0 by decide,if_true]
   by_cases h:i<0
   ·simp only [h,if_true] <;> omega
   ·simp only [h,if_false] <;> omega
theorem Hu (its:List Value)(lo hi:Option Int):slicePick its.toArray lo hi none=((its.drop (HT.jI its.length 0 lo)).take (HT.jI its.length its.length hi-HT.jI its.length 0 lo)).toArray:=by
 obtain⟨h1,h2,h3⟩:=Kp lo hi its.toArray.size;unfold slicePick;rw[h1,h2,h3];simp only [sliceRange_one,pick_run,size_toArray] <;> rfl
inductive ahw (K:Frag)(x:V)(lo:Option Int)(hi:Option Int)(H:Hp)(Q:VK):Prop
 |mk (a:_) (xs:_) (vh:x=.ref a) (vi:aX K H a xs) (EB:∀ p,H p=none->Q (.ref p) (upd H p (.lst (Hq xs lo hi)))):ahw K x lo hi H Q
def anz (K:Frag):V->Option Int->Option Int->Hp->VK->Prop:=fun x lo hi H Q=>ahw K x lo hi H Q
theorem Kq:SlR X (anz X.K):=by
 intro pins s σ H x v vl vu lo hi sl Q I rx hs pl pu h;obtain⟨a,xs,rfl,hx,q⟩:=h;cases rx;obtain⟨its,r,ht,hz⟩:=I.list hx;have hlen:=r.length;refine⟨"list",_,slot_list_getitem.lookup,ht.isList.typeIs,?_⟩;refine wpAny_getItem_list_slice ht.isList hs pl pu .none (by simp) ?_ (by rw[size_toArray] <;> omega);rw[Hu,<-hlen];refine⟨.ref s.heap.objs.size,_,I.laid (t':=s.toks) (o:=.lst (Hq xs lo hi)) (fun b ob q=>J' _ q) (C' _) ?_,rfl,q _ (I.hok.fresh (C' _))⟩;exact⟨Nat.le_trans (BX xs lo hi) hz,_,0,(r.drop (HT.jI xs.length 0 lo)).take (HT.jI xs.length xs.length hi-HT.jI xs.length 0 lo),Heap.get?_push_size _ rfl⟩
def vj:V->Bool
 |.non=>true
 |.bl _=>true
 |.int _=>true
 |.str _=>true
 |_=>false
def Zz:V->V->Bool
 |.non,.non=>true
 |.bl a,.bl b=>a==b
 |.bl a,.int b=>(if a then 1 else 0)==b
 |.int a,.bl b=>a==(if b then 1 else 0)
 |.int a,.int b=>a==b
 |.str a,.str b=>a==b
 |_,_=>false
theorem acg {A:Around}{s:Shared}{y x:V}{u v:Value}(ry:RelV y u)(rx:RelV x v)(fy:vj y=true)(fx:vj x=true):SeqAt.EqAt A s u v (Zz y x):=by
 cases y with
 |non =>
  cases ry;cases x with
  |non=>cases rx;exact SeqAt.EqAt.same _
  |bl b=>cases rx;exact SeqAt.EqAt.none_bool b
  |int b=>obtain⟨t,rfl⟩:=rx;exact SeqAt.EqAt.none_int b t
  |str b=>obtain⟨t,rfl⟩:=rx;exact SeqAt.EqAt.none_str b t
  |_=>exact absurd (show false=true from fx) Y'
 |bl a =>
  cases ry;cases x with
  |non=>cases rx;exact SeqAt.EqAt.bool_none a
  |bl b=>cases rx;exact SeqAt.EqAt.bool_bool a b
  |int b=>obtain⟨t,rfl⟩:=rx;exact SeqAt.EqAt.bool_int a b t
  |str b=>obtain⟨t,rfl⟩:=rx;exact SeqAt.EqAt.bool_str a b t
  |_=>exact absurd (show false=true from fx) Y'
 |int a =>
  obtain⟨t',rfl⟩:=ry;cases x with
  |non=>cases rx;exact SeqAt.EqAt.int_none a t'
  |bl b=>cases rx;exact SeqAt.EqAt.int_bool a t' b
  |int b=>obtain⟨t,rfl⟩:=rx;exact SeqAt.EqAt.int_int a t' b t
  |str b=>obtain⟨t,rfl⟩:=rx;exact SeqAt.EqAt.int_str a t' b t
  |_=>exact absurd (show false=true from fx) Y'
 |str a =>
  obtain⟨t',rfl⟩:=ry;cases x with
  |non=>cases rx;exact SeqAt.EqAt.str_none a t'
  |bl b=>cases rx;exact SeqAt.EqAt.str_bool a t' b
  |int b=>obtain⟨t,rfl⟩:=rx;exact SeqAt.EqAt.str_int a t' b t
  |str b=>obtain⟨t,rfl⟩:=rx;exact SeqAt.EqAt.str_str a t' b t
  |_=>exact absurd (show false=true from fx) Y'
 |_=>exact absurd (show false=true from fy) Y'
def R8 (x:V)(u:Value):Bool:=match u with
 |.none=>Zz .non x
 |.bool b=>Zz (.bl b) x
 |.int i _=>Zz (.int i) x
 |.str z _=>Zz (.str z) x
 |_=>false
theorem ach {x y:V}{u:Value}(r:RelV y u)(f:vj y=true):R8 x u=Zz y x:=by
 cases y with
 |non=>cases r;rfl
 |bl b=>cases r;rfl
 |int i=>obtain⟨t,rfl⟩:=r;rfl
 |str z=>obtain⟨t,rfl⟩:=r;rfl
 |_=>exact absurd (show false=true from f) Y'
theorem xr {x:V}:∀{xs:List V} {us:List Value},Vals xs us->xs.all vj=true->us.any (R8 x)=xs.any fun y=>Zz y x
 |_,_,.nil,_=>rfl
 |y::xs,u::us,.cons r t,f=>by
  rw[List.all_cons,Bool.and_eq_true]at f;rw[List.any_cons,List.any_cons,ach r f.1,xr t f.2]
theorem sq {A:Around}{s:Shared}{x:V}{v:Value}(rx:RelV x v)(fx:vj x=true):∀{xs:List V} {us:List Value},Vals xs us->xs.all vj=true->∀ u∈us,SeqAt.EqAt A s u v (R8 x u)
 |_,_,.nil,_=>fun u hu=>by cases hu
 |y::xs,u::us,.cons r t,f=>fun u' hu=>by
  rw[List.all_cons,Bool.and_eq_true]at f;rcases List.mem_cons.mp hu with rfl|hu
  ·rw[ach r f.1];exact acg r rx f.1 fx
  ·exact sq rx fx t f.2 u' hu
def inV (x:V)(xs:List V):Bool:=xs.any fun y=>Zz y x
inductive akz (K:Frag)(neg:Bool)(x:V)(y:V)(H:Hp)(Q:VK):Prop
 |mk (p:_) (xs:_) (vh:y=.ref p) (vi:(aX K H p xs\/dh K H p xs)) (EB:vj x=true) (RQ:xs.all vj=true) (h4_:Q (.bl (if neg then !inV x xs else inV x xs)) H):akz K neg x y H Q
def rIn (K:Frag)(neg:Bool):R2:=fun x y H Q=>akz K neg x y H Q
theorem bh:sf X (compareOp .In) (rIn X.K false):=by
 intro pins s σ H x y v u Q I rx ry h;obtain⟨p,xs,rfl,hq,fx,fs,q⟩:=h;cases ry;rcases hq with hq|hq
 ·obtain⟨its,r,pl,hz⟩:=I.list hq;refine SeqAt.in_listAt (R8 x) pl.isList (fun w hw=>sq rx fx r fs w (by simpa using hw)) ⟨.bl _,H,I,rfl,?_⟩;rw[show its.toArray.any (R8 x)=its.any (R8 x) by simp,xr r fs];exact q
 ·obtain⟨its,r,pl,hz⟩:=I.tuple hq;refine SeqAt.in_tupleAt (R8 x) pl (fun w hw=>sq rx fx r fs w (by simpa using hw)) ⟨.bl _,H,I,rfl,?_⟩;rw[show its.toArray.any (R8 x)=its.any (R8 x) by simp,xr r fs];exact q
theorem xt:sf X (compareOp .NotIn) (rIn X.K true):=by
 intro pins s σ H x y v u Q I rx ry h;obtain⟨p,xs,rfl,hq,fx,fs,q⟩:=h;cases ry;rcases hq with hq|hq
 ·obtain⟨its,r,pl,hz⟩:=I.list hq;refine SeqAt.notIn_listAt (R8 x) pl.isList (fun w hw=>sq rx fx r fs w (by simpa using hw)) ⟨.bl _,H,I,rfl,?_⟩;rw[show its.toArray.any (R8 x)=its.any (R8 x) by simp,xr r fs];exact q
 ·obtain⟨its,r,pl,hz⟩:=I.tuple hq;refine SeqAt.notIn_tupleAt (R8 x) pl (fun w hw=>sq rx fx r fs w (by simpa using hw)) ⟨.bl _,H,I,rfl,?_⟩;rw[show its.toArray.any (R8 x)=its.any (R8 x) by simp,xr r fs];exact q
theorem xu:sf X (compareOp .NotIn) (fun x y H Q=>∃ i j,x=.str i/\y=.str j/\Q (.bl (!(!(Builtin.Str.occurrences j i 0 j.length 1).isEmpty))) H):=by
 intro pins s σ H x y v u Q I rx ry h;obtain⟨i,j,rfl,rfl,q⟩:=h;obtain⟨t,rfl⟩:=rx;obtain⟨t',rfl⟩:=ry;exact notIn_str ⟨.bl _,H,I,rfl,q⟩
theorem aZ:gU X (.builtin "len") (fun xs H Q=>∃ p ys,xs=[.ref p]/\(aX X.K H p ys\/dh X.K H p ys)/\Q (.int ys.length) H):=by
 intro pins s σ H xs us Q I r h;obtain⟨p,ys,rfl,hq,q⟩:=h;obtain⟨u,rfl,rx⟩:=vals1 r;cases rx;have hn:=zM;rcases hq with hq|hq
 ·obtain⟨its,r',pl,hz⟩:=I.list hq;have hlen:=r'.length;exact Calls.call_len_list pl.isList (by simp only [size_toArray] <;> omega) ⟨.int ys.length,H,I.tok _,⟨s.toks+1,by rw[size_toArray,hlen]⟩,q⟩
 ·obtain⟨its,r',pl,hz⟩:=I.tuple hq;have hlen:=r'.length;exact len_tuple pl (by simp only [size_toArray] <;> omega) ⟨.int ys.length,H,I.tok _,⟨s.toks+1,by rw[size_toArray,hlen]⟩,q⟩
theorem a5:gU X (.builtin "len") (fun xs H Q=>∃ z,xs=[.str z]/\z.length<=sizeLine/\Q (.int z.length) H):=by
 intro pins s σ H xs us Q I r h;obtain⟨z,rfl,hz,q⟩:=h;obtain⟨u,rfl,t,rfl⟩:=vals1 r;have hn:=zM;exact len_str (by omega) ⟨.int z.length,H,I.tok _,⟨_,rfl⟩,q⟩
theorem gU.or {f:Value}{r r':List V->Hp->VK->Prop}(h:gU X f r)(h':gU X f r'):gU X f (fun xs H Q=>r xs H Q\/r' xs H Q):=by
 intro pins s σ H xs us Q I rs q;rcases q with q|q
 ·exact h pins s σ H xs us Q I rs q
 ·exact h' pins s σ H xs us Q I rs q
theorem xw:gU X (.type "list") (fun xs H Q=>∃ p ys,xs=[.ref p]/\(aX X.K H p ys\/dh X.K H p ys)/\∀ l,H l=none->Q (.ref l) (upd H l (.lst ys))):=by
 intro pins s σ H xs us Q I r h;obtain⟨p,ys,rfl,hq,q⟩:=h;obtain⟨u,rfl,rx⟩:=vals1 r;cases rx;have fin:∀(its:List Value),Vals ys its->ys.length<=sizeLine->∀(h':Heap)(c':Nat),(∀ b o',s.heap.get? b=some o'->h'.get? b=some o') ->
   h'.get? s.heap.objs.size=some { cls:=.type "list",dict:=none,data:=.seq its.toArray c',slots:=#[] }->EP X pins σ Q (.ref s.heap.objs.size) { s with heap:=h' }:=fun its r' hz h' c' kp e =>
  ⟨.ref s.heap.objs.size,_,I.laid (t':=s.toks) kp (C' _) (show cH X.prog X.w _ h' _ (.lst ys) from⟨hz,its,c',r',e⟩),rfl,q _ (I.hok.fresh (C' _))⟩
 rcases hq with hq|hq
 ·obtain⟨its,r',pl,hz⟩:=I.list hq;have hlen:=r'.length;obtain⟨o,ho,hc,n,hd⟩:=pl.isList;exact call_list_seq p (.inl rfl) ho hc hd (fun h' c' kp e=>fin its r' hz h' c' kp e) (by simp only [size_toArray] <;> omega)
 ·obtain⟨its,r',pl,hz⟩:=I.tuple hq;have hlen:=r'.length;obtain⟨o,ho,hc,n,hd⟩:=pl;exact call_list_seq p (.inr rfl) ho hc hd (fun h' c' kp e=>fin its r' hz h' c' kp e) (by simp only [size_toArray] <;> omega)
theorem Hv:gU X (.type "tuple") (fun xs H Q=>∃ p ys,xs=[.ref p]/\((aX X.K H p ys/\∀ l,H l=none->Q (.ref l) (upd H l (.tup ys)))\/(dh X.K H p ys/\Q (.ref p) H))):=by
 intro pins s σ H xs us Q I r h;obtain⟨p,ys,rfl,h⟩:=h;obtain⟨u,rfl,rx⟩:=vals1 r;cases rx;rcases h with ⟨hq,q⟩|⟨hq,q⟩
 ·obtain⟨its,r',pl,hz⟩:=I.list hq;have hlen:=r'.length;refine call_tuple_list pl.isList (fun h' kp=>?_) (by simp only [size_toArray] <;> omega);have I1:Inv X pins σ H { s with heap:=h' }:=I.kept (t':=s.toks) kp;have I2:Inv X pins σ (upd H h'.objs.size (.tup ys)) { s with heap:=h'.push { cls:=.type "tuple",data:=.seq its.toArray } } :=
   I1.laid (t':=s.toks) (fun b o e=>J' _ e) (C' _) (show cH X.prog X.w _ _ _ (.tup ys) from⟨hz,its,r',IsTup.new _ _⟩)
  exact⟨.ref h'.objs.size,_,I2,rfl,q _ (I1.hok.fresh (C' _))⟩
 ·obtain⟨its,r',pl,hz⟩:=I.tuple hq;exact call_tuple_same pl ⟨.ref p,H,I,rfl,q⟩
def tyV (K:Frag)(T:String)(x:V)(H:Hp):Prop:=match x with
 |.str _=>T = "str"
 |.int _=>T = "int"
 |.ref p=>(T = "list"/\∃ xs,aX K H p xs)\/(T = "tuple"/\∃ o,K.lookup p=some o/\o.cls=.type "tuple"/\o.dict=none) \/
   (T = "dict"/\((∃ kvs,H p=some (.dK kvs))\/∃ kvs,H p=some (.dT kvs)))\/(T = "set"/\∃ S n,H p=some (.set S n))
 |_=>False
theorem aiK {pins:List (Addr×Obj)}{σ:St}{H:Hp}{s:Shared}{T:String}{x:V}{v:Value}(I:Inv X pins σ H s)(r:RelV x v)(ty:tyV X.K T x H) :
  s.TypeIs v T/\∀ a,v=.ref a->∃ ob,s.heap.get? a=some ob/\ob.dict=none:=by
 cases x with
 |str z =>
  obtain⟨t,rfl⟩:=r;cases (show T = "str" from ty);exact⟨typeIs_str s z t,fun _ e=>nomatch e⟩
 |int i =>
  obtain⟨t,rfl⟩:=r;cases (show T = "int" from ty);exact⟨typeIs_int s i t,fun _ e=>nomatch e⟩
 |ref p =>
  cases r;rcases ty with ⟨rfl,xs,hq⟩|⟨rfl,o,hk,hc,hd⟩|⟨rfl,hk⟩|⟨rfl,S,n,hk⟩
  ·obtain⟨its,_,pl,_⟩:=I.list hq;refine⟨pl.isList.typeIs,fun a e=>?_⟩;cases e;obtain⟨o,n,e,c,hd,_⟩:=pl;exact⟨o,e,hd⟩
  ·refine⟨⟨o,I.Ho p o hk,hc⟩,fun a e=>?_⟩;cases e;exact⟨o,I.Ho _ o hk,hd⟩
  ·have z:∃ o,s.heap.get? p=some o/\o.ExactDict:=by
    rcases hk with ⟨kvs,hk⟩|⟨kvs,hk⟩
    ·obtain⟨_,_,_,_,o,_,_,e,ex,_⟩:=I.hok p _ hk;exact⟨o,e,ex⟩
    ·obtain⟨_,_,_,_,o,_,_,e,ex,_⟩:=I.hok p _ hk;exact⟨o,e,ex⟩
   obtain⟨o,e,ex⟩:=z;refine⟨⟨o,e,ex.1⟩,fun a e2=>?_⟩;cases e2;exact⟨o,e,ex.2.1⟩
  ·obtain⟨o,_,_,_,e,ex,_⟩:=I.hok p _ hk;refine⟨⟨o,e,ex.1⟩,fun a e2=>?_⟩;cases e2;exact⟨o,e,ex.2.1⟩
 |_=>exact False.elim ty
def tBM (K:Frag)(T:String)(r:V->List V->Hp->VK->Prop)(to:TE)(t:TA):TE:=fun σ H Q=>to σ H fun x H1=>tyV K T x H1/\t σ H1 fun xs H2=>r x xs H2 Q
variable {o e:Expr} {es:List Expr} {to:TE} {t:TA} {name:Str} {apos cpos:Pos} {T id:String} {r:V->List V->Hp->VK->Prop}
theorem ik (pa:PlainAttrs T)(slot:Slot T name id)(hty:typeOf (.builtin id)=pure (.type "method_descriptor"))(hm:MtR X id r)(ho:PE X o to)(ha:PA X (e::es) t)
  (hbase:attributeBase o name X.env (eval o X.env)=eval o X.env:=by rfl)
  (hfew:((backTo cpos (starEach (e::es) X.env)).all (fun x=>!x.1)&&(backToKw cpos (keywordEach [] X.env)).all (fun x=>x.1.isSome)
   && decide ((e::es).length+([]:List Keyword).length+(if([]:List Keyword).isEmpty then 0 else 1)<30))=true:=by rfl)
  (hline:(apos.endLine==cpos.line)=true:=by rfl) (hs:starEach (e::es) X.env=(false,eval e X.env)::starEach es X.env:=by rfl) (hplain:(backTo cpos (starEach es X.env)).any (·.1)=false:=by rfl) :
  PE X (.Call (.Attribute o name apos) (e::es) [] cpos) (tBM X.K T r to t):=by
 intro pins s σ H Q I h;refine wpAny_Call_method_late hbase hfew hline rfl (cJ (ho pins s σ H _ I h) fun v s1 ⟨x,H1,I1,r1,ty,q1⟩=>?_);obtain⟨h1,h2⟩:=aiK I1 r1 ty;refine⟨T,id,pa,slot,hty,h1,h2,?_⟩;have hA:=ha cpos pins s1 σ H1 _ I1 q1;rw[hs]at hA ⊢;refine Calls.callWith_builtin (by show(false||(backTo cpos (starEach es X.env)).any (·.1))=false;rw[hplain] <;> rfl) (Calls.evalArgs_plain ?_);exact cJ hA fun us s2 ⟨vs,H2,I2,r2,q2⟩=>hm pins s2 σ H2 x vs v us Q I2 r1 r2 q2
end
end L2
namespace L2
open PySem PySem.Spec PyProof.Rows
def MtM (X:Cx)(id:String)(r:V->List V->Hp->VK->Prop):Prop :=
 ∀(pins:List (Addr×Obj)) (s:Shared) (σ:St) (H:Hp) (x:V) (xs:List V) (v:Value) (us:List Value) (Q:VK),Inv X pins σ H s->RelV x v->Vals xs us->r x xs H Q ->
  wpAny (model X.prog X.w) X.A (call (.builtin id) (v::us)) (EP X pins σ Q) X.xe s
theorem Vals.one:∀{x:V} {us:List Value},Vals [x] us->∃ u,us=[u]/\RelV x u
 |_,_,.cons r .nil=>⟨_,rfl,r⟩
theorem Vals.two:∀{x y:V} {us:List Value},Vals [x,y] us->∃ u v,us=[u,v]/\RelV x u/\RelV y v
 |_,_,_,.cons r (.cons q .nil)=>⟨_,_,rfl,r,q⟩
theorem Vals.rep {xs:List V}{us:List Value}(h:Vals xs us):∀ k:Nat,Vals (List.replicate k xs).flatten (List.replicate k us).flatten
 |0=>.nil
 |k+1=>by
  rw[List.replicate_succ,List.replicate_succ,List.flatten_cons,List.flatten_cons];exact Vals.append h (Vals.rep h k)
theorem foldl_rep (its:List Value):∀(k:Nat)(acc:List Value),
  List.foldl (fun x1 x2=>x1++x2) acc.toArray (List.replicate k its.toArray)=(acc++(List.replicate k its).flatten).toArray
 |0,acc=>by simp
 |k+1,acc=>by
  have e:acc.toArray++its.toArray=(acc++its).toArray:=by simp
  have e2:(acc++its)++(List.replicate k its).flatten=acc++(List.replicate (k+1) its).flatten:=by
   rw[List.replicate_succ,List.flatten_cons,List.append_assoc]
  rw[<-e2,<-foldl_rep its k (acc++its),<-e,List.replicate_succ,List.foldl_cons]
section
variable {X:Cx} {pins:List (Addr×Obj)} {σ:St} {H:Hp} {s:Shared} {l b:Addr} {xs ys zs:List V}
theorem Inv.anA {its its':List Value}{n:Nat}{f:Array Value->Array Value}{t':Nat}(I:Inv X pins σ H s)(hH:H l=some (.lst xs))
  (e:s.heap.get? l=some { cls:=.type "list",data:=.seq its.toArray n }) (hf:f its.toArray=its'.toArray) (hv:Vals ys its') (hz:ys.length<=sizeLine) :
  Inv X pins σ (upd H l (.lst ys)) { s with heap:=s.heap.update l (Obj.mapSeq f),toks:=t' }:=by
 have q:=PySem.IsL.update e f;rw[hf]at q;refine I.write (x:=l) (e:=l) (by rw[hH];exact trivial) (.inl rfl) (fun b' u hb hu=>(Heap.get?_update_other s.heap (Obj.mapSeq f) (Ne.symm hb)).trans hu) ⟨_,q⟩ ?_;exact⟨hz,its',_,hv,q⟩
theorem Inv.akA {its:List Value}{t':Nat}(I:Inv X pins σ H s)(hv:Vals ys its)(hz:ys.length<=sizeLine) :
  Inv X pins σ (upd H s.heap.objs.size (.lst ys)) { s with heap:=s.heap.push { cls:=.type "list",data:=.seq its.toArray },toks:=t' } :=
 I.laid (fun _ _ q=>J' _ q) (C' _) ⟨hz,its,0,hv,Heap.get?_push_size _ rfl⟩
theorem Inv.fresh (I:Inv X pins σ H s):H s.heap.objs.size=none:=I.hok.fresh (C' _)
theorem Inv.afN (I:Inv X pins σ H s)(hH:H l=some (.lst xs)):xs.length<=sizeLine/\∃(its:List Value)(n:Nat),Vals xs its/\xs.length=its.length/\s.heap.get? l=some { cls:=.type "list",data:=.seq its.toArray n }:=by
 obtain⟨z,its,n,r,e⟩:=I.hok l _ hH;exact⟨z,its,n,r,r.length,e⟩
theorem aci {n:Nat}(h:n<=sizeLine):Builtin.List.listTooLong n=false:=by
 unfold Builtin.List.listTooLong;exact i' (by omega)
end
section
variable {X:Cx}
inductive PV (x:V)(vs:List V)(H:Hp)(Q:VK):Prop
 |mk (l:_) (xs:_) (y:_) (vh:x=.ref l) (vi:vs=[y]) (EB:H l=some (.lst xs)) (RQ:xs.length<sizeLine) (h4_:Q .non (upd H l (.lst (xs++[y])))):PV x vs H Q
def afO :V->List V->Hp->VK->Prop:=fun x vs H Q=>PV x vs H Q
theorem bj:MtM X "list.append" afO:=by
 intro pins s σ H x vs v us Q I rx rv h;obtain⟨l,xs,y,rfl,rfl,hH,hz,q⟩:=h;cases rx;obtain⟨u,rfl,ru⟩:=rv.one;obtain⟨z,its,n,r,hl,e⟩:=I.afN hH;refine call_meets F.slot_list_append ⟨_,e,rfl⟩ F.entry_list_append (F.args_list_append_2 _ _) (PySem.list_append l its.toArray n u (by rw[size_toArray];omega)) ⟨e,?_⟩;refine⟨.non,_,I.anA (its':=its++[u]) hH e (by simp) (r.append (.cons ru .nil)) ?_,rfl,q⟩;rw[length_append,List.length_singleton];omega
inductive ahx (x:V)(y:V)(H:Hp)(Q:VK):Prop
 |mk (l:_) (b:_) (xs:_) (zs:_) (vh:x=.ref l) (vi:y=.ref b) (EB:H l=some (.lst xs)) (RQ:H b=some (.lst zs)) (h4_:xs.length+zs.length<=sizeLine) (h5_:∀ p,H p=none->Q (.ref p) (upd H p (.lst (xs++zs)))):ahx x y H Q
def anB :R2:=fun x y H Q=>ahx x y H Q
theorem ba:sf X (binaryOp .Add) anB:=by
 intro pins s σ H x y v u Q I rx ry h;obtain⟨l,b,xs,zs,rfl,rfl,hH,hB,hz,q⟩:=h;cases rx;cases ry;obtain⟨z,its,n,r,hl,e⟩:=I.afN hH;obtain⟨z2,its2,n2,r2,hl2,e2⟩:=I.afN hB;refine PySem.P.add_list e e2 ?_ (by rw[size_toArray,size_toArray];omega);have ea:its.toArray++its2.toArray=(its++its2).toArray:=by simp
 rw[ea];exact⟨.ref _,_,I.akA (t':=s.toks) (r.append r2) (by rw[length_append];omega),rfl,q _ I.fresh⟩
def anC:R2:=fun x y H Q=>∃ l k xs,x=.ref l/\y=.int k/\H l=some (.lst xs)/\-(2 ^ 63)<=k/\k<2 ^ 63/\xs.length * k.toNat<=sizeLine /\
 ∀ p,H p=none->Q (.ref p) (upd H p (.lst (List.replicate k.toNat xs).flatten))
theorem len_rep {α:Type}(xs:List α)(k:Nat):(List.replicate k xs).flatten.length=k * xs.length:=by
 induction k with
 |zero=>simp
 |succ k ih=>rw[List.replicate_succ,List.flatten_cons,length_append,ih,Nat.succ_mul,Nat.add_comm]
theorem vD:sf X (binaryOp .Mult) anC:=by
 intro pins s σ H x y v u Q I rx ry h;obtain⟨l,k,xs,rfl,rfl,hH,h1,h2,hz,q⟩:=h;cases rx;obtain⟨t,rfl⟩:=ry;obtain⟨z,its,n,r,hl,e⟩:=I.afN hH;have hlen:its.toArray.size * k.toNat<=sizeLine:=by rw[size_toArray,<-hl];exact hz
 have anD:¬ its.toArray.size * k.toNat > (2 ^ 63-1) / 8:=by
  have:(sizeLine:Nat)<=(2 ^ 63-1) / 8:=by decide
  omega
 have hfit:¬(!Builtin.List.listFitsIndex k)=true:=by
  rw[fitsIndex_both h1 h2];exact Y'
 have akC:¬ Builtin.List.listTooLong (its.toArray.size * k.toNat)=true:=by
  rw[aci hlen];exact Y'
 have hnew:List.foldl (fun x1 x2=>x1++x2) #[] (List.replicate (if its.toArray.isEmpty=true then 0 else k.toNat) its.toArray)=(List.replicate k.toNat its).flatten.toArray:=by
  have f0:∀ m:Nat,List.foldl (fun x1 x2=>x1++x2) #[] (List.replicate m its.toArray)=(List.replicate m its).flatten.toArray:=fun m=>by
   have:=foldl_rep its m [];rw[nil_append]at this;exact this
  rw[f0];cases its with
  |nil=>simp
  |cons a r'=>rw[L' (by simp)]
 refine wpAny_binaryOp_repeat_ref (T:="list") (U:="int") (by decide) ⟨_,e,rfl⟩ (fun s'=>typeIs_int s' k t) noFill_list_mul F.fills_int_mul F.slot_int_rmul repeat_list F.slot_int_index.lookup
  (call_meets F.slot_int_rmul (typeIs_int s k t) F.entry_int_rmul (F.args_int_rmul_2 _ _) (int___rmul___int_list k t l its.toArray n)
   ⟨e,rfl,⟨_,e,rfl⟩,call_meets F.slot_list_mul ⟨_,e,rfl⟩ F.entry_list_mul (F.args_list_mul_2 _ _) (AutoListH.list___mul___list_int_3 l its.toArray n k t hfit anD akC) ⟨e,?_⟩⟩)
 rw[hnew];exact⟨.ref _,_,I.akA (t':=s.toks) (r.rep k.toNat) (by rw[len_rep,Nat.mul_comm];exact hz),rfl,q _ I.fresh⟩
end
section
variable {prog:Program} {w:World} {A:Around} {E:Value->Shared->Prop} {s:Shared}
set_option maxRecDepth 100000 in
end
section
variable {X:Cx}
end
end L2
namespace Att
open PySem PySem.W PySem.Calls PyProof.Rows
theorem Cd {P:Params}{h:Heap}:∀(ns:List Int)(vs:List Value),WellAll P h vs (ns.map WData.int)->IntsAre vs ns:=by
 intro ns
 induction ns with
 |nil =>
  intro vs w;rw[List.map_nil]at w;cases w;exact .nil
 |cons n ns ih =>
  intro vs w;rw[map_cons]at w;cases w with
  |cons a b =>
   cases a;exact .cons _ _ (ih _ b)
theorem ZC {l:OpenLaw}{n:Nat}(hn:l.most=some n){P:Params}{h:Heap}{args:List WData}{vals:List Value}
  (hpre:l.row.toRowW.claim.pre args=true) (hwl:WellAll P h vals args) :
  ∃ a vs ns,vals=[Value.ref a]/\args=[WData.list (ns.map WData.int)]/\h.get? a=some { cls:=.type "list",data:=.seq vs.toArray }/\IntsAre vs ns/\ns.length<=n:=by
 have hsh:WShape.hasAll [] args [.list .int]=true:=(pre_splitW hpre).1;have hc:l.pre.holds [] { args:=args } = true:=(pre_splitW hpre).2;obtain⟨d,r,rfl,h1,h2⟩:=hasAllW_cons hsh;obtain rfl:=hasAllW_nil h2;obtain⟨xs,rfl,h3⟩:=hasW_list h1;obtain⟨ns,rfl⟩:=items_int h3;have hlen:ns.length<=n:=by
  unfold OpenLaw.pre at hc;have h4:(WTm.not (.lt (.lit (.int (n:Int))) (.len (.arg 0)))).holds [] { args:=[.list (ns.map .int)] } = true:=by
   have h4:=(holds_andW hc).1;rw[hn]at h4;exact h4
  have h5:=condW_of h4 (w_not (w_lt w_lit (w_len_list (w_arg rfl))));rw[O']at h5;refine Nat.le_of_not_lt fun q=>?_;have q':(n:Int)<((ns.length:Nat):Int):=by omega
  first
   |(rw[W' q']at h5;exact absurd h5 (by decide))
   |(simp at h5;omega)
 cases hwl with
 |cons w1 w2 =>
  cases w2;cases w1 with
  |list ho hall=>exact⟨_,_,ns,rfl,rfl,ho,Cd ns _ hall,hlen⟩
theorem ZD (l:OpenLaw)(args:List WData):l.row.toRowW.claim.post args (.bool true) args=true :=
 postW_of (r:=l.row.toRowW) (X:=(true==true))
  (show WShape.has [] (.bool true) .bool=true by first|rfl|decide|simp[WShape.has,WShape.arms,WShape.armsAll])
  (show(WTm.eq .res (.lit (.bool true))).value [] { args:=args,res:=some (.bool true),after:=args } = some (.bool (true==true)) from w_eq_bool (w_res rfl) w_lit) rfl
theorem PX {l:OpenLaw}{n:Nat}{q:Program}{loose:List Str}{XP:(Str->Option Value)->Heap->Prop}{YP:World->Heap->Prop}{d:DefRec}
  (hn:l.most=some n) (hdf:d.params.defaults=[])
  (call:∀(w:World)(s₀ s₁:Shared)(mg mb:Str->Option Value)(fa:Addr)(o:Obj)(pm cd doc:Value)(a:Addr)(vs:List Value)(ns:List Int),
   Ground q loose [] XP w s₀ mg mb s₁.heap->YP w s₁.heap ->
   s₁.heap.get? fa=some o->o.data=.func (docDef d.name d.params d.body d.scope pm cd doc)->s₁.heap.CodeRec cd d.name->mg d.name=some (.ref fa) ->
   s₁.heap.get? a=some { cls:=.type "list",data:=.seq vs.toArray }->IntsAre vs ns->ns.length<=n->s₁.gens = #[] ->
   codeAny (model l.prog w) callerA (.call (.ref fa) ⟨[.ref a],[]⟩) (fun r s'=>r=.ok (.ret (.bool true))/\OldK s₁.heap s'.heap/\s'.os=s₁.os/\AllBare s'.gens) s₁) :
  WalkO q loose XP YP l.row.toRowW d [] (fun f vs=>PySem.call f vs):=by
 intro w s₀ s₁ mg mb G Y fa o pm cd doc dV kV ho hd hcd hD hmg hg args vals as hpre hlay hrd hwl hlo;obtain rfl:dV=.none:=Dflts.none hD hdf;obtain rfl:kV=.none:=Dflts.noKw hD;obtain⟨a,vs,ns,rfl,rfl,hobj,hints,hlen⟩:=ZC hn hpre hwl;refine enter_call (codeAny_mono (call w s₀ s₁ mg mb fa o pm cd doc a vs ns G Y ho (fd_plain hd) hcd hmg hobj hints hlen hg) fun r s' hq=>?_);obtain⟨rfl,h2,h3,h4⟩:=hq;exact⟨.inl ⟨.bool true,.bool true,[],rfl,fun _=>rfl,.bool true,ZD l _,fun _=>⟨List.Pairwise.nil,fun _ hm=>(nomatch hm)⟩⟩,h2,h3,h4⟩
section
variable {prog:Program} {w:World} {A:Around} {E:Value->Shared->Prop} {s:Shared} {K:Frag}
def zO (h:Heap):Heap:={ h with objs:=#[] }
theorem EW (h:Heap)(b:Addr):(zO h).get? b=none:=by
 cases e:(zO h).get? b with
 |none=>rfl
 |some o=>exact absurd (T' e) (Nat.not_lt_zero _)
def ledger (h:Heap)(L d:Addr):List (Addr×Obj):=(List.range h.objs.size).filterMap fun a=>if a=L\/a=d then none else(h.get? a).map fun o=>(a,o)
theorem EX {h:Heap}{L d a:Addr}{o:Obj}:(a,o)∈ledger h L d ↔ a≠L/\a≠d/\h.get? a=some o:=by
 unfold ledger;rw[List.mem_filterMap];constructor
 ·rintro⟨b,_,e⟩;split at e
  ·cases e
  ·rename_i hb
   obtain⟨o',ho,e'⟩:=Option.map_eq_some_iff.mp e;cases e';exact⟨fun q=>hb (.inl q),fun q=>hb (.inr q),ho⟩
 ·rintro⟨n1,n2,ho⟩;refine⟨a,mem_range.mpr (T' ho),?_⟩;rw[L' (show ¬(a=L\/a=d) from fun q=>q.elim n1 n2),ho] <;> rfl
theorem aiL {h:Heap}{L:Addr}{m:Str->Option Value}(n:h.Ns L m):Fr (zO h) L h m :=
 ⟨n,fun b o e=>(by rw[EW]at e;cases e),V' _⟩
end
end Att
namespace L2
open PySem PySem.Spec PyProof.Rows
theorem JB:∀{vs:List Value} {ns:List Int},IntsAre vs ns->Vals (ns.map V.int) vs
 |_,_,.nil=>.nil
 |_,_,.cons n t h=>.cons ⟨t,rfl⟩ (JB h)
end L2
namespace L2
open PySem PySem.Spec PyProof.Rows
end L2
namespace L2
open PySem PySem.Spec PyProof.Rows
def ak (s:Stmt):Arguments:=match s with
 |.FunctionDef _ a _ _ _ _ _ _ _ _=>a
 |_=>{ posonlyargs:=[],args:=[],vararg:=none,kwonlyargs:=[],kw_defaults:=[],kwarg:=none,defaults:=[] }
def ah (s:Stmt):List Stmt:=match s with
 |.FunctionDef _ _ b _ _ _ _ _ _ _=>b
 |_=>[]
def ae (s:Stmt):Scope:=match s with
 |.FunctionDef _ _ _ _ _ _ sc _ _ _=>sc
 |_=>{ kind:=.function,names:=[],isGenerator:=false,isCoroutine:=false }
abbrev ig:CXT:=fun _ _ _ _ _ _=>False
abbrev E0:XK:=fun _ _ _=>False
theorem aQ {X:Cx}:Passes ig X E0:=fun _ _ _ _ _ _ _ h=>h.elim
structure jA (K:Frag)(x qual:Str)(st:Stmt)(f:Addr)(fd:FuncData):Prop where
 ex:∃(oc:Value)(od:Option Addr)(kV doc pm:Value)(an:Option Addr)(cdv ct:Value)(osl:Array (Option Value)),
  fd=fnOf x qual (ak st) (ah st) (ae st) .none kV doc pm an cdv ct/\K.lookup f=some ⟨oc,od,.func fd,osl⟩/\codeIn K cdv qual=true
 kp:keepIn K (.ref f)=true
section
variable {P:Program} {w:World} {K:Frag} {mg:Str->Option Value} {base:Heap}
theorem jA.ok {x qual:Str}{st:Stmt}{f:Addr}{fd:FuncData}{N ps:List Str}{k:Nat}{sp:Sp}(F:jA K x qual st f fd)(S:aH N ps (ae st))(len:∀ vs H Q E,sp vs H Q E->vs.length=ps.length)
  (hbody:∀(cdv:Value)(A:Around)(outer:List Env)(s:Shared)(H:Hp)(vs:List V)(Q:VK)(E:XK),ma k (A.deeper (envOfC qual (ae st) s.heap.objs.size f cdv))->sp vs H Q E ->
   ∃ t,PJ (PQ ig P w K mg base N qual (ae st) f cdv A outer s H E).nox (ah st) t/\t { nx:=fun _ H'=>Q .non H',rt:=Q } (start N vs) H):bK P w K mg base ig (k+1) f fd ps sp:=by
 obtain⟨oc,od,kV,doc,pm,an,cdv,ct,osl,rfl,lk,hcd⟩:=F.ex;refine aca lk hcd S len fun A outer s H vs Q E hr hsp=>?_;obtain⟨t,h,q⟩:=hbody cdv A outer s H vs Q E hr hsp;exact⟨t,h.nox,q⟩
theorem jA.binds {x qual:Str}{st:Stmt}{f:Addr}{fd:FuncData}{ps:List Str}(F:jA K x qual st f fd)
  (h:∀(kV doc pm:Value)(an:Option Addr)(cdv ct:Value)(us:List Value),us.length=ps.length->bindArgs (fnOf x qual (ak st) (ah st) (ae st) .none kV doc pm an cdv ct) ⟨us,[]⟩=pure (ps.zip us)):Binds K fd ps []:=by
 obtain⟨oc,od,kV,doc,pm,an,cdv,ct,osl,rfl,lk,hcd⟩:=F.ex;exact .all (h kV doc pm an cdv ct)
theorem aU {x qual:Str}{st:Stmt}{f:Addr}{oc:Value}{od an:Option Addr}{osl:Array (Option Value)}{kV doc pm cdv ct:Value}(l:K.lookup f=some ⟨oc,od,.func (fnOf x qual (ak st) (ah st) (ae st) .none kV doc pm an cdv ct),osl⟩)
  (c:codeIn K cdv qual=true) (k:keepIn K (.ref f)=true):jA K x qual st f (fnOf x qual (ak st) (ah st) (ae st) .none kV doc pm an cdv ct):=⟨⟨oc,od,kV,doc,pm,an,cdv,ct,osl,rfl,l,c⟩,k⟩
end
theorem oI {A:Around}{k:Nat}(hr:ma k A):A.units+1<cLine:=Nat.lt_of_le_of_lt (Nat.add_le_add_left (by decide:1<=64) _) hr.units
theorem aS {n:Nat}(h:n<=1000):n<sizeLine:=Nat.lt_of_le_of_lt h (by decide)
section
variable {X:Cx}
theorem pv (i:Nat){x:Str}{pos:Pos}(hN:X.N[i]? = some x:=by rfl)(hv:Vis X.env.scope x:=by first|exact Or.inl rfl|exact Or.inr (Or.inl rfl)|exact Or.inr (Or.inr rfl))(hd:(x==("__debug__":Str))=false:=by decide)
  (hcd:(x==("__classdict__":Str))=false:=by decide):PE X (.Name x pos) (air i):=ais hN hv hd hcd
end
theorem c9 {A B:Prop}(h:B):if false=true then A else B:=by
 rw[L' Y'];exact h
theorem dj {A B:Prop}(h:A):if true=true then A else B:=by
 rw[R' rfl];exact h
theorem aM {c A B:Prop}[Decidable c](h1:c->A)(h2:¬ c->B):if c then A else B:=by
 by_cases h:c
 ·rw[R' h];exact h1 h
 ·rw[L' h];exact h2 h
def az (H H':Hp):Prop:=∀ b o,H b=some o->H' b=some o
theorem az.refl (H:Hp):az H H:=fun _ _ h=>h
theorem az.trans {H H1 H2:Hp}(a:az H H1)(b:az H1 H2):az H H2:=fun c o h=>b c o (a c o h)
theorem az.free {H H':Hp}(e:az H H'){l:Addr}(h:H' l=Option.none):H l=Option.none:=by
 cases q:H l with
 |none=>rfl
 |some o =>
  rw[e l o q]at h;cases h
theorem az.seq {K:Frag}{H H':Hp}{a:Addr}{xs:List V}(e:az H H')(h:aX K H a xs):aX K H' a xs:=by
 rcases h with (h|⟨o,h⟩)|h
 ·exact .inl (.inl (e _ _ h))
 ·exact .inl (.inr ⟨o,e _ _ h⟩)
 ·exact .inr h
end L2
set_option maxHeartbeats 4000000
namespace L2
open PySem PySem.Spec PyProof.Rows
def cM (env:Env):List (Str×NameKind)->List (Str×Addr)->List (Str×Addr)
 |[],acc=>acc
 |p::l,acc=>cM env l (if p.2 == .free then(p.1,(env.cells.lookup p.1).getD 0)::acc else acc)
theorem Kr {env:Env}{scope:Scope}(h:∀ p∈scope.names,p.2=.free->∃ c,env.cells.lookup p.1=some c):closureFor scope env=pure (cM env scope.names []):=by
 have go:∀(l:List (Str×NameKind)) (acc:List (Str×Addr)),(∀ p∈l,p.2=.free->∃ c,env.cells.lookup p.1=some c) ->
   (forIn l acc fun(p:Str×NameKind) cs=>if(p.2==NameKind.free)=true then(cellOf env p.1 >>= fun a=>pure (ForInStep.yield ((p.1,a)::cs))) else pure (ForInStep.yield cs))=(pure (cM env l acc):Sem (List (Str×Addr))):=by
  intro l
  induction l with
  |nil=>intro acc _;rfl
  |cons p l ih =>
   intro acc hl;rw[List.forIn_cons];have hr:=fun q hq=>hl q (Zb' _ hq)
   by_cases hk:p.2=.free
   ·obtain⟨c,hc⟩:=hl p mem_cons_self hk;have e1:(p.2==NameKind.free)=true:=by rw[hk];rfl
    rw[R' e1];have e2:cellOf env p.1=pure c:=by unfold cellOf;rw[hc]
    rw[e2,pure_bind,pure_bind];show forIn l ((p.1,c)::acc) _=_;rw[ih _ hr];show _=pure (cM env l (if p.2 == .free then(p.1,(env.cells.lookup p.1).getD 0)::acc else acc));rw[R' e1,hc];rfl
   ·have e1:¬(p.2==NameKind.free)=true:=by intro z;exact hk (by simpa using z)
    rw[L' e1,pure_bind];show forIn l acc _=_;rw[ih _ hr];show _=pure (cM env l (if p.2 == .free then(p.1,(env.cells.lookup p.1).getD 0)::acc else acc));rw[L' e1]
 have e:=go scope.names [] h;unfold closureFor;show(forIn scope.names ([]:List (Str×Addr)) _ >>= fun r=>pure r)=_;rw[bind_pure];exact e
theorem zP {env:Env}{x:Str}:∀(l:List (Str×NameKind)) (acc:List (Str×Addr)) {c:Addr},(cM env l acc).lookup x=some c->acc.lookup x=some c\/((x,NameKind.free)∈l/\c=(env.cells.lookup x).getD 0)
 |[],acc,c,h=>.inl h
 |p::l,acc,c,h=>by
  rcases zP l _ h with z|⟨z,e⟩
  ·by_cases hk:(p.2==NameKind.free)=true
   ·rw[R' hk,List.lookup_cons]at z
    by_cases hx:(x==p.1)=true
    ·rw[hx]at z;have e:x=p.1:=by simpa using hx
     have e2:p.2=.free:=by simpa using hk
     refine .inr ⟨?_,?_⟩
     ·rw[e,<-e2];exact mem_cons_self
     ·rw[e];exact(Za' z).symm
    ·have hx':(x==p.1)=false:=by simpa using hx
     rw[hx']at z;exact .inl z
   ·rw[L' hk]at z;exact .inl z
  ·exact .inr ⟨Zb' _ z,e⟩
theorem sr {env:Env}{x:Str}:∀(l:List (Str×NameKind)) (acc:List (Str×Addr)),((acc.lookup x).isSome=true\/(x,NameKind.free)∈l)->((cM env l acc).lookup x).isSome=true
 |[],acc,h=>by
  rcases h with h|h
  ·exact h
  ·cases h
 |p::l,acc,h=>by
  refine sr l _ ?_;rcases h with h|h
  ·left
   by_cases hk:(p.2==NameKind.free)=true
   ·rw[R' hk,List.lookup_cons];cases (x==p.1) with
    |true=>rfl
    |false=>exact h
   ·rw[L' hk];exact h
  ·rcases List.mem_cons.mp h with e|h
   ·left
    have e1:p.1=x:=by rw[<-e]
    have e2:(p.2==NameKind.free)=true:=by rw[<-e];rfl
    rw[R' e2,List.lookup_cons,e1];simp
   ·exact .inr h
theorem eD {env:Env}{x:Str}{k:NameKind}:∀(l:List (Str×NameKind)),
  (l.map fun(n,k)=>if(k==NameKind.free&&env.scope.kind == .function&&env.kindOf n==some .cell) then(n,NameKind.cell) else(n,k)).lookup x=some k ->
   l.lookup x=some k\/(k=.cell/\l.lookup x=some .free)
 |[],h=>by cases h
 |(n,q)::l,h=>by
  rw[map_cons]at h;cases hx:(x==n) with
  |true =>
   rw[List.lookup_cons,hx]
   by_cases hc:(q==NameKind.free&&env.scope.kind == .function&&env.kindOf n==some .cell)=true
   ·simp only [hc,if_true,List.lookup_cons,hx]at h;have e:q=.free:=by
     have:=(Bool.and_eq_true_iff.mp (Bool.and_eq_true_iff.mp hc).1).1
     simpa using this
    right
    exact⟨(Za' h).symm,by rw[e]⟩
   ·have hc':(q==NameKind.free&&env.scope.kind == .function&&env.kindOf n==some .cell)=false:=by simpa using hc
    simp only [hc',Bool.false_eq_true,if_false,List.lookup_cons,hx]at h;exact .inl h
  |false =>
   rw[List.lookup_cons,hx];refine eD (env:=env) l ?_
   by_cases hc:(q==NameKind.free&&env.scope.kind == .function&&env.kindOf n==some .cell)=true
   ·simp only [hc,if_true,List.lookup_cons,hx]at h;exact h
   ·have hc':(q==NameKind.free&&env.scope.kind == .function&&env.kindOf n==some .cell)=false:=by simpa using hc
    simp only [hc',Bool.false_eq_true,if_false,List.lookup_cons,hx]at h;exact h
structure Bk where
 C:Addr
 s₂:Shared
 asD:Hp
 fp:List Addr
 xe:Value->Shared->Prop
def aY (X:Cx)(cn:List Str)(scope:Scope)(b:Bk):Cx where
 prog:=X.prog
 w:=X.w
 K:=X.K
 mg:=X.mg
 base:=X.base
 A:=X.A
 N:=cn++X.N
 s₀:=b.s₂
 H₀:=b.asD
 env:=compEnvC scope (cM X.env scope.names []) b.C X.env
 outer:=X.stack
 stack:=X.stack
 ex:=b.fp
 fn:=fun _=>false
 calm:=X.calm
 pn:=[]
 xe:=b.xe
def acj (sc:Scope)(N:List Str)(scope:Scope):Bool :=
 (scope.kind == .function) &&
 (scope.names.all fun p=>(p.2 != .cell)&&((p.2 != .free)||(sc.names.lookup p.1==some .cell)||(sc.names.lookup p.1==some .free))&&((p.2 != .local)||(scope.names.lookup p.1==some .local))) &&
 (N.all fun x=>scope.names.lookup x != some .local)
structure bZ (sc:Scope)(N:List Str)(scope:Scope):Prop where
 kind:scope.kind=.function
 Ks:∀ p∈scope.names,p.2≠.cell
 free:∀ p∈scope.names,p.2=.free->sc.names.lookup p.1=some .cell\/sc.names.lookup p.1=some .free
 loc:∀ p∈scope.names,p.2=.local->scope.names.lookup p.1=some .local
 apart:∀ x∈N,scope.names.lookup x≠some .local
theorem bZ.of {sc:Scope}{N:List Str}{scope:Scope}(h:acj sc N scope=true):bZ sc N scope:=by
 unfold acj at h;rw[Bool.and_eq_true,Bool.and_eq_true]at h;obtain⟨⟨h1,h2⟩,h3⟩:=h;rw[all_eq_true]at h2 h3;refine⟨by simpa using h1,fun p hp=>?_,fun p hp e=>?_,fun p hp e=>?_,fun x hx=>?_⟩
 ·have:=h2 p hp;rw[Bool.and_eq_true,Bool.and_eq_true]at this
  simpa using this.1.1
 ·have:=h2 p hp;rw[Bool.and_eq_true,Bool.and_eq_true]at this;have q:=this.1.2;rw[e]at q;rw[Bool.or_eq_true,Bool.or_eq_true]at q;rcases q with (q|q)|q
  ·exact absurd q (by decide)
  ·exact .inl (by simpa using q)
  ·exact .inr (by simpa using q)
 ·have:=h2 p hp;rw[Bool.and_eq_true,Bool.and_eq_true]at this;have q:=this.2;rw[e]at q;rw[Bool.or_eq_true]at q;rcases q with q|q
  ·exact absurd q (by decide)
  ·simpa using q
 ·have:=h3 x hx
  simpa using this
section
variable {X:Cx} {pins:List (Addr×Obj)} {σ:St} {H:Hp}
theorem iH {l:List (Str×NameKind)}{x:Str}{k:NameKind}(h:l.lookup x=some k):(x,k)∈l:=PySem.mem_of_lookup h
theorem Inv.block {s₂:Shared}{h₁:Heap}{tk:Nat}{cn:List Str}{scope:Scope}{fp:List Addr}{xe:Value->Shared->Prop}{C D:Addr}{m:Str->Option Value}
  (I:Inv X pins σ H s₂) (F:bZ X.env.scope X.N scope) (hc:X.calm=true) (hf:∀ b∈fp,nX X pins H b) (hfl:∀ b∈fp,b<s₂.heap.objs.size)
  (hC:s₂.heap.objs.size<=C) (hD:s₂.heap.objs.size<=D) (hDC:D≠C) (hn:h₁.Ns C m) (old:∀ b o,s₂.heap.get? b=some o->h₁.get? b=some o)
  (hacc:h₁.get? D=some { cls:=.type "list",data:=.seq ([]:List Value).toArray 0 }) :
  Inv (aY X cn scope ⟨C,s₂,H,fp,xe⟩) [] (List.replicate cn.length none++σ) (upd H D (.lst [])) { s₂ with heap:=h₁,toks:=tk }:=by
 have qj:∀ x,((aY X cn scope ⟨C,s₂,H,fp,xe⟩).env.kindOf x=some .cell\/(aY X cn scope ⟨C,s₂,H,fp,xe⟩).env.kindOf x=some .free)->(x,NameKind.free)∈scope.names:=by
  intro x hx;have hx':(relabel scope X.env).names.lookup x=some .cell\/(relabel scope X.env).names.lookup x=some .free:=hx;rcases hx' with z|z
  ·rcases eD scope.names z with z|⟨_,z⟩
   ·exact absurd rfl (F.Ks _ (iH z))
   ·exact iH z
  ·rcases eD scope.names z with z|⟨e,_⟩
   ·exact iH z
   ·cases e
 have xy:∀ x,(x,NameKind.free)∈scope.names->X.env.kindOf x=some .cell\/X.env.kindOf x=some .free:=fun x hx=>F.free _ hx rfl;have eE:∀ x c,(cM X.env scope.names []).lookup x=some c->X.env.cells.lookup x=some c:=by
  intro x c e;rcases zP _ _ e with z|⟨z,e2⟩
  ·cases z
  ·obtain⟨c',hc'⟩:=I.ok.has x (xy x z);rw[hc']at e2 ⊢;rw[e2];rfl
 have anF:(aY X cn scope ⟨C,s₂,H,fp,xe⟩).fs=frs X.stack:=rfl;have aiM:∀ b∈fp,b ∉ frs X.stack:=by
  intro b hb z;obtain⟨_,f1,f2,_⟩:=hf b hb;rcases List.mem_cons.mp (I.Ke b z) with e|e
  ·exact f1 e
  ·exact f2 e
 have R9:∀ x c,X.env.cells.lookup x=some c->c<s₂.heap.objs.size:=by
  intro x c e;obtain⟨v,o,ho,_⟩:=I.cell x c e;exact T' ho
 have ok:(aY X cn scope ⟨C,s₂,H,fp,xe⟩).Ok:=by
  refine⟨I.ok.mod,?_,I.ok.glob,I.ok.blt,hC,fun x y c h1 h2=>I.ok.inj x y c (eE x c h1) (eE y c h2),fun x hx=>?_,fun x c z=>?_,fun _=>I.ok.hd hc,I.ok.frames,.inl rfl,fun b hb=>⟨?_,fun x c e=>?_⟩,
   fun b o e=>I.bs b o e,Nat.le_trans I.ok.Zm I.sz,fun b o e hb=>?_,fun b hb=>?_,I.stack,I.Kf⟩
  ·show(relabel scope X.env).kind=.function;exact F.kind
  ·have:=sr (env:=X.env) (x:=x) scope.names [] (.inr (qj x hx));exact Option.isSome_iff_exists.mp this
  ·cases z
  ·exact Nat.ne_of_lt (U' (hfl b hb) hC)
  ·exact(hf b hb).2.2.2.2.1 x c (eE x c e)
  ·have:X.base.objs.size<=X.s₀.heap.objs.size:=I.ok.Zm;rcases (hf b hb).2.2.2.1 with z|z
   ·exact I.ok.Zn b o e z
   ·exact absurd (U' (T' e) (Nat.le_trans I.ok.Zm z)) (Nat.lt_irrefl _)
  ·exact aiM b hb
 have hDn:H D=none:=I.hok.fresh hD;have aiN:vb X.prog X.w (upd H D (.lst [])) h₁:=I.hok.laid old hD ⟨V' _,[],0,.nil,hacc⟩;refine⟨ok,rfl,I.bare,Un.laid old hD hDn,⟨m,hn,fun i x v e1 e2 e3=>?_⟩,fun x c e=>?_,?_,fun x c e=>?_,fun p hp=>absurd (show p∈([]:List (Addr×Obj)) from hp) (by simp),aiN,?_⟩
 ·have hi:¬ i<cn.length:=by
   intro hi;rw[List.getElem?_append_left (by simpa using hi),List.getElem?_replicate]at e2;split at e2 <;> cases e2
  rw[getElem?_append_right (by simpa using hi),List.length_replicate]at e2;have e1':(cn++X.N)[i]? = some x:=e1;rw[getElem?_append_right (by omega)]at e1';obtain⟨m0,hm0,hl⟩:=I.loc;have hxN:x∈X.N:=Z' e1';have hfr:(x,NameKind.free)∈scope.names:=by
   have e3':(relabel scope X.env).names.lookup x=some .local\/(relabel scope X.env).names.lookup x=some .cell\/(relabel scope X.env).names.lookup x=some .free:=e3;rcases e3' with z|z|z
   ·rcases eD scope.names z with z|⟨e,_⟩
    ·exact absurd z (F.apart x hxN)
    ·cases e
   ·exact qj x (.inl z)
   ·exact qj x (.inr z)
  have hk:=xy x hfr;have vis:Vis X.env.scope x:=by
   rcases hk with z|z
   ·exact .inr (.inl z)
   ·exact .inr (.inr z)
  obtain⟨u,r,lk⟩:=hl (i-cn.length) x v e1' e2 vis;refine⟨u,r,?_⟩;rcases lk with ⟨z,_⟩|⟨_,c,ec,z⟩
  ·rcases hk with q|q
   ·rw[z]at q;cases q
   ·rw[z]at q;cases q
  ·have hcl:(cM X.env scope.names []).lookup x=some c:=by
    obtain⟨c',e'⟩:=Option.isSome_iff_exists.mp (sr (env:=X.env) (x:=x) scope.names [] (.inr hfr));rw[e'];have:=eE x c' e';rw[ec]at this;exact this.symm
   refine .inr ⟨?_,c,hcl,?_⟩
   ·have e3':(relabel scope X.env).names.lookup x=some .local\/(relabel scope X.env).names.lookup x=some .cell\/(relabel scope X.env).names.lookup x=some .free:=e3;rcases e3' with y|y|y
    ·rcases eD scope.names y with y|⟨e,_⟩
     ·exact absurd y (F.apart x hxN)
     ·cases e
    ·exact .inl y
    ·exact .inr y
   ·obtain⟨o,ho,hd⟩:=z;exact⟨o,old c o ho,hd⟩
 ·obtain⟨v,o,ho,hd⟩:=I.cell x c (eE x c e);exact⟨v,o,old c o ho,hd⟩
 ·show upd H D (.lst []) C=none;rw[ax (Ne.symm hDC)];exact I.hok.fresh hC
 ·rw[ax (Nat.ne_of_lt (U' (R9 x c (eE x c e)) hD))];exact I.rA x c (eE x c e)
 ·show(List.replicate cn.length none++σ).length=(cn++X.N).length;rw[length_append,List.length_replicate,length_append,I.len]
theorem Inv.Kt {s₂ s':Shared}{h':Heap}{cn:List Str}{scope:Scope}{fp:List Addr}{xe:Value->Shared->Prop}{C:Addr}{H':Hp}{σ':St}{pl:List (Addr×Obj)}
  (I:Inv X pins σ H s₂) (hf:∀ b∈fp,nX X pins H b) (hC:s₂.heap.objs.size<=C) (J:Inv (aY X cn scope ⟨C,s₂,H,fp,xe⟩) pl σ' H' s') (sb:Heap.SameBut C s'.heap h') :
  Inv X pins σ H' { s' with heap:=h' }:=by
 have neC:∀ b o,s₂.heap.get? b=some o->b≠C:=fun b o e=>Nat.ne_of_lt (U' (T' e) hC);have u:Un (frs X.stack) fp H H' s₂.heap s'.heap:=J.base;have un:Un (frs X.stack) fp H H' s₂.heap h' :=
  ⟨fun b o e n hb hx=>(sb.2 b (neC b o e)).trans (u.keep b o e n hb hx),
   fun b o e n hb hx=>by
   obtain⟨sl,q⟩:=u.slot b o e n hb hx;exact⟨sl,(sb.2 b (neC b o e)).trans q⟩,
   u.free,fun b o e hx=>by
   obtain⟨o',q⟩:=u.there b o e hx;exact⟨o',(sb.2 b (neC b o e)).trans q⟩,u.tups,u.Cc,u.ER⟩
 have fC:H' C=none:=J.free;have hok:vb X.prog X.w H' h':=fun b o e=>by
  refine(J.hok b o e).stay (fun c v hc q=>(sb.2 c ?_).trans q) (fun _ q=>q) fun _ _ q=>q;rintro rfl;rcases hc with z|z
  ·rw[<-z,fC]at e;cases e
  ·rw[fC]at z;cases z
 have os:s'.os=s₂.os:=J.os;refine I.call' (s':={ s' with heap:=h' }) os un hok J.bare fun b hb=>?_;obtain⟨_,f1,_,f3,f4,f5⟩:=hf b hb;exact⟨f3,f1,f4,f5⟩
end
end L2
namespace L2
open PySem PySem.Spec PyProof.Rows
theorem ZE {prog:Program}{w:World}{A:Around}{R:Result->Shared->Prop}{s:Shared}{elt tg iter:Expr}{ifs:List Expr}{scope:Scope}{pos:Pos}{it acc:Value}{env:Env}(J:Nat->Shared->Prop)
  (turn:∀ n s,J n s->wpAny (model prog w) A (pyNext it) (fun r s₁=>(r=none/\R (.ok .next) s₁)\/∃ v,r=some v /\
   wpAny (model prog w) A (letOwnedTupleGo tg it v) (fun _ s₂=>wpAny (model prog w) A (assign tg env v) (fun _ s₃ =>
    wpAny (model prog w) A (forIn ifs true fun c r=>if r=true then do let ok <-isTrue c env (eval c env);pure (ForInStep.yield ok) else pure (ForInStep.yield r)) (fun ok s₄ =>
     if ok=true then wpAny (model prog w) A (eval elt env) (fun x s₅=>wpAny (model prog w) A (call (.builtin "list.append") [acc,x]) (fun _ s₆=>∃ m,m<n/\J m s₆) (notedBy (model prog w) A env fun e s'=>R (.error e) s') s₅)
      (notedBy (model prog w) A env fun e s'=>R (.error e) s') s₄
     else ∃ m,m<n/\J m s₄) (notedBy (model prog w) A env fun e s'=>R (.error e) s') s₃) (notedBy (model prog w) A env fun e s'=>R (.error e) s') s₂) (notedBy (model prog w) A env fun e s'=>R (.error e) s') s₁)
   (notedBy (model prog w) A env fun e s'=>R (.error e) s') s)
  (n:Nat) (h:J n s):codeAny (model prog w) A (.compLoop (.ListComp elt [⟨tg,iter,ifs,0⟩] scope pos) 0 it acc env) R s:=by
 refine codeAny_loop rfl J (fun n s hJ=>?_) n h;refine wpAny_noted (A:=A) (m:=compTurn (.ListComp elt [⟨tg,iter,ifs,0⟩] scope pos) 0 it acc env) (env:=env) ?_;rw[compTurn_list];refine S' (wpAny_standAt (S' (cJ (turn n s hJ) fun r s₁ h₁=>?_)));rcases h₁ with ⟨e,h₁⟩|⟨v,e,h₁⟩
 ·subst e;exact j' h₁
 ·subst e;refine S' (cJ h₁ fun _ s₂ h₂=>S' (cJ h₂ fun _ s₃ h₃=>S' (cJ h₃ fun ok s₄ h₄=>?_)));cases ok with
  |false=>exact j' ⟨rfl,h₄⟩
  |true=>exact S' (S' (cJ h₄ fun x s₅ h₅=>S' (cJ h₅ fun _ s₆ h₆=>j' (j' ⟨rfl,h₆⟩))))
def PF (X:Cx)(ifs:List Expr)(t:TT):Prop :=
 ∀(pins:List (Addr×Obj)) (s:Shared) (σ:St) (H:Hp) (Q:Bool->Hp->Prop),Inv X pins σ H s->t σ H Q ->
  wpAny (model X.prog X.w) X.A (forIn ifs true fun c r=>if r=true then do let ok <-isTrue c X.env (eval c X.env);pure (ForInStep.yield ok) else pure (ForInStep.yield r)) (TP X pins σ Q) X.xe s
def aiO:TT:=fun _ H Q=>Q true H
theorem md {X:Cx}:PF X [] aiO:=by
 intro pins s σ H Q I h;rw[List.forIn_nil];exact j' ⟨H,I,h⟩
theorem ack {X:Cx}{c:Expr}{t:TT}(hc:PT X c t):PF X [c] t:=by
 intro pins s σ H Q I h;rw[List.forIn_cons];refine S' ?_;rw[R' rfl];refine S' (cJ (hc pins s σ H Q I h) fun ok s1 q=>j' ?_);show wpAny _ _ (forIn [] ok _) _ _ _;rw[List.forIn_nil];exact j' q
def EY (X:Cx)(C:Addr)(e:Value)(s':Shared):Prop :=
 ∃ m,s'.heap.Ns C m/\∀ h',Heap.SameBut C s'.heap h'->∀ cenv:Env,cenv.locals=C->wpAny (model X.prog X.w) X.A (passOn "comprehension.variables-let-go" e cenv:Sem Value) (fun _ _=>False) X.xe { s' with heap:=h' }
def fu (X:Cx)(scope:Scope)(C:Addr):Value->Shared->Prop :=
 notedBy (model X.prog X.w) X.A (compEnvC scope (cM X.env scope.names []) C X.env) (EY X C)
def acm (n:Nat)(wi:TI)(g:Bk->TG)(tc:Bk->TT)(te:Bk->TE):TE:=fun σ H Q=>wi σ H fun J H1=>∀(D:Addr)(b:Bk),H1 D=none->∃ W:Nat->Nat->List V->St->Hp->Prop,
 (∃ m,W 0 m [] (List.replicate n none++σ) (upd H1 D (.lst [])))/\∀ i m ys σ H,W i m ys σ H ->
  (J.stop i H/\Q (.ref D) H)\/(J.go i H/\∀ x H',J.RX i H x H'->g b x σ H' fun σ2 H2=>tc b σ2 H2 fun ok H3 =>
   if ok=true then te b σ2 H3 fun y H4=>H4 D=some (.lst ys)/\ys.length<sizeLine/\∃ m',m'<m/\W (i+1) m' (ys++[y]) σ2 (upd H4 D (.lst (ys++[y])))
   else ∃ m',m'<m/\W (i+1) m' ys σ2 H3)
section
variable {X:Cx} {tg iter elt:Expr} {ifs:List Expr} {scope:Scope} {pos:Pos} {cn:List Str} {wi:TI} {g:Bk->TG} {tc:Bk->TT} {te:Bk->TE} {TH:Bk->Prop}
theorem PY {pins:List (Addr×Obj)}{σ:St}{H:Hp}{s₂:Shared}{it:Addr}{fp:List Addr}{tn:Nat->Heap->Prop}{J:It}{RR:Value->Addr->Result->Shared->Prop}{QQ:Addr->Hp->Prop}{EE:Value->Shared->Prop}
  (hcalm:X.calm=true) (F:bZ X.env.scope X.N scope) (hg:∀ b,TH b->PG (aY X cn scope b) tg (g b)) (ht:∀ b,TH b->PF (aY X cn scope b) ifs (tc b)) (he:∀ b,TH b->PE (aY X cn scope b) elt (te b))
  (hTH:∀ C,s₂.heap.objs.size<=C->TH ⟨C,s₂,H,fp,fu X scope C⟩)
  (I:Inv X pins σ H s₂) (T:Turn X.prog X.w X.K tg J fp it tn) (st:tn 0 s₂.heap) (hf:∀ b∈fp,nX X pins H b)
  (h:∀(D:Addr)(b:Bk),H D=none->∃ W:Nat->Nat->List V->St->Hp->Prop,(∃ m,W 0 m [] (List.replicate cn.length none++σ) (upd H D (.lst [])))/\∀ i m ys σ H,W i m ys σ H ->
   (J.stop i H/\QQ D H)\/(J.go i H/\∀ x H',J.RX i H x H'->g b x σ H' fun σ2 H2=>tc b σ2 H2 fun ok H3 =>
    if ok=true then te b σ2 H3 fun y H4=>H4 D=some (.lst ys)/\ys.length<sizeLine/\∃ m',m'<m/\W (i+1) m' (ys++[y]) σ2 (upd H4 D (.lst (ys++[y])))
    else ∃ m',m'<m/\W (i+1) m' ys σ2 H3))
  (hR:∀ C D σ' H' s',s₂.heap.objs.size<=C->Inv (aY X cn scope ⟨C,s₂,H,fp,fu X scope C⟩) [] σ' H' s'->QQ D H'->RR (.ref D) C (.ok .next) s')
  (hE:∀ C D e s',EY X C e s'->RR (.ref D) C (.error e) s') :
  wpAny (model X.prog X.w) X.A (newList []) (fun acc s₃=>wpAny (model X.prog X.w) X.A (newFunctionEnv scope X.env.globals (cM X.env scope.names []) [] X.env.qual none .none (some X.env)) (fun cenv s₄ =>
   codeAny (model X.prog X.w) X.A (.compStart (.ListComp elt [⟨tg,iter,ifs,0⟩] scope pos) 0 (.ref it) acc { cenv with scope:=relabel scope X.env }) (RR acc cenv.locals) s₄) EE s₃) EE s₂:=by
 refine wpAny_newObj_type (wpAny_newFunctionEnv F.Ks (by intro y hy;simp at hy) (fun h₁ hns₁ hsb₁=>?_) F.kind);dsimp only at hns₁ hsb₁ ⊢;generalize hH2:s₂.heap.push { cls:=.type "list",dict:=none,data:=.seq ([]:List Value).toArray } = H2 at hns₁ hsb₁ ⊢;have hC:H2.objs.size=s₂.heap.objs.size+1:=by rw[<-hH2,Heap.size_push]
 have hDC:s₂.heap.objs.size≠H2.objs.size:=by omega
 have hCle:s₂.heap.objs.size<=H2.objs.size:=by omega
 have hfl:∀ b∈fp,b<s₂.heap.objs.size:=fun b hb=>by
  obtain⟨o,e,_⟩:=T.obj 0 _ st b hb;exact T' e
 have aiP:∀ b o,s₂.heap.get? b=some o->H2.get? b=some o:=fun b o e=>hH2 ▸ J' _ e;have old:∀ b o,s₂.heap.get? b=some o->h₁.get? b=some o:=fun b o e=>by
  have hb:=T' e;refine hsb₁.extBut b o (Nat.ne_of_lt (U' hb hCle)) (J' _ (aiP b o e))
 have hacc:h₁.get? s₂.heap.objs.size=some { cls:=.type "list",data:=.seq ([]:List Value).toArray 0 } :=
  hsb₁.extBut _ _ hDC (J' _ (hH2 ▸ Heap.get?_push_size _ rfl))
 have I0:=Inv.block (cn:=cn) (xe:=fu X scope H2.objs.size) (tk:=s₂.toks+([]:List (Str×Value)).length) I F hcalm hf hfl hCle (C' _) hDC hns₁ old hacc;have th:=hTH _ hCle;obtain⟨W,⟨m0,w0⟩,turn⟩:=h s₂.heap.objs.size ⟨H2.objs.size,s₂,H,fp,fu X scope H2.objs.size⟩ (I.hok.fresh (C' _));have fpx:∀{H':Hp},(∀ b∈fp,H' b=none)->∀ b∈fp,nX (aY X cn scope ⟨H2.objs.size,s₂,H,fp,fu X scope H2.objs.size⟩) [] H' b:=fun {H'} hn b hb=>by
  refine⟨hn b hb,(I0.ok.exf b hb).1,I0.ok.Zo b hb,.inl hb,(I0.ok.exf b hb).2,fun p hp=>absurd (show p∈([]:List (Addr×Obj)) from hp) (by simp)⟩
 have PZ:(aY X cn scope ⟨H2.objs.size,s₂,H,fp,fu X scope H2.objs.size⟩).calm=true:=hcalm;have loop:∀ s₃:Shared,s₃ = { s₂ with heap:=h₁,toks:=s₂.toks+([]:List (Str×Value)).length } ->
   codeAny (model X.prog X.w) X.A (.compLoop (.ListComp elt [⟨tg,iter,ifs,0⟩] scope pos) 0 (.ref it) (.ref s₂.heap.objs.size) (compEnvC scope (cM X.env scope.names []) H2.objs.size X.env))
    (RR (.ref s₂.heap.objs.size) H2.objs.size) s₃:=by
  rintro s₃ rfl;have toE:∀ e s',(aY X cn scope ⟨H2.objs.size,s₂,H,fp,fu X scope H2.objs.size⟩).xe e s' ->
    notedBy (model X.prog X.w) X.A (compEnvC scope (cM X.env scope.names []) H2.objs.size X.env) (fun e s'=>RR (.ref s₂.heap.objs.size) H2.objs.size (.error e) s') e s':=fun e s' z =>
   wpAny_mono (show notedBy (model X.prog X.w) X.A (compEnvC scope (cM X.env scope.names []) H2.objs.size X.env) (EY X H2.objs.size) e s' from z) (fun _ _ q=>hE _ _ _ _ q) fun _ _ q=>hE _ _ _ _ q
  refine ZE (env:=compEnvC scope (cM X.env scope.names []) H2.objs.size X.env)
   (fun n s'=>∃ i ys σ' H',Inv (aY X cn scope ⟨H2.objs.size,s₂,H,fp,fu X scope H2.objs.size⟩) [] σ' H' s'/\tn i s'.heap/\(∀ b∈fp,H' b=none)/\W i n ys σ' H') ?_ m0
   ⟨0,[],_,_,I0,T.keep _ _ _ st fun b _ o e=>old b o e,fun b hb=>?_,w0⟩
  ·rintro n s' ⟨i,ys,σ',H',I',st',fr',w'⟩;rcases turn i n ys σ' H' w' with ⟨stop,qn⟩|⟨go,step⟩
   ·refine wpAny_mono (T.done (aY X cn scope ⟨H2.objs.size,s₂,H,fp,fu X scope H2.objs.size⟩) rfl rfl rfl PZ i [] s' σ' H' (fun _ _=>False) I' (fpx fr') st' stop) (fun r s4 ⟨hr,I4⟩=>?_) fun _ _ z=>z.elim;exact .inl ⟨hr,hR _ _ _ _ _ hCle I4 qn⟩
   ·refine wpAny_mono (T.item (aY X cn scope ⟨H2.objs.size,s₂,H,fp,fu X scope H2.objs.size⟩) rfl rfl rfl PZ i [] s' σ' H' (fun _ _=>False) I' (fpx fr') st' go) (fun r s4 ⟨u,hr,h4⟩=>?_) fun _ _ z=>z.elim;refine .inr ⟨u,hr,wpAny_mono h4 (fun _ s5 ⟨x,H5,I5,r5,y5,Zt,fr5⟩=>?_) fun _ _ z=>z.elim⟩;have I5':=I5.pinned (fpx fr5) (T.obj _ _ Zt);refine wpAny_mono (hg _ th _ s5 σ' H5 x u _ I5' r5 (step x H5 y5)) (fun _ s6 ⟨σ6,H6,I6,q6⟩=>?_) toE;refine wpAny_mono (ht _ th _ s6 σ6 H6 _ I6 q6) (fun ok s7 ⟨H7,I7,q7⟩=>?_) toE;have back:∀{σ8:St} {H8:Hp} {s8:Shared},Inv (aY X cn scope ⟨H2.objs.size,s₂,H,fp,fu X scope H2.objs.size⟩) ([]++zL fp s5.heap) σ8 H8 s8->tn (i+1) s8.heap/\∀ b∈fp,H8 b=none:=fun {σ8 H8 s8} I8=>by
     refine⟨T.keep _ _ _ Zt fun b hb o e=>(I8.pin (b,o) (mem_append_right _ (mem_append_right _ (jH hb e)))).1,fun b hb=>?_⟩;obtain⟨o,e,d⟩:=T.obj _ _ Zt b hb;exact(I8.pin (b,o) (mem_append_right _ (mem_append_right _ (jH hb e)))).2.1
    cases ok with
    |false =>
     rw[L' Y']at q7 ⊢;obtain⟨m',hm,w7⟩:=q7;obtain⟨t8,f8⟩:=back I7;exact⟨m',hm,i+1,ys,σ6,H7,I7.l6,t8,f8,w7⟩
    |true =>
     rw[R' rfl]at q7 ⊢;refine wpAny_mono (he _ th _ s7 σ6 H7 _ I7 q7) (fun v s8 ⟨y,H8,I8,r8,hl,hz,m',hm,w8⟩=>?_) toE;refine wpAny_mono (bj (X:=aY X cn scope ⟨H2.objs.size,s₂,H,fp,fu X scope H2.objs.size⟩) _ s8 σ6 H8 (.ref s₂.heap.objs.size) [y] (.ref s₂.heap.objs.size) [v] (fun _ H9=>W (i+1) m' (ys++[y]) σ6 H9) I8 rfl (.cons r8 .nil) ⟨_,ys,y,rfl,rfl,hl,hz,w8⟩)
      (fun _ s9 ⟨_,H9,I9,_,w9⟩=>?_) toE
     obtain⟨t9,f9⟩:=back I9;exact⟨m',hm,i+1,_,σ6,H9,I9.l6,t9,f9,w9⟩
  ·rw[ax (Nat.ne_of_lt (hfl b hb))];exact(hf b hb).1
 exact codeAny_compStart_list (loop _ rfl) (T.self _ 0 _ _ _ (T.keep _ _ _ st fun b _ o e=>old b o e) (loop _ rfl))
theorem acn (hcalm:X.calm=true)(F:bZ X.env.scope X.N scope)(hi:PI X tg iter wi)(hg:∀ b,TH b->PG (aY X cn scope b) tg (g b))(ht:∀ b,TH b->PF (aY X cn scope b) ifs (tc b))
  (he:∀ b,TH b->PE (aY X cn scope b) elt (te b))
  (hTH:∀ pins σ H s₂ fp C,Inv X pins σ H s₂->(∀ b∈fp,nX X pins H b)->s₂.heap.objs.size<=C->TH ⟨C,s₂,H,fp,fu X scope C⟩)
  (hs:∀ x,foldedSetIterable iter X.env x=pure x:=by intro _;rfl):PE X (.ListComp elt [⟨tg,iter,ifs,0⟩] scope pos) (acm cn.length wi g tc te):=by
 intro pins s σ H Q I h;rw[eval_ListComp];have hcl:closureFor scope X.env=pure (cM X.env scope.names []):=Kr fun p hp e=>I.ok.has p.1 (F.free p hp e);refine wpAny_comprehension_free (use:=none) rfl hs hcl F.kind F.loc (cJ (hi pins s σ H _ I h) fun xv s₁ h₁=>cJ h₁ fun itv s₂ h₂=>?_);obtain⟨it,fp,tn,J,H2,rfl,I2,T,st,f2,R⟩:=h₂;refine PY (QQ:=fun D H'=>Q (.ref D) H') (RR:=fun acc C=>compPost (model X.prog X.w) X.A X.xe none (EP X pins σ Q) acc C) hcalm F hg ht he (fun C hC=>hTH pins σ H2 s₂ fp C I2 f2 hC) I2 T st f2 R ?_ ?_
 ·intro C D σ' H' s' hC I' q;obtain⟨m,hm,_⟩:=I'.loc;exact⟨m,hm,fun h' sb=>⟨.ref D,H',I2.Kt f2 hC I' sb,rfl,q⟩⟩
 ·intro C D e s' z;exact z
theorem nY (hcalm:X.calm=true)(F:bZ X.env.scope X.N scope)(hi:PI X tg iter wi)(hg:∀ b,PG (aY X cn scope b) tg (g b))(ht:∀ b,PF (aY X cn scope b) ifs (tc b))(he:∀ b,PE (aY X cn scope b) elt (te b))
  (hs:∀ x,foldedSetIterable iter X.env x=pure x:=by intro _;rfl):PE X (.ListComp elt [⟨tg,iter,ifs,0⟩] scope pos) (acm cn.length wi g tc te) :=
 acn (TH:=fun _=>True) hcalm F hi (fun b _=>hg b) (fun b _=>ht b) (fun b _=>he b) (fun _ _ _ _ _ _ _ _ _=>trivial) hs
end
end L2
namespace L2
open PySem PySem.Spec PyProof.Rows
section
variable {X:Cx} {e:Expr} {es:List Expr} {te:TE} {pos:Pos}
abbrev TP1:=St->Hp->(Str->Hp->Prop)->Prop
abbrev TPs:=Str->St->Hp->(Str->Hp->Prop)->Prop
def anI (X:Cx)(pins:List (Addr×Obj))(σ:St)(Q:Str->Hp->Prop)(u:Value)(s':Shared):Prop:=∃ y t H',u=.str y t/\Inv X pins σ H' s'/\Q y H'
def PP (X:Cx)(e:Expr)(t:TP1):Prop :=
 ∀(pins:List (Addr×Obj)) (s:Shared) (σ:St) (H:Hp) (Q:Str->Hp->Prop),Inv X pins σ H s->t σ H Q->wpAny (model X.prog X.w) X.A (eval e X.env) (anI X pins σ Q) X.xe s
def PPs (X:Cx)(es:List Expr)(t:TPs):Prop :=
 ∀(pins:List (Addr×Obj)) (s:Shared) (σ:St) (H:Hp) (acc:Str) (Q:Str->Hp->Prop),Inv X pins σ H s->t acc σ H Q ->
  Joins (model X.prog X.w) X.A X.xe (evalEach es X.env) acc (fun out s₁=>∃ H',Inv X pins σ H' s₁/\Q out H') s
def tPC (x:Str):TP1:=fun _ H Q=>Q x H
def tPV (te:TE):TP1:=fun σ H Q=>te σ H fun v H1=>(∃ z,v=.str z/\z.length<=sizeLine/\Q z H1)\/∃ i:Int,v=.int i/\i.natAbs.log2<1920/\Q (toString i) H1
theorem EZ {x j}:PP X (.Constant (.str x) j pos) (tPC x):=fun _ _ _ H _ I h=>Calls.Constant_str ⟨x,_,H,rfl,I.tok _,h⟩
theorem vE (he:PE X e te):PP X (.FormattedValue e (-1) none pos) (tPV te):=by
 intro pins s σ H Q I h;refine FormattedValue_plain (cJ (he pins s σ H _ I h) fun v s1 ⟨x,H1,I1,r1,q1⟩=>?_);rcases q1 with ⟨z,rfl,hz,q⟩|⟨i,rfl,hi,q⟩
 ·obtain⟨t,rfl⟩:=r1;exact formatField_str (fun t' tk=>⟨z,t',H1,rfl,I1.tok _,q⟩) hz
 ·obtain⟨t,rfl⟩:=r1;exact formatField_int_small hi ⟨_,_,H1,rfl,I1.tok _,q⟩
def tJ0:TPs:=fun acc _ H Q=>Q acc H
def tJ (t:TP1)(u:TPs):TPs:=fun acc σ H Q=>t σ H fun y H1=>(acc++y).length<=sizeLine/\u (acc++y) σ H1 Q
theorem Ku:PPs X [] tJ0:=fun _ _ _ H _ _ I h=>⟨H,I,h⟩
theorem ip {t:TP1}{u:TPs}(h1:PP X e t)(h2:PPs X es u):PPs X (e::es) (tJ t u):=by
 intro pins s σ H acc Q I h;refine wpAny_mono (h1 pins s σ H _ I h) (fun v s1 q=>?_) fun _ _ z=>z;obtain⟨y,tk,H1,rfl,I1,hz,q⟩:=q;exact⟨y,tk,rfl,hz,h2 pins s1 σ H1 _ Q I1 q⟩
def tF (u:TPs):TE:=fun σ H Q=>u Str.empty σ H fun out H1=>out.length<=sizeLine/\Q (.str out) H1
theorem Kv {e2:Expr}{u:TPs}(h:PPs X (e::e2::es) u):PE X (.JoinedStr (e::e2::es) pos) (tF u):=by
 intro pins s σ H Q I hw;refine wpAny_JoinedStr ?_;have mono:∀(l:List (Sem Value)) (acc:Str) (Q1 Q2:Str->Shared->Prop) (s:Shared),(∀ o s,Q1 o s->Q2 o s)->Joins (model X.prog X.w) X.A X.xe l acc Q1 s->Joins (model X.prog X.w) X.A X.xe l acc Q2 s:=by
  intro l
  induction l with
  |nil=>intro acc Q1 Q2 s hm h;exact hm _ _ h
  |cons a l ih =>
   intro acc Q1 Q2 s hm h;refine wpAny_mono h (fun v s1 q=>?_) fun _ _ z=>z;obtain⟨y,t,e1,hz,q⟩:=q;exact⟨y,t,e1,hz,ih _ _ _ _ hm q⟩
 refine mono _ _ _ _ _ (fun out s1 q=>?_) (h pins s σ H _ _ I hw);obtain⟨H1,I1,hz,q⟩:=q;exact⟨hz,.str out,H1,I1.tok _,⟨_,rfl⟩,q⟩
theorem fj:gU X (.type "int") (fun xs H Q=>∃ z n,xs=[.str z]/\PySem.intText? z=some n/\z.length<=640/\Q (.int n) H):=by
 intro pins s σ H xs us Q I r h;obtain⟨z,n,rfl,hn,hl,q⟩:=h;obtain⟨u,rfl,t,rfl⟩:=r.one;exact PySem.W.KIN.call_text hn hl ⟨.int n,H,I.tok _,⟨_,rfl⟩,q⟩
def anJ:V->Option Int->Option Int->Hp->VK->Prop:=fun x lo hi H Q=>∃ z,x=.str z/\z.length<=sizeLine/\Q (.str (Txt.slice z lo hi)) H
theorem JC {v:Value}{o:Option Int}(p:IsPart v o):∃ l:Option (Int×Tok),v=partValue l/\l.map (·.1)=o:=by
 cases p with
 |none=>exact⟨none,rfl,rfl⟩
 |int i t=>exact⟨some (i,t),rfl,rfl⟩
theorem Sa:SlR X anJ:=by
 intro pins s σ H x v vl vu lo hi sl Q I rx hs pl pu h;obtain⟨z,rfl,hz,q⟩:=h;obtain⟨t,rfl⟩:=rx;obtain⟨l,rfl,el⟩:=JC pl;obtain⟨u,rfl,eu⟩:=JC pu;subst el eu;refine⟨"str",_,F.slot_str_getitem.lookup,typeIs_str _ _ _,?_⟩;obtain⟨o,ho,hc,hd⟩:=hs;refine wpAny_getItem_str_slice (l:=l) (u:=u) (st:=none) ⟨o,ho,hc,hd⟩ rfl ?_;exact post_val_or_str ⟨Nat.le_trans (Txt.slice_le z _ _) hz,fun t' k=>⟨.str _,H,I.tok _,⟨t',rfl⟩,q⟩⟩
def Its (z:Str):It:=⟨fun i _=>i<z.cps.size,fun i H x H'=>H'=H/\∃ c,z.cps[i]? = some c/\x=.str ⟨#[c]⟩,fun i _=>z.cps.size<=i⟩
def anK (tl:TE):TI:=fun σ H R=>tl σ H fun x H1=>∃ z,x=.str z/\R (Its z) H1
theorem P0 {P:Program}{w:World}{K:Frag}{tg:Expr}{z:Str}{it:Addr}{T:String}{t:Tok}(hT:["enumerate","zip","dict_itemiterator","dict_reverseitemiterator","odict_iterator","itertools.zip_longest","itertools.pairwise"].contains T=false)
  (W:∀ A:Around,A.handled=none->Walks P w A it [it] [it] z.cps.size (SignAt z) (fun i h=>h.IsStrIter it T z t i)) 
  (S:∀(A:Around)(i:Nat)(s:Shared)(Q:Value->Shared->Prop)(E:Value->Shared->Prop),s.heap.IsStrIter it T z t i->Q (.ref it) s->wpAny (model P w) A (pyIter (.ref it)) Q E s) :
  Turn P w K tg (Its z) [it] it (fun i h=>h.IsStrIter it T z t i/\i<=z.cps.size) where
 mem:=by simp
 obj:=fun i h st b hb=>by
  have e:b=it:=by simpa using hb
  subst e;obtain⟨⟨o,e,c,d⟩,_⟩:=st;exact⟨o,e,fun v q=>by rw[d]at q;cases q⟩
 keep:=fun i h h' st k=>⟨by
  obtain⟨⟨o,e,c,d⟩,_⟩:=st;exact⟨o,k it (by simp) o e,c,d⟩,st.2⟩
 item:=by
  intro X hP hw hK hc i pins s σ H E I hf st hg;subst hP hw hK;obtain⟨f0,f1,f2,f3,f4,f5⟩:=hf it (by simp);have hgi:i<z.cps.size:=hg;refine(W X.A (I.ok.hd hc)).item i s _ _ hgi st.1 fun v h' tk hv st' kk=>?_;obtain⟨c,u,hc',rfl⟩:=hv;have I1:Inv X pins σ H { s with heap:=h',toks:=tk }:=I.turned (fun b o hb e=>kk b o (by simpa using hb) e) f0 f1 f3 f4 f5;obtain⟨o,e,cc,d⟩:=id st';exact⟨_,rfl,X7 (s:={ s with heap:=h',toks:=tk }) e cc d hT ⟨.str ⟨#[c]⟩,H,I1,⟨u,rfl⟩,⟨rfl,c,hc',rfl⟩,⟨st',hgi⟩,fun b hb=>(hf b hb).1⟩⟩
 done:=by
  intro X hP hw hK hc i pins s σ H E I hf st hg;subst hP hw hK;obtain⟨f0,f1,f2,f3,f4,f5⟩:=hf it (by simp);have hge:z.cps.size<=i:=hg;have e:i=z.cps.size:=Nat.le_antisymm st.2 hge;subst e;exact(W X.A (I.ok.hd hc)).done s _ _ st.1 fun h' tk kk=>⟨rfl,I.turned (fun b o hb e=>kk b o (by simpa using hb) e) f0 f1 f3 f4 f5⟩
 self:=fun A i s Q E st h=>S A i s Q E st.1 h
theorem aiS {tg l:Expr}{tl:TE}(hl:PE X l tl):PI X tg l (anK tl):=by
 intro pins s σ H R I h;refine cJ (hl pins s σ H _ I h) fun v s1 ⟨x,H1,I1,r1,q1⟩=>?_;obtain⟨z,rfl,q⟩:=q1;obtain⟨t,rfl⟩:=r1;have fp:∀ b∈[s1.heap.objs.size],nX X pins H1 b:=fun b hb=>by
  have e:b=s1.heap.objs.size:=by simpa using hb
  subst e;exact I1.PM (C' _) (I1.hok.fresh (C' _))
 cases ha:z.cps.all (· < 128)
 ·refine wpAny_pyIter_wide ha ?_;refine⟨s1.heap.objs.size,[s1.heap.objs.size],_,_,H1,rfl,I1.kept (t':=s1.toks) fun b o e=>J' _ e,P0 (T:="str_iterator") (t:=t) (by decide) (fun A hA=>Walks.strWide hA _ z t)
   (fun A i s Q E st hq=>wpAny_pyIter_striter_wide st hq),⟨⟨_,Heap.get?_push_size _ rfl,rfl,rfl⟩,V' _⟩,fp,q⟩
 ·refine wpAny_pyIter_ascii ha ?_;refine⟨s1.heap.objs.size,[s1.heap.objs.size],_,_,H1,rfl,I1.kept (t':=s1.toks) fun b o e=>J' _ e,P0 (T:="str_ascii_iterator") (t:=t) (by decide) (fun A hA=>Walks.strAscii hA _ z t)
   (fun A i s Q E st hq=>wpAny_pyIter_striter_ascii st hq),⟨⟨_,Heap.get?_push_size _ rfl,rfl,rfl⟩,V' _⟩,fp,q⟩
end
end L2
namespace L2
open PySem PySem.Spec PyProof.Rows PySem.SeqAt
inductive Deq (K:Frag)(H:Hp):Nat->V->V->Prop where
 |flat {n:Nat} {x:V} (f:vj x=true):Deq K H n x x
 |tup {n:Nat} {a b:Addr} {xs ys:List V} (ha:dh K H a xs) (hb:dh K H b ys) (hl:xs.length=ys.length) (h:∀(i:Nat) x y,xs[i]? = some x->ys[i]? = some y->Deq K H n x y):Deq K H (n+1) (.ref a) (.ref b)
 |lst {n:Nat} {a b:Addr} {xs ys:List V} (ha:aX K H a xs) (hb:aX K H b ys) (hl:xs.length=ys.length) (h:∀(i:Nat) x y,xs[i]? = some x->ys[i]? = some y->Deq K H n x y):Deq K H (n+1) (.ref a) (.ref b)
section
variable {X:Cx} {pins:List (Addr×Obj)} {σ:St} {H:Hp} {s:Shared}
theorem aco:∀{x:V},vj x=true->Zz x x=true:=by
 intro x f;cases x <;> first|(simp[Zz];done)|(cases f)
theorem su (n:Nat):(List.range n).all (fun _=>true)=true:=by simp
theorem Deq.at {n:Nat}{x y:V}(d:Deq X.K H n x y)(I:Inv X pins σ H s):∀{A:Around} {u v:Value},A.units+n<cLine->RelV x u->RelV y v ->
  EqAt A s u v true/\(∀ a b,x=.ref a->y=.ref b->RcAt A s u v true/\RcNeAt A s u v false):=by
 induction d with
 | @flat n x f =>
  intro A u v hu ru rv;refine⟨?_,fun a b e _=>?_⟩
  ·have:=acg (A:=A) (s:=s) ru rv f f;rw[aco f]at this;exact this
  ·subst e;cases f
 | @tup n a b xs ys ha hb hl h ih =>
  intro A u v hu ru rv;cases ru;cases rv;obtain⟨its,r,p,_⟩:=I.tuple ha;obtain⟨its',r',p',_⟩:=I.tuple hb;have e1:=r.length;have e2:=r'.length;have he:∀ j (h1:j<its.toArray.size) (h2:j<its'.toArray.size),EqAt A.in1 s its.toArray[j] its'.toArray[j] true:=by
   intro j h1 h2;have h1':j<its.length:=by simpa using h1
   have h2':j<its'.length:=by simpa using h2
   have g1:xs[j]? = some xs[j]:=G' (by omega);have g2:ys[j]? = some ys[j]:=G' (by omega);obtain⟨u1,q1,k1⟩:=r.get g1;obtain⟨u2,q2,k2⟩:=r'.get g2;have z1:its.toArray[j]=u1:=by
    rw[G' h1']at q1
    simpa using q1
   have z2:its'.toArray[j]=u2:=by
    rw[G' h2']at q2
    simpa using q2
   rw[z1,z2];exact(ih j _ _ g1 g2 (by show A.units+1+n<cLine;omega) k1 k2).1
  have bt:((List.range (min its.toArray.size its'.toArray.size)).all (fun _=>true)&&its.toArray.size==its'.toArray.size)=true:=by
   rw[su];simp;omega
  have rc:RcAt A s (.ref a) (.ref b) true:=by
   have:=RcAt.tuples (A:=A) (e:=fun _=>true) (show s.heap.IsTuple a its.toArray from p) (show s.heap.IsTuple b its'.toArray from p') (by omega) he;rw[bt]at this;exact this
  have rn:RcNeAt A s (.ref a) (.ref b) false:=by
   have:=RcNeAt.tuples (A:=A) (e:=fun _=>true) (show s.heap.IsTuple a its.toArray from p) (show s.heap.IsTuple b its'.toArray from p') (by omega) he;rw[bt]at this;exact this
  refine⟨?_,fun _ _ _ _=>⟨rc,rn⟩⟩
  by_cases e:a=b
  ·subst e;exact EqAt.same _
  ·exact EqAt.of_refs e rc
 | @lst n a b xs ys ha hb hl h ih =>
  intro A u v hu ru rv;cases ru;cases rv;obtain⟨its,r,p,_⟩:=I.list ha;obtain⟨its',r',p',_⟩:=I.list hb;have e1:=r.length;have e2:=r'.length;have he:∀ j (h1:j<its.toArray.size) (h2:j<its'.toArray.size),EqAt A.in1 s its.toArray[j] its'.toArray[j] true:=by
   intro j h1 h2;have h1':j<its.length:=by simpa using h1
   have h2':j<its'.length:=by simpa using h2
   have g1:xs[j]? = some xs[j]:=G' (by omega);have g2:ys[j]? = some ys[j]:=G' (by omega);obtain⟨u1,q1,k1⟩:=r.get g1;obtain⟨u2,q2,k2⟩:=r'.get g2;have z1:its.toArray[j]=u1:=by
    rw[G' h1']at q1
    simpa using q1
   have z2:its'.toArray[j]=u2:=by
    rw[G' h2']at q2
    simpa using q2
   rw[z1,z2];exact(ih j _ _ g1 g2 (by show A.units+1+n<cLine;omega) k1 k2).1
  have bt:(List.range its.toArray.size).all (fun _=>true)=true:=su _;have rc:RcAt A s (.ref a) (.ref b) true:=by
   have:=RcAt.lists (A:=A) (e:=fun _=>true) p.isList p'.isList (by simp;omega) (by omega) he;rw[bt]at this;exact this
  have rn:RcNeAt A s (.ref a) (.ref b) false:=by
   have:=RcNeAt.lists (A:=A) (e:=fun _=>true) p.isList p'.isList (by simp;omega) (by omega) he;rw[bt]at this;exact this
  refine⟨?_,fun _ _ _ _=>⟨rc,rn⟩⟩
  by_cases e:a=b
  ·subst e;exact EqAt.same _
  ·exact EqAt.of_refs e rc
inductive ahz (K:Frag)(b:Bool)(x:V)(y:V)(H:Hp)(Q:VK):Prop
 |mk (a:_) (c:_) (vh:x=.ref a) (vi:y=.ref c) (EB:Deq K H 60 x y/\Q (.bl b) H):ahz K b x y H Q
def akH (K:Frag)(b:Bool):R2:=fun x y H Q=>ahz K b x y H Q
theorem aE (hu:X.A.units+64<cLine):sf X (compareOp .Eq) (akH X.K true):=by
 intro pins s σ H x y v u Q I r1 r2 h;obtain⟨a,c,rfl,rfl,d,q⟩:=h;exact(((d.at I (A:=X.A) (by omega) r1 r2).2 a c rfl rfl).1) X.prog X.w X.xe _ ⟨.bl true,H,I,rfl,q⟩
theorem iw (hu:X.A.units+64<cLine):sf X (compareOp .NotEq) (akH X.K false):=by
 intro pins s σ H x y v u Q I r1 r2 h;obtain⟨a,c,rfl,rfl,d,q⟩:=h;exact(((d.at I (A:=X.A) (by omega) r1 r2).2 a c rfl rfl).2) X.prog X.w X.xe _ ⟨.bl false,H,I,rfl,q⟩
theorem me:gU X (.builtin "isinstance") (fun xs H Q=>∃ x T t b,xs=[x,.ty T]/\oH X.K H x t/\kitOne X.K t (.type T)=some b/\Q (.bl b) H):=by
 intro pins s σ H xs us Q I r h;obtain⟨x,T,t,b,rfl,ty,e,q⟩:=h;obtain⟨u,v,rfl,r1,r2⟩:=r.two;cases r2;exact Zx I r1 ty e fun tk=>⟨.bl b,H,I.tok _,rfl,q⟩
def Ite (K:Frag)(a:Addr):It :=
 ⟨fun i H=>∃ xs x,aX K H a xs/\xs[i]? = some x,fun i H x H'=>∃ y t,x=.ref t/\H t=none/\(∀ xs,aX K H a xs->xs[i]? = some y)/\H'=upd H t (.tup [.int i,y]),fun i H=>∃ xs,aX K H a xs/\xs.length<=i⟩
def Itz (K:Frag)(a b:Addr):It :=
 ⟨fun i H=>∃ xs ys x y,aX K H a xs/\aX K H b ys/\xs[i]? = some x/\ys[i]? = some y,
  fun i H p H'=>∃ x y t,p=.ref t/\H t=none/\(∀ xs,aX K H a xs->xs[i]? = some x)/\(∀ ys,aX K H b ys->ys[i]? = some y)/\H'=upd H t (.tup [x,y]),
  fun i H=>∃ xs ys,aX K H a xs/\aX K H b ys/\min xs.length ys.length=i⟩
theorem jJ {a:Addr}{K:Frag}{X:Cx}{pins:List (Addr×Obj)}{σ:St}{H:Hp}{s:Shared}{xs:List V}{b:Addr}{o:Obj}(I:Inv X pins σ H s)(hq:aX X.K H a xs)(e:s.heap.get? b=some o)(hc:o.cls≠.type "list"):a≠b:=by
 rintro rfl;obtain⟨its,_,p,_⟩:=I.list hq;obtain⟨o',e',c',_⟩:=p.isList;rw[e]at e';cases e';exact hc c'
theorem Inv.E1 {tk:Nat}{h':Heap}{wr:List Addr}{T:Addr}{xs:List V}{vals:List Value}(I:Inv X pins σ H s)(hw:∀ b∈wr,nX X pins H b)(hT:s.heap.objs.size<=T)(ht:h'.IsTuple T vals.toArray)(rv:Vals xs vals)(hz:xs.length<=sizeLine)
  (kk:∀ b o,b ∉ wr->s.heap.get? b=some o->h'.get? b=some o) (there:∀ b∈wr,∃ o,h'.get? b=some o):Inv X pins σ (upd H T (.tup xs)) { s with heap:=h',toks:=tk }:=by
 have hTn:H T=none:=I.hok.fresh hT;have nT:∀ b o,s.heap.get? b=some o->b≠T:=fun b o e=>Nat.ne_of_lt (U' (T' e) hT);refine I.step (g':=s.gens) (d':=s.drawn) (ch:=wr) (fun b hb=>?_) (fun b o _ _ hc e _=>kk b o hc e) (fun b o _ _ hc e _=>⟨o.slots,kk b o hc e⟩) (fun b o _ e n=>by rw[ax (nT b o e)];exact n)
  (fun b o hc e=>⟨o,kk b o hc e⟩) (fun b ys e=>by rw[ax (aN e hTn)];exact e) (fun b o u e=>by rw[ax (aN e hTn)];exact e) (fun b ps e=>⟨#[],by rw[ax (aN e hTn),e];simp⟩) (fun m hm=>?_) (fun b u e=>?_) I.bare
 ·obtain⟨_,f1,_,f3,f4,f5⟩:=hw b hb;exact⟨f3,f1,f4,f5⟩
 ·obtain⟨o,es,ep,ho,r⟩:=hm;exact⟨o,es,ep,kk _ o (fun z=>(hw _ z).2.1 rfl) ho,r⟩
 ·by_cases hb:b=T
  ·subst hb;rw[af]at e;cases e;exact⟨hz,vals,rv,ht⟩
  ·rw[ax hb]at e;refine(I.hok b u e).stay (fun c v hc q=>kk c v (fun z=>?_) q) (fun c q=>by rw[ax (aN q hTn)];exact q) fun c ys q=>by rw[ax (aN q hTn)];exact q
   have hn:=(hw c z).1;rcases hc with hc|hc
   ·rw[hc,e]at hn;cases hn
   ·rw[hc]at hn;cases hn
theorem Inv.jK {tk:Nat}{h':Heap}{wr:List Addr}(I:Inv X pins σ H s)(hw:∀ b∈wr,nX X pins H b)(kk:∀ b o,b ∉ wr->s.heap.get? b=some o->h'.get? b=some o):Inv X pins σ H { s with heap:=h',toks:=tk }:=by
 refine I.step (g':=s.gens) (d':=s.drawn) (ch:=wr) (fun b hb=>?_) (fun b o _ _ hc e _=>kk b o hc e) (fun b o _ _ hc e _=>⟨o.slots,kk b o hc e⟩) (fun b o _ e n=>n)
  (fun b o hc e=>⟨o,kk b o hc e⟩) (fun b ys e=>e) (fun b o u e=>e) (fun b ps e=>⟨#[],by rw[e];simp⟩) (fun m hm=>?_) (fun b u e=>?_) I.bare
 ·obtain⟨_,f1,_,f3,f4,f5⟩:=hw b hb;exact⟨f3,f1,f4,f5⟩
 ·obtain⟨o,es,ep,ho,r⟩:=hm;exact⟨o,es,ep,kk _ o (fun z=>(hw _ z).2.1 rfl) ho,r⟩
 ·refine(I.hok b u e).stay (fun c v hc q=>kk c v (fun z=>?_) q) (fun c q=>q) fun c ys q=>q;have hn:=(hw c z).1;rcases hc with hc|hc
  ·rw[hc,e]at hn;cases hn
  ·rw[hc]at hn;cases hn
end
end L2
namespace L2
open PySem PySem.Spec PyProof.Rows PySem.SeqAt
section
variable {X:Cx}
theorem aw {k:Nat}{A:Around}(hr:ma k A):A.units+64<cLine:=hr.units
theorem eF:bootBuiltins "len"=some (.builtin "len"):=by lk
theorem aiT:bootBuiltins "min"=some (.builtin "min"):=by lk
theorem aiU:bootBuiltins "max"=some (.builtin "max"):=by lk
theorem Kw:bootBuiltins "enumerate"=some (.type "enumerate"):=by lk
theorem aiV:bootBuiltins "zip"=some (.type "zip"):=by lk
theorem dO:bootBuiltins "isinstance"=some (.builtin "isinstance"):=by lk
theorem vF:bootBuiltins "int"=some (.type "int"):=by lk
theorem afR:bootBuiltins "bool"=some (.type "bool"):=by lk
theorem acq:bootBuiltins "str"=some (.type "str"):=by lk
theorem xA:bootBuiltins "list"=some (.type "list"):=by lk
theorem E2:bootBuiltins "tuple"=some (.type "tuple"):=by lk
theorem JD:bootBuiltins "sorted"=some (.builtin "sorted"):=by lk
theorem Kx:bootBuiltins "all"=some (.builtin "all"):=by lk
theorem afS:bootBuiltins "dict"=some (.type "dict"):=by lk
end
end L2
namespace L2
open PySem PySem.Spec PyProof.Rows
end L2
namespace L2
open PySem
theorem xB {K:Frag}{H:Hp}{a l:Addr}{o:HO}{xs:List V}(h:aX K H a xs)(hn:H l=none):aX K (upd H l o) a xs:=by
 have ne:∀{u},H a=some u->a≠l:=fun e=>aN e hn;rcases h with (h|⟨u,h⟩)|h
 ·exact .inl (.inl (by rw[ax (ne h)];exact h))
 ·exact .inl (.inr ⟨u,by rw[ax (ne h)];exact h⟩)
 ·exact .inr h
theorem az.tup {K:Frag}{H H':Hp}{a:Addr}{xs:List V}(e:az H H')(h:dh K H a xs):dh K H' a xs:=by
 rcases h with (h|⟨o,h⟩)|h
 ·exact .inl (.inl (e _ _ h))
 ·exact .inl (.inr ⟨o,e _ _ h⟩)
 ·exact .inr h
theorem az.upd {H:Hp}{l:Addr}{o:HO}(hn:H l=none):az H (upd H l o):=fun b u e=>by
 rw[ax (aN e hn)];exact e
end L2
namespace L2
theorem aR {X:Cx}{b:List PySem.Stmt}{t:TS}{D:Ends}{σ:St}{H:Hp}(h:PJ X b t)(q:t D σ H):∃ t,PJ X b t/\t D σ H:=⟨t,h,q⟩
theorem sv (i j:Int):decide (V.int i=V.int j)=decide (i=j):=by
 by_cases h:i=j
 ·subst h;simp
 ·rw[i' h];exact i' fun e=>h (V.int.inj e)
end L2
namespace L2
open PySem
theorem ahA {X:Cx}:∀ cs:List (Str×Pos),PA X (cs.map fun c=>Expr.Constant (.str c.1) 0 c.2) (fun _ H Q=>Q (cs.map fun c=>V.str c.1) H)
 |[]=>ao
 |c::cs=>aa av (ahA cs)
end L2
namespace L2
open PySem
end L2
namespace L2
open PySem PySem.Spec PyProof.Rows
section
variable {X:Cx} {tg:Expr}
theorem zQ {pins:List (Addr×Obj)}{σ:St}{H:Hp}{s:Shared}{a:Addr}{xs:List V}{i:Nat}{y:V}(I:Inv X pins σ H s)(hq:aX X.K H a xs)(hy:xs[i]? = some y):∀ ys,aX X.K H a ys->ys[i]? = some y:=fun ys h=>by
 rw[I.PK h hq];exact hy
theorem ZF {P:Program}{w:World}{K:Frag}{es:List Expr}{k:Nat}{tp:Pos}(a e it:Addr)(hei:e≠it) :
  Turn P w K (.Tuple es k tp) (Ite K a) [e,it] e (fun i h=>(∃ old,IsEnum h e it i old)/\h.IsListIter it a i) where
 mem:=by simp
 obj:=fun i h st b hb=>by
  obtain⟨⟨old,he⟩,o,e2,c,d⟩:=st;rcases List.mem_cons.mp hb with rfl|hb
  ·exact⟨_,he,fun v z=>by
    have z':Data.fields _=Data.cell v:=z;cases z'⟩
  ·have:b=it:=by simpa using hb
   subst this;exact⟨o,e2,fun v z=>by rw[d]at z;cases z⟩
 keep:=fun i h h' st kp=>by
  obtain⟨⟨old,he⟩,hit⟩:=st;exact⟨⟨old,kp e (by simp) _ he⟩,hit.at fun o x=>kp it (by simp) o x⟩
 item:=by
  intro X hP hw hK hc i pins s σ H E I hf st hg;subst hP hw hK;obtain⟨xs,x,hq,hx⟩:=hg;obtain⟨its,rv,p,hz⟩:=I.list hq;obtain⟨u,hu,ru⟩:=rv.get hx;obtain⟨⟨old,he⟩,hit⟩:=st;have hle:a≠e:=jJ (K:=X.K) I hq he (by intro z;injection z with z;exact absurd z (by decide));have hli:a≠it:=by
   obtain⟨o,e2,c,_⟩:=hit;exact jJ (K:=X.K) I hq e2 (by rw[c];intro z;injection z with z;exact absurd z (by decide))
  have hiu:i<its.toArray.size:=by
   have:=(F'.mp hu).1
   simpa using this
  have W:=WalksT.enumerate (prog:=X.prog) (w:=X.w) (I.ok.hd hc) e it a hei hle hli its.toArray;refine W.item i s _ _ hiu ⟨⟨old,he⟩,hit,p.isList⟩ fun T vals h' tk hv hT ht mid kk=>?_;refine⟨_,rfl,?_⟩;obtain⟨t,x',hx',rfl⟩:=hv;have ex:x'=u:=by
   have:its[i]? = some x':=by simpa using hx'
   rw[hu]at this;exact(Za' this).symm
  subst ex;have fw:∀ b∈[e,it],nX X pins H b:=hf;have I1:Inv X pins σ (upd H T (.tup [.int i,x])) { s with heap:=h',toks:=tk }:=by
   refine I.E1 (vals:=[.int i t,x']) fw hT (by simpa using ht) (.cons ⟨t,rfl⟩ (.cons ru .nil)) (by show 2<=sizeLine;decide) kk fun b hb=>?_;obtain⟨⟨xx,ho⟩,⟨o,e2,_⟩,_⟩:=mid;rcases List.mem_cons.mp hb with rfl|hb
   ·exact⟨_,ho⟩
   ·have:b=it:=by simpa using hb
    subst this;exact⟨o,e2⟩
  have hTn:H T=none:=I.hok.fresh hT;have neT:∀ b∈[e,it],b≠T:=fun b hb z=>by
   subst z;exact W.apart i b _ mid hb
  refine W.go es k tp i T _ _ _ mid fun h'' st'' aiW=>?_;have hf2:∀ b∈[e,it],nX X pins (upd H T (.tup [.int i,x])) b:=fun b hb=>by
   obtain⟨f0,fr⟩:=hf b hb;exact⟨by rw[ax (neT b hb)];exact f0,fr⟩
  refine⟨.ref T,upd H T (.tup [.int i,x]),I1.jK (tk:=tk) hf2 aiW,rfl,⟨x,T,rfl,hTn,zQ I hq hx,rfl⟩,⟨st''.1,st''.2.1⟩,fun b hb=>(hf2 b hb).1⟩
 done:=by
  intro X hP hw hK hc i pins s σ H E I hf st hg;subst hP hw hK;obtain⟨xs,hq,hx⟩:=hg;obtain⟨its,rv,p,hz⟩:=I.list hq;obtain⟨⟨old,he⟩,hit⟩:=st;have hl:=rv.length;refine wpAny_pyNext_enum_end (I.ok.hd hc) he hit p.isList (Array.getElem?_eq_none (by simp;omega)) fun h' hx'=>?_;exact⟨rfl,I.jK (tk:=s.toks) hf fun b o hb q=>hx' b o (fun z=>hb (by simp[z])) q⟩
 self:=fun _ _ _ _ _ st h=>by
  obtain⟨⟨old,he⟩,_⟩:=st;exact wpAny_pyIter_enum he h
theorem aiX {l:Expr}{tl:TE}(hl:PE X l tl)(hs:starEach [l] X.env=[(false,eval l X.env)])(pos:Pos)(pins:List (Addr×Obj))(s:Shared)(σ:St)(H:Hp){Q:VK}(I:Inv X pins σ H s)(h:tl σ H Q) :
  wpAny (model X.prog X.w) X.A (spliced (backTo pos (starEach [l] X.env))) (fun us s1=>∃ v u H1,Inv X pins σ H1 s1/\us=[u]/\RelV v u/\Q v H1) X.xe s:=by
 have ha:PA X [l] (fun σ H Q=>tl σ H fun x H1=>Q [x] H1):=aa hl ao hs;have mono:wpAny (model X.prog X.w) X.A (spliced (backTo pos (starEach [l] X.env))) (AP X pins σ fun vs H1=>∃ v,vs=[v]/\Q v H1) X.xe s:=by
  have he:PE X l (fun σ' H' Q'=>σ'=σ/\H'=H/\∀ v H1,Q v H1->Q' v H1):=by
   intro pins s σ' H' Q' I' hw;obtain⟨rfl,rfl,hm⟩:=hw;exact cJ (hl pins s σ' H' Q I' h) fun u s1 ⟨v,H1,I1,r,q⟩=>⟨v,H1,I1,r,hm v H1 q⟩
  exact aa he ao hs pos pins s σ H _ I ⟨rfl,rfl,fun v H1 q=>⟨v,rfl,q⟩⟩
 refine cJ mono fun us s1 ⟨vs,H1,I1,r,v,e,q⟩=>?_;subst e;obtain⟨u,rfl,ru⟩:=r.one;exact⟨v,u,H1,I1,rfl,ru,q⟩
inductive acr (K:Frag)(R:(It->Hp->Prop))(x:V)(H1:Hp):Prop
 |mk (a:_) (vh:x=.ref a) (vi:(∃ xs,aX K H1 a xs)/\R (Ite K a) H1):acr K R x H1
def akK (K:Frag)(tl:TE):TI:=fun σ H R=>tl σ H fun x H1=>acr K R x H1
theorem afT {l:Expr}{tl:TE}{p pos tp:Pos}{es:List Expr}{k:Nat}(hg:Gl X "enumerate")(hm:X.mg "enumerate"=none)(hl:PE X l tl)(hs:starEach [l] X.env=[(false,eval l X.env)]:=by rfl) :
  PI X (.Tuple es k tp) (.Call (.Name "enumerate" p) [l] [] pos) (akK X.K tl):=by
 intro pins s σ H R I h;refine Call_ (vB I hg hm Kw (PyProof.Rows.callWith_type1 (cJ (aiX hl hs pos pins s σ H I h) fun us s1 ⟨v,u,H1,I1,e1,r1,q1⟩=>?_) (by rw[hs];rfl) (by rfl)))
 ·obtain⟨a,rfl,⟨xs,hq⟩,q⟩:=q1;subst e1;cases r1;obtain⟨its,rv,pl,hz⟩:=I1.list hq;refine call_enumerate_list pl.isList fun h' he hit hsz kk=>?_;have hee:s1.heap.objs.size+1≠s1.heap.objs.size:=Nat.succ_ne_self _;refine wpAny_pyIter_enum he ?_;refine⟨s1.heap.objs.size+1,[s1.heap.objs.size+1,s1.heap.objs.size],_,_,H1,rfl,I1.kept (t':=s1.toks) kk,ZF a _ _ hee,⟨⟨.none,he⟩,hit⟩,fun b hb=>?_,q⟩;have hb':s1.heap.objs.size<=b:=by
   rcases List.mem_cons.mp hb with rfl|hb
   ·exact Nat.le_succ _
   ·have:b=s1.heap.objs.size:=by simpa using hb
    rw[this];exact C' _
  exact I1.PM hb' (I1.hok.fresh hb')
end
end L2
namespace L2
open PySem PySem.Spec PyProof.Rows
structure Sb (z TI TO i1 i2:Addr):Prop where
 TIz:TI≠z
 TOz:TO≠z
 i1z:i1≠z
 i2z:i2≠z
 TITO:TI≠TO
 TIi1:TI≠i1
 TIi2:TI≠i2
 TOi1:TO≠i1
 TOi2:TO≠i2
 i12:i1≠i2
section
variable {X:Cx}
def ahB (z TI TO i1 i2 a b:Addr)(i:Nat)(h:Heap):Prop:=IsZip h z TI TO .none/\IsPair h TI (.ref i1) (.ref i2)/\(∃ x y,IsPair h TO x y)/\h.IsListIter i1 a i/\h.IsListIter i2 b i
theorem JE {pins:List (Addr×Obj)}{σ:St}{H:Hp}{s:Shared}{z TI TO i1 i2 a b:Addr}{i:Nat}{xs ys:List V}(I:Inv X pins σ H s)(O:Sb z TI TO i1 i2)(st:ahB z TI TO i1 i2 a b i s.heap)(ha:aX X.K H a xs)(hb:aX X.K H b ys) :
  ZipApart z TI TO i1 i2 a b:=by
 obtain⟨hz,hTI,⟨x,y,hTO⟩,⟨o1,e1,c1,_⟩,⟨o2,e2,c2,_⟩⟩:=st;have nz:∀{c:Addr} {zs:List V},aX X.K H c zs->c≠z:=fun h=>jJ (K:=X.K) I h hz (by intro q;injection q with q;exact absurd q (by decide));have nT:∀{c:Addr} {zs:List V},aX X.K H c zs->c≠TO:=fun h=>jJ (K:=X.K) I h hTO (by intro q;injection q with q;exact absurd q (by decide));have n1:∀{c:Addr} {zs:List V},aX X.K H c zs->c≠i1:=fun h=>jJ (K:=X.K) I h e1 (by rw[c1];intro q;injection q with q;exact absurd q (by decide));have n2:∀{c:Addr} {zs:List V},aX X.K H c zs->c≠i2:=fun h=>jJ (K:=X.K) I h e2 (by rw[c2];intro q;injection q with q;exact absurd q (by decide));exact⟨O.TIz,O.TOz,O.i1z,O.i2z,O.TITO,O.TIi1,O.TIi2,O.TOi1,O.TOi2,O.i12,nz ha,nT ha,n1 ha,n2 ha,nz hb,nT hb,n1 hb,n2 hb⟩
theorem acs {P:Program}{w:World}{K:Frag}{es:List Expr}{k:Nat}{tp:Pos}{z TI TO i1 i2:Addr}(a b:Addr)(O:Sb z TI TO i1 i2) :
  Turn P w K (.Tuple es k tp) (Itz K a b) [z,TI,TO,i1,i2] z (ahB z TI TO i1 i2 a b) where
 mem:=by simp
 obj:=fun i h st c hc=>by
  obtain⟨hz,hTI,⟨x,y,hTO⟩,⟨o1,e1,_,d1⟩,⟨o2,e2,_,d2⟩⟩:=st;have hc':c=z\/c=TI\/c=TO\/c=i1\/c=i2:=by simpa using hc
  rcases hc' with rfl|rfl|rfl|rfl|rfl
  ·exact⟨_,hz,fun v q=>by
    have q':Data.fields _=Data.cell v:=q;cases q'⟩
  ·exact⟨_,hTI,fun v q=>by
    have q':Data.seq _ _=Data.cell v:=q;cases q'⟩
  ·exact⟨_,hTO,fun v q=>by
    have q':Data.seq _ _=Data.cell v:=q;cases q'⟩
  ·exact⟨o1,e1,fun v q=>by rw[d1]at q;cases q⟩
  ·exact⟨o2,e2,fun v q=>by rw[d2]at q;cases q⟩
 keep:=fun i h h' st kp=>by
  obtain⟨hz,hTI,⟨x,y,hTO⟩,h1,h2⟩:=st;exact⟨kp z (by simp) _ hz,kp TI (by simp) _ hTI,⟨x,y,kp TO (by simp) _ hTO⟩,h1.at fun o q=>kp i1 (by simp) o q,h2.at fun o q=>kp i2 (by simp) o q⟩
 item:=by
  intro X hP hw hK hc i pins s σ H E I hf st hg;subst hP hw hK;obtain⟨xs,ys,x,y,hq,hq2,hx,hy⟩:=hg;have D:=JE I O st hq hq2;obtain⟨its,rv,p,_⟩:=I.list hq;obtain⟨its2,rv2,p2,_⟩:=I.list hq2;obtain⟨u,hu,ru⟩:=rv.get hx;obtain⟨u2,hu2,ru2⟩:=rv2.get hy;have h1:i<its.length:=(F'.mp hu).1;have h2:i<its2.length:=(F'.mp hu2).1;have W:=WalksT.zip2 (prog:=X.prog) (w:=X.w) (I.ok.hd hc) z TI TO i1 i2 a b D its.toArray its2.toArray;obtain⟨hz,hTI,hTO,g1,g2⟩:=st;refine W.item i s _ _ (by simp;omega) ⟨hz,hTI,hTO,g1,g2,p.isList,p2.isList⟩ fun T vals h' tk hv hT ht mid kk=>?_;refine⟨_,rfl,?_⟩;obtain⟨x',y',hx',hy',rfl⟩:=hv;have ex:x'=u:=by
   have:its[i]? = some x':=by simpa using hx'
   rw[hu]at this;exact(Za' this).symm
  have ey:y'=u2:=by
   have:its2[i]? = some y':=by simpa using hy'
   rw[hu2]at this;exact(Za' this).symm
  subst ex ey;have sub:∀ c∈[z,TO,i1,i2],c∈[z,TI,TO,i1,i2]:=fun c hc=>by
   have:c=z\/c=TO\/c=i1\/c=i2:=by simpa using hc
   simp;rcases this with r|r|r|r <;> simp[r]
  have fw:∀ c∈[z,TO,i1,i2],nX X pins H c:=fun c hc=>hf c (sub c hc);have I1:Inv X pins σ (upd H T (.tup [x,y])) { s with heap:=h',toks:=tk }:=by
   refine I.E1 (vals:=[x',y']) fw hT (by simpa using ht) (.cons ru (.cons ru2 .nil)) (by show 2<=sizeLine;decide) kk fun c hc=>?_;obtain⟨m1,_,⟨_,_,m2⟩,⟨o1,m3,_⟩,⟨o2,m4,_⟩,_⟩:=mid;have:c=z\/c=TO\/c=i1\/c=i2:=by simpa using hc
   rcases this with rfl|rfl|rfl|rfl
   ·exact⟨_,m1⟩
   ·exact⟨_,m2⟩
   ·exact⟨_,m3⟩
   ·exact⟨_,m4⟩
  have hTn:H T=none:=I.hok.fresh hT;have neT:∀ c∈[z,TI,TO,i1,i2],c≠T:=fun c hc q=>by
   subst q;have:c=TI\/c∈[z,TO,i1,i2]:=by
    have:c=z\/c=TI\/c=TO\/c=i1\/c=i2:=by simpa using hc
    simp;rcases this with r|r|r|r|r <;> simp[r]
   rcases this with r|r
   ·subst r;exact absurd (U' (T' hTI) hT) (Nat.lt_irrefl _)
   ·exact W.apart i c _ mid r
  refine W.go es k tp i T _ _ _ mid fun h'' st'' aiW=>?_;have hf2:∀ c∈[z,TI,TO,i1,i2],nX X pins (upd H T (.tup [x,y])) c:=fun c hc=>by
   obtain⟨f0,fr⟩:=hf c hc;exact⟨by rw[ax (neT c hc)];exact f0,fr⟩
  obtain⟨s1,s2,s3,s4,s5,_⟩:=st'';refine⟨.ref T,upd H T (.tup [x,y]),I1.jK (tk:=tk) (fun c hc=>hf2 c (sub c hc)) aiW,rfl,⟨x,y,T,rfl,hTn,zQ I hq hx,zQ I hq2 hy,rfl⟩,⟨s1,s2,s3,s4,s5⟩,fun c hc=>(hf2 c hc).1⟩
 done:=by
  intro X hP hw hK hc i pins s σ H E I hf st hg;subst hP hw hK;obtain⟨xs,ys,hq,hq2,hx⟩:=hg;have D:=JE I O st hq hq2;obtain⟨its,rv,p,_⟩:=I.list hq;obtain⟨its2,rv2,p2,_⟩:=I.list hq2;have W:=WalksT.zip2 (prog:=X.prog) (w:=X.w) (I.ok.hd hc) z TI TO i1 i2 a b D its.toArray its2.toArray;obtain⟨hz,hTI,hTO,g1,g2⟩:=st;have e:min its.toArray.size its2.toArray.size=i:=by
   rw[size_toArray,size_toArray,<-rv.length,<-rv2.length];exact hx
  refine W.done s _ _ (by rw[e];exact⟨hz,hTI,hTO,g1,g2,p.isList,p2.isList⟩) fun h' tk kk=>?_;refine⟨rfl,I.jK (tk:=tk) (wr:=[z,TO,i1,i2]) (fun c hc=>hf c ?_) kk⟩;have:c=z\/c=TO\/c=i1\/c=i2:=by simpa using hc
  simp;rcases this with r|r|r|r <;> simp[r]
 self:=fun _ i s _ _ st h=>by
  obtain⟨hz,_⟩:=st;exact wpAny_pyIter_zip hz h
inductive ahC (K:Frag)(R:(It->Hp->Prop))(x:V)(y:V)(H2:Hp):Prop
 |mk (a:_) (b:_) (vh:x=.ref a) (vi:y=.ref b) (EB:(∃ xs,aX K H2 a xs)/\(∃ ys,aX K H2 b ys)/\R (Itz K a b) H2):ahC K R x y H2
def anL (K:Frag)(tl tm:TE):TI:=fun σ H R=>tl σ H fun x H1=>tm σ H1 fun y H2=>ahC K R x y H2
theorem aiY {l m:Expr}{tl tm:TE}(hl:PE X l tl)(hm:PE X m tm)(hs:starEach [l,m] X.env=[(false,eval l X.env),(false,eval m X.env)])(hs2:starEach [m] X.env=[(false,eval m X.env)])(pos:Pos)(pins:List (Addr×Obj))(s:Shared)(σ:St)(H:Hp){Q:V->V->Hp->Prop}(I:Inv X pins σ H s)(h:tl σ H fun x H1=>tm σ H1 fun y H2=>Q x y H2) :
  wpAny (model X.prog X.w) X.A (spliced (backTo pos (starEach [l,m] X.env))) (fun us s1=>∃ x y u v H1,Inv X pins σ H1 s1/\us=[u,v]/\RelV x u/\RelV y v/\Q x y H1) X.xe s:=by
 have he:PE X l (fun σ' H' Q'=>σ'=σ/\H'=H/\∀ x H1,(tm σ H1 fun y H2=>Q x y H2)->Q' x H1):=by
  intro pins s σ' H' Q' I' hw;obtain⟨rfl,rfl,k⟩:=hw;exact cJ (hl pins s σ' H' _ I' h) fun u s1 ⟨v,H1,I1,r,q⟩=>⟨v,H1,I1,r,k v H1 q⟩
 have hf:PE X m (fun σ' H' Q'=>∃ x,σ'=σ/\(tm σ H' fun y H2=>Q x y H2)/\∀ y H2,Q x y H2->Q' y H2):=by
  intro pins s σ' H' Q' I' hw;obtain⟨x,rfl,hh,k⟩:=hw;exact cJ (hm pins s σ' H' _ I' hh) fun u s1 ⟨v,H1,I1,r,q⟩=>⟨v,H1,I1,r,k v H1 q⟩
 have main:=aa he (aa hf ao hs2) (by rw[hs,hs2]) pos pins s σ H (fun vs H2=>∃ x y,vs=[x,y]/\Q x y H2) I ⟨rfl,rfl,fun x H1 q=>⟨x,rfl,q,fun y H2 q2=>⟨x,y,rfl,q2⟩⟩⟩;refine cJ main fun us s1 ⟨vs,H1,I1,r,x,y,e,q⟩=>?_;subst e;obtain⟨u,v,rfl,r1,r2⟩:=r.two;exact⟨x,y,u,v,H1,I1,rfl,r1,r2,q⟩
theorem aiZ {l m:Expr}{tl tm:TE}{p pos tp:Pos}{es:List Expr}{k:Nat}(hg:Gl X "zip")(hz:X.mg "zip"=none)(hl:PE X l tl)(hm:PE X m tm)(hs:starEach [l,m] X.env=[(false,eval l X.env),(false,eval m X.env)]:=by rfl)(hs2:starEach [m] X.env=[(false,eval m X.env)]:=by rfl) :
  PI X (.Tuple es k tp) (.Call (.Name "zip" p) [l,m] [] pos) (anL X.K tl tm):=by
 intro pins s σ H R I h;refine Call_ (vB I hg hz aiV (PyProof.Rows.callWith_type1 (cJ (aiY hl hm hs hs2 pos pins s σ H I h) fun us s1 ⟨x,y,u,v,H1,I1,e1,r1,r2,q1⟩=>?_) (by rw[hs,hs2]) (by rw[hs2];rfl)));obtain⟨a,b,rfl,rfl,⟨xs,hq⟩,⟨ys,hq2⟩,q⟩:=q1;subst e1;cases r1;cases r2;obtain⟨its,rv,pl,_⟩:=I1.list hq;obtain⟨its2,rv2,pl2,_⟩:=I1.list hq2;refine call_zip_2 pl.isList pl2.isList fun h' z1 z2 z3 z4 z5 hsz kk=>?_;refine wpAny_pyIter_zip z1 ?_;have O:Sb (s1.heap.objs.size+4) (s1.heap.objs.size+2) (s1.heap.objs.size+3) s1.heap.objs.size (s1.heap.objs.size+1):=by
  constructor <;> exact(by intro q;have q':(_:Nat)=_:=q;omega)
 refine⟨_,[s1.heap.objs.size+4,s1.heap.objs.size+2,s1.heap.objs.size+3,s1.heap.objs.size,s1.heap.objs.size+1],_,_,H1,rfl,I1.kept (t':=s1.toks) kk,acs a b O,⟨z1,z2,⟨_,_,z3⟩,z4,z5⟩,fun c hc=>?_,q⟩;have hc':s1.heap.objs.size<=c:=by
  have:c=s1.heap.objs.size+4\/c=s1.heap.objs.size+2\/c=s1.heap.objs.size+3\/c=s1.heap.objs.size\/c=s1.heap.objs.size+1:=by simpa using hc
  rcases this with r|r|r|r|r <;> (rw[r];first|exact Nat.le_add_right _ _|exact C' _)
 exact I1.PM hc' (I1.hok.fresh hc')
end
end L2
namespace L2
open PySem
abbrev Yh (J:It)(g:TG)(tc:TT)(te:TE)(D:Addr)(R:Hp->Prop)(σ:St)(H:Hp):Prop:=∃ W:Nat->Nat->List V->St->Hp->Prop,(∃ m,W 0 m [] σ H)/\∀ i m ys σ H,W i m ys σ H ->
  (J.stop i H/\R H)\/(J.go i H/\∀ x H',J.RX i H x H'->g x σ H' fun σ2 H2=>tc σ2 H2 fun ok H3 =>
   if ok=true then te σ2 H3 fun y H4=>H4 D=some (.lst ys)/\ys.length<sizeLine/\∃ m',m'<m/\W (i+1) m' (ys++[y]) σ2 (upd H4 D (.lst (ys++[y])))
   else ∃ m',m'<m/\W (i+1) m' ys σ2 H3)
abbrev JF (g:TG)(tc:TT)(te:TE)(D:Addr)(ys:List V)(x:V)(σ:St)(H:Hp)(N:List V->St->Hp->Prop):Prop :=
 g x σ H fun σ2 H2=>tc σ2 H2 fun ok H3=>if ok=true then te σ2 H3 fun y H4=>H4 D=some (.lst ys)/\ys.length<sizeLine/\N (ys++[y]) σ2 (upd H4 D (.lst (ys++[y]))) else N ys σ2 H3
theorem Sd {lo:Int}{n:Nat}{g:TG}{tc:TT}{te:TE}{D:Addr}{R:Hp->Prop}{σ:St}{H:Hp}(Pv:Nat->List V->St->Hp->Prop)(h0:Pv 0 [] σ H)
  (hs:∀ i ys σ H,i<n->Pv i ys σ H->∀ N:List V->St->Hp->Prop,(∀ ys σ H,Pv (i+1) ys σ H->N ys σ H)->JF g tc te D ys (.int (lo+i)) σ H N) (hd:∀ ys σ H,Pv n ys σ H->R H):Yh (Itr lo n) g tc te D R σ H:=by
 refine⟨fun i m ys σ H=>m=n-i/\i<=n/\Pv i ys σ H,⟨n,by simp,V' _,h0⟩,?_⟩;rintro i m ys σ H ⟨rfl,hi,p⟩
 by_cases hlt:i<n
 ·refine .inr ⟨hlt,fun x H' y=>?_⟩;obtain⟨e,y⟩:=y;subst e y;exact hs i ys σ _ hlt p (fun ys' σ' H'=>∃ m',m'<n-i/\m'=n-(i+1)/\i+1<=n/\Pv (i+1) ys' σ' H') fun ys' σ' H' q=>⟨n-(i+1),by omega,rfl,hlt,q⟩
 ·have e:i=n:=by omega
  subst e;exact .inl ⟨C' _,hd ys σ H p⟩
theorem jL {K:Frag}{a:Addr}{xs:List V}{g:TG}{tc:TT}{te:TE}{D:Addr}{R:Hp->Prop}{σ:St}{H:Hp}(Pv:Nat->List V->St->Hp->Prop)(h0:Pv 0 [] σ H)(hl:∀ i ys σ H,Pv i ys σ H->aX K H a xs)
  (hs:∀ i ys x σ H,xs[i]? = some x->Pv i ys σ H->∀ N:List V->St->Hp->Prop,(∀ ys σ H,Pv (i+1) ys σ H->N ys σ H)->JF g tc te D ys x σ H N) (hd:∀ ys σ H,Pv xs.length ys σ H->R H):Yh (Itl K a) g tc te D R σ H:=by
 refine⟨fun i m ys σ H=>m=xs.length-i/\i<=xs.length/\Pv i ys σ H,⟨xs.length,by simp,V' _,h0⟩,?_⟩;rintro i m ys σ H ⟨rfl,hi,p⟩;have q:=hl i ys σ H p
 by_cases hlt:i<xs.length
 ·refine .inr ⟨⟨xs,xs[i],q,by simp[hlt]⟩,fun x H' y=>?_⟩;obtain⟨e,y⟩:=y;subst e;exact hs i ys x σ _ (y xs q) p (fun ys' σ' H'=>∃ m',m'<xs.length-i/\m'=xs.length-(i+1)/\i+1<=xs.length/\Pv (i+1) ys' σ' H') fun ys' σ' H' q=>⟨xs.length-(i+1),by omega,rfl,hlt,q⟩
 ·have e:i=xs.length:=by omega
  subst e;exact .inl ⟨⟨xs,q,C' _⟩,hd ys σ H p⟩
theorem acu {K:Frag}{a:Addr}{xs:List V}{g:TG}{tb:TS}{D:Ends}{σ:St}{H:Hp}(Pv:Nat->St->Hp->Prop)(h0:Pv 0 σ H)(hl:∀ i σ H,Pv i σ H->aX K H a xs)
  (hs:∀ i x t σ H,xs[i]? = some x->Pv i σ H->H t=none->g (.ref t) σ (upd H t (.tup [.int i,x])) fun σ2 H2=>tb { D with nx:=Pv (i+1),ct:=Pv (i+1),bk:=D.nx } σ2 H2) (hd:∀ σ H,Pv xs.length σ H->D.nx σ H) :
  ∃ W:Nat->Nat->St->Hp->Prop,(∃ m,W 0 m σ H)/\∀ i m σ H,W i m σ H ->
   ((Ite K a).stop i H/\D.nx σ H)\/((Ite K a).go i H/\∃ N:St->Hp->Prop,(∀ σ' H',N σ' H'->∃ m',m'<m/\W (i+1) m' σ' H')/\∀ x H',(Ite K a).RX i H x H'->g x σ H' fun σ2 H2=>tb { D with nx:=N,ct:=N,bk:=D.nx } σ2 H2):=by
 refine⟨fun i m σ H=>m=xs.length-i/\i<=xs.length/\Pv i σ H,⟨xs.length,by simp,V' _,h0⟩,?_⟩;rintro i m σ H ⟨rfl,hi,p⟩;have q:=hl i σ H p
 by_cases hlt:i<xs.length
 ·refine .inr ⟨⟨xs,xs[i],q,by simp[hlt]⟩,Pv (i+1),fun σ' H' p'=>⟨xs.length-(i+1),by omega,rfl,hlt,p'⟩,fun x H' y=>?_⟩;obtain⟨y0,t,rfl,hn,hy,rfl⟩:=y;exact hs i y0 t σ H (hy xs q) p hn
 ·have e:i=xs.length:=by omega
  subst e;exact .inl ⟨⟨xs,q,C' _⟩,hd σ H p⟩
theorem afU {K:Frag}{a b:Addr}{xs ys:List V}{g:TG}{tb:TS}{D:Ends}{σ:St}{H:Hp}(Pv:Nat->St->Hp->Prop)(he:xs.length=ys.length)(h0:Pv 0 σ H)(hl:∀ i σ H,Pv i σ H->aX K H a xs/\aX K H b ys)
  (hs:∀ i x y t σ H,xs[i]? = some x->ys[i]? = some y->Pv i σ H->H t=none->g (.ref t) σ (upd H t (.tup [x,y])) fun σ2 H2=>tb { D with nx:=Pv (i+1),ct:=Pv (i+1),bk:=D.nx } σ2 H2) (hd:∀ σ H,Pv xs.length σ H->D.nx σ H) :
  ∃ W:Nat->Nat->St->Hp->Prop,(∃ m,W 0 m σ H)/\∀ i m σ H,W i m σ H ->
   ((Itz K a b).stop i H/\D.nx σ H)\/((Itz K a b).go i H/\∃ N:St->Hp->Prop,(∀ σ' H',N σ' H'->∃ m',m'<m/\W (i+1) m' σ' H')/\∀ x H',(Itz K a b).RX i H x H'->g x σ H' fun σ2 H2=>tb { D with nx:=N,ct:=N,bk:=D.nx } σ2 H2):=by
 refine⟨fun i m σ H=>m=xs.length-i/\i<=xs.length/\Pv i σ H,⟨xs.length,by simp,V' _,h0⟩,?_⟩;rintro i m σ H ⟨rfl,hi,p⟩;obtain⟨q,q2⟩:=hl i σ H p
 by_cases hlt:i<xs.length
 ·have hlt2:i<ys.length:=by omega
  refine .inr ⟨⟨xs,ys,xs[i],ys[i],q,q2,by simp[hlt],by simp[hlt2]⟩,Pv (i+1),fun σ' H' p'=>⟨xs.length-(i+1),by omega,rfl,hlt,p'⟩,fun x H' y=>?_⟩;obtain⟨x0,y0,t,rfl,hn,hx,hy,rfl⟩:=y;exact hs i x0 y0 t σ H (hx xs q) (hy ys q2) p hn
 ·have e:i=xs.length:=by omega
  subst e;exact .inl ⟨⟨xs,ys,q,q2,by omega⟩,hd σ H p⟩
end L2
namespace L2
open PySem
theorem fH {j:Nat}{te:TE}{D:Addr}{ys:List V}{x:V}{σ:St}{H:Hp}{N:List V->St->Hp->Prop}
  (h:te (σ.set j (some x)) H fun y H4=>H4 D=some (.lst ys)/\ys.length<sizeLine/\N (ys++[y]) (σ.set j (some x)) (upd H4 D (.lst (ys++[y])))):JF (PL j) aiO te D ys x σ H N:=by
 unfold JF PL aiO;exact(R' (rfl:true=true)).mpr h
end L2
namespace L2
open PySem PySem.Spec PyProof.Rows
open Sem (wp)
section
variable {prog:Program} {w:World} {A:Around} {E:Value->Shared->Prop} {s:Shared}
end
end L2
namespace L2
open PySem PySem.Spec PyProof.Rows
section
variable {X:Cx} {pins:List (Addr×Obj)} {σ:St} {H:Hp} {s:Shared}
end
end L2
namespace L2
open PySem PySem.Spec PyProof.Rows
structure Hw (K:Frag)(x qual:Str)(st:Stmt)(f:Addr)(fd:FuncData)(dV:Value):Prop where
 ex:∃(oc:Value)(od:Option Addr)(kV doc pm:Value)(an:Option Addr)(cdv ct:Value)(osl:Array (Option Value)),
  fd=fnOf x qual (ak st) (ah st) (ae st) dV kV doc pm an cdv ct/\K.lookup f=some ⟨oc,od,.func fd,osl⟩/\codeIn K cdv qual=true
 kp:keepIn K (.ref f)=true
section
variable {P:Program} {w:World} {K:Frag} {mg:Str->Option Value} {base:Heap}
theorem Hw.ok {x qual:Str}{st:Stmt}{f:Addr}{fd:FuncData}{dV:Value}{N ps:List Str}{k:Nat}{sp:Sp}(F:Hw K x qual st f fd dV)(S:aH N ps (ae st))(len:∀ vs H Q E,sp vs H Q E->vs.length=ps.length)
  (hbody:∀(cdv:Value)(A:Around)(outer:List Env)(s:Shared)(H:Hp)(vs:List V)(Q:VK)(E:XK),ma k (A.deeper (envOfC qual (ae st) s.heap.objs.size f cdv))->sp vs H Q E ->
   ∃ t,PJ (PQ ig P w K mg base N qual (ae st) f cdv A outer s H E).nox (ah st) t/\t { nx:=fun _ H'=>Q .non H',rt:=Q } (start N vs) H):bK P w K mg base ig (k+1) f fd ps sp:=by
 obtain⟨oc,od,kV,doc,pm,an,cdv,ct,osl,rfl,lk,hcd⟩:=F.ex;refine aca lk hcd S len fun A outer s H vs Q E hr hsp=>?_;obtain⟨t,h,q⟩:=hbody cdv A outer s H vs Q E hr hsp;exact⟨t,h.nox,q⟩
theorem Hw.binds {x qual:Str}{st:Stmt}{f:Addr}{fd:FuncData}{T:Addr}{o:Obj}{items:Array Value}{n:Nat}{ps:List Str}{ds:List Value}(F:Hw K x qual st f fd (.ref T))(lk:K.lookup T=some o)(hs:o.data=.seq items n)
  (h:∀(kV doc pm:Value)(an:Option Addr)(cdv ct:Value)(us:List Value),(us++ds).length=ps.length->∃ k,bindArgs (fnOf x qual (ak st) (ah st) (ae st) (.ref T) kV doc pm an cdv ct) ⟨us,[]⟩=seqItems? (.ref T) >>= k/\k (some items)=pure (ps.zip (us++ds))):Binds K fd ps ds:=by
 obtain⟨oc,od,kV,doc,pm,an,cdv,ct,osl,rfl,lkf,hcd⟩:=F.ex;intro s us KI hl;obtain⟨k,h1,h2⟩:=h kV doc pm an cdv ct us hl;exact BindsTo.of_defaults rfl (KI _ _ lk) hs h1 h2
theorem Ky {x qual:Str}{st:Stmt}{f:Addr}{oc:Value}{od an:Option Addr}{osl:Array (Option Value)}{dV kV doc pm cdv ct:Value}(l:K.lookup f=some ⟨oc,od,.func (fnOf x qual (ak st) (ah st) (ae st) dV kV doc pm an cdv ct),osl⟩)
  (c:codeIn K cdv qual=true) (k:keepIn K (.ref f)=true):Hw K x qual st f (fnOf x qual (ak st) (ah st) (ae st) dV kV doc pm an cdv ct) dV:=⟨⟨oc,od,kV,doc,pm,an,cdv,ct,osl,rfl,l,c⟩,k⟩
end
inductive Se (w:World):List DictEntry->List (Str×V)->Prop
 |nil:Se w [] []
 |cons {x:Str} {t:Tok} {u:Value} {v:V} {es:List DictEntry} {kvs:List (Str×V)}:RelV v u->Se w es kvs->Se w (⟨PyData.keyHash w.params x,.str x t,u⟩::es) ((x,v)::kvs)
structure KD (K:Frag)(w:World)(a:Addr)(kvs:List (Str×V)):Prop where
 sys:(a==sysModules)=false
 ok:∃ es n,K.lookup a=some ⟨.type "dict",none,.dict es n,#[]⟩/\Se w es.toList kvs/\(kvs.map (·.1)).Nodup
theorem Se.vs (P:Program){w:World}:∀{es:List DictEntry} {kvs:List (Str×V)},Se w es kvs->∃ vs:List (Key×Value),Pairs (aW P w) es vs/\vs.map (·.1)=kvs.map (fun p=>(Sum.inr p.1:Key)) /\
  (∀ e∈es,∃ k,(aW P w).is k e.key=true/\e.hash=(aW P w).hash k)/\∀ x,oG (kvs.lookup x) (valueAt vs (Sum.inr x))
 |_,_,.nil=>⟨[],.nil,rfl,fun e h=>by simp at h,fun x=>True.intro⟩
 |_,_,.cons (x:=x) (t:=t) (u:=u) (v:=v) r q=>by
  obtain⟨vs,h1,h2,h3,h4⟩:=Se.vs P q;refine⟨(Sum.inr x,u)::vs,.cons (kB P w x t) rfl h1,by rw[map_cons,map_cons,h2],fun e he=>?_,fun y=>?_⟩
  ·rcases List.mem_cons.mp he with rfl|he
   ·exact⟨Sum.inr x,kB P w x t,rfl⟩
   ·exact h3 e he
  ·by_cases hy:y=x
   ·subst hy;unfold valueAt;simp only [List.lookup_cons,List.find?_cons];simp;exact r
   ·unfold valueAt;have h5:=h4 y;unfold valueAt at h5;have e1:(y==x)=false:=by simpa using hy
    have e2:decide ((Sum.inr x:Key)=Sum.inr y)=false:=i' fun e=>hy (Sum.inr.inj e).symm;simp only [List.lookup_cons,e1,List.find?_cons,e2];exact h5
theorem JG:∀{l:List Str},l.Nodup->(l.map (fun p=>(Sum.inr p:Key))).Nodup
 |[],_=>.nil
 |x::l,h=>by
  rw[map_cons,List.nodup_cons];obtain⟨h1,h2⟩:=List.nodup_cons.mp h;refine⟨fun z=>?_,JG h2⟩;obtain⟨y,hy,e⟩:=mem_map.mp z;cases e;exact h1 hy
theorem KD.dict (P:Program){K:Frag}{w:World}{a:Addr}{kvs:List (Str×V)}{h:Heap}(d:KD K w a kvs)(hi:K.In h):∃ vs,h.DictOf (aW P w) a vs/\∀ x,oG (kvs.lookup x) (valueAt vs (Sum.inr x)):=by
 obtain⟨es,n,lk,ok,nd⟩:=d.ok;obtain⟨vs,h1,h2,h3,h4⟩:=ok.vs P;refine⟨vs,⟨_,es,n,hi _ _ lk,⟨rfl,rfl,rfl⟩,rfl,fun e he=>h3 e (by simpa using he),h1,?_⟩,h4⟩;rw[h2];have:=JG nd;rw[List.map_map]at this;exact this
theorem oG.akL {o:Option V}{u:Option Value}{d:V}{d':Value}(r:oG o u)(rd:RelV d d'):RelV (o.getD d) (u.getD d'):=by
 cases o with
 |none=>cases u with
  |none=>exact rd
  |some _=>exact False.elim r
 |some v=>cases u with
  |none=>exact False.elim r
  |some _=>exact r
section
variable {X:Cx}
theorem akM:IxR X (fun x y H Q=>∃ a z kvs r,x=.ref a/\y=.str z/\KD X.K X.w a kvs/\kvs.lookup z=some r/\Q r H):=by
 intro value slice pins s σ H x y v u Q I rx ry h hs;obtain⟨a,z,kvs,r,rfl,rfl,d,l,q⟩:=h;cases rx;obtain⟨t,rfl⟩:=ry;obtain⟨vs,dd,rel⟩:=d.dict X.prog I.Ho;have hr:=rel z;rw[l]at hr;cases hv:valueAt vs (Sum.inr z) with
 |none=>rw[hv]at hr;exact False.elim hr
 |some rv =>
  rw[hv]at hr;exact subscriptTail_builtinR (x:=rv) dd.typeIs PySem.F.slot_dict_getitem.lookup
   (wpAny_getItem_of (knd:=aW X.prog X.w) (k:=Sum.inr z) (kB _ _ z t) dd.mapOf hv ⟨rfl,⟨r,H,I.tok _,hr,q⟩⟩) hs
end
end L2
namespace L2
open PySem PySem.Spec PyProof.Rows
def akN (t:TE):TE:=fun σ H Q=>∃ R:V->Hp->Prop,t σ H R/\∀ v H',R v H'->Q v H'
def akO (t:TT):TT:=fun σ H Q=>∃ R:Bool->Hp->Prop,t σ H R/\∀ v H',R v H'->Q v H'
def akP (t:TS):TS:=fun D σ H=>∃ R:St->Hp->Prop,t { D with nx:=R } σ H/\∀ σ' H',R σ' H'->D.nx σ' H'
section
variable {X:Cx}
theorem br {e:Expr}{t:TE}(h:PE X e t):PE X e (akN t):=by
 intro pins s σ H Q I ⟨R,hR,hQ⟩;exact cJ (h pins s σ H R I hR) fun u s1 ⟨v,H1,I1,r,q⟩=>⟨v,H1,I1,r,hQ v H1 q⟩
theorem a8 {e:Expr}{t:TT}(h:PT X e t):PT X e (akO t):=by
 intro pins s σ H Q I ⟨R,hR,hQ⟩;exact cJ (h pins s σ H R I hR) fun u s1 ⟨H1,I1,q⟩=>⟨H1,I1,hQ u H1 q⟩
theorem sA {st:Stmt}{t:TS}(h:PS X st t):PS X st (akP t):=by
 intro pins s σ H D I ⟨R,hR,hQ⟩;refine cJ (h pins s σ H _ I hR) fun f s1 q=>?_;cases f with
 |next=>exact let ⟨σ',H',I',q'⟩:=q;⟨σ',H',I',hQ _ _ q'⟩
 |brk=>exact q
 |cont=>exact q
 |ret u=>exact q
end
theorem fG {t:TE}{σ:St}{H:Hp}{Q:VK}(v:V)(h:t σ H fun x H1=>x=v/\H1=H)(q:Q v H):∃ R:V->Hp->Prop,t σ H R/\∀ v H',R v H'->Q v H':=⟨_,h,by rintro _ _ ⟨rfl,rfl⟩;exact q⟩
theorem dP {t:TT}{σ:St}{H:Hp}{Q:Bool->Hp->Prop}(b:Bool)(h:t σ H fun x H1=>x=b/\H1=H)(q:Q b H):∃ R:Bool->Hp->Prop,t σ H R/\∀ v H',R v H'->Q v H':=⟨_,h,by rintro _ _ ⟨rfl,rfl⟩;exact q⟩
theorem afV {t:TS}{σ:St}{H:Hp}{D:Ends}(σ':St)(H':Hp)(h:t { D with nx:=fun σ1 H1=>σ1=σ'/\H1=H' } σ H)(q:D.nx σ' H'):∃ R:St->Hp->Prop,t { D with nx:=R } σ H/\∀ σ' H',R σ' H'->D.nx σ' H' :=
 ⟨_,h,by rintro _ _ ⟨rfl,rfl⟩;exact q⟩
theorem bA {x v:V}{H:Hp}(e:x=v):x=v/\H=H:=⟨e,rfl⟩
theorem bx {x v:Bool}{H:Hp}(e:x=v):x=v/\H=H:=⟨e,rfl⟩
end L2
namespace L2
open PySem PySem.Spec PyProof.Rows
abbrev Cx.names (X:Cx)(N:List Str):Cx:={ X with N:=N }
section
variable {X:Cx} {pins:List (Addr×Obj)} {σ:St} {H:Hp} {s:Shared}
end
end L2
namespace L2
open PySem PySem.Spec PyProof.Rows
section
variable {X:Cx} {tg iter elt:Expr} {ifs:List Expr} {scope:Scope} {pos:Pos} {cn:List Str} {wi:TI} {g:Bk->TG} {tc:Bk->TT} {te:Bk->TE}
theorem qk {i:Nat}{x:Str}{pos' spos:Pos}(hN:X.N.Nodup)(hix:X.N[i]? = some x)(hx:X.env.scope.names.lookup x=some .local)(hcalm:X.calm=true)(F:bZ X.env.scope X.N scope)(hi:PI X tg iter wi)
  (hg:∀ b,PG (aY X cn scope b) tg (g b)) (ht:∀ b,PF (aY X cn scope b) ifs (tc b)) (he:∀ b,PE (aY X cn scope b) elt (te b))
  (hsw:swapsWith (.ListComp elt [⟨tg,iter,ifs,0⟩] scope pos) (some (.Name x pos')) spos.line X.env=pure true:=by rfl)
  (hs:∀ x,foldedSetIterable iter X.env x=pure x:=by intro _;rfl):PS X (.Assign [.Name x pos'] (.ListComp elt [⟨tg,iter,ifs,0⟩] scope pos) spos) (aiw (acm cn.length wi g tc te) (PL i)):=by
 intro pins s σ H D I h;rw[exec_Assign_Name_used _ _ _ _ hsw];refine S' (wpAny_standAt (S' ?_));rw[arm_evalThenUse_ListComp];refine S' ?_;have hcl:closureFor scope X.env=pure (cM X.env scope.names []):=Kr fun p hp e=>I.ok.has p.1 (F.free p hp e);refine wpAny_comprehension_free (use:=some (assign (.Name x pos') X.env)) rfl hs hcl F.kind F.loc (cJ (hi pins s σ H _ I h) fun xv s₁ h₁=>cJ h₁ fun itv s₂ h₂=>?_);obtain⟨it,fp,tn,J,H2,rfl,I2,T,st,f2,R⟩:=h₂;refine PY (TH:=fun _=>True) (QQ:=fun D' H'=>D.nx (σ.set i (some (.ref D'))) H') (RR:=fun acc C=>compPost (model X.prog X.w) X.A X.xe (some (assign (.Name x pos') X.env)) _ acc C) hcalm F (fun b _=>hg b) (fun b _=>ht b) (fun b _=>he b) (fun _ _=>trivial) I2 T st f2 R ?_ ?_
 ·intro C D' σ' H' s' hC I' q;obtain⟨m,hm,_⟩:=I'.loc;have hCn:H' C=none:=I'.free;have fC:nX X pins H' C:=I2.PM hC hCn;have I3:Inv X pins σ H' s':=I2.Kt f2 hC I' ⟨rfl,fun _ _=>rfl⟩;show wpAny (model X.prog X.w) X.A (assign (.Name x pos') X.env (.ref D')) _ X.xe s';refine wpAny_assign_Name (Jv I3 hN hix (.inl hx) (v:=.ref D') rfl (fun s'' I4 ⟨a,sa,ha⟩=>?_) (.inr hx));have hne:C≠a:=by
   rcases ha with e|e
   ·rw[e];exact fC.2.1
   ·exact fun z=>fC.2.2.2.2.1 _ _ e z.symm
  obtain⟨o,es,ep,ho,r⟩:=hm;refine⟨m,⟨o,es,ep,(sa.2 C hne).trans ho,r⟩,fun h' sb=>?_⟩;refine j' (j' ⟨_,H',?_,q⟩);exact I4.jK (tk:=s''.toks) (wr:=[C]) (fun b hb=>by
   have:b=C:=by simpa using hb
   rw[this];exact fC) fun b o hb e=>(sb.2 b (fun z=>hb (by simp[z]))).trans e
 ·intro C D' e s' z;exact z
end
end L2
namespace L2
open PySem PySem.Spec PyProof.Rows PySem.SeqAt
section
variable {X:Cx}
inductive ahD (K:Frag)(neg:Bool)(x:V)(y:V)(H:Hp)(Q:VK):Prop
 |mk (a:_) (c:_) (xs:_) (vh:x=.ref a) (vi:y=.ref c) (EB:aX K H a xs) (RQ:aX K H c []) (h4_:Q (.bl (if neg then !xs.isEmpty else xs.isEmpty)) H):ahD K neg x y H Q
def anO (K:Frag)(neg:Bool):R2:=fun x y H Q=>ahD K neg x y H Q
theorem ai0 {pins:List (Addr×Obj)}{σ:St}{H:Hp}{s:Shared}{a c:Addr}{xs:List V}(hu:X.A.units+64<cLine)(I:Inv X pins σ H s)(ha:aX X.K H a xs)(hc:aX X.K H c []):RcAt X.A s (.ref a) (.ref c) xs.isEmpty/\RcNeAt X.A s (.ref a) (.ref c) (!xs.isEmpty):=by
 obtain⟨its,r,p,_⟩:=I.list ha;obtain⟨its',r',p',_⟩:=I.list hc;have e1:=r.length;have e2:=r'.length;simp at e2;cases xs with
 |nil =>
  simp at e1;have z1:its=[]:=by simpa using e1.symm
  have z2:its'=[]:=by simpa using e2.symm
  subst z1 z2;constructor
  ·have:=RcAt.lists (A:=X.A) (e:=fun _=>true) p.isList p'.isList rfl (by omega) (fun j h1 _=>absurd h1 (by simp))
   simpa using this
  ·have:=RcNeAt.lists (A:=X.A) (e:=fun _=>true) p.isList p'.isList rfl (by omega) (fun j h1 _=>absurd h1 (by simp))
   simpa using this
 |cons x t =>
  have hne:(its.toArray.size != its'.toArray.size)=true:=by
   simp at e1;have z2:its'=[]:=by simpa using e2.symm
   subst z2;have:its.length≠0:=by omega
   simpa using this
  exact⟨RcAt.lists_lengths p.isList p'.isList hne (by omega),RcNeAt.lists_lengths p.isList p'.isList hne (by omega)⟩
theorem Sf (hu:X.A.units+64<cLine):sf X (compareOp .Eq) (anO X.K false):=by
 intro pins s σ H x y v u Q I r1 r2 h;obtain⟨a,c,xs,rfl,rfl,ha,hc,q⟩:=h;cases r1;cases r2;exact(ai0 hu I ha hc).1 X.prog X.w X.xe _ ⟨.bl _,H,I,rfl,q⟩
end
end L2
namespace L2
open PySem PySem.Spec PyProof.Rows
end L2
namespace L2
open PySem PySem.Spec PyProof.Rows
abbrev XSt:=St->Value->Hp->Prop
section
variable {X:Cx} {pins:List (Addr×Obj)} {σ:St} {H H':Hp} {s s':Shared}
end
section
variable {P:Program} {w:World} {K:Frag} {mg:Str->Option Value} {base:Heap}
end
section
variable {X:Cx} {W:Value->Shared->Prop} {XS:XSt} {k:Nat} {f C:Addr} {fd:FuncData} {ps:List Str} {sp:Sp} {PB:List V} {ds:List Value} {x m:Str} {p pos apos:Pos} {e o:Expr} {es:List Expr} {ta:TE} {t:TA}
end
section
variable {X:Cx} {pins abW:List (Addr×Obj)} {σ:St} {H H':Hp} {s:Shared}
end
end L2
namespace L2
open PySem PySem.Spec PyProof.Rows
section
variable {prog:Program} {w:World} {A:Around} {E:Value->Shared->Prop} {h:Heap} {g:Array GenState} {d:Drawn} {t:Nat} {os:OsState} {a:Addr} {o:Obj} {vs:Array Value} {K:Frag}
 {nm q:Str} {C N:Addr} {bs bm:List Value} {hdct:Bool} {sn:List Str} {sub:List Value} {ab:Bool} {col:Option Bool} {dd:Option Addr} {k0 k1 k2 k3 k5:Option Value} {newId:String}
end
section
variable {X:Cx}
end
end L2
namespace L2
open PySem PySem.Spec PyProof.Rows
section
variable {P:Program} {w:World} {K:Frag} {mg:Str->Option Value} {base:Heap}
end
section
variable {X:Cx} {tg iter elt:Expr} {ifs:List Expr} {scope:Scope} {pos:Pos} {cn:List Str} {wi:TI} {g:Bk->TG} {tc:Bk->TT} {te:Bk->TE} {TH:Bk->Prop}
end
end L2
namespace L2
open PySem PySem.Spec PyProof.Rows
end L2
namespace L2
open PySem PySem.Spec PyProof.Rows
section
variable {X:Cx}
theorem all_range:∀ bs:List Bool,(List.range bs.length).all (fun i=>bs.getD i false)=bs.all id
 |[]=>rfl
 |b::bs=>by
  rw[length_cons,List.range_succ_eq_map,List.all_cons,List.all_map,List.all_cons];have:((fun i=>(b::bs).getD i false) ∘ Nat.succ)=fun i=>bs.getD i false:=by
   funext i
   rfl
  rw[this,all_range bs];rfl
theorem xC:gU X (.builtin "all") (fun xs H Q=>X.calm=true/\∃(a:Addr)(bs:List Bool),xs=[.ref a]/\aX X.K H a (bs.map V.bl)/\Q (.bl (bs.all id)) H):=by
 intro pins s σ H xs us Q I r h;obtain⟨hc,a,bs,rfl,hq,q⟩:=h;obtain⟨u,rfl,rfl⟩:=r.one;obtain⟨its,rv,p,hz⟩:=I.list hq;have hl:=rv.length;rw[O']at hl;have anP:∀(i:Nat)(v:Value),its.toArray[i]? = some v->v=Value.bool (bs.getD i false):=by
  intro i v hv;have hv':its[i]? = some v:=by simpa using hv
  have hi:i<its.length:=(F'.mp hv').1;have hb:i<bs.length:=by omega
  obtain⟨u,hu,ru⟩:=rv.get (i:=i) (x:=.bl (bs[i])) (by rw[getElem?_map,G' hb];rfl);rw[hv']at hu;cases hu;have:v=.bool bs[i]:=ru;rw[this,X',G' hb];rfl
 refine call_all_walk (wpAny_pyIter_list p.isList ?_);have ane:a≠s.heap.objs.size:=by
  obtain⟨o,ho,_⟩:=p.isList;exact Nat.ne_of_lt (T' ho)
 have hd:X.A.in1.handled=none:=I.ok.hd hc;refine⟨s.heap.objs.size,_,_,_,_,_,fun i=>bs.getD i false,rfl,Walks.list hd s.heap.objs.size a ane its.toArray,⟨⟨_,Heap.get?_push_size _ rfl,rfl,rfl⟩,p.isList.push _⟩,?_,?_⟩
 ·intro i v s' Q' E' hP hQ';rw[anP i v hP];exact wpAny_truthy_bool hQ'
 ·intro h' tk kk;have e:(List.range its.toArray.size).all (fun i=>bs.getD i false)=bs.all id:=by
   rw[size_toArray,<-hl];exact all_range bs
  rw[e];refine⟨.bl _,H,I.kept (t':=tk) fun b o e=>kk b o (fun z=>?_) (J' _ e),rfl,q⟩;have:b=s.heap.objs.size:=by simpa using z
  exact absurd (T' e) (by rw[this];exact Nat.lt_irrefl _)
end
end L2
namespace L2
open PySem PySem.Spec PyProof.Rows
section
variable {κ:Type} [DecidableEq κ]
def rP (kvs:List (κ×V))(k:κ):Option V:=(kvs.find? fun kv=>decide (kv.1=k)).map (·.2)
def putK (kvs:List (κ×V))(k:κ)(v:V):List (κ×V) :=
 if(kvs.any fun kv=>decide (kv.1=k))=true then kvs.map (fun kv=>if kv.1=k then(kv.1,v) else kv) else kvs++[(k,v)]
theorem sE {p:κ×V}{r:List (κ×V)}{k:κ}(e:p.1=k):rP (p::r) k=some p.2:=by simp[rP,List.find?_cons,e]
theorem sG {p:κ×V}{r:List (κ×V)}{k:κ}(e:¬ p.1=k):rP (p::r) k=rP r k:=by simp[rP,List.find?_cons,e]
theorem sH (k:κ):∀ kvs:List (κ×V),(kvs.any fun kv=>decide (kv.1=k))=(rP kvs k).isSome
 |[]=>rfl
 |p::r=>by
  rw[List.any_cons]
  by_cases e:p.1=k
  ·simp only [sE e,W' e,Bool.true_or,Option.isSome_some]
  ·rw[sG e,i' e,Bool.false_or];exact sH k r
theorem nZ (kvs:List (κ×V))(k:κ)(v:V):(putK kvs k v).length<=kvs.length+1:=by
 unfold putK;split
 ·rw[O'];omega
 ·rw[length_append,length_cons,List.length_nil];omega
theorem oG.oJ {o:Option V}{u:Option Value}(r:oG o u):o.isSome=u.isSome:=by
 cases o with
 |none=>cases u with
  |none=>rfl
  |some _=>exact(show False from r).elim
 |some _=>cases u with
  |none=>exact(show False from r).elim
  |some _=>rfl
theorem oG.getD {o:Option V}{u:Option Value}{d:V}{d':Value}(r:oG o u)(rd:RelV d d'):RelV (o.getD d) (u.getD d'):=by
 cases o with
 |none=>cases u with
  |none=>exact rd
  |some _=>exact(show False from r).elim
 |some _=>cases u with
  |none=>exact(show False from r).elim
  |some _=>exact r
theorem KV.val {kvs:List (κ×V)}{vs:List (κ×Value)}(r:KV kvs vs)(k:κ):oG (rP kvs k) (valueAt vs k):=by
 unfold KV at r
 induction r with
 |nil=>exact True.intro
 | @cons p q ps qs h t ih =>
  obtain⟨h1,h2⟩:=h
  by_cases e:p.1=k
  ·have e':q.1=k:=h1.symm.trans e;have b:valueAt (q::qs) k=some q.2:=by simp[valueAt,List.find?_cons,e']
   rw[sE e,b];exact h2
  ·have e':¬ q.1=k:=fun z=>e (h1.trans z);have b:valueAt (q::qs) k=valueAt qs k:=by simp[valueAt,List.find?_cons,e']
   rw[sG e,b];exact ih
theorem KV.any {kvs:List (κ×V)}{vs:List (κ×Value)}(r:KV kvs vs)(k:κ):(kvs.any fun kv=>decide (kv.1=k))=vs.any fun kv=>decide (kv.1=k):=by
 unfold KV at r
 induction r with
 |nil=>rfl
 |cons h t ih=>rw[List.any_cons,List.any_cons,ih,h.1]
theorem KV.repl {kvs:List (κ×V)}{vs:List (κ×Value)}(r:KV kvs vs)(k:κ){y:V}{u:Value}(ry:RelV y u) :
  KV (kvs.map fun kv=>if kv.1=k then(kv.1,y) else kv) (vs.map fun kv=>if kv.1=k then(kv.1,u) else kv):=by
 unfold KV at r ⊢
 induction r with
 |nil=>exact .nil
 | @cons p q ps qs h t ih =>
  rw[map_cons,map_cons];refine .cons ?_ ih;obtain⟨h1,h2⟩:=h
  by_cases e:p.1=k
  ·rw[R' e,R' (h1.symm.trans e)];exact⟨h1,ry⟩
  ·rw[L' e,L' (fun z=>e (h1.trans z))];exact⟨h1,h2⟩
theorem KV.put {kvs:List (κ×V)}{vs:List (κ×Value)}(r:KV kvs vs)(k:κ){y:V}{u:Value}(ry:RelV y u):KV (putK kvs k y) (stored vs k u):=by
 unfold putK stored;rw[r.any k]
 by_cases e:(vs.any fun kv=>decide (kv.1=k))=true
 ·rw[R' e,R' e];exact r.repl k ry
 ·rw[L' e,L' e];exact Paired.snoc r ⟨rfl,ry⟩
theorem KV.keys {kvs:List (κ×V)}{vs:List (κ×Value)}(r:KV kvs vs):kvs.map (·.1)=vs.map (·.1):=by
 unfold KV at r
 induction r with
 |nil=>rfl
 |cons h t ih=>rw[map_cons,map_cons,ih,h.1]
theorem KV.length {kvs:List (κ×V)}{vs:List (κ×Value)}(r:KV kvs vs):kvs.length=vs.length:=Paired.length r
end
theorem BY {P:Program}{w:World}{k:Key}{u:Value}(r:RelV (kV k) u):(aW P w).is k u=true:=by
 cases k with
 |inl i=>obtain⟨t,e⟩:=(show ∃ t,u=Value.int i t from r);subst e;exact BV P w i t
 |inr x=>obtain⟨t,e⟩:=(show ∃ t,u=Value.str x t from r);subst e;exact kB P w x t
theorem JH {P:Program}{w:World}:∀{ks:List Key} {us:List Value},Vals (ks.map kV) us->ItemsAre (aW P w) ks us
 |[],_,r=>by rw[List.map_nil]at r;cases r;exact .nil
 |k::ks,_,r=>by
  rw[map_cons]at r;cases r with
  |cons h t=>exact .cons (BY h) (JH t)
abbrev KT (H:Hp):List (List Key×V)->List (List Key×Addr×Value)->Prop:=Paired fun p q=>p.1=q.1/\H q.2.1=some (.tup (p.1.map kV))/\RelV p.2 q.2.2
theorem KT.val {H:Hp}{kvs:List (List Key×V)}{xs:List (List Key×Addr×Value)}(r:KT H kvs xs)(k:List Key):oG (rP kvs k) ((atKey xs k).map (·.2)):=by
 induction r with
 |nil=>exact True.intro
 | @cons p q ps qs h t ih =>
  obtain⟨h1,_,h2⟩:=h
  by_cases e:p.1=k
  ·have e':q.1=k:=h1.symm.trans e;have b:atKey (q::qs) k=some q.2:=by simp[atKey,List.find?_cons,e']
   rw[sE e,b];exact h2
  ·have e':¬ q.1=k:=fun z=>e (h1.trans z);have b:atKey (q::qs) k=atKey qs k:=by simp[atKey,List.find?_cons,e']
   rw[sG e,b];exact ih
theorem KT.repl {H:Hp}{kvs:List (List Key×V)}{xs:List (List Key×Addr×Value)}(r:KT H kvs xs)(k:List Key){y:V}{u:Value}(ry:RelV y u) :
  KT H (kvs.map fun kv=>if kv.1=k then(kv.1,y) else kv) (xs.map (putAt k u)):=by
 induction r with
 |nil=>exact .nil
 | @cons p q ps qs h t ih =>
  rw[map_cons,map_cons];refine .cons ?_ ih;obtain⟨h1,h2,h3⟩:=h;unfold putAt
  by_cases e:p.1=k
  ·rw[R' e,R' (h1.symm.trans e)];exact⟨h1,h2,ry⟩
  ·rw[L' e,L' (fun z=>e (h1.trans z))];exact⟨h1,h2,h3⟩
theorem KT.put {H:Hp}{kvs:List (List Key×V)}{xs:List (List Key×Addr×Value)}(r:KT H kvs xs)(k:List Key){b:Addr}{y:V}{u:Value}(hb:H b=some (.tup (k.map kV)))(ry:RelV y u) :
  KT H (putK kvs k y) (storedH xs k b u):=by
 have e:(kvs.any fun kv=>decide (kv.1=k))=(atKey xs k).isSome:=by
  rw[sH,(r.val k).oJ,Option.isSome_map]
 unfold putK storedH;rw[e]
 by_cases q:(atKey xs k).isSome=true
 ·rw[R' q,R' q];exact r.repl k ry
 ·rw[L' q,L' q];exact Paired.snoc r ⟨rfl,hb,ry⟩
theorem KT.keeps {H H':Hp}{kvs:List (List Key×V)}{xs:List (List Key×Addr×Value)}(r:KT H kvs xs)(ht:∀ b ys,H b=some (.tup ys)->H' b=some (.tup ys)):KT H' kvs xs :=
 Paired.aip r fun _ _ z=>⟨z.1,ht _ _ z.2.1,z.2.2⟩
section
variable {P:Program} {w:World} {H:Hp} {h:Heap} {a:Addr}
theorem ahE {u:HO}(ok:vb P w H h)(e:Rd H a u):cH P w H h a u:=e.ok ok
theorem xD {kvs:List (Key×V)}(ok:vb P w H h)(e:Rd H a (.dK kvs)):kvs.length<=sizeLine/\(a==sysModules)=false/\∃ vs,KV kvs vs/\h.DictOf (aW P w) a vs :=
 show cH P w H h a (.dK kvs) from ahE ok e
theorem Yi {kvs:List (Key×V)}(ok:vb P w H h)(e:H a=some (.dK kvs)):kvs.length<=sizeLine/\(a==sysModules)=false/\∃ vs,KV kvs vs/\h.DictOf (aW P w) a vs:=xD ok (.inl e)
theorem zR {ks:List Key}(ok:vb P w H h)(e:H a=some (.tup (ks.map kV))):(tupleKind (aW P w)).is h ks a:=by
 obtain⟨_,its,r,o,h1,h2,n,h3⟩:=(show cH P w H h a (.tup (ks.map kV)) from ok a _ e);exact⟨o,its.toArray,n,h1,h2,h3,by simpa using JH r⟩
theorem E3 {kvs:List (List Key×V)}(ok:vb P w H h)(e:Rd H a (.dT kvs)):kvs.length<=sizeLine/\(a==sysModules)=false /\
  ∃ xs,KT H kvs xs/\h.DictOfH (tupleKind (aW P w)) a xs:=by
 obtain⟨z,y,xs,r,o,es,ep,h1,h2,h3,h4,h5⟩:=(show cH P w H h a (.dT kvs) from ahE ok e);refine⟨z,y,xs,r,o,es,ep,h1,h2,h3,h4,fun x hx=>?_,h5⟩;have all:∀{l:List (List Key×V)} {m:List (List Key×Addr×Value)},KT H l m->∀ x∈m,(tupleKind (aW P w)).is h x.1 x.2.1:=by
  intro l m q
  induction q with
  |nil=>intro x hx;exact nomatch hx
  | @cons p q ps qs hq t ih =>
   intro x hx;rcases List.mem_cons.mp hx with e|hx
   ·subst e;exact zR ok (by rw[<-hq.1];exact hq.2.1)
   ·exact ih x hx
 exact all r x hx
theorem akR {kvs:List (List Key×V)}(ok:vb P w H h)(e:H a=some (.dT kvs)):kvs.length<=sizeLine/\(a==sysModules)=false /\
  ∃ xs,KT H kvs xs/\h.DictOfH (tupleKind (aW P w)) a xs:=E3 ok (.inl e)
end
def ot (H:Hp)(a:Addr)(y:V)(r:Option V):Prop :=
 (∃ kvs k,Rd H a (.dK kvs)/\y=kV k/\r=rP kvs k)\/∃ kvs k b,Rd H a (.dT kvs)/\y=.ref b/\H b=some (.tup (k.map kV))/\r=rP kvs k
def Si (H:Hp)(a:Addr)(y v:V)(H':Hp):Prop :=
 (∃ kvs k,H a=some (.dK kvs)/\y=kV k/\kvs.length<sizeLine/\H'=upd H a (.dK (putK kvs k v))) \/
 ∃ kvs k b,H a=some (.dT kvs)/\y=.ref b/\H b=some (.tup (k.map kV))/\kvs.length<sizeLine/\H'=upd H a (.dT (putK kvs k v))
theorem ot.k {H:Hp}{a:Addr}{kvs:List (Key×V)}{k:Key}(e:H a=some (.dK kvs)):ot H a (kV k) (rP kvs k):=.inl ⟨kvs,k,.inl e,rfl,rfl⟩
theorem Si.k {H:Hp}{a:Addr}{kvs:List (Key×V)}{k:Key}{v:V}(e:H a=some (.dK kvs))(hl:kvs.length<sizeLine):Si H a (kV k) v (upd H a (.dK (putK kvs k v))):=.inl ⟨kvs,k,e,rfl,hl,rfl⟩
section
variable {X:Cx} {pins:List (Addr×Obj)} {σ:St} {H:Hp} {s:Shared} {a:Addr} {y v:V} {u r:Value} {o:Option V} {A:Around} {E:Value->Shared->Prop}
theorem Inv.big (I:Inv X pins σ H s):sysModules<s.heap.objs.size:=by
 have h:mainGlobals<s.heap.objs.size:=(I.mod.glob.keeps I.bk).lt;exact Nat.lt_trans (by decide) h
theorem ZG {Q:Value->Shared->Prop}(hu:A.units+1<cLine)(I:Inv X pins σ H s)(g:ot H a y (some v))(ry:RelV y u)(h:∀ w' s',Inv X pins σ H s'->RelV v w'->Q w' s') :
  wpAny (model X.prog X.w) A (getItem (.ref a) u) Q E s:=by
 rcases g with ⟨kvs,k,e,ey,l⟩|⟨kvs,k,b,e,ey,eb,l⟩
 ·subst ey;obtain⟨z,hd,vs,rel,dd⟩:=xD I.hok e;obtain⟨w',hw,RS⟩:=oG.some_of (v:=v) (o:=valueAt vs k) (by rw[l];exact rel.val k);exact wpAny_getItem_of (BY ry) dd.mapOf hw (h w' _ (I.tok _) RS)
 ·subst ey;cases (show u=Value.ref b from ry);obtain⟨z,hd,xs,rel,dd⟩:=E3 I.hok e;obtain⟨w',hw,RS⟩:=oG.some_of (v:=v) (o:=(atKey xs k).map (·.2)) (by rw[l];exact rel.val k);obtain⟨p,hp,hp2⟩:=Option.map_eq_some_iff.mp hw;refine wpAny_getItem_heap (tupleKind_room_in1 hu) (zR I.hok eb) dd hp ?_;rw[hp2];exact h w' _ (I.tok _) RS
theorem anQ {Q:Value->Shared->Prop}(hu:A.units+1<cLine)(I:Inv X pins σ H s)(g:ot H a y o)(ry:RelV y u)(h:∀ s',Inv X pins σ H s'->Q (.bool o.isSome) s') :
  wpAny (model X.prog X.w) A (compareOp .In u (.ref a)) Q E s:=by
 rcases g with ⟨kvs,k,e,ey,l⟩|⟨kvs,k,b,e,ey,eb,l⟩
 ·subst ey;obtain⟨z,hd,vs,rel,dd⟩:=xD I.hok e;refine wpAny_in_of (BY ry) hd dd.mapOf ?_;rw[<-(rel.val k).oJ,<-l];exact h _ (I.tok _)
 ·subst ey;cases (show u=Value.ref b from ry);obtain⟨z,hd,xs,rel,dd⟩:=E3 I.hok e;refine wpAny_in_heap (tupleKind_room_in1 hu) (zR I.hok eb) hd dd ?_;have q:=(rel.val k).oJ;rw[Option.isSome_map]at q;rw[<-q,<-l];exact h _ (I.tok _)
theorem afX {Q:Value->Shared->Prop}(hu:A.units+1<cLine)(I:Inv X pins σ H s)(g:ot H a y o)(ry:RelV y u)(h:∀ s',Inv X pins σ H s'->Q (.bool (!o.isSome)) s') :
  wpAny (model X.prog X.w) A (compareOp .NotIn u (.ref a)) Q E s:=by
 rcases g with ⟨kvs,k,e,ey,l⟩|⟨kvs,k,b,e,ey,eb,l⟩
 ·subst ey;obtain⟨z,hd,vs,rel,dd⟩:=xD I.hok e;refine wpAny_notIn_of (BY ry) hd dd.mapOf ?_;rw[<-(rel.val k).oJ,<-l];exact h _ (I.tok _)
 ·subst ey;cases (show u=Value.ref b from ry);obtain⟨z,hd,xs,rel,dd⟩:=E3 I.hok e;refine wpAny_notIn_heap (tupleKind_room_in1 hu) (zR I.hok eb) hd dd ?_;have q:=(rel.val k).oJ;rw[Option.isSome_map]at q;rw[<-q,<-l];exact h _ (I.tok _)
theorem EC {h':Heap}{t':Nat}{ob:HO}(I:Inv X pins σ H s)(mu:Mut (H a))(hs:Heap.SameBut a s.heap h')(he:∃ q,h'.get? a=some q)(new:cH X.prog X.w (upd H a ob) h' a ob) :
  Inv X pins σ (upd H a ob) { s with heap:=h',toks:=t' } :=
 I.write (x:=a) (e:=a) mu (.inl rfl) (fun b q hb z=>(hs.2 b hb).trans z) he new
theorem Kz {P:Program}{w:World}{H':Hp}{h':Heap}{kvs:List (Key×V)}{vs:List (Key×Value)}(z:kvs.length<=sizeLine)(hd:(a==sysModules)=false)(rel:KV kvs vs)(dd:h'.DictOf (aW P w) a vs) :
  cH P w H' h' a (.dK kvs):=⟨z,hd,vs,rel,dd⟩
theorem ZH {H':Hp}{Q:Unit->Shared->Prop}(hu:A.units+1<cLine)(I:Inv X pins σ H s)(g:Si H a y v H')(ry:RelV y u)(rv:RelV v r)(h:∀ s',Inv X pins σ H' s'->Q () s') :
  wpAny (model X.prog X.w) A (setItem (.ref a) u r) Q E s:=by
 rcases g with ⟨kvs,k,e,ey,l,eH⟩|⟨kvs,k,b,e,ey,eb,l,eH⟩
 ·subst ey eH;obtain⟨z,hd,vs,rel,dd⟩:=Yi I.hok e;have hz:vs.length<=sizeLine:=by rw[<-rel.length];exact z
  have hl:(putK kvs k v).length<=sizeLine:=by have:=nZ kvs k v;omega
  refine wpAny_setItem_pairs (hsz:=hz) (BY ry) dd fun h' dd' hs=>h _ ?_;have he:∃ q,h'.get? a=some q:=let ⟨q,_,_,hq,_⟩:=dd';⟨q,hq⟩;exact EC I (by rw[e];exact True.intro) hs he (Kz hl hd (rel.put k rv) dd')
 ·subst ey eH;cases (show u=Value.ref b from ry);obtain⟨z,hd,xs,rel,dd⟩:=akR I.hok e;have hz:xs.length<=sizeLine:=by rw[<-Paired.length rel];exact z
  have hl:(putK kvs k v).length<=sizeLine:=by have:=nZ kvs k v;omega
  refine wpAny_setItem_heap (hsz:=hz) (tupleKind_room_in1 hu) (zR I.hok eb) dd fun h' dd' hs=>h _ ?_;obtain⟨q,es,ep,hq,h2,h3,h4,_,h5⟩:=dd';refine EC I (by rw[e];exact True.intro) hs ⟨q,hq⟩ ⟨hl,hd,_,(rel.put k eb rv).keeps fun c ys ec=>?_,q,es,ep,hq,h2,h3,h4,h5⟩;rw[ax (X4 ec e (fun z=>nomatch z))];exact ec
end
section
variable {X:Cx} {pins:List (Addr×Obj)} {σ:St} {H:Hp} {s:Shared} {a:Addr} {kvs:List (Key×V)} {k:Key} {u:Value} {A:Around} {E:Value->Shared->Prop}
end
def akS (i:Expr):Prop:=∀ ov iv,subscripted i false ov iv=operate [ov,iv] (getItem ov iv)
theorem afY {prog:Program}{w:World}{A:Around}{E:Value->Shared->Prop}{s:Shared}{env:Env}{value slice:Expr}{pos:Pos}{T id:String}{Q:Value->Shared->Prop}
  (hl:typeLookup (.type T) "__getitem__"=pure (some (.builtin id))) (hs:akS slice)
  (h:wpAny (model prog w) A (eval value env) (fun o s₁=>wpAny (model prog w) A (eval slice env) (fun i s₂=>s₂.TypeIs o T/\wpAny (model prog w) A (getItem o i) Q E s₂) E s₁) E s) :
  wpAny (model prog w) A (eval (.Subscript value slice pos) env) Q E s:=by
 refine Subscript_ (wpAny_mono h (fun o s₁ h₁=>wpAny_mono h₁ (fun i s₂ h₂=>?_) fun _ _ x=>x) fun _ _ x=>x);obtain⟨hT,h₂⟩:=h₂;unfold subscriptTail;refine S' ?_;rw[getitemInPython_of_ne hT.not_modules];refine S' (wpAny_specialOf hT hl ?_);have fin:wpAny (model prog w) A (subscripted slice false o i) (fun r s₃=>wpAny (model prog w) A (letTemporaryGo value o r >>= fun _=>pure r) Q E s₃) E s₂:=by
  rw[hs o i];exact wpAny_operating (wpAny_mono h₂ (fun r s₃ h₃=>S' (wpAny_letTemporaryGo (j' h₃))) fun _ _ x=>x)
 first
  |exact j' (S' fin)
  |exact S' (j' (S' fin))
  |exact S' fin
theorem P1 {X:Cx}{pins:List (Addr×Obj)}{σ:St}{H:Hp}{s:Shared}{a:Addr}{y:V}{o:Option V}(I:Inv X pins σ H s)(g:ot H a y o):s.TypeIs (.ref a) "dict":=by
 rcases g with ⟨kvs,k,e,_,_⟩|⟨kvs,k,b,e,_,_,_⟩
 ·obtain⟨_,_,vs,_,dd⟩:=xD I.hok e;exact dd.typeIs
 ·obtain⟨_,_,xs,_,dd⟩:=E3 I.hok e;exact dd.typeIs
def akT (td ty:TE):TE:=fun σ H Q=>td σ H fun x H1=>ty σ H1 fun y H2=>∃ a v,x=.ref a/\ot H2 a y (some v)/\Q v H2
def anR (ty td:TE):TE:=fun σ H Q=>ty σ H fun y H1=>td σ H1 fun x H2=>∃ a o,x=.ref a/\ot H2 a y o/\Q (.bl o.isSome) H2
def afZ (ty td:TE):TE:=fun σ H Q=>ty σ H fun y H1=>td σ H1 fun x H2=>∃ a o,x=.ref a/\ot H2 a y o/\Q (.bl (!o.isSome)) H2
def akU (td ty tv:TE):TS:=fun D σ H=>tv σ H fun v H1=>td σ H1 fun x H2=>ty σ H2 fun y H3=>∃ a H4,x=.ref a/\Si H3 a y v H4/\D.nx σ H4
section
variable {X:Cx} {o i e value:Expr} {pos pos' tpos:Pos} {td ty tv:TE}
theorem ED (hu:X.A.units+1<cLine)(ho:PE X o td)(hi:PE X i ty)(hs:akS i):PE X (.Subscript o i pos) (akT td ty):=by
 intro pins s σ H Q I h;refine afY PySem.F.slot_dict_getitem.lookup hs (cJ (ho pins s σ H _ I h) fun u s1 ⟨x,H1,I1,rx,q1⟩=>cJ (hi pins s1 σ H1 _ I1 q1) fun iv s2 ⟨y,H2,I2,ry,a,v,ex,g,q2⟩=>?_);subst ex;obtain rfl:u=Value.ref a:=rx;exact⟨P1 I2 g,ZG hu I2 g ry fun w' s3 I3 RS=>⟨v,H2,I3,RS,q2⟩⟩
theorem acv (hu:X.A.units+1<cLine)(hi:PE X i ty)(ho:PE X o td):PC X .In i o (anR ty td):=by
 intro pins s σ H Q I h;refine cJ (hi pins s σ H _ I h) fun iv s1 ⟨y,H1,I1,ry,q1⟩=>cJ (ho pins s1 σ H1 _ I1 q1) fun u s2 ⟨x,H2,I2,rx,a,ov,ex,g,q2⟩=>?_;subst ex;obtain rfl:u=Value.ref a:=rx;exact anQ hu I2 g ry fun s3 I3=>⟨.bl ov.isSome,H2,I3,rfl,q2⟩
theorem JI (hu:X.A.units+1<cLine)(hi:PE X i ty)(ho:PE X o td):PC X .NotIn i o (afZ ty td):=by
 intro pins s σ H Q I h;refine cJ (hi pins s σ H _ I h) fun iv s1 ⟨y,H1,I1,ry,q1⟩=>cJ (ho pins s1 σ H1 _ I1 q1) fun u s2 ⟨x,H2,I2,rx,a,ov,ex,g,q2⟩=>?_;subst ex;obtain rfl:u=Value.ref a:=rx;exact afX hu I2 g ry fun s3 I3=>⟨.bl (!ov.isSome),H2,I3,rfl,q2⟩
theorem Yj (hu:X.A.units+1<cLine)(ho:PE X o td)(hi:PE X i ty)(hv:PE X value tv)(hs:swapsWith value (some (.Subscript o i pos')) pos.line X.env=pure false) :
  PS X (.Assign [.Subscript o i pos'] value pos) (akU td ty tv):=by
 intro pins s σ H D I h;refine wpAny_Assign_Subscript (cJ (hv pins s σ H _ I h) fun r s1 ⟨v,H1,I1,rv,q1⟩=>cJ (ho pins s1 σ H1 _ I1 q1) fun u s2 ⟨x,H2,I2,rx,q2⟩=>cJ (hi pins s2 σ H2 _ I2 q2) fun iv s3 ⟨y,H3,I3,ry,a,H4,ex,g,q3⟩=>?_) hs;subst ex;obtain rfl:u=Value.ref a:=rx;exact ZH hu I3 g ry rv fun s4 I4=>⟨σ,H4,I4,q3⟩
end
theorem P4 {P:Program}{w:World}{H:Hp}(h:Heap)(hb:sysModules<h.objs.size):cH P w H (h.push { cls:=.type "dict",data:=.dict #[] }) h.objs.size (.dK []) :=
 ⟨V' _,beq_eq_false_iff_ne.mpr (Ne.symm (Nat.ne_of_lt hb)),[],.nil,Heap.DictOf.new h⟩
def ai1:TE:=fun _ H Q=>∀ p,H p=none->Q (.ref p) (upd H p (.dK []))
section
variable {X:Cx} {pos:Pos}
theorem P5:PE X (.Dict [] [] pos) ai1:=fun pins s σ H Q I h =>
 wpAny_Dict_empty ⟨.ref s.heap.objs.size,_,I.laid (a:=s.heap.objs.size) (o:=.dK []) (t':=s.toks) (fun _ _ q=>J' _ q) (C' _) (P4 s.heap I.big),rfl,h _ (I.hok.fresh (C' _))⟩
end
def Sj:List (TE×TE)->St->Hp->(List (V×V)->Hp->Prop)->Prop
 |[],_,H,Q=>Q [] H
 |(tk,tv)::r,σ,H,Q=>tk σ H fun x H1=>tv σ H1 fun y H2=>Sj r σ H2 fun ps H3=>Q ((x,y)::ps) H3
abbrev VV:List (V×V)->List (Value×Value)->Prop:=Paired fun p q=>RelV p.1 q.1/\RelV p.2 q.2
def PDs (X:Cx)(pos:Pos)(keys:List (Option Expr))(values:List Expr)(trs:List (TE×TE)):Prop :=
 ∀(pins:List (Addr×Obj)) (s:Shared) (σ:St) (H:Hp) (Q:List (V×V)->Hp->Prop),Inv X pins σ H s->Sj trs σ H Q ->
  wpAny (model X.prog X.w) X.A (evalPairs (pairTrees keys values X.env pos)) (fun vs s'=>∃ ps H',Inv X pins σ H' s'/\VV ps vs/\Q ps H') X.xe s
theorem af1 {X:Cx}{pos:Pos}:PDs X pos [] [] []:=fun pins s σ H Q I h=>pairTrees_nil_walk ⟨[],H,I,.nil,h⟩
theorem acw {X:Cx}{pos:Pos}{k v:Expr}{ks:List (Option Expr)}{vs:List Expr}{tk tv:TE}{trs:List (TE×TE)}(hk:PE X k tk)(hv:PE X v tv)(hr:PDs X pos ks vs trs) :
  PDs X pos (some k::ks) (v::vs) ((tk,tv)::trs):=fun pins s σ H Q I h =>
 pairTrees_cons_walk (cJ (hk pins s σ H _ I h) fun u s1 ⟨x,H1,I1,rx,q1⟩=>cJ (hv pins s1 σ H1 _ I1 q1) fun w2 s2 ⟨y,H2,I2,ry,q2⟩ =>
  cJ (hr pins s2 σ H2 _ I2 q2) fun ws s3 ⟨ps,H3,I3,rel,q3⟩=>⟨(x,y)::ps,H3,I3,.cons ⟨rx,ry⟩ rel,q3⟩)
def E4 (kvs more:List (Key×V)):List (Key×V):=more.foldl (fun acc kv=>putK acc kv.1 kv.2) kvs
theorem KV.merge:∀{more:List (Key×V)} {rs:List (Key×Value)} {kvs:List (Key×V)} {vs:List (Key×Value)},KV more rs->KV kvs vs->KV (E4 kvs more) (merged vs rs):=by
 intro more rs kvs vs r;unfold KV at r
 induction r generalizing kvs vs with
 |nil=>intro q;exact q
 | @cons p q ps qs h t ih =>
  intro r0;have e:KV (putK kvs p.1 p.2) (stored vs q.1 q.2):=by
   have:=r0.put p.1 h.2;rw[<-h.1];exact this
  exact ih e
theorem vk:∀(more kvs:List (Key×V)),(E4 kvs more).length<=kvs.length+more.length
 |[],kvs=>by show kvs.length<=kvs.length+0;omega
 |p::r,kvs=>by
  have h1:=vk r (putK kvs p.1 p.2);have h2:=nZ kvs p.1 p.2;show(E4 (putK kvs p.1 p.2) r).length<=_;rw[length_cons];omega
theorem E5 {P:Program}{w:World}:∀{kvs:List (Key×V)} {ws:List (Value×Value)},VV (kvs.map fun kv=>(kV kv.1,kv.2)) ws->∃ rs,Carries (aW P w) ws rs/\KV kvs rs
 |[],_,r=>by rw[List.map_nil]at r;cases r;exact⟨[],True.intro,.nil⟩
 |p::kvs,_,r=>by
  rw[map_cons]at r;cases r with
  | @cons a b as bs h t =>
   obtain⟨rs,c,q⟩:=E5 (P:=P) (w:=w) t;obtain⟨b1,b2⟩:=b;exact⟨(p.1,b2)::rs,⟨BY h.1,rfl,c⟩,.cons ⟨rfl,h.2⟩ q⟩
def akV (trs:List (TE×TE)):TE:=fun σ H Q=>∀ p,H p=none->Sj trs σ (upd H p (.dK [])) fun ps H2=>H2 p=some (.dK [])/\∃ kvs:List (Key×V),ps=kvs.map (fun kv=>(kV kv.1,kv.2))/\kvs.length<=15/\Q (.ref p) (upd H2 p (.dK (E4 [] kvs)))
theorem af2 {X:Cx}{pos:Pos}{keys:List (Option Expr)}{values:List Expr}{trs:List (TE×TE)}(h:PDs X pos keys values trs)(hall:keys.all (·.isSome)=true)(hl:keys.length=values.length)(h0:keys≠[])
  (h15:keys.length<=15):PE X (.Dict keys values pos) (akV trs):=by
 intro pins s σ H Q I q;have hn:=I.hok.fresh (C' s.heap.objs.size);have I1:=I.laid (a:=s.heap.objs.size) (o:=.dK []) (h':=s.heap.push { cls:=.type "dict",data:=.dict #[] }) (t':=s.toks) (fun _ _ q=>J' _ q) (C' _) (P4 s.heap I.big);refine wpAny_Dict_walk (knd:=aW X.prog X.w) hall hl h0 h15 (cJ (h pins _ σ _ _ I1 (q _ hn)) fun ws s2 ⟨ps,H2,I2,rel,e,kvs,ep,lk,q2⟩=>?_);subst ep;obtain⟨rs,c,rk⟩:=E5 (P:=X.prog) (w:=X.w) rel;obtain⟨z,hd,vs0,r0,dd⟩:=Yi I2.hok e;cases r0;refine⟨rs,c,dd,fun h' dd' hs=>⟨.ref s.heap.objs.size,_,?_,rfl,q2⟩⟩;have hz:(E4 [] kvs).length<=sizeLine:=by
  have h1:=vk kvs [];rw[List.length_nil]at h1;rw[sizeLine_eq];omega
 have he:∃ q,h'.get? s.heap.objs.size=some q:=let ⟨q,_,_,hq,_⟩:=dd';⟨q,hq⟩;exact EC I2 (by rw[e];exact True.intro) hs he (Kz hz hd (rk.merge .nil) dd')
structure M2 (X:Cx)(o:Expr)(m:Str)(apos:Pos)(e f:Expr)(cpos:Pos):Prop where
 base:attributeBase o m X.env (eval o X.env)=eval o X.env
 few:((backTo cpos (starEach [e,f] X.env)).all (fun x=>!x.1)&&(backToKw cpos (keywordEach [] X.env)).all (fun x=>x.1.isSome)
  && decide (([e,f]:List Expr).length+([]:List Keyword).length+(if([]:List Keyword).isEmpty then 0 else 1)<30))=true
 line:(apos.endLine==cpos.line)=true
 trees:backTo cpos (starEach [e,f] X.env)=[(false,eval e X.env),(false,eval f X.env)]
def IsD (H:Hp)(a:Addr):Prop:=(∃ kvs,Rd H a (.dK kvs))\/∃ kvs,Rd H a (.dT kvs)
theorem ai2 {X:Cx}{pins:List (Addr×Obj)}{σ:St}{H:Hp}{s:Shared}{a:Addr}(I:Inv X pins σ H s)(d:IsD H a) :
  s.TypeIs (.ref a) "dict"/\(∀ b,Value.ref a=.ref b->∃ ob,s.heap.get? b=some ob/\ob.dict=none)/\(a==sysModules)=false:=by
 rcases d with ⟨kvs,e⟩|⟨kvs,e⟩
 ·obtain⟨_,hd,vs,_,dd⟩:=xD I.hok e;refine⟨dd.typeIs,fun b q=>?_,hd⟩;cases q;obtain⟨ob,_,_,h1,h2,_⟩:=dd;exact⟨ob,h1,h2.2.1⟩
 ·obtain⟨_,hd,xs,_,dd⟩:=E3 I.hok e;refine⟨dd.typeIs,fun b q=>?_,hd⟩;cases q;obtain⟨ob,_,_,h1,h2,_⟩:=dd;exact⟨ob,h1,h2.2.1⟩
section
variable {X:Cx} {pins:List (Addr×Obj)} {σ:St} {H:Hp} {s:Shared} {a:Addr} {y d:V} {u r:Value} {o:Option V} {A:Around} {E:Value->Shared->Prop}
theorem ai3 {Q:Value->Shared->Prop}(hu:A.units+1<cLine)(I:Inv X pins σ H s)(g:ot H a y o)(ry:RelV y u)(rd:RelV d r)(h:∀ w' s',Inv X pins σ H s'->RelV (o.getD d) w'->Q w' s') :
  wpAny (model X.prog X.w) A (call (.builtin "dict.get") [.ref a,u,r]) Q E s:=by
 rcases g with ⟨kvs,k,e,ey,l⟩|⟨kvs,k,b,e,ey,eb,l⟩
 ·subst ey;obtain⟨z,hd,vs,rel,dd⟩:=xD I.hok e;refine call_meetsIn slot_dict_get dd.typeIs entry_dict_get (PySem.F.args_dict_get_3 _ _ _) (meets_dict_get_default (aW X.prog X.w) a (BY ry) hd r) ⟨_,dd.mapOf,h _ _ (I.tok _) ?_⟩;rw[l];exact(rel.val k).getD rd
 ·subst ey;cases (show u=Value.ref b from ry);obtain⟨z,hd,xs,rel,dd⟩:=E3 I.hok e;refine call_meetsIn slot_dict_get dd.typeIs entry_dict_get (PySem.F.args_dict_get_3 _ _ _) (meetsH_dict_get_default (tupleKind (aW X.prog X.w)) a b hd r) ⟨tupleKind_room_in1 hu,k,xs,zR I.hok eb,dd,h _ _ (I.tok _) ?_⟩;rw[l];exact(rel.val k).getD rd
end
def ai4 (td ty tx:TE):TE:=fun σ H Q=>td σ H fun x H1=>∃ a,x=.ref a/\IsD H1 a/\ty σ H1 fun y H2=>tx σ H2 fun z H3=>∃ o,ot H3 a y o/\Q (o.getD z) H3
section
variable {X:Cx} {o e f:Expr} {apos cpos:Pos} {td ty tx:TE}
theorem acx (hu:X.A.units+1<cLine)(ho:PE X o td)(he:PE X e ty)(hf:PE X f tx)(m:M2 X o "get" apos e f cpos):PE X (.Call (.Attribute o "get" apos) [e,f] [] cpos) (ai4 td ty tx):=by
 intro pins s σ H Q I h;refine wpAny_Call_method m.base m.few m.line plainAttrs_dict slot_dict_get type_dict_get (cJ (ho pins s σ H _ I h) fun u s1 ⟨x,H1,I1,rx,a,ex,d,q1⟩=>?_);subst ex;obtain rfl:u=Value.ref a:=rx;obtain⟨t1,t2,_⟩:=ai2 I1 d;refine⟨t1,t2,?_⟩;rw[m.trees];refine Calls.callWith_builtin rfl (Calls.evalArgs_plain (Calls.spliced_cons (cJ (he pins s1 σ H1 _ I1 q1) fun iv s2 ⟨y,H2,I2,ry,q2⟩ =>
  Calls.spliced_cons (cJ (hf pins s2 σ H2 _ I2 q2) fun fv s3 ⟨z,H3,I3,rz,ov,g,q3⟩=>Calls.spliced_nil ?_))))
 exact ai3 hu I3 g ry rz fun w' s4 I4 RS=>⟨_,H3,I4,RS,q3⟩
end
section
variable {X:Cx} {pins:List (Addr×Obj)} {σ:St} {H:Hp} {s:Shared} {a:Addr} {kvs:List (Key×V)} {A:Around} {E:Value->Shared->Prop}
theorem acy {Q:Value->Shared->Prop}(I:Inv X pins σ H s)(e:Rd H a (.dK kvs))(h:∀ p s',H p=none->Inv X pins σ (upd H p (.dK kvs)) s'->Q (.ref p) s'):wpAny (model X.prog X.w) A (call (.type "dict") [.ref a]) Q E s:=by
 obtain⟨z,hd,vs,rel,dd⟩:=xD I.hok e;refine kt_call_dict hd dd (by rw[<-rel.length];exact z) fun h' dd' hs=>?_;refine h _ _ (I.hok.fresh (C' _)) (I.laid (a:=s.heap.objs.size) (o:=.dK kvs) (t':=s.toks) (fun b q hq=>?_) (C' _) (Kz z (beq_eq_false_iff_ne.mpr (Ne.symm (Nat.ne_of_lt I.big))) rel dd'));exact(hs.2 b (Nat.ne_of_lt (T' hq))).trans (J' _ hq)
end
section
variable {X:Cx} {pins:List (Addr×Obj)} {σ:St} {H:Hp} {s:Shared} {a:Addr} {y:V} {u:Value} {A:Around} {E:Value->Shared->Prop}
end
end L2
namespace L2
open PySem PySem.Spec PyProof.Rows
section
variable {X:Cx}
end
section
variable {κ:Type} [DecidableEq κ]
end
end L2
namespace L2
open PySem PySem.Spec PyProof.Rows
theorem ahF {P:Program}{w:World}{k:Key}{u:Value}(h:(aW P w).is k u=true):RelV (kV k) u:=by
 rcases de (show EO k u=true from h) with ⟨i,t,rfl,rfl⟩|⟨x,t,rfl,rfl⟩
 ·exact⟨t,rfl⟩
 ·exact⟨t,rfl⟩
theorem ahG:∀{xs:List V} {us:List Value},xs.length=us.length->(∀(i:Nat)(x:V)(u:Value),xs[i]? = some x->us[i]? = some u->RelV x u)->Vals xs us
 |[],[],_,_=>.nil
 |x::xs,u::us,hl,h=>.cons (h 0 x u rfl rfl) (ahG (by simpa using hl) fun i y v e1 e2=>h (i+1) y v (by simpa using e1) (by simpa using e2))
 |[],_::_,hl,_=>by simp at hl
 |_::_,[],hl,_=>by simp at hl
section
variable {X:Cx}
theorem Sk:gU X (.type "list") (fun xs H Q=>X.calm=true/\∃ p kvs,xs=[.ref p]/\Rd H p (.dK kvs)/\∀ l,H l=none->Q (.ref l) (upd H l (.lst (kvs.map fun kv=>kV kv.1)))):=by
 intro pins s σ H xs us Q I r h;obtain⟨hc,p,kvs,rfl,hp,q⟩:=h;obtain⟨u,rfl,rx⟩:=vals1 r;cases rx;obtain⟨z,hd,vs,rel,dd⟩:=xD I.hok hp;obtain⟨ep,da⟩:=dd.dictAt;have hl:=rel.length;refine PySem.W.kdl_call (PySem.W.kdl_dict (knd:=aW X.prog X.w) (kvs:=vs) (ep:=ep) hd) (I.ok.hd hc) da (by omega) fun h' tk acc' c' kp e it=>?_;refine⟨.ref s.heap.objs.size,_,I.laid (t':=tk) kp (C' _) (show cH X.prog X.w _ h' _ (.lst (kvs.map fun kv=>kV kv.1)) from⟨by rw[O'];exact z,acc'.toList,c',?_,by rw[Array.toArray_toList];exact e⟩),rfl,q _ (I.hok.fresh (C' _))⟩;have hk:=rel.keys;have h1:acc'.toList.length=vs.length:=by rw[Array.length_toList];exact it.1
 refine ahG (by rw[O',h1,hl]) fun i x u e1 e2=>?_;obtain⟨k,y,e3,e4⟩:=it.2 i u (by rw[<-Array.getElem?_toList];exact e2);have e5:(kvs.map (·.1))[i]? = some k:=by rw[hk,getElem?_map,e3];rfl
 have e6:(kvs.map fun kv=>kV kv.1)[i]? = some (kV k):=by
  rw[getElem?_map]at e5 ⊢;cases e7:kvs[i]? with
  |none=>rw[e7]at e5;cases e5
  |some w=>rw[e7]at e5;cases e5;rfl
 rw[e6]at e1;cases e1;exact ahF e4
theorem Sl:gU X (.type "dict") (fun xs H Q=>∃ p kvs,xs=[.ref p]/\Rd H p (.dK kvs)/\∀ l,H l=none->Q (.ref l) (upd H l (.dK kvs))):=by
 intro pins s σ H xs us Q I r h;obtain⟨p,kvs,rfl,hp,q⟩:=h;obtain⟨u,rfl,rx⟩:=vals1 r;cases rx;exact acy I hp fun l s' hl I'=>⟨.ref l,_,I',rfl,q l hl⟩
end
section
variable {P:Program} {w:World} {K:Frag} {mg:Str->Option Value} {base:Heap}
end
end L2
namespace L2
open PySem PySem.Spec PyProof.Rows
section
variable {prog:Program} {w:World} {A:Around} {E:Value->Shared->Prop} {s:Shared}
end
section
variable {X:Cx}
end
end L2
namespace L2
open PySem PySem.Spec PyProof.Rows
section
variable {X:Cx} {pins:List (Addr×Obj)} {σ:St} {H:Hp}
theorem Inv.ai5 {s₂:Shared}{h₁:Heap}{tk:Nat}{cn:List Str}{scope:Scope}{fp:List Addr}{xe:Value->Shared->Prop}{C D:Addr}{m:Str->Option Value}
  (I:Inv X pins σ H s₂) (F:bZ X.env.scope X.N scope) (hc:X.calm=true) (hf:∀ b∈fp,nX X pins H b) (hfl:∀ b∈fp,b<s₂.heap.objs.size)
  (hC:s₂.heap.objs.size<=C) (hD:s₂.heap.objs.size<=D) (hDC:D≠C) (hn:h₁.Ns C m) (old:∀ b o,s₂.heap.get? b=some o->h₁.get? b=some o)
  (hacc:cH X.prog X.w (upd H D (.dK [])) h₁ D (.dK [])) :
  Inv (aY X cn scope ⟨C,s₂,H,fp,xe⟩) [] (List.replicate cn.length none++σ) (upd H D (.dK [])) { s₂ with heap:=h₁,toks:=tk }:=by
 have qj:∀ x,((aY X cn scope ⟨C,s₂,H,fp,xe⟩).env.kindOf x=some .cell\/(aY X cn scope ⟨C,s₂,H,fp,xe⟩).env.kindOf x=some .free)->(x,NameKind.free)∈scope.names:=by
  intro x hx;have hx':(relabel scope X.env).names.lookup x=some .cell\/(relabel scope X.env).names.lookup x=some .free:=hx;rcases hx' with z|z
  ·rcases eD scope.names z with z|⟨_,z⟩
   ·exact absurd rfl (F.Ks _ (iH z))
   ·exact iH z
  ·rcases eD scope.names z with z|⟨e,_⟩
   ·exact iH z
   ·cases e
 have xy:∀ x,(x,NameKind.free)∈scope.names->X.env.kindOf x=some .cell\/X.env.kindOf x=some .free:=fun x hx=>F.free _ hx rfl;have eE:∀ x c,(cM X.env scope.names []).lookup x=some c->X.env.cells.lookup x=some c:=by
  intro x c e;rcases zP _ _ e with z|⟨z,e2⟩
  ·cases z
  ·obtain⟨c',hc'⟩:=I.ok.has x (xy x z);rw[hc']at e2 ⊢;rw[e2];rfl
 have anF:(aY X cn scope ⟨C,s₂,H,fp,xe⟩).fs=frs X.stack:=rfl;have aiM:∀ b∈fp,b ∉ frs X.stack:=by
  intro b hb z;obtain⟨_,f1,f2,_⟩:=hf b hb;rcases List.mem_cons.mp (I.Ke b z) with e|e
  ·exact f1 e
  ·exact f2 e
 have R9:∀ x c,X.env.cells.lookup x=some c->c<s₂.heap.objs.size:=by
  intro x c e;obtain⟨v,o,ho,_⟩:=I.cell x c e;exact T' ho
 have ok:(aY X cn scope ⟨C,s₂,H,fp,xe⟩).Ok:=by
  refine⟨I.ok.mod,?_,I.ok.glob,I.ok.blt,hC,fun x y c h1 h2=>I.ok.inj x y c (eE x c h1) (eE y c h2),fun x hx=>?_,fun x c z=>?_,fun _=>I.ok.hd hc,I.ok.frames,.inl rfl,fun b hb=>⟨?_,fun x c e=>?_⟩,
   fun b o e=>I.bs b o e,Nat.le_trans I.ok.Zm I.sz,fun b o e hb=>?_,fun b hb=>?_,I.stack,I.Kf⟩
  ·show(relabel scope X.env).kind=.function;exact F.kind
  ·have:=sr (env:=X.env) (x:=x) scope.names [] (.inr (qj x hx));exact Option.isSome_iff_exists.mp this
  ·cases z
  ·exact Nat.ne_of_lt (U' (hfl b hb) hC)
  ·exact(hf b hb).2.2.2.2.1 x c (eE x c e)
  ·have:X.base.objs.size<=X.s₀.heap.objs.size:=I.ok.Zm;rcases (hf b hb).2.2.2.1 with z|z
   ·exact I.ok.Zn b o e z
   ·exact absurd (U' (T' e) (Nat.le_trans I.ok.Zm z)) (Nat.lt_irrefl _)
  ·exact aiM b hb
 have hDn:H D=none:=I.hok.fresh hD;have aiN:vb X.prog X.w (upd H D (.dK [])) h₁:=I.hok.laid old hD hacc;refine⟨ok,rfl,I.bare,Un.laid old hD hDn,⟨m,hn,fun i x v e1 e2 e3=>?_⟩,fun x c e=>?_,?_,fun x c e=>?_,fun p hp=>absurd (show p∈([]:List (Addr×Obj)) from hp) (by simp),aiN,?_⟩
 ·have hi:¬ i<cn.length:=by
   intro hi;rw[List.getElem?_append_left (by simpa using hi),List.getElem?_replicate]at e2;split at e2 <;> cases e2
  rw[getElem?_append_right (by simpa using hi),List.length_replicate]at e2;have e1':(cn++X.N)[i]? = some x:=e1;rw[getElem?_append_right (by omega)]at e1';obtain⟨m0,hm0,hl⟩:=I.loc;have hxN:x∈X.N:=Z' e1';have hfr:(x,NameKind.free)∈scope.names:=by
   have e3':(relabel scope X.env).names.lookup x=some .local\/(relabel scope X.env).names.lookup x=some .cell\/(relabel scope X.env).names.lookup x=some .free:=e3;rcases e3' with z|z|z
   ·rcases eD scope.names z with z|⟨e,_⟩
    ·exact absurd z (F.apart x hxN)
    ·cases e
   ·exact qj x (.inl z)
   ·exact qj x (.inr z)
  have hk:=xy x hfr;have vis:Vis X.env.scope x:=by
   rcases hk with z|z
   ·exact .inr (.inl z)
   ·exact .inr (.inr z)
  obtain⟨u,r,lk⟩:=hl (i-cn.length) x v e1' e2 vis;refine⟨u,r,?_⟩;rcases lk with ⟨z,_⟩|⟨_,c,ec,z⟩
  ·rcases hk with q|q
   ·rw[z]at q;cases q
   ·rw[z]at q;cases q
  ·have hcl:(cM X.env scope.names []).lookup x=some c:=by
    obtain⟨c',e'⟩:=Option.isSome_iff_exists.mp (sr (env:=X.env) (x:=x) scope.names [] (.inr hfr));rw[e'];have:=eE x c' e';rw[ec]at this;exact this.symm
   refine .inr ⟨?_,c,hcl,?_⟩
   ·have e3':(relabel scope X.env).names.lookup x=some .local\/(relabel scope X.env).names.lookup x=some .cell\/(relabel scope X.env).names.lookup x=some .free:=e3;rcases e3' with y|y|y
    ·rcases eD scope.names y with y|⟨e,_⟩
     ·exact absurd y (F.apart x hxN)
     ·cases e
    ·exact .inl y
    ·exact .inr y
   ·obtain⟨o,ho,hd⟩:=z;exact⟨o,old c o ho,hd⟩
 ·obtain⟨v,o,ho,hd⟩:=I.cell x c (eE x c e);exact⟨v,o,old c o ho,hd⟩
 ·show upd H D (.dK []) C=none;rw[ax (Ne.symm hDC)];exact I.hok.fresh hC
 ·rw[ax (Nat.ne_of_lt (U' (R9 x c (eE x c e)) hD))];exact I.rA x c (eE x c e)
 ·show(List.replicate cn.length none++σ).length=(cn++X.N).length;rw[length_append,List.length_replicate,length_append,I.len]
end
theorem Sm {prog:Program}{w:World}{A:Around}{R:Result->Shared->Prop}{s:Shared}{kx vx tg iter:Expr}{ifs:List Expr}{scope:Scope}{pos:Pos}{it:Value}{D:Addr}{env:Env}(J:Nat->Shared->Prop)
  (turn:∀ n s,J n s->wpAny (model prog w) A (pyNext it) (fun r s₁=>(r=none/\R (.ok .next) s₁)\/∃ v,r=some v /\
   wpAny (model prog w) A (letOwnedTupleGo tg it v) (fun _ s₂=>wpAny (model prog w) A (assign tg env v) (fun _ s₃ =>
    wpAny (model prog w) A (forIn ifs true fun c r=>if r=true then do let ok <-isTrue c env (eval c env);pure (ForInStep.yield ok) else pure (ForInStep.yield r)) (fun ok s₄ =>
     if ok=true then wpAny (model prog w) A (eval kx env) (fun kv s₅=>wpAny (model prog w) A (eval vx env) (fun vv s₆=>wpAny (model prog w) A (dictSet D kv vv) (fun _ s₇=>∃ m,m<n/\J m s₇) (notedBy (model prog w) A env fun e s'=>R (.error e) s') s₆)
      (notedBy (model prog w) A env fun e s'=>R (.error e) s') s₅) (notedBy (model prog w) A env fun e s'=>R (.error e) s') s₄
     else ∃ m,m<n/\J m s₄) (notedBy (model prog w) A env fun e s'=>R (.error e) s') s₃) (notedBy (model prog w) A env fun e s'=>R (.error e) s') s₂) (notedBy (model prog w) A env fun e s'=>R (.error e) s') s₁)
   (notedBy (model prog w) A env fun e s'=>R (.error e) s') s)
  (n:Nat) (h:J n s):codeAny (model prog w) A (.compLoop (.DictComp kx vx [⟨tg,iter,ifs,0⟩] scope pos) 0 it (.ref D) env) R s:=by
 refine codeAny_loop rfl J (fun n s hJ=>?_) n h;refine wpAny_noted (A:=A) (m:=compTurn (.DictComp kx vx [⟨tg,iter,ifs,0⟩] scope pos) 0 it (.ref D) env) (env:=env) ?_;rw[compTurn_dict];refine S' (wpAny_standAt (S' (cJ (turn n s hJ) fun r s₁ h₁=>?_)));rcases h₁ with ⟨e,h₁⟩|⟨v,e,h₁⟩
 ·subst e;exact j' h₁
 ·subst e;refine S' (cJ h₁ fun _ s₂ h₂=>S' (cJ h₂ fun _ s₃ h₃=>S' (cJ h₃ fun ok s₄ h₄=>?_)));cases ok with
  |false=>exact j' ⟨rfl,h₄⟩
  |true=>exact S' (S' (cJ h₄ fun kv s₅ h₅=>S' (wpAny_holding (cJ h₅ fun vv s₆ h₆=>S' (wpAny_standAt (wpAny_holding (cJ h₆ fun _ s₇ h₇=>j' ⟨rfl,h₇⟩)))))))
def ai6 (n:Nat)(wi:TI)(g:Bk->TG)(tc:Bk->TT)(tk tv:Bk->TE):TE:=fun σ H Q=>wi σ H fun J H1=>∀(D:Addr)(b:Bk),H1 D=none->∃ W:Nat->Nat->St->Hp->Prop,
 (∃ m,W 0 m (List.replicate n none++σ) (upd H1 D (.dK [])))/\∀ i m σ H,W i m σ H ->
  (J.stop i H/\Q (.ref D) H)\/(J.go i H/\∀ x H',J.RX i H x H'->g b x σ H' fun σ2 H2=>tc b σ2 H2 fun ok H3 =>
   if ok=true then tk b σ2 H3 fun y H4=>tv b σ2 H4 fun z H5=>∃(kvs:List (Key×V)) (k:Key),y=kV k/\H5 D=some (.dK kvs)/\kvs.length<sizeLine/\∃ m',m'<m/\W (i+1) m' σ2 (upd H5 D (.dK (putK kvs k z)))
   else ∃ m',m'<m/\W (i+1) m' σ2 H3)
section
variable {X:Cx} {tg iter kx vx:Expr} {ifs:List Expr} {scope:Scope} {pos:Pos} {cn:List Str} {wi:TI} {g:Bk->TG} {tc:Bk->TT} {tk tv:Bk->TE} {TH:Bk->Prop}
theorem ZI {pins:List (Addr×Obj)}{σ:St}{H:Hp}{s₂:Shared}{it:Addr}{fp:List Addr}{tn:Nat->Heap->Prop}{J:It}{RR:Value->Addr->Result->Shared->Prop}{QQ:Addr->Hp->Prop}{EE:Value->Shared->Prop}
  (hcalm:X.calm=true) (F:bZ X.env.scope X.N scope) (hg:∀ b,TH b->PG (aY X cn scope b) tg (g b)) (ht:∀ b,TH b->PF (aY X cn scope b) ifs (tc b)) (hk:∀ b,TH b->PE (aY X cn scope b) kx (tk b)) (hv:∀ b,TH b->PE (aY X cn scope b) vx (tv b))
  (hTH:∀ C,s₂.heap.objs.size<=C->TH ⟨C,s₂,H,fp,fu X scope C⟩)
  (I:Inv X pins σ H s₂) (T:Turn X.prog X.w X.K tg J fp it tn) (st:tn 0 s₂.heap) (hf:∀ b∈fp,nX X pins H b)
  (h:∀(D:Addr)(b:Bk),H D=none->∃ W:Nat->Nat->St->Hp->Prop,(∃ m,W 0 m (List.replicate cn.length none++σ) (upd H D (.dK [])))/\∀ i m σ H,W i m σ H ->
   (J.stop i H/\QQ D H)\/(J.go i H/\∀ x H',J.RX i H x H'->g b x σ H' fun σ2 H2=>tc b σ2 H2 fun ok H3 =>
    if ok=true then tk b σ2 H3 fun y H4=>tv b σ2 H4 fun z H5=>∃(kvs:List (Key×V)) (k:Key),y=kV k/\H5 D=some (.dK kvs)/\kvs.length<sizeLine/\∃ m',m'<m/\W (i+1) m' σ2 (upd H5 D (.dK (putK kvs k z)))
    else ∃ m',m'<m/\W (i+1) m' σ2 H3))
  (hR:∀ C D σ' H' s',s₂.heap.objs.size<=C->Inv (aY X cn scope ⟨C,s₂,H,fp,fu X scope C⟩) [] σ' H' s'->QQ D H'->RR (.ref D) C (.ok .next) s')
  (hE:∀ C D e s',EY X C e s'->RR (.ref D) C (.error e) s') :
  wpAny (model X.prog X.w) X.A newDict (fun acc s₃=>wpAny (model X.prog X.w) X.A (newFunctionEnv scope X.env.globals (cM X.env scope.names []) [] X.env.qual none .none (some X.env)) (fun cenv s₄ =>
   codeAny (model X.prog X.w) X.A (.compStart (.DictComp kx vx [⟨tg,iter,ifs,0⟩] scope pos) 0 (.ref it) acc { cenv with scope:=relabel scope X.env }) (RR acc cenv.locals) s₄) EE s₃) EE s₂:=by
 refine wpAny_newObj_type (wpAny_newFunctionEnv F.Ks (by intro y hy;simp at hy) (fun h₁ hns₁ hsb₁=>?_) F.kind);dsimp only at hns₁ hsb₁ ⊢;have hnew:(s₂.heap.push { cls:=.type "dict",dict:=none,data:=.dict #[] }).DictOf (aW X.prog X.w) s₂.heap.objs.size []:=Heap.DictOf.new s₂.heap;generalize hH2:s₂.heap.push { cls:=.type "dict",dict:=none,data:=.dict #[] } = H2 at hns₁ hsb₁ hnew ⊢;have hC:H2.objs.size=s₂.heap.objs.size+1:=by rw[<-hH2,Heap.size_push]
 have hDC:s₂.heap.objs.size≠H2.objs.size:=by omega
 have hCle:s₂.heap.objs.size<=H2.objs.size:=by omega
 have hfl:∀ b∈fp,b<s₂.heap.objs.size:=fun b hb=>by
  obtain⟨o,e,_⟩:=T.obj 0 _ st b hb;exact T' e
 have aiP:∀ b o,s₂.heap.get? b=some o->H2.get? b=some o:=fun b o e=>hH2 ▸ J' _ e;have old:∀ b o,s₂.heap.get? b=some o->h₁.get? b=some o:=fun b o e=>by
  have hb:=T' e;refine hsb₁.extBut b o (Nat.ne_of_lt (U' hb hCle)) (J' _ (aiP b o e))
 have hacc:cH X.prog X.w (upd H s₂.heap.objs.size (.dK [])) h₁ s₂.heap.objs.size (.dK []) :=
  ⟨V' _,beq_eq_false_iff_ne.mpr (Ne.symm (Nat.ne_of_lt I.big)),[],.nil,(hnew).at fun o e=>hsb₁.extBut _ _ hDC (J' _ e)⟩
 have I0:=Inv.ai5 (cn:=cn) (xe:=fu X scope H2.objs.size) (tk:=s₂.toks+([]:List (Str×Value)).length) I F hcalm hf hfl hCle (C' _) hDC hns₁ old hacc;have th:=hTH _ hCle;obtain⟨W,⟨m0,w0⟩,turn⟩:=h s₂.heap.objs.size ⟨H2.objs.size,s₂,H,fp,fu X scope H2.objs.size⟩ (I.hok.fresh (C' _));have fpx:∀{H':Hp},(∀ b∈fp,H' b=none)->∀ b∈fp,nX (aY X cn scope ⟨H2.objs.size,s₂,H,fp,fu X scope H2.objs.size⟩) [] H' b:=fun {H'} hn b hb=>by
  refine⟨hn b hb,(I0.ok.exf b hb).1,I0.ok.Zo b hb,.inl hb,(I0.ok.exf b hb).2,fun p hp=>absurd (show p∈([]:List (Addr×Obj)) from hp) (by simp)⟩
 have PZ:(aY X cn scope ⟨H2.objs.size,s₂,H,fp,fu X scope H2.objs.size⟩).calm=true:=hcalm;have loop:∀ s₃:Shared,s₃ = { s₂ with heap:=h₁,toks:=s₂.toks+([]:List (Str×Value)).length } ->
   codeAny (model X.prog X.w) X.A (.compLoop (.DictComp kx vx [⟨tg,iter,ifs,0⟩] scope pos) 0 (.ref it) (.ref s₂.heap.objs.size) (compEnvC scope (cM X.env scope.names []) H2.objs.size X.env))
    (RR (.ref s₂.heap.objs.size) H2.objs.size) s₃:=by
  rintro s₃ rfl;have toE:∀ e s',(aY X cn scope ⟨H2.objs.size,s₂,H,fp,fu X scope H2.objs.size⟩).xe e s' ->
    notedBy (model X.prog X.w) X.A (compEnvC scope (cM X.env scope.names []) H2.objs.size X.env) (fun e s'=>RR (.ref s₂.heap.objs.size) H2.objs.size (.error e) s') e s':=fun e s' z =>
   wpAny_mono (show notedBy (model X.prog X.w) X.A (compEnvC scope (cM X.env scope.names []) H2.objs.size X.env) (EY X H2.objs.size) e s' from z) (fun _ _ q=>hE _ _ _ _ q) fun _ _ q=>hE _ _ _ _ q
  refine Sm (env:=compEnvC scope (cM X.env scope.names []) H2.objs.size X.env)
   (fun n s'=>∃ i σ' H',Inv (aY X cn scope ⟨H2.objs.size,s₂,H,fp,fu X scope H2.objs.size⟩) [] σ' H' s'/\tn i s'.heap/\(∀ b∈fp,H' b=none)/\W i n σ' H') ?_ m0
   ⟨0,_,_,I0,T.keep _ _ _ st fun b _ o e=>old b o e,fun b hb=>?_,w0⟩
  ·rintro n s' ⟨i,σ',H',I',st',fr',w'⟩;rcases turn i n σ' H' w' with ⟨stop,qn⟩|⟨go,step⟩
   ·refine wpAny_mono (T.done (aY X cn scope ⟨H2.objs.size,s₂,H,fp,fu X scope H2.objs.size⟩) rfl rfl rfl PZ i [] s' σ' H' (fun _ _=>False) I' (fpx fr') st' stop) (fun r s4 ⟨hr,I4⟩=>?_) fun _ _ z=>z.elim;exact .inl ⟨hr,hR _ _ _ _ _ hCle I4 qn⟩
   ·refine wpAny_mono (T.item (aY X cn scope ⟨H2.objs.size,s₂,H,fp,fu X scope H2.objs.size⟩) rfl rfl rfl PZ i [] s' σ' H' (fun _ _=>False) I' (fpx fr') st' go) (fun r s4 ⟨u,hr,h4⟩=>?_) fun _ _ z=>z.elim;refine .inr ⟨u,hr,wpAny_mono h4 (fun _ s5 ⟨x,H5,I5,r5,y5,Zt,fr5⟩=>?_) fun _ _ z=>z.elim⟩;have I5':=I5.pinned (fpx fr5) (T.obj _ _ Zt);refine wpAny_mono (hg _ th _ s5 σ' H5 x u _ I5' r5 (step x H5 y5)) (fun _ s6 ⟨σ6,H6,I6,q6⟩=>?_) toE;refine wpAny_mono (ht _ th _ s6 σ6 H6 _ I6 q6) (fun ok s7 ⟨H7,I7,q7⟩=>?_) toE;have back:∀{σ8:St} {H8:Hp} {s8:Shared},Inv (aY X cn scope ⟨H2.objs.size,s₂,H,fp,fu X scope H2.objs.size⟩) ([]++zL fp s5.heap) σ8 H8 s8->tn (i+1) s8.heap/\∀ b∈fp,H8 b=none:=fun {σ8 H8 s8} I8=>by
     refine⟨T.keep _ _ _ Zt fun b hb o e=>(I8.pin (b,o) (mem_append_right _ (mem_append_right _ (jH hb e)))).1,fun b hb=>?_⟩;obtain⟨o,e,d⟩:=T.obj _ _ Zt b hb;exact(I8.pin (b,o) (mem_append_right _ (mem_append_right _ (jH hb e)))).2.1
    cases ok with
    |false =>
     rw[L' Y']at q7 ⊢;obtain⟨m',hm,w7⟩:=q7;obtain⟨t8,f8⟩:=back I7;exact⟨m',hm,i+1,σ6,H7,I7.l6,t8,f8,w7⟩
    |true =>
     rw[R' rfl]at q7 ⊢;refine wpAny_mono (hk _ th _ s7 σ6 H7 _ I7 q7) (fun ku s8 ⟨y,H8,I8,r8,q8⟩=>?_) toE;refine wpAny_mono (hv _ th _ s8 σ6 H8 _ I8 q8) (fun vu s9 ⟨z,H9,I9,r9,kvs,k,ey,hl,hz,m',hm,w9⟩=>?_) toE;subst ey;obtain⟨zz,hd,vs,rel,dd⟩:=Yi I9.hok hl;have hzl:vs.length<=sizeLine:=by rw[<-rel.length];exact zz
     have hpl:(putK kvs k z).length<=sizeLine:=by have:=nZ kvs k z;omega
     refine wpAny_dictSet_pairs (hsz:=hzl) (BY r8) dd fun h' dd' hs=>?_;have hex:∃ q,h'.get? s₂.heap.objs.size=some q:=let ⟨q,_,_,hq,_⟩:=dd';⟨q,hq⟩;have I10:=EC (t':=s9.toks+1) I9 (by rw[hl];exact True.intro) hs hex (Kz hpl hd (rel.put k r9) dd');obtain⟨t9,f9⟩:=back I10;exact⟨m',hm,i+1,σ6,_,I10.l6,t9,f9,w9⟩
  ·rw[ax (Nat.ne_of_lt (hfl b hb))];exact(hf b hb).1
 exact codeAny_compStart_dict (loop _ rfl) (T.self _ 0 _ _ _ (T.keep _ _ _ st fun b _ o e=>old b o e) (loop _ rfl))
theorem acz (hcalm:X.calm=true)(F:bZ X.env.scope X.N scope)(hi:PI X tg iter wi)(hg:∀ b,PG (aY X cn scope b) tg (g b))(ht:∀ b,PF (aY X cn scope b) ifs (tc b))(hk:∀ b,PE (aY X cn scope b) kx (tk b))(hv:∀ b,PE (aY X cn scope b) vx (tv b))
  (hs:∀ x,foldedSetIterable iter X.env x=pure x:=by intro _;rfl):PE X (.DictComp kx vx [⟨tg,iter,ifs,0⟩] scope pos) (ai6 cn.length wi g tc tk tv):=by
 intro pins s σ H Q I h;rw[arm_eval_DictComp];have hcl:closureFor scope X.env=pure (cM X.env scope.names []):=Kr fun p hp e=>I.ok.has p.1 (F.free p hp e);refine wpAny_comprehension_free (use:=none) rfl hs hcl F.kind F.loc (cJ (hi pins s σ H _ I h) fun xv s₁ h₁=>cJ h₁ fun itv s₂ h₂=>?_);obtain⟨it,fp,tn,J,H2,rfl,I2,T,st,f2,R⟩:=h₂;refine ZI (TH:=fun _=>True) (QQ:=fun D H'=>Q (.ref D) H') (RR:=fun acc C=>compPost (model X.prog X.w) X.A X.xe none (EP X pins σ Q) acc C) hcalm F (fun b _=>hg b) (fun b _=>ht b) (fun b _=>hk b) (fun b _=>hv b) (fun _ _=>trivial) I2 T st f2 R ?_ ?_
 ·intro C D σ' H' s' hC I' q;obtain⟨m,hm,_⟩:=I'.loc;exact⟨m,hm,fun h' sb=>⟨.ref D,H',I2.Kt f2 hC I' sb,rfl,q⟩⟩
 ·intro C D e s' z;exact z
end
abbrev ai7 (J:It)(g:TG)(tc:TT)(tk tv:TE)(D:Addr)(R:Hp->Prop)(σ:St)(H:Hp):Prop:=∃ W:Nat->Nat->St->Hp->Prop,(∃ m,W 0 m σ H)/\∀ i m σ H,W i m σ H ->
  (J.stop i H/\R H)\/(J.go i H/\∀ x H',J.RX i H x H'->g x σ H' fun σ2 H2=>tc σ2 H2 fun ok H3 =>
   if ok=true then tk σ2 H3 fun y H4=>tv σ2 H4 fun z H5=>∃(kvs:List (Key×V)) (k:Key),y=kV k/\H5 D=some (.dK kvs)/\kvs.length<sizeLine/\∃ m',m'<m/\W (i+1) m' σ2 (upd H5 D (.dK (putK kvs k z)))
   else ∃ m',m'<m/\W (i+1) m' σ2 H3)
abbrev ai8 (g:TG)(tc:TT)(tk tv:TE)(D:Addr)(x:V)(σ:St)(H:Hp)(N:St->Hp->Prop):Prop:=g x σ H fun σ2 H2=>tc σ2 H2 fun ok H3 =>
 if ok=true then tk σ2 H3 fun y H4=>tv σ2 H4 fun z H5=>∃(kvs:List (Key×V)) (k:Key),y=kV k/\H5 D=some (.dK kvs)/\kvs.length<sizeLine/\N σ2 (upd H5 D (.dK (putK kvs k z))) else N σ2 H3
theorem Sn {K:Frag}{a:Addr}{xs:List V}{g:TG}{tc:TT}{tk tv:TE}{D:Addr}{R:Hp->Prop}{σ:St}{H:Hp}(Pv:Nat->St->Hp->Prop)(h0:Pv 0 σ H)(hl:∀ i σ H,Pv i σ H->aX K H a xs)
  (hs:∀ i x σ H,xs[i]? = some x->Pv i σ H->∀ N:St->Hp->Prop,(∀ σ H,Pv (i+1) σ H->N σ H)->ai8 g tc tk tv D x σ H N) (hd:∀ σ H,Pv xs.length σ H->R H):ai7 (Itl K a) g tc tk tv D R σ H:=by
 refine⟨fun i m σ H=>m=xs.length-i/\i<=xs.length/\Pv i σ H,⟨xs.length,by simp,V' _,h0⟩,?_⟩;rintro i m σ H ⟨rfl,hi,p⟩;have q:=hl i σ H p
 by_cases hlt:i<xs.length
 ·refine .inr ⟨⟨xs,xs[i],q,by simp[hlt]⟩,fun x H' y=>?_⟩;obtain⟨e,y⟩:=y;subst e;have z:=hs i x σ _ (y xs q) p (fun σ' H'=>∃ m',m'<xs.length-i/\m'=xs.length-(i+1)/\i+1<=xs.length/\Pv (i+1) σ' H') fun σ' H' q=>⟨xs.length-(i+1),by omega,rfl,hlt,q⟩;exact z
 ·have e:i=xs.length:=by omega
  subst e;exact .inl ⟨⟨xs,q,C' _⟩,hd σ H p⟩
section
variable {X:Cx}
end
section
variable {prog:Program} {w:World} {A:Around} {R:Result->Shared->Prop} {I:Addr} {fp wr:List Addr} {n:Nat} {P:Nat->Value->Prop} {St:Nat->Heap->Prop}
end
section
variable {X:Cx}
end
end L2
def Hd.th (P:PySem.Params)(x:PySem.Str)(n:Int):Int:=PySem.reduceHash (PySem.Builtin.Tuple.tupleHashOf [PySem.PyData.keyHash P x,PySem.hashInt n])
namespace L2
open PySem PySem.Spec PyProof.Rows
inductive So (K:Frag)(w:World):List DictEntry->List ((Str×Int)×V)->Prop
 |nil:So K w [] []
 |cons {x:Str} {n:Int} {b:Addr} {ob:Option Addr} {ta tb:Tok} {nb:Nat} {sb:Array (Option Value)} {u:Value} {v:V} {es:List DictEntry} {kvs:List ((Str×Int)×V)}:K.lookup b=some ⟨.type "tuple",ob,.seq #[.str x ta,.int n tb] nb,sb⟩->RelV v u->So K w es kvs->So K w (⟨Hd.th w.params x n,.ref b,u⟩::es) (((x,n),v)::kvs)
structure KP (K:Frag)(w:World)(a:Addr)(kvs:List ((Str×Int)×V)):Prop where
 sys:(a==sysModules)=false
 ok:∃ es n,K.lookup a=some ⟨.type "dict",none,.dict es n,#[]⟩/\So K w es.toList kvs/\(kvs.map (·.1)).Nodup
abbrev kp (x:Str)(n:Int):List Key:=[Sum.inr x,Sum.inl n]
theorem Yk {P:Program}{w:World}{h:Heap}{a:Addr}{x:Str}{n:Int}{ta tb:Tok}(t:IsTup h a #[.str x ta,.int n tb]):(tupleKind (aW P w)).is h (kp x n) a:=by
 obtain⟨o,e,c,m,d⟩:=t;exact⟨o,_,m,e,c,d,.cons (kB P w x ta) (.cons (BV P w n tb) .nil)⟩
theorem So.xs (P:Program){K:Frag}{w:World}{h:Heap}(hi:K.In h):∀{es:List DictEntry} {kvs:List ((Str×Int)×V)},So K w es kvs->∃ xs:List (List Key×Addr×Value),es=xs.map (entryOfKey (tupleKind (aW P w)))/\xs.map (·.1)=kvs.map (fun p=>kp p.1.1 p.1.2) /\
  (∀ x∈xs,(tupleKind (aW P w)).is h x.1 x.2.1)/\∀ x n,oG (kvs.lookup (x,n)) ((atKey xs (kp x n)).map (·.2))
 |_,_,.nil=>⟨[],rfl,rfl,(fun e z=>nomatch z),fun x n=>True.intro⟩
 |_,_,.cons (x:=x) (n:=n) (b:=b) (u:=u) (v:=v) lb r q=>by
  obtain⟨xs,h1,h2,h3,h4⟩:=So.xs P hi q;refine⟨(kp x n,b,u)::xs,by rw[map_cons,<-h1];rfl,by rw[map_cons,map_cons,h2],fun e he=>?_,fun y m=>?_⟩
  ·rcases List.mem_cons.mp he with rfl|he
   ·exact Yk ⟨_,hi _ _ lb,rfl,_,rfl⟩
   ·exact h3 e he
  ·by_cases hy:(y,m)=(x,n)
   ·cases hy;unfold atKey;simp only [List.lookup_cons,List.find?_cons];simp;exact r
   ·unfold atKey;have h5:=h4 y m;unfold atKey at h5;have e1:((y,m)==(x,n))=false:=by simpa using hy
    have e2:decide (kp x n=kp y m)=false:=i' fun e=>hy (by
     injection e with e1 e2
     injection e2 with e2 _
     cases e1;cases e2;rfl)
    simp only [List.lookup_cons,e1,List.find?_cons,e2];exact h5
theorem P6:∀{l:List (Str×Int)},l.Nodup->(l.map (fun p=>kp p.1 p.2)).Nodup
 |[],_=>.nil
 |x::l,h=>by
  rw[map_cons,List.nodup_cons];obtain⟨h1,h2⟩:=List.nodup_cons.mp h;refine⟨fun z=>?_,P6 h2⟩;obtain⟨y,hy,e⟩:=mem_map.mp z
  injection e with e1 e2
  injection e2 with e2 _
  obtain⟨a,b⟩:=x;obtain⟨c,d⟩:=y;cases e1;cases e2;exact h1 hy
theorem KP.dict (P:Program){K:Frag}{w:World}{a:Addr}{kvs:List ((Str×Int)×V)}{h:Heap}(d:KP K w a kvs)(hi:K.In h):∃ xs,h.DictOfH (tupleKind (aW P w)) a xs/\∀ x n,oG (kvs.lookup (x,n)) ((atKey xs (kp x n)).map (·.2)):=by
 obtain⟨es,n,lk,ok,nd⟩:=d.ok;obtain⟨xs,h1,h2,h3,h4⟩:=ok.xs P hi;refine⟨xs,⟨_,es,n,hi _ _ lk,⟨rfl,rfl,rfl⟩,rfl,h1,h3,?_⟩,h4⟩;rw[h2];have:=P6 nd;rw[List.map_map]at this;exact this
section
variable {X:Cx}
def ai9 (K:Frag)(w:World)(td ty:TE):TE:=fun σ H Q=>td σ H fun x H1=>∃ a kvs,x=.ref a/\KP K w a kvs/\ty σ H1 fun y H2=>∃ p k n,y=.ref p/\H2 p=some (.tup [.str k,.int n])/\Q ((kvs.lookup (k,n)).getD .non) H2
theorem P7 {o e:Expr}{apos cpos:Pos}{td ty:TE}(hu:X.A.units+1<cLine)(ho:PE X o td)(he:PE X e ty)
  (base:attributeBase o "get" X.env (eval o X.env)=eval o X.env:=by rfl)
  (few:((backTo cpos (starEach [e] X.env)).all (fun x=>!x.1)&&(backToKw cpos (keywordEach [] X.env)).all (fun x=>x.1.isSome)
   && decide (([e]:List Expr).length+([]:List Keyword).length+(if([]:List Keyword).isEmpty then 0 else 1)<30))=true:=by rfl)
  (line:(apos.endLine==cpos.line)=true:=by rfl) (trees:backTo cpos (starEach [e] X.env)=[(false,eval e X.env)]:=by rfl) :
  PE X (.Call (.Attribute o "get" apos) [e] [] cpos) (ai9 X.K X.w td ty):=by
 intro pins s σ H Q I h;refine wpAny_Call_method base few line plainAttrs_dict slot_dict_get type_dict_get (cJ (ho pins s σ H _ I h) fun u s1 ⟨x,H1,I1,rx,a,kvs,ex,d,q1⟩=>?_);subst ex;obtain rfl:u=Value.ref a:=rx;obtain⟨xs,dd,rel⟩:=d.dict X.prog I1.Ho;refine⟨dd.typeIs,fun b q=>?_,?_⟩
 ·cases q;obtain⟨ob,_,_,h1,h2,_⟩:=dd;exact⟨ob,h1,h2.2.1⟩
 rw[trees];refine Calls.callWith_builtin rfl (Calls.evalArgs_plain (Calls.spliced_cons (cJ (he pins s1 σ H1 _ I1 q1) fun iv s2 ⟨y,H2,I2,ry,p,k,n,ek,hp,q2⟩=>Calls.spliced_nil ?_)));subst ek;obtain rfl:iv=Value.ref p:=ry;obtain⟨xs3,dd3,anS⟩:=d.dict X.prog I2.Ho;obtain⟨_,its,vs,tp⟩:=I2.hok _ _ hp;rcases vs with _|⟨⟨ta,rfl⟩,_|⟨⟨tb,rfl⟩,_|_⟩⟩
 exact call_meetsIn slot_dict_get dd3.typeIs entry_dict_get (PySem.F.args_dict_get_2 _ _) (meetsH_dict_get (tupleKind (aW X.prog X.w)) a p d.sys) ⟨hu,kp k n,xs3,Yk tp,dd3,_,H2,I2.tok _,oG.akL (d:=V.non) (anS k n) rfl,q2⟩
end
end L2
namespace Hd
open PySem PySem.W
section
variable {p:Program} {w:World} {n₀:Nat} {ann:Option Value} {q:Pos} {c:Code}
theorem acA {b:Nat}:∀{n m:Nat} {s s1:Shared} {t t1:Thread} {r:Option (Shared×Thread)},segGo treeTable p w n₀ ann b n s t=some (s1,t1)->segGo treeTable p w n₀ ann b m s1 t1=r->segGo treeTable p w n₀ ann b (n+m) s t=r
 |0,m,s,s1,t,t1,r,h,k=>by
  cases h;rw[Nat.zero_add];exact k
 |n+1,m,s,s1,t,t1,r,h,k=>by
  rw[Nat.add_right_comm];unfold segGo at h ⊢;split at h
  ·cases h
  ·split at h
   ·cases h
   ·split at h
    ·exact acA h k
    ·cases h
def Go (p:Program)(w:World)(n₀:Nat)(ann:Option Value)(m:Nat)(s:Shared)(t:Thread)(s':Shared)(t':Thread):Prop:=∃ n,n<=m/\segGo treeTable p w n₀ ann 1 n s t=some (s',t')
theorem Go.trans {m m':Nat}{s s1 s2:Shared}{t t1 t2:Thread}(h:Go p w n₀ ann m s t s1 t1)(h':Go p w n₀ ann m' s1 t1 s2 t2):Go p w n₀ ann (m+m') s t s2 t2:=by
 obtain⟨n,l,e⟩:=h;obtain⟨n',l',e'⟩:=h';exact⟨n+n',Nat.add_le_add l l',acA e e'⟩
def RT {α:Type}(p:Program)(w:World)(n₀:Nat)(ann:Option Value)(q:Pos)(c:Code)(m:Nat)(x:Sem α)(s s':Shared)(a:α):Prop :=
 ∀(K:α->Sem Fin)(H:Value->Sem Fin)(gd:Bool->Bool)(lv:List Value->List Value)(pos:Pos),∃ pos',Go p w n₀ ann m s ⟨x.wrap K H gd lv,c,pos,[topFrame q]⟩ s' ⟨K a,c,pos',[topFrame q]⟩
def RTP {α:Type}(p:Program)(w:World)(n₀:Nat)(ann:Option Value)(q:Pos)(c:Code)(m:Nat)(x:Sem α)(s s':Shared)(a:α)(p':Pos):Prop :=
 ∀(K:α->Sem Fin)(H:Value->Sem Fin)(gd:Bool->Bool)(lv:List Value->List Value)(pos:Pos),Go p w n₀ ann m s ⟨x.wrap K H gd lv,c,pos,[topFrame q]⟩ s' ⟨K a,c,p',[topFrame q]⟩
variable {α β:Type} {x:Sem α} {f:α->Sem β} {s s1 s2:Shared} {a:α} {b:β} {m m':Nat} {p':Pos}
theorem JJ (x:Sem α)(f:α->Sem β)(K:β->Sem Fin)(H gd lv):(x >>= f).wrap K H gd lv=x.wrap (fun a=>(f a).wrap K H gd lv) H gd lv:=by
 rw[Sem.bind_eq_wrap',Sem.wrap_wrap];rfl
theorem RT.bind (h:RT p w n₀ ann q c m x s s1 a)(h':RT p w n₀ ann q c m' (f a) s1 s2 b):RT p w n₀ ann q c (m+m') (x >>= f) s s2 b:=fun K H gd lv pos=>by
 rw[JJ];obtain⟨p1,g⟩:=h (fun a=>(f a).wrap K H gd lv) H gd lv pos;obtain⟨p2,g'⟩:=h' K H gd lv p1;exact⟨p2,g.trans g'⟩
theorem RT.ahI (h:RT p w n₀ ann q c m x s s1 a)(h':RTP p w n₀ ann q c m' (f a) s1 s2 b p'):RTP p w n₀ ann q c (m+m') (x >>= f) s s2 b p':=fun K H gd lv pos=>by
 rw[JJ];obtain⟨p1,g⟩:=h (fun a=>(f a).wrap K H gd lv) H gd lv pos;exact g.trans (h' K H gd lv p1)
theorem RT.hold (vs:List Value)(h:RT p w n₀ ann q c m x s s1 a):RT p w n₀ ann q c m (holding vs x) s s1 a:=by
 unfold holding;split
 ·exact h
 ·intro K H gd lv pos;rw[Sem.keep_eq_wrap,Sem.wrap_wrap];exact h _ _ _ _ _
theorem RT.pure:RT p w n₀ ann q c 0 (Pure.pure a:Sem α) s s a:=fun K H gd lv pos=>⟨pos,0,C' _,rfl⟩
theorem RT.more (h:RT p w n₀ ann q c m x s s1 a)(l:m<=m'):RT p w n₀ ann q c m' x s s1 a:=fun K H gd lv pos=>by
 obtain⟨p1,n,l1,e⟩:=h K H gd lv pos;exact⟨p1,n,Nat.le_trans l1 l,e⟩
theorem P8:∀(k n:Nat) {s:Shared} {t:Thread} {r},segRun treeTable p w n₀ ann 1 n s t=some r->segRun treeTable p w n₀ ann 1 (n+k) s t=some r
 |k,0,s,t,r,h=>by cases h
 |k,n+1,s,t,r,h=>by
  rw[Nat.add_right_comm];unfold segRun at h ⊢;split at h
  ·exact h
  ·split at h
   ·cases h
   ·split at h
    ·exact P8 k n h
    ·cases h
theorem RTP.piece {st:Stmt}{env:Env}{pos:Pos}(h:RTP p w n₀ ann q c m (exec st env) s s1 .next p'):segRun treeTable p w n₀ ann 1 (m+1) s (pieceOf st env c pos [topFrame q])=some (.next,s1,c,p'):=by
 obtain⟨n,l,e⟩:=h doneF deadEnd id id pos;have z:segRun treeTable p w n₀ ann 1 (n+1) s (pieceOf st env c pos [topFrame q])=some (.next,s1,c,p'):=seg_go e rfl;have:=P8 (m-n) _ z
 rwa [show n+1+(m-n)=m+1 by omega]at this
end
section
variable {p:Program} {w:World} {n₀:Nat} {ann:Option Value} {q:Pos} {c:Code} {s:Shared}
theorem b0 (i:Int):RT p w n₀ ann q c 1 (pyHashByItsType.reduced i) s s (reduceHash i):=by
 unfold pyHashByItsType.reduced reduceHash;split
 ·exact RT.pure.more (V' _)
 ·intro K H gd lv pos;exact⟨pos,1,C' _,rfl⟩
variable {α β:Type} {x y:Sem α} {s':Shared} {a:α} {m e:Nat}
theorem RT.ifn {b:Bool}(hb:b=false)(h:RT p w n₀ ann q c m y s s' a):RT p w n₀ ann q c m (if b=true then x else y) s s' a:=by
 subst hb;exact h
theorem RT.ift {b:Bool}(hb:b=true)(h:RT p w n₀ ann q c m x s s' a):RT p w n₀ ann q c m (if b=true then x else y) s s' a:=by
 subst hb;exact h
theorem RT.ifc {b:Bool}(h:RT p w n₀ ann q c m x s s' a)(h':RT p w n₀ ann q c m y s s' a):RT p w n₀ ann q c m (if b=true then x else y) s s' a:=by
 cases b
 ·exact h'
 ·exact h
theorem Sq {β γ:Type}{f:γ->β->Sem (ForInStep β)}{r:β}:∀{l:List γ},(∀ i∈l,RT p w n₀ ann q c e (f i r) s s (.yield r))->RT p w n₀ ann q c (l.length * e) (forIn l r f) s s r
 |[],_=>by
  rw[List.forIn_nil,List.length_nil,Nat.zero_mul];exact RT.pure
 |i::l,h=>by
  rw[List.forIn_cons,length_cons,Nat.succ_mul,Nat.add_comm];exact RT.bind (h i (mem_cons_self ..)) (Sq fun j hj=>h j (Zb' _ hj))
theorem af3 {key:Value}{l:List Value}(hk:RT p w n₀ ann q c e (eqIsQuiet 8 key) s s true)(h:∀ v∈l,RT p w n₀ ann q c e (eqIsQuiet 8 v) s s true):RT p w n₀ ann q c (e+(l.length * e+0)) (tableMayTell key l) s s false:=by
 unfold tableMayTell;dsimp only;cases hl:l.isEmpty with
 |true=>exact RT.ift rfl (RT.pure.more (V' _))
 |false =>
  refine RT.ifn rfl ?_;refine RT.bind hk ?_;refine RT.ifn rfl ?_;refine RT.bind (Sq fun v hv=>?_) ?_
  ·exact RT.bind (m':=0) (h v hv) (RT.ifn rfl RT.pure)
  ·exact RT.pure
theorem ajb {key:Value}{l:List Value}(h:∀ v∈l,(v==key)=false):(l == [key])=false:=by
 cases l with
 |nil=>rfl
 |cons v l=>rw[List.cons_beq_cons,h v (mem_cons_self ..)];rfl
theorem JK {es:Array DictEntry}{ps:List Nat}{v:Value}(h:v∈ps.filterMap fun i=>Option.map (fun x=>x.key) es[i]?):v∈es.toList.map (·.key):=by
 obtain⟨i,_,e⟩:=List.mem_filterMap.mp h;obtain⟨z,e1,rfl⟩:=Option.map_eq_some_iff.mp e;exact mem_map.mpr ⟨z,by simpa using Array.mem_of_getElem? e1,rfl⟩
theorem ZJ {n:Nat}{g:Nat->Option Int}{h:Int}{i:Nat}(hi:i∈placesWithHash n g h):i<n:=mem_range.mp (List.mem_filter.mp hi).1
theorem places_len {n:Nat}{g:Nat->Option Int}{h:Int}:(placesWithHash n g h).length<=n:=by
 have:=List.length_filter_le (fun i=>g i==some h) (List.range n);rw[length_range]at this;exact this
theorem fA {d a n:Nat}{h:Int}{es:Array DictEntry}{e1 e2 e3:Nat}(hes:RT p w n₀ ann q c e1 (dictEntries d (keyPart (.ref a))) s s es)(hany:(es.any fun e=>e.key == .ref a&&e.hash != h)=false)
  (hne:∀ v∈es.toList.map (·.key),(v == .ref a)=false) (hq:RT p w n₀ ann q c e2 (eqIsQuiet 8 (.ref a)) s s true) (hqs:∀ v∈es.toList.map (·.key),RT p w n₀ ann q c e2 (eqIsQuiet 8 v) s s true)
  (hep:RT p w n₀ ann q c 1 (dictEpoch d (keyPart (.ref a))) s s n) (heq:∀ v∈es.toList.map (·.key),RT p w n₀ ann q c e3 (eqBool v (.ref a)) s s false):RT p w n₀ ann q c (e1+((e2+(es.size * e2+0))+(es.size * (1+(e3+(1+(1+0))))+0))) (dictFind d (.ref a) h) s s none:=by
 unfold dictFind;refine RT.hold _ ?_;refine RT.bind hes ?_;dsimp only;generalize hp:placesWithHash _ _ _=places;have pl:∀ i∈places,i<es.size:=fun i hi=>ZJ (hp ▸ hi);have pn:places.length<=es.size:=by rw[<-hp];exact places_len
 clear hp;refine RT.ifn (by rw[List.all_cons];rfl) ?_;refine RT.ifn hany ?_;refine RT.ifn (ajb fun v hv=>hne v (JK hv)) ?_;refine RT.bind ((af3 hq fun v hv=>hqs v (JK hv)).more ?_) ?_
 ·have l1:(places.filterMap fun i=>Option.map (fun x=>x.key) es[i]?).length<=es.size:=Nat.le_trans (List.length_filterMap_le _ _) pn;have:=Nat.mul_le_mul_right e2 l1;omega
 refine RT.ifn rfl ?_;refine RT.bind ((Sq fun i hi=>?_).more (Nat.mul_le_mul_right _ pn)) RT.pure;have hi:=pl i hi;rw[Array.getElem?_eq_getElem hi];dsimp only;have hv:(es[i]'hi).key∈es.toList.map (·.key):=mem_map.mpr ⟨_,by simp,rfl⟩;generalize es[i]'hi=en at hv;refine RT.ifc ?_ (RT.pure.more (V' _));refine RT.bind hep ?_;refine RT.bind (heq _ hv) ?_;refine RT.bind hep ?_;refine RT.ifn (by simp) ?_;refine RT.ifn rfl ?_;refine RT.bind (m:=1) (a:=()) (s1:=s) (fun K H gd lv pos=>⟨pos,1,C' _,rfl⟩) ?_;exact RT.ifn rfl RT.pure
theorem iZ {d a:Nat}{h:Int}{v:Value}{s1 s2:Shared}{e1 e2 e3:Nat}(hh:RT p w n₀ ann q c e1 (pyHash (.ref a)) s s1 h)(hf:RT p w n₀ ann q c e2 (dictFind d (.ref a) h) s1 s1 none)
  (hu:RT p w n₀ ann q c e3 (updateDictKeys d (fun es=>es.push ⟨h,.ref a,v⟩) (keyPart (.ref a))) s1 s2 ()):RT p w n₀ ann q c (e1+(e2+(1+e3))) (dictSet d (.ref a) v) s s2 ():=by
 unfold dictSet dictSetHashed;refine RT.hold _ ?_;refine RT.bind hh ?_;refine RT.hold _ ?_;refine RT.bind hf ?_;exact RT.bind (m:=1) (a:=()) (s1:=s1) (fun K H gd lv pos=>⟨pos,1,C' _,rfl⟩) hu
inductive Puts (p:Program)(w:World)(n₀:Nat)(ann:Option Value)(q:Pos)(c:Code)(d:Nat):Nat->Shared->List (Value×Value)->Shared->Prop
 |nil {s:Shared}:Puts p w n₀ ann q c d 0 s [] s
 |cons {s s1 s2:Shared} {k v:Value} {l:List (Value×Value)} {m m':Nat}:RT p w n₀ ann q c m (dictSet d k v) s s1 ()->Puts p w n₀ ann q c d m' s1 l s2->Puts p w n₀ ann q c d (m+m') s ((k,v)::l) s2
theorem Puts.for {d:Nat}{l:List (Value×Value)}{f:Value×Value->PUnit->Sem (ForInStep PUnit)}(hf:∀ k v,f (k,v) ⟨⟩=dictSet d k v >>= fun _=>pure (.yield ⟨⟩))(h:Puts p w n₀ ann q c d m s l s'):RT p w n₀ ann q c m (forIn l PUnit.unit f) s s' ⟨⟩:=by
 induction h with
 |nil=>rw[List.forIn_nil];exact RT.pure
 |cons a b ih =>
  rw[List.forIn_cons,hf];exact RT.bind (RT.bind (m':=0) a RT.pure) ih
theorem bc {α:Type}{P:α->Prop}:∀ v∈([]:List α),P v:=fun _ z=>nomatch z
theorem aq {α:Type}{P:α->Prop}{a:α}{l:List α}(h:P a)(t:∀ v∈l,P v):∀ v∈a::l,P v:=fun v hv=>by
 rcases List.mem_cons.mp hv with rfl|hv
 ·exact h
 ·exact t v hv
theorem ajc {pairs:List (Sem Value×Sem Value)}{vs:List (Value×Value)}{d e1:Nat}{s1 s2 s3:Shared}(hl:pairs.length<=15)(ha:RT p w n₀ ann q c 1 (alloc { cls:=.type "dict",data:=.dict #[] }) s s1 d)(he:RT p w n₀ ann q c e1 (evalPairs pairs) s1 s2 vs)
  (hc:Puts p w n₀ ann q c d m s2 vs s3):RT p w n₀ ann q c (1+((e1+(m+0))+0)) (subDict pairs) s s3 d:=by
 unfold subDict;refine RT.bind ha ?_;dsimp only;refine RT.bind (a:=()) (RT.hold _ ?_) RT.pure;rw[R' hl];refine RT.bind he ?_;refine RT.hold _ ?_;refine RT.bind (Puts.for (fun k v=>rfl) hc) RT.pure
theorem acC {x:Str}{px dp pos p':Pos}{ks:List (Option Expr)}{us:List Expr}{env:Env}{vs:List (Value×Value)}{d e1 e2:Nat}{s1 s2 s3 s4:Shared}(hall:ks.all (·.isSome)=true)(hlen:ks.length=us.length)(h0:(pairTrees ks us env dp).length<=15)(hn:pairTrees ks us env dp≠[])
  (ha:RT p w n₀ ann q c 1 (alloc { cls:=.type "dict",data:=.dict #[] }) s s1 d) (he:RT p w n₀ ann q c e1 (evalPairs (pairTrees ks us env dp)) s1 s2 vs) (hc:Puts p w n₀ ann q c d m s2 vs s3)
  (hb:RTP p w n₀ ann q c e2 (do standAt px;bindName env x (.ref d);pure Flow.next) s3 s4 .next p') :
  RTP p w n₀ ann q c (1+((1+((1+((e1+(m+0))+0))+0))+e2)) (exec (.Assign [.Name x px] (.Dict ks us dp) pos) env) s s4 .next p':=by
 rw[exec_Assign_Name env x px _ pos rfl];have at_:∀(ps:Pos)(z:Shared),RT p w n₀ ann q c 1 (standAt ps) z z ():=fun ps z K H gd lv pos=>⟨_,1,C' _,rfl⟩;refine RT.ahI (at_ pos s) (RT.ahI (RT.bind (at_ dp s) ?_) hb);rw[zip_pairTrees ks us env dp hall hlen,dictDisplay_pairs _ hn (by omega)];exact RT.bind (ajc h0 ha he hc) RT.pure
end
abbrev rw:String:="special-get-raises"
theorem kC {P:World->Prop}(h:∀(w:World)(b:Bool),P (w.withFollow rw b))(w:World):P w:=byRow2 (rw) (fun w=>h w false) (fun w=>h w true) w
theorem JL {α:Type}{l:List α}(h:l.isEmpty=false):l≠[]:=fun z=>by subst z;cases h
abbrev stt (H:Params->Heap)(d:Drawn)(k:Nat)(w:World)(os:OsState):Shared:=⟨H w.params,#[],d,k,os⟩
end Hd
namespace L2
open PySem PySem.Spec PyProof.Rows PySem.SeqAt
section
variable {X:Cx}
end
end L2
namespace L2
open PySem PySem.Spec PyProof.Rows
section
variable {X:Cx} {pins:List (Addr×Obj)} {σ:St} {H:Hp} {s:Shared}
theorem Inv.acD {a:Addr}{u u':HO}(I:Inv X pins σ H s)(e:H a=some u)(h1:∀ y,u≠.own y)(h2:∀ xs,u≠.tup xs)(h3:∀ ps,u≠.EA ps)(h4:∀ o v,X.H₀ a≠some (.fe o v))(new:cH X.prog X.w (upd H a u') s.heap a u'):Inv X pins σ (upd H a u') s:=by
 refine⟨I.ok,I.os,I.bare,⟨I.base.keep,I.base.slot,fun b ob eb n hx=>?_,I.base.there,fun b xs q=>?_,fun b ob v q=>?_,fun b ps q=>?_⟩,I.loc,I.cell,?_,fun x c ec=>?_,fun p hp=>?_,fun b v eb=>?_,I.len⟩
 ·have:=I.base.free b ob eb n hx;rw[ax (fun z=>by rw[z,e]at this;cases this)];exact this
 ·have:=I.base.tups b xs q;rw[ax (fun z=>by rw[z,e]at this;exact h2 _ (Za' this))];exact this
 ·have:=I.base.Cc b ob v q;rw[ax (fun z=>by rw[z]at q;exact h4 ob v q)];exact this
 ·obtain⟨m,this⟩:=I.base.ER b ps q;exact⟨m,by rw[ax (fun z=>by rw[z,e]at this;exact h3 _ (Za' this))];exact this⟩
 ·have:=I.free;rw[ax (fun z=>by rw[z,e]at this;cases this)];exact this
 ·have:=I.rA x c ec;rw[ax (fun z=>by rw[z,e]at this;cases this)];exact this
 ·obtain⟨q1,q2,q3⟩:=I.pin p hp;exact⟨q1,by rw[ax (fun z=>by rw[z,e]at q2;cases q2)];exact q2,q3⟩
 ·by_cases hb:b=a
  ·subst hb;rw[af]at eb;cases eb;exact new
  ·rw[ax hb]at eb;refine(I.hok b v eb).stay (fun _ _ _ q=>q) (fun c q=>?_) fun c xs q=>?_
   ·rw[ax (fun z=>by rw[z,e]at q;exact h1 _ (Za' q))];exact q
   ·rw[ax (fun z=>by rw[z,e]at q;exact h2 _ (Za' q))];exact q
theorem Inv.Sr {a:Addr}{o:Obj}{kvs:List (Key×V)}(I:Inv X pins σ H s)(e:H a=some (.fe o (.dK kvs)))(h:∀ o v,X.H₀ a≠some (.fe o v)):Inv X pins σ (upd H a (.dK kvs)) s :=
 I.acD e (fun _ z=>nomatch z) (fun _ z=>nomatch z) (fun _ z=>nomatch z) h (I.hok a _ e).2
theorem Inv.freeze {a:Addr}{o:Obj}{kvs:List (Key×V)}(I:Inv X pins σ H s)(e:H a=some (.dK kvs))(ho:s.heap.get? a=some o):Inv X pins σ (upd H a (.fe o (.dK kvs))) s :=
 I.acD e (fun _ z=>nomatch z) (fun _ z=>nomatch z) (fun _ z=>nomatch z) (fun o v z=>by rw[I.base.Cc a o v z]at e;cases e) ⟨ho,I.hok a _ e⟩
end
def Itv (d:Addr)(o:Obj)(kvs:List (Key×V)):It :=
 ⟨fun i H=>H d=some (.fe o (.dK kvs))/\∃ kv,kvs[i]? = some kv,
  fun i H x H'=>∃ kv t,kvs[i]? = some kv/\x=.ref t/\H t=none/\H'=upd H t (.tup [kV kv.1,kv.2]),
  fun i H=>H d=some (.fe o (.dK kvs))/\kvs.length<=i⟩
theorem anT:∀{kvs:List (Key×V)} {vs:List (Key×Value)},KV kvs vs->∀{i:Nat} {kv:Key×V},kvs[i]? = some kv->∃ u,vs[i]? = some (kv.1,u)/\RelV kv.2 u:=by
 intro kvs vs r;unfold KV at r
 induction r with
 |nil=>intro i kv h;simp at h
 | @cons p q ps qs h0 _ ih =>
  intro i kv h;cases i with
  |zero =>
   have e:p=kv:=by simpa using h
   subst e;exact⟨q.2,by rw[h0.1];rfl,h0.2⟩
  |succ i=>exact ih (by simpa using h)
theorem E6:entryFor table "dict_itemiterator.__iter__" = some Builtin.«dict_keyiterator.__iter__»:=entryFor_alias (id':="dict_keyiterator.__iter__") (by kernel_rfl) rfl (by lk) (by kernel_rfl)
theorem Ss {P:Program}{w:World}{K:Frag}{es:List Expr}{k:Nat}{tp:Pos}(d it:Addr)(o:Obj)(kvs:List (Key×V))(ep:Nat)(he:∃ dt,o.data=.dict dt ep) :
  Turn P w K (.Tuple es k tp) (Itv d o kvs) [it] it (fun i h=>∃ a b,IsItemIter h it d i kvs.length ep a b) where
 mem:=by simp
 obj:=fun i h st b hb=>by
  obtain⟨a,c,e⟩:=st;have:b=it:=by simpa using hb
  subst this;exact⟨_,e,fun v z=>by
   have z':Data.fields _=Data.cell v:=z;cases z'⟩
 keep:=fun i h h' st kp=>by
  obtain⟨a,c,e⟩:=st;exact⟨a,c,kp it (by simp) _ e⟩
 item:=by
  intro X hP hw hK hc i pins s σ H E I hf st hg;subst hP hw hK;obtain⟨hd,kv,hkv⟩:=hg;obtain⟨a,c,hit⟩:=st;obtain⟨ho,z,hsm,vs,rel,dd⟩:=(show cH X.prog X.w H s.heap d (.fe o (.dK kvs)) from I.hok d _ hd);obtain⟨ep',da⟩:=dd.dictAt;obtain⟨dt,hdt⟩:=he;have eep:ep'=ep:=by
   obtain⟨o',es',q1,q2,q3,_⟩:=da;rw[ho]at q1;cases q1;rw[hdt]at q3;cases q3;rfl
  subst eep;have hl:=rel.length;obtain⟨u,hu,ru⟩:=anT rel hkv;rw[hl]at hit;refine wpAny_pyNext_items_item hit da hu fun key h' hkey hout htup hsz kk=>?_;refine⟨_,rfl,wpAny_letOwnedTupleGo_items hout fun h'' ahJ hs''=>?_⟩;have fit:=hf it (by simp);have hTn:H s.heap.objs.size=none:=I.hok.fresh (C' _);have hne:it≠s.heap.objs.size:=Nat.ne_of_lt (T' hit);have I1:Inv X pins σ (upd H s.heap.objs.size (.tup [kV kv.1,kv.2])) { s with heap:=h'',toks:=s.toks }:=by
   refine I.E1 (wr:=[it]) (vals:=[key,u]) (fun b hb=>by rw[mem_singleton.mp hb];exact fit) (C' _) ?_ (.cons (ahF hkey) (.cons ru .nil)) (by show 2<=sizeLine;decide) (fun b ob hb e=>?_) fun b hb=>?_
   ·exact⟨_,(hs''.2 _ (Ne.symm hne)).trans htup,rfl,_,rfl⟩
   ·have hb':b≠it:=fun z=>hb (by simp[z]);exact(hs''.2 b hb').trans (kk b ob hb' e)
   ·rw[mem_singleton.mp hb];exact⟨_,ahJ⟩
  refine⟨.ref s.heap.objs.size,_,I1,rfl,⟨kv,_,hkv,rfl,hTn,rfl⟩,⟨key,u,by rw[hl];exact ahJ⟩,fun b hb=>?_⟩;rw[mem_singleton.mp hb,ax hne];exact fit.1
 done:=by
  intro X hP hw hK hc i pins s σ H E I hf st hg;subst hP hw hK;obtain⟨hd,hi⟩:=hg;obtain⟨a,c,hit⟩:=st;obtain⟨ho,z,hsm,vs,rel,dd⟩:=(show cH X.prog X.w H s.heap d (.fe o (.dK kvs)) from I.hok d _ hd);obtain⟨ep',da⟩:=dd.dictAt;obtain⟨dt,hdt⟩:=he;have eep:ep'=ep:=by
   obtain⟨o',es',q1,q2,q3,_⟩:=da;rw[ho]at q1;cases q1;rw[hdt]at q3;cases q3;rfl
  subst eep;have hl:=rel.length;rw[hl]at hit hi;refine wpAny_pyNext_items_end (I.ok.hd hc) hit da (List.getElem?_eq_none hi) fun h' hx'=>?_;exact⟨rfl,I.jK (tk:=s.toks) hf fun b ob hb q=>hx' b ob (fun z=>hb (by simp[z])) q⟩
 self:=fun A i s Q E st h=>by
  obtain⟨a,c,hit⟩:=st;refine wpAny_pyIter_slot ⟨_,hit,rfl⟩ PySem.F.slot_dict_itemiterator_iter (wpAny_call_entry PySem.F.slot_dict_itemiterator_iter ⟨_,hit,rfl⟩ E6 ?_ (PySem.F.args_dict_itemiterator_iter_1 _));show wpAny _ _ (ret (.ref it)) _ _ s;exact j' ⟨_,rfl,"dict_itemiterator",_,⟨_,hit,rfl⟩,PySem.F.slot_dict_itemiterator_next.lookup,h⟩
section
variable {X:Cx}
inductive Yl (R:(It->Hp->Prop))(x:V)(H1:Hp):Prop
 |mk (d:_) (kvs:_) (vh:x=.ref d) (vi:H1 d=some (.dK kvs)) (EB:∀ o,R (Itv d o kvs) (upd H1 d (.fe o (.dK kvs)))):Yl R x H1
def ajd (td:TE):TI:=fun σ H R=>td σ H fun x H1=>Yl R x H1
theorem mh {o:Expr}{td:TE}{apos cpos tp:Pos}{es:List Expr}{k:Nat}(ho:PE X o td)(hbase:attributeBase o "items" X.env (eval o X.env)=eval o X.env:=by rfl)(hline:(apos.endLine==cpos.line)=true:=by rfl) :
  PI X (.Tuple es k tp) (.Call (.Attribute o "items" apos) [] [] cpos) (ajd td):=by
 intro pins s σ H R I h;refine wpAny_Call_method0_late hbase hline (cJ (ho pins s σ H _ I h) fun v s1 ⟨x,H1,I1,r1,d,kvs,ex,hd,q⟩=>?_);subst ex;cases r1;obtain⟨z,hsm,vs,rel,dd⟩:=Yi I1.hok hd;refine⟨"dict","dict.items",plainAttrs_dict,PySem.F.slot_dict_items,PySem.F.type_dict_items,dd.typeIs,dd.mapOf.noDict,Calls.callWith_builtin rfl (PySem.evalArgs_none ?_)⟩;refine call_meetsIn PySem.F.slot_dict_items dd.typeIs PySem.F.entry_dict_items (PySem.F.args_dict_items_1 _) (meets_dict_items (aW X.prog X.w) d hsm) ⟨⟨vs,dd⟩,?_⟩;obtain⟨ep,da⟩:=dd.dictAt;have up:∀(p:Obj) b ob,s1.heap.get? b=some ob->(s1.heap.push p).get? b=some ob:=fun p b ob e=>J' _ e;refine wpAny_pyIter_items (v:=s1.heap.objs.size) (d:=d) ⟨_,Heap.get?_push_size _ rfl,rfl,rfl⟩ (da.at' fun ob e=>up _ _ _ e) ?_;obtain⟨od,des,hod,hc,hdt,_⟩:=id da;have I2:Inv X pins σ H1 { s1 with heap:=(s1.heap.push { cls:=.type "dict_items",data:=.fields #[.ref d] }).push { cls:=.type "dict_itemiterator",data:=.fields #[.none,.bool false,.ref d,.int 0 0,.int vs.length 0,.int ep 0,.none,.none] } } :=
  I1.kept (t':=s1.toks) fun b ob e=>J' _ (J' _ e)
 have I3:=I2.freeze hd (J' _ (J' _ hod));have hsz:(s1.heap.push { cls:=.type "dict_items",data:=.fields #[.ref d] }).objs.size=s1.heap.objs.size+1:=Heap.size_push ..;refine⟨_,[(s1.heap.push { cls:=.type "dict_items",data:=.fields #[.ref d] }).objs.size],_,_,_,rfl,I3,Ss d _ od kvs ep ⟨des,hdt⟩,⟨.none,.none,?_⟩,fun b hb=>?_,q od⟩
 ·rw[rel.length];exact Heap.get?_push_size _ rfl
 ·have e:b=(s1.heap.push { cls:=.type "dict_items",data:=.fields #[.ref d] }).objs.size:=by simpa using hb
  subst e;have hb1:s1.heap.objs.size<=(s1.heap.push { cls:=.type "dict_items",data:=.fields #[.ref d] }).objs.size:=by rw[hsz];exact Nat.le_succ _
  have hn:=I1.hok.fresh hb1;exact I1.PM hb1 (by rw[ax (fun z=>by rw[z,hd]at hn;cases hn)];exact hn)
def P9 (X:Cx)(R:Hp->Prop)(H:Hp):Prop:=∃ d o kvs,H d=some (.fe o (.dK kvs))/\(∀ o v,X.H₀ d≠some (.fe o v))/\R (upd H d (.dK kvs))
def aje (X:Cx)(te:TE):TE:=fun σ H Q=>te σ H fun v H1=>P9 X (Q v) H1
theorem af4 {e:Expr}{te:TE}(h:PE X e te):PE X e (aje X te):=by
 intro pins s σ H Q I q;refine cJ (h pins s σ H _ I q) fun u s1 ⟨v,H1,I1,r,d,o,kvs,e1,e2,z⟩=>?_;exact⟨v,_,I1.Sr e1 e2,r,z⟩
def Ends.Sr (X:Cx)(D:Ends):Ends:={ nx:=fun σ=>P9 X (D.nx σ),rt:=fun v=>P9 X (D.rt v),bk:=fun σ=>P9 X (D.bk σ),ct:=fun σ=>P9 X (D.ct σ) }
def akW (X:Cx)(t:TS):TS:=fun D σ H=>t (D.Sr X) σ H
theorem uT {st:Stmt}{t:TS}(h:PS X st t):PS X st (akW X t):=by
 intro pins s σ H D I q;refine wpAny_mono (h pins s σ H _ I q) (fun f s1 z=>?_) fun _ _ z=>z;cases f with
 |next=>obtain⟨σ1,H1,I1,d,o,kvs,e1,e2,w⟩:=z;exact⟨σ1,_,I1.Sr e1 e2,w⟩
 |brk=>obtain⟨σ1,H1,I1,d,o,kvs,e1,e2,w⟩:=z;exact⟨σ1,_,I1.Sr e1 e2,w⟩
 |cont=>obtain⟨σ1,H1,I1,d,o,kvs,e1,e2,w⟩:=z;exact⟨σ1,_,I1.Sr e1 e2,w⟩
 |ret u=>obtain⟨v,σ1,H1,I1,r,d,o,kvs,e1,e2,w⟩:=z;exact⟨v,σ1,_,I1.Sr e1 e2,r,w⟩
end
theorem uU {d:Addr}{o:Obj}{kvs:List (Key×V)}{g:TG}{tb:TS}{D:Ends}{σ:St}{H:Hp}(Pv:Nat->St->Hp->Prop)(h0:Pv 0 σ H)(hl:∀ i σ H,Pv i σ H->H d=some (.fe o (.dK kvs)))
  (hs:∀ i kv t σ H,kvs[i]? = some kv->Pv i σ H->H t=none->g (.ref t) σ (upd H t (.tup [kV kv.1,kv.2])) fun σ2 H2=>tb { D with nx:=Pv (i+1),ct:=Pv (i+1),bk:=D.nx } σ2 H2) (hd:∀ σ H,Pv kvs.length σ H->D.nx σ H) :
  ∃ W:Nat->Nat->St->Hp->Prop,(∃ m,W 0 m σ H)/\∀ i m σ H,W i m σ H ->
   ((Itv d o kvs).stop i H/\D.nx σ H)\/((Itv d o kvs).go i H/\∃ N:St->Hp->Prop,(∀ σ' H',N σ' H'->∃ m',m'<m/\W (i+1) m' σ' H')/\∀ x H',(Itv d o kvs).RX i H x H'->g x σ H' fun σ2 H2=>tb { D with nx:=N,ct:=N,bk:=D.nx } σ2 H2):=by
 refine⟨fun i m σ H=>m=kvs.length-i/\i<=kvs.length/\Pv i σ H,⟨kvs.length,by simp,V' _,h0⟩,?_⟩;rintro i m σ H ⟨rfl,hi,p⟩;have q:=hl i σ H p;rcases Nat.lt_or_ge i kvs.length with hlt|hge
 ·refine .inr ⟨⟨q,kvs[i],G' hlt⟩,Pv (i+1),fun σ' H' p'=>⟨_,Nat.sub_lt_sub_left hlt (Nat.lt_succ_self i),rfl,hlt,p'⟩,fun x H' y=>?_⟩;obtain⟨kv,t,e1,rfl,hn,rfl⟩:=y;exact hs i kv t σ H e1 p hn
 ·obtain rfl:i=kvs.length:=Nat.le_antisymm hi hge;exact .inl ⟨⟨q,hge⟩,hd σ H p⟩
theorem vG {d:Addr}{o:Obj}{kvs:List (Key×V)}{g:TG}{tc:TT}{te:TE}{D:Addr}{R:Hp->Prop}{σ:St}{H:Hp}(Pv:Nat->List V->St->Hp->Prop)(h0:Pv 0 [] σ H)(hl:∀ i ys σ H,Pv i ys σ H->H d=some (.fe o (.dK kvs)))
  (hs:∀ i ys kv t σ H,kvs[i]? = some kv->Pv i ys σ H->H t=none->∀ N:List V->St->Hp->Prop,(∀ ys σ H,Pv (i+1) ys σ H->N ys σ H)->JF g tc te D ys (.ref t) σ (upd H t (.tup [kV kv.1,kv.2])) N) (hd:∀ ys σ H,Pv kvs.length ys σ H->R H):Yh (Itv d o kvs) g tc te D R σ H:=by
 refine⟨fun i m ys σ H=>m=kvs.length-i/\i<=kvs.length/\Pv i ys σ H,⟨kvs.length,by simp,V' _,h0⟩,?_⟩;rintro i m ys σ H ⟨rfl,hi,p⟩;have q:=hl i ys σ H p;rcases Nat.lt_or_ge i kvs.length with hlt|hge
 ·refine .inr ⟨⟨q,kvs[i],G' hlt⟩,fun x H' y=>?_⟩;obtain⟨kv,t,e1,rfl,hn,rfl⟩:=y;exact hs i ys kv t σ H e1 p hn (fun ys' σ' H'=>∃ m',m'<kvs.length-i/\m'=kvs.length-(i+1)/\i+1<=kvs.length/\Pv (i+1) ys' σ' H') fun ys' σ' H' z=>⟨_,Nat.sub_lt_sub_left hlt (Nat.lt_succ_self i),rfl,hlt,z⟩
 ·obtain rfl:i=kvs.length:=Nat.le_antisymm hi hge;exact .inl ⟨⟨q,hge⟩,hd ys σ H p⟩
theorem acE {K:Frag}{a:Addr}{xs:List V}{g:TG}{tc:TT}{te:TE}{D:Addr}{R:Hp->Prop}{σ:St}{H:Hp}(Pv:Nat->List V->St->Hp->Prop)(h0:Pv 0 [] σ H)(hl:∀ i ys σ H,Pv i ys σ H->dh K H a xs)
  (hs:∀ i ys x σ H,xs[i]? = some x->Pv i ys σ H->∀ N:List V->St->Hp->Prop,(∀ ys σ H,Pv (i+1) ys σ H->N ys σ H)->JF g tc te D ys x σ H N) (hd:∀ ys σ H,Pv xs.length ys σ H->R H):Yh (Itt K a) g tc te D R σ H:=by
 refine⟨fun i m ys σ H=>m=xs.length-i/\i<=xs.length/\Pv i ys σ H,⟨xs.length,by simp,V' _,h0⟩,?_⟩;rintro i m ys σ H ⟨rfl,hi,p⟩;have q:=hl i ys σ H p;rcases Nat.lt_or_ge i xs.length with hlt|hge
 ·refine .inr ⟨⟨xs,xs[i],q,G' hlt⟩,fun x H' y=>?_⟩;obtain⟨rfl,e1⟩:=y;exact hs i ys x σ _ (e1 xs q) p (fun ys' σ' H'=>∃ m',m'<xs.length-i/\m'=xs.length-(i+1)/\i+1<=xs.length/\Pv (i+1) ys' σ' H') fun ys' σ' H' z=>⟨_,Nat.sub_lt_sub_left hlt (Nat.lt_succ_self i),rfl,hlt,z⟩
 ·obtain rfl:i=xs.length:=Nat.le_antisymm hi hge;exact .inl ⟨⟨xs,q,hge⟩,hd ys σ H p⟩
theorem ahK {X:Cx}{es:List Expr}{t:TA}(h:PA X es t):∀ cs:List (Int×Pos),PA X ((cs.map fun c=>Expr.Constant (.int c.1) 0 c.2)++es) (fun σ H Q=>t σ H fun vs H'=>Q ((cs.map fun c=>V.int c.1)++vs) H')
 |[]=>h
 |c::cs=>aa ai (ahK h cs)
def setIn (s:Stmt)(k:Nat)(f:Stmt->Stmt):Stmt:=match s with
 |.For t i b o p=>.For t i (b.take k++f (b.getD k (.Pass ⟨0,0,0,0⟩))::b.drop (k+1)) o p
 |s=>s
def af5 (v:List Expr)(n:Nat)(s:Stmt):Stmt:=match s with
 |.Assign ts (.Subscript (.List es lp) i sp) ap=>.Assign ts (.Subscript (.List (v++es.drop n) lp) i sp) ap
 |s=>s
end L2
namespace L2
open PySem PySem.Spec PyProof.Rows
theorem Hw.okL {P:Program}{w:World}{K:Frag}{mg:Str->Option Value}{base:Heap}{x qual:Str}{st:Stmt}{f:Addr}{fd:FuncData}{dV:Value}{N ps:List Str}{k:Nat}{sp:Sp}(F:Hw K x qual st f fd dV)(S:aH N ps (ae st))(len:∀ vs H Q E,sp vs H Q E->vs.length=ps.length)
  (hbody:∀(cdv:Value)(A:Around)(outer:List Env)(s:Shared)(H:Hp)(vs:List V)(Q:VK)(E:XK),cdv=fd.code->ma k (A.deeper (envOfC qual (ae st) s.heap.objs.size f cdv))->sp vs H Q E ->
   ∃ t,PJ (PQ ig P w K mg base N qual (ae st) f cdv A outer s H E).nox (ah st) t/\t { nx:=fun _ H'=>Q .non H',rt:=Q } (start N vs) H):bK P w K mg base ig (k+1) f fd ps sp:=by
 obtain⟨oc,od,kV,doc,pm,an,cdv,ct,osl,rfl,lk,hcd⟩:=F.ex;refine aca lk hcd S len fun A outer s H vs Q E hr hsp=>?_;obtain⟨t,h,q⟩:=hbody cdv A outer s H vs Q E rfl hr hsp;exact⟨t,h.nox,q⟩
section
variable {prog:Program} {w:World} {A:Around} {E:Value->Shared->Prop} {s:Shared}
theorem acF {env:Env}{x:Str}{p1 p2 p3:Pos}{j:Nat}{t:Addr}{its:Array Value}{k:Int}{tk:Tok}{m:Str->Option Value}{Q:Value->Shared->Prop}
  (hk:env.scope.kind=.function) (hl:env.kindOf x=some .local) (hn:s.heap.Ns env.locals m) (hm:m x=some (.ref t)) (ht:IsTup s.heap t its) (h0:its[0]? = some (.int k tk)) (hd:(x==("__debug__":Str))=false)
  (h:∀ tk',Q (.int k tk) { s with toks:=tk' }):wpAny (model prog w) A (eval (.Subscript (.Name x p1) (.Constant (.int 0) j p2) p3) env) Q E s:=by
 refine Subscript_ (wpAny_Name (wpAny_loadName_local hk hl hn hm (wpAny_Constant_int ?_)) hd);have hs:0<its.size:=by
  rcases Nat.lt_or_ge 0 its.size with z|z
  ·exact z
  ·rw[Array.getElem?_eq_none z]at h0;cases h0
 exact subscriptTail_builtinR (x:=.int k tk) (IsTup.typeIs (s:={ s with toks:=s.toks+1 }) ht) slot_tuple_getitem.lookup
  (getItem_tuple (j:=0) (Q:=fun r s'=>r=.int k tk/\Q r s') ht (by decide) (by decide) (by unfold seqIndex?;simp[hs]) h0 ⟨rfl,h _⟩)
def lM (x:Str)(pa:Pos):Arguments:={ posonlyargs:=[],args:=[{ arg:=x,annotation:=none,pos:=pa }],vararg:=none,kwonlyargs:=[],kw_defaults:=[],kwarg:=none,defaults:=[] }
def oK (x:Str):Scope:={ kind:=.function,names:=[(x,.local)],isGenerator:=false,isCoroutine:=false }
def qm (x:Str)(p1 p2 p3:Pos):Expr:=.Subscript (.Name x p1) (.Constant (.int 0) 0 p2) p3
theorem acG {x:Str}{pa p1 p2 p3:Pos}{name qual:Str}{pm ctv:Value}{f c' t:Addr}{its:Array Value}{k:Int}{tk:Tok}{Q:Value->Shared->Prop}(hd:(x==("__debug__":Str))=false)
  (hbind:∀(name qual:Str)(pm cv ctv v:Value),bindArgs (kla_fn name qual (lM x pa) (qm x p1 p2 p3) (oK x) [] pm cv ctv) ⟨[v],[]⟩=pure [(x,v)])
  (hf:s.heap.get? f=some (kla_obj name qual (lM x pa) (qm x p1 p2 p3) (oK x) [] pm c' ctv)) (hrec:s.heap.CodeRec (.ref c') qual) (hroom:A.depth<recursionLimit) (hlim:s.heap.NoLimit) (ht:IsTup s.heap t its) (h0:its[0]? = some (.int k tk))
  (h:∀ h' tk',(∀ b o,s.heap.get? b=some o->h'.get? b=some o)->Q (.int k tk) { s with heap:=h',toks:=tk' }):wpAny (model prog w) A (call (.ref f) [.ref t]) Q E s:=by
 refine wpAny_call (PySem.W.kla_callFunE (body:=qm x p1 p2 p3) hroom hf rfl rfl rfl rfl hrec ?_);rw[hbind];refine j' (wpAny_newFunctionEnv ?_ ?_ (fun h₁ hns hsb=>⟨hlim.fresh _ hsb,?_⟩) rfl)
 ·intro y hy;rw[mem_singleton.mp hy];exact fun z=>nomatch z
 ·intro y hy;rw[mem_singleton.mp hy];show List.lookup x [(x,NameKind.local)]=_;simp[List.lookup]
 have old:∀ b o,s.heap.get? b=some o->h₁.get? b=some o:=fun b o e=>hsb.extBut b o (Nat.ne_of_lt (T' e)) (J' _ e);refine PySem.W.kla_codeExpr ?_;refine acF (t:=t) (its:=its) (k:=k) (tk:=tk) rfl ?_ hns ?_ ?_ h0 hd fun tk'=>h h₁ tk' old
 ·show List.lookup x [(x,NameKind.local)]=_;simp[List.lookup]
 ·simp[List.lookup]
 ·obtain⟨o,e,r⟩:=ht;exact⟨o,old _ _ e,r⟩
end
theorem ajf {h:Heap}{a:Addr}{m m':Str->Option Value}(x:h.Ns a m)(y:h.Ns a m'):m=m':=by
 obtain⟨o,es,ep,e1,e2,_,e3⟩:=x;obtain⟨o',es',ep',f1,f2,_,f3⟩:=y;rw[e1]at f1;cases f1;rw[e2]at f2;cases f2
 funext n
 rw[<-e3,<-f3]
def E7 (c:Addr)(q:Str):HO:=.ext fun h=>h.CodeRec (.ref c) q
theorem acH {P:Program}{w:World}{H:Hp}{h:Heap}{c:Addr}{q:Str}(x:h.CodeRec (.ref c) q):cH P w H h c (E7 c q):=by
 refine⟨x,?_,fun h1 h2 y k=>?_⟩
 ·obtain⟨c',o,vs,t,e,e1,_⟩:=x;cases e;exact⟨o,e1⟩
 ·obtain⟨c',o,vs,t,e,e1,r⟩:=y;cases e;exact⟨c,o,vs,t,rfl,k o e1,r⟩
def Ym (P:Addr)(lp:Pos)(q:Str)(H:Hp):Prop:=∃(ps:Array Value)(c:Addr),H P=some (.EA ps)/\TriplesOk ps.toList/\codeAmong lp ps.toList=some (.ref c)/\H c=some (E7 c q)
def acI (P:Addr)(lp:Pos)(H:Hp):Prop:=∃ ps:Array Value,H P=some (.EA ps)/\TriplesOk ps.toList/\codeAmong lp ps.toList=none
def Qa (K:Frag)(mg:Str->Option Value)(cv:Value)(P:Addr):Prop:=∃ c:Addr,cv=.ref c/\(∀ h:Heap,K.In h->CodeHd h c P)/\∃(bm:Addr)(ob:Obj),mg "__builtins__"=some (.ref bm)/\bm≠builtinsNs/\K.lookup bm=some ob/\ob.cls=.type "module"/\ob.dict=some builtinsNs/\ob.data=.plain
section
variable {X:Cx} {pins:List (Addr×Obj)} {σ:St} {H:Hp} {s:Shared} {E:Value->Shared->Prop} {P:Addr} {lp:Pos} {params:Arguments} {body:Expr} {scope:Scope} {Q:Value->Shared->Prop}
theorem acJ (I:Inv X pins σ H s)(hK:Qa X.K X.mg X.env.code P)(hL:Ym P lp (X.env.qual ++ "<lambda>") H\/acI P lp H)(hdef:defaultsOf params X.env=([],[]))(hfree:∀ x∈scope.names,x.2≠.free)
  (h:∀(f c':Addr)(ps ps':Array Value)(ctv pm:Value)(h':Heap)(tk:Nat),H P=some (.EA ps)->(∃ more,ps'=ps++more)->(∀ b o,b≠P->s.heap.get? b=some o->h'.get? b=some o)->h'.get? P=some (tabObj ps')->TriplesOk ps'.toList->codeAmong lp ps'.toList=some (.ref c') ->
   h'.CodeRec (.ref c') (X.env.qual ++ "<lambda>")->(H c'=some (E7 c' (X.env.qual ++ "<lambda>"))\/s.heap.objs.size<=c')->h'.get? f=some (kla_obj "<lambda>" (X.env.qual ++ "<lambda>") params body scope [] pm c' ctv) ->
   Q (.ref f) { s with heap:=h',toks:=tk }):wpAny (model X.prog X.w) X.A (eval (.Lambda params body scope lp) X.env) Q E s:=by
 obtain⟨c,hc,hC,bm,ob,b1,b2,b3,b4,b5,b6⟩:=hK;refine PySem.W.kla_eval hdef ?_;have hg:s.heap.Ns mainGlobals X.mg:=I.mod.glob.keeps I.bk;have C:=hC _ I.Ho;have hcl:=closureFor_none (env:=X.env) hfree;have nP:∀{b:Addr} {o:Obj},X.base.get? b=some o->H P≠none->b≠P:=fun {b o} e n z=>n (z ▸ (I.bs b o e).2);have hbm:=I.mod.kin _ _ b3;have hgm:bm≠mainGlobals:=fun z=>by
  obtain⟨o,es,ep,e,d,_⟩:=I.mod.glob;rw[z,e]at hbm;cases hbm;rw[d]at b6;cases b6
 rcases hL with ⟨ps,c',h1,h2,h3,h4⟩|⟨ps,h1,h2,h3⟩
 ·have hP:s.heap.get? P=some (tabObj ps):=I.hok P _ h1;have hrec:s.heap.CodeRec (.ref c') (X.env.qual ++ "<lambda>"):=(I.hok c' _ h4).1;refine PySem.W.kla_makeFunctionHit (mg:=X.mg) hcl I.ok.glob hg hc C hP h2 h3 ⟨bm,ob,b1,b2,hgm,nP hbm (by rw[h1];exact Option.some_ne_none _),I.bk _ _ hbm,b4,b5,b6⟩ fun ctv h' tk hk hsz=>?_;refine h _ c' ps ps ctv _ _ tk h1 ⟨#[],by simp⟩ (fun b o _ e=>J' _ (hk b o e)) (J' _ (hk _ _ hP)) h2 h3 ?_ (.inl h4) (Heap.get?_push_size _ rfl);obtain⟨d,o,vs,t,e,e1,r⟩:=hrec;exact⟨d,o,vs,t,e,J' _ (hk _ _ e1),r⟩
 ·have hP:s.heap.get? P=some (tabObj ps):=I.hok P _ h1;have gP:mainGlobals≠P:=by
   obtain⟨o,es,ep,e,d,_⟩:=I.mod.glob;exact nP e (by rw[h1];exact Option.some_ne_none _)
  refine PySem.W.kla_makeFunction (mg:=X.mg) hcl I.ok.glob hg hc C hP h2 h3 gP ⟨bm,ob,b1,b2,hgm,nP hbm (by rw[h1];exact Option.some_ne_none _),I.bk _ _ hbm,b4,b5,b6⟩ fun c' ctv h' tk hx hge hlt hrec htb=>?_;have hl:(ps ++ #[rawInt lp.line,rawInt lp.col,Value.ref c']).toList=ps.toList++[rawInt lp.line,rawInt lp.col,.ref c']:=by simp
  refine h _ c' ps _ ctv _ _ tk h1 ⟨_,rfl⟩ (fun b o n e=>J' _ (hx b o n e)) (J' _ htb) (by rw[hl];exact TriplesOk_snoc _ _ _ _ h2) (by rw[hl];exact codeAmong_snoc _ h2 h3) ?_ (.inr hge) (Heap.get?_push_size _ rfl);obtain⟨d,o,vs,t,e,e1,r⟩:=hrec;exact⟨d,o,vs,t,e,J' _ e1,r⟩
end
section
open Att
variable {X:Cx} {P:Addr} {lp:Pos}
def af6 (P:Addr)(lp:Pos)(q:Str)(te:TA):TE:=fun σ H Q=>te σ H fun xs H1=>∃(a:Addr)(vs:List V)(kf:Nat->Int),xs=[.ref a]/\H1 a=some (.lst vs)/\0<vs.length/\(Ym P lp q H1\/acI P lp H1) /\
 (∀ i v,vs[i]? = some v->∃(p:Addr)(r:List V),v=.ref p/\H1 p=some (.tup (.int (kf i)::r))) /\
 ∀ i v H',vs[i]? = some v->(∀ j,j<vs.length->kf i<=kf j/\(j<i->kf i<kf j))->(∀ b o,H1 b=some o->b≠P->H' b=some o)->(∀ b,H' b=none->H1 b=none)->Ym P lp q H'->Q v H'
theorem ZK {e:Expr}{te:TA}{x:Str}{pa p1 p2 p3 p kp pos:Pos}{k:Nat}(hr:ma k X.A)(hg:Gl X "min")(hm:X.mg "min"=none)(hK:Qa X.K X.mg X.env.code P)(he:PA X [e] te)
  (hd:(x==("__debug__":Str))=false) (hbind:∀(name qual:Str)(pm cv ctv v:Value),bindArgs (kla_fn name qual (lM x pa) (qm x p1 p2 p3) (oK x) [] pm cv ctv) ⟨[v],[]⟩=pure [(x,v)])
  (h1:starEach [e] X.env=(false,eval e X.env)::starEach [] X.env:=by rfl) (h2:(backTo pos (starEach [e] X.env)).any (·.1)=false:=by rfl)
  (h3:(backToKw pos (keywordEach [⟨some "key",.Lambda (lM x pa) (qm x p1 p2 p3) (oK x) lp,kp⟩] X.env)).all (·.1.isSome)=true:=by rfl) (h4:(backToKw pos (keywordEach [⟨some "key",.Lambda (lM x pa) (qm x p1 p2 p3) (oK x) lp,kp⟩] X.env)).any (·.1.isNone)=false:=by rfl) :
  PE X (.Call (.Name "min" p) [e] [⟨some "key",.Lambda (lM x pa) (qm x p1 p2 p3) (oK x) lp,kp⟩] pos) (af6 P lp (X.env.qual ++ "<lambda>") te):=by
 intro pins s σ H Q I h;refine wpAny_Call_Name_kw (vB I hg hm boot_min (callWith_builtin_kwB h2 h4 (evalArgs_kw2 h3 (cJ (he pos pins s σ H _ I h) fun us s1 ⟨vs0,H1,I1,r1,a,vs,kf,e1,ha,hne,hL,htup,q⟩=>kwAll_cons ?_) h1)) (by decide) (by decide));subst e1;obtain⟨u,rfl,rfl⟩:=r1.one;refine acJ I1 hK hL rfl (fun y hy=>?_) fun f c' ps ps' ctv pm h' tk hPs hmore old hP' htr hca hrec hc' hf=>kwAll_nil ?_
 ·rw[mem_singleton.mp hy];exact fun z=>nomatch z
 show wpAny (model X.prog X.w) X.A (call (.builtin "min") [.ref a] [(Str.ofString "key",.ref f)]) (EP X pins σ Q) X.xe { s1 with heap:=h',toks:=tk };obtain⟨m,hn,hl⟩:=id I1.loc;have hLn:H1 X.env.locals=none:=I1.free;have LP:X.env.locals≠P:=fun z=>by rw[z,hPs]at hLn;cases hLn
 have hn':h'.Ns X.env.locals m:=by
  obtain⟨o,es,ep,e,r⟩:=hn;exact⟨o,es,ep,old _ _ LP e,r⟩
 have trk:∀{b u},H1 b=some u->b≠X.env.locals:=fun {b u} e z=>by rw[z,hLn]at e;cases e
 have N0:News (zO h') X.env.locals h' (ledger h' X.env.locals X.env.locals):=fun⟨b,o⟩ hp=>by
  obtain⟨n1,_,e⟩:=EX.mp hp;exact⟨e,n1,EW _ _⟩
 have ahL:∀{h'':Heap} {own:List (Addr×Obj)},News (zO h') X.env.locals h'' (ledger h' X.env.locals X.env.locals++own)->∀ b o,b≠X.env.locals->h'.get? b=some o->h''.get? b=some o:=fun {h'' own} N b o n e=>(N (b,o) (mem_append_left _ (EX.mpr ⟨n,n,e⟩))).1;have acK:∀{h'':Heap},News (zO h') X.env.locals h'' (ledger h' X.env.locals X.env.locals)->∀ b o,b≠X.env.locals->h'.get? b=some o->h''.get? b=some o:=fun {h''} N=>ahL (own:=[]) (by rw[append_nil];exact N);obtain⟨hz,its,nn,rv,hit⟩:=I1.hok a _ ha;have aP:a≠P:=fun z=>by rw[z,hPs]at ha;cases ha
 have hlen:=rv.length;have fP:f≠X.env.locals:=fun z=>by
  obtain⟨o,es,ep,e,d,_⟩:=hn';rw[<-z,hf]at e;cases e;cases d
 have cP:c'≠X.env.locals:=fun z=>by
  obtain⟨o,es,ep,e,d,_⟩:=hn';obtain⟨c2,o2,vs2,t2,e2,g2,d2,_⟩:=hrec;cases e2;rw[z,e]at g2;cases g2;rw[d]at d2;cases d2
 have akX:∀{g:Heap},(∀ b o,b≠X.env.locals->h'.get? b=some o->g.get? b=some o)->g.NoLimit:=fun {g} k=>I1.mod.nolimit.keeps fun b o e=>by
  have e1:=I1.bs b o e;refine k b o (fun z=>?_) (old b o (fun z=>?_) e1.1)
  ·exact absurd (U' (T' e) (Nat.le_trans I1.ok.Zm I1.ok.above)) (by rw[z];exact Nat.lt_irrefl _)
  ·rw[z,hPs]at e1;cases e1.2
 refine kmk_min (s:={ s1 with heap:=h',toks:=tk }) (vs:=its) kf hr.hd (aiL hn') N0 (fun g F N=>?_) (by rw[<-hlen];exact hne) (fun i v hv g tk2 own F N=>?_) fun i v g tk2 hv hbest F N=>?_
 ·exact⟨_,acK N _ _ (trk ha) (old _ _ aP hit),rfl,_,rfl⟩
 ·obtain⟨y,hy,ry⟩:∃ y,vs[i]? = some y/\RelV y v:=by
   have hi:i<vs.length:=by rw[hlen];exact(F'.mp hv).1
   obtain⟨u,hu,ru⟩:=rv.get (G' hi);rw[hv]at hu;cases hu;exact⟨_,G' hi,ru⟩
  obtain⟨t,r,rfl,ht⟩:=htup i y hy;obtain rfl:v=.ref t:=ry;obtain⟨_,akY,tr,to,te1,te2⟩:=I1.hok t _ ht;have tP:t≠P:=fun z=>by rw[z,hPs]at ht;cases ht
  obtain⟨z,zr,hzc,rz⟩:∃ z zr,akY=z::zr/\RelV (.int (kf i)) z:=by
   cases tr with
   |cons h _=>exact⟨_,_,rfl,h⟩
  obtain⟨tz,rfl⟩:=rz;have kp:=ahL N;refine acG (s:={ s1 with heap:=g,toks:=tk2 }) (t:=t) (its:=akY.toArray) (k:=kf i) (tk:=tz) hd hbind (kp _ _ fP hf) ?_ ?_ (akX kp) ⟨to,kp _ _ (trk ht) (old _ _ tP te1),te2⟩ (by rw[hzc];rfl) fun g2 tk3 k2=>?_
  ·obtain⟨d,o,vs2,t2,e,e1,r2⟩:=hrec;cases e;exact⟨_,o,vs2,t2,rfl,kp _ _ cP e1,r2⟩
  ·have:=hr.dp;show X.A.depth<recursionLimit;omega
  ·exact⟨g2,tk3,tz,rfl,rfl,⟨F.ns.keeps k2,fun b o e=>k2 b o (F.keep b o e),F.above⟩,fun p hp=>⟨k2 _ _ (N p hp).1,(N p hp).2⟩⟩
 ·obtain⟨y,hy,ry⟩:∃ y,vs[i]? = some y/\RelV y v:=by
   have hi:i<vs.length:=by rw[hlen];exact(F'.mp hv).1
   obtain⟨u,hu,ru⟩:=rv.get (G' hi);rw[hv]at hu;cases hu;exact⟨_,G' hi,ru⟩
  have kp:=acK N;have all:∀ b o,b≠P->b≠X.env.locals->s1.heap.get? b=some o->g.get? b=some o:=fun b o n1 n2 e=>kp b o n2 (old b o n1 e);have hc2:∀{b u},H1 b=some u->(∀ q,u≠E7 c' q)->b≠c':=fun {b u} e n z=>by
   rcases hc' with w1|w1
   ·rw[z,w1]at e;exact n _ (Za' e).symm
   ·rw[z,I1.hok.fresh w1]at e;cases e
  have cPt:c'≠P:=fun z=>by
   rcases hc' with w1|w1
   ·rw[z,hPs]at w1;cases w1
   ·have:=I1.hok.fresh w1;rw[z,hPs]at this;cases this
  obtain⟨more,rfl⟩:=hmore;have hHP:upd (upd H1 P (.EA (ps++more))) c' (E7 c' (X.env.qual ++ "<lambda>")) P=some (.EA (ps++more)):=by rw[ax (Ne.symm cPt),af]
  have JM:∀ b u,H1 b=some u->b≠P->upd (upd H1 P (.EA (ps++more))) c' (E7 c' (X.env.qual ++ "<lambda>")) b=some u:=fun b u e n=>by
   by_cases hb:b=c'
   ·subst hb;rcases hc' with w1|w1
    ·rw[w1]at e;rw[af];exact e
    ·rw[I1.hok.fresh w1]at e;cases e
   ·rw[ax hb,ax n];exact e
  refine⟨y,upd (upd H1 P (.EA (ps++more))) c' (E7 c' (X.env.qual ++ "<lambda>")),?_,ry,q i y _ hy (fun j hj=>hbest j (by rw[<-hlen];exact hj)) JM (fun b hb=>?_) ⟨_,c',hHP,htr,hca,af⟩⟩
  ·refine Inv.step (s:=s1) (h':=g) (t':=tk2) I1 (g':=s1.gens) (d':=s1.drawn) (ch:=[]) (fun _ z=>nomatch z) (fun b o n _ _ e z=>all b o (fun w1=>by rw[w1,hPs]at z;cases z) n e) (fun b o n _ _ e z=>⟨o.slots,all b o (fun w1=>by rw[w1,hPs]at z;cases z) n e⟩) (fun b o _ e z=>?_) (fun b o _ e=>?_)
    (fun b xs e=>JM b _ e fun w1=>by rw[w1,hPs]at e;cases e) (fun b o u e=>JM b _ e fun w1=>by rw[w1,hPs]at e;cases e) (fun b qs e=>?_) (fun m' hm'=>?_) (fun b u e=>?_) I1.bare
   ·rw[ax,ax]
    ·exact z
    ·intro w1;rw[w1,hPs]at z;cases z
    ·intro w1;rcases hc' with w2|w2
     ·rw[w1,w2]at z;cases z
     ·exact absurd (U' (T' e) (w1 ▸ w2)) (Nat.lt_irrefl _)
   ·by_cases b1:b=P
    ·rw[b1];exact⟨_,kp _ _ (Ne.symm LP) hP'⟩
    ·by_cases b2:b=X.env.locals
     ·obtain⟨o',es,ep,e',_⟩:=F.ns;rw[b2];exact⟨o',e'⟩
     ·exact⟨o,all b o b1 b2 e⟩
   ·by_cases b1:b=P
    ·subst b1;rw[hPs]at e;cases e;exact⟨more,hHP⟩
    ·exact⟨#[],by rw[JM b _ e b1];simp⟩
   ·rw[<-ajf hn hm'];exact F.ns
   ·by_cases b1:b=c'
    ·subst b1;rw[af]at e;cases e;obtain⟨d,o,vs2,t2,e0,e1,r2⟩:=hrec;cases e0;exact acH ⟨_,o,vs2,t2,rfl,kp _ _ cP e1,r2⟩
    ·rw[ax b1]at e
     by_cases b2:b=P
     ·subst b2;rw[af]at e;cases e;exact kp _ _ (Ne.symm LP) hP'
     ·rw[ax b2]at e;refine(I1.hok b u e).stay (fun d o hd' e'=>all d o ?_ ?_ e') (fun d e'=>JM d _ e' ?_) fun d xs e'=>JM d _ e' ?_
      ·rcases hd' with rfl|hd'
       ·exact b2
       ·intro w1;rw[w1,hPs]at hd';cases hd'
      ·rcases hd' with rfl|hd'
       ·exact trk e
       ·exact trk hd'
      ·intro w1;rw[w1,hPs]at e';cases e'
      ·intro w1;rw[w1,hPs]at e';cases e'
  ·by_cases b1:b=c'
   ·rw[b1,af]at hb;cases hb
   ·rw[ax b1]at hb
    by_cases b2:b=P
    ·rw[b2,af]at hb;cases hb
    ·rw[ax b2]at hb;exact hb
end
def Yn (P:Addr)(ps:Array Value)(H:Hp):Prop:=H P=some (.EA ps)/\∀ b,b≠P->H b=none\/∃ o xs,H b=some (.fe o (.lst xs))
theorem ZL {P:Program}{w:World}{K:Frag}{mg mb:Str->Option Value}{CX:CXT}{k:Nat}{fa a T:Addr}{ps:Array Value}{fd:FuncData}{x:Str}{sp:Sp}{s₁:Shared}{vs:List Value}{ns:List Int}
  (KX:K.In s₁.heap) (hKT:K.lookup T=none) (hT:s₁.heap.get? T=some (tabObj ps)) (hct:isCodeTable s₁.heap T)
  (hns:s₁.heap.Ns mainGlobals mg) (hb:s₁.heap.Ns builtinsNs mb) (hbb:∀ x:Str,x ≠ "__name__"->mb x=bootBuiltins x) (hlim:s₁.heap.NoLimit) (hg:s₁.gens = #[])
  (ha:s₁.heap.get? a=some { cls:=.type "list",data:=.seq vs.toArray }) (hi:IntsAre vs ns) (hl:ns.length<=sizeLine) (hr:ma k callerA)
  (F:∀ base:Heap,K.In base->base.Ns mainGlobals mg->bK P w K mg base CX k fa fd [x] sp) (hbind:∀(s:Shared)(u:Value),BindsTo s fd ⟨[u],[]⟩ [(x,u)])
  (hsp:∀ H:Hp,Yn T ps H->aX K H a (ns.map V.int)->sp [.ref a] H (fun v _=>v=.bl true) fun _ _ _=>False)
  (hCX:∀ H e s',CX [] H s₁ (fun _ _ _=>False) e s'->False) :
  codeAny (model P w) callerA (.call (.ref fa) ⟨[.ref a],[]⟩) (fun r s'=>r=.ok (.ret (.bool true))/\OldK s₁.heap s'.heap/\s'.os=s₁.os/\AllBare s'.gens) s₁:=by
 have rv:=JB hi;have lenV:=hi.length;have aT:a≠T:=fun z=>by rw[z,hT]at ha;cases ha
 have core:∀ H:Hp,Yn T ps H->aX K H a (ns.map V.int)->vb P w H s₁.heap->(∀ b,H b≠none->b=a\/b=T)->(H a≠none->K.lookup a=none) ->
   codeAny (model P w) callerA (.call (.ref fa) ⟨[.ref a],[]⟩) (fun r s'=>r=.ok (.ret (.bool true))/\OldK s₁.heap s'.heap/\s'.os=s₁.os/\AllBare s'.gens) s₁:=by
  intro H hO hS hok hA hK;have Yo:∀{b:Addr} {o:Obj},s₁.heap.get? b=some o->H b=none->(Kc s₁.heap H).get? b=some o:=fun e n=>abV e n;have noA:∀{b:Addr} {o:Obj} {es:Array DictEntry} {ep:Nat},s₁.heap.get? b=some o->o.data=.dict es ep->H b=none:=fun {b o es ep} e d=>by
   cases q:H b with
   |none=>rfl
   |some u =>
    rcases hA b (by rw[q];simp) with e'|e'
    ·subst e';rw[ha]at e;cases e;have d':Data.seq vs.toArray _=Data.dict es ep:=d;cases d'
    ·subst e';rw[hT]at e;cases e;have d':Data.fields ps=Data.dict es ep:=d;cases d'
  have nsK:∀{b:Addr} {m:Str->Option Value},s₁.heap.Ns b m->(Kc s₁.heap H).Ns b m:=fun {b m} ⟨o,es,ep,e,d,r⟩=>⟨o,es,ep,Yo e (noA e d),d,r⟩;have hKb:K.In (Kc s₁.heap H):=fun b o e=>Yo (KX b o e) (by
   cases q:H b with
   |none=>rfl
   |some u =>
    rcases hA b (by rw[q];simp) with e'|e'
    ·subst e';rw[hK (by rw[q];simp)]at e;cases e
    ·subst e';rw[hKT]at e;cases e)
  have hM:Mod K mg (Kc s₁.heap H):=⟨hKb,nsK hns,⟨mb,nsK hb,hbb⟩,let ⟨mc,h1,h2⟩:=hlim;⟨mc,nsK h1,h2⟩⟩;have e0:afJ P w K mg (Kc s₁.heap H) callerA [] s₁ H:=⟨rfl,hM,fun b o e=>afD e,Nat.le_of_eq (Zl _ _),trivial,fun b hb=>absurd (show b∈([]:List Addr) from hb) (by simp),hok,.of_eq hg⟩;refine codeAny_mono ((F _ hKb (nsK hns)).run callerA [] s₁ H ⟨[.ref a],[]⟩ [.ref a] [.ref a] _ _ hr e0 (hbind s₁ (.ref a)) (.cons rfl .nil) (hsp H hO hS)) fun r s' h=>?_;cases r with
  |error e=>exact(hCX H e s' h).elim
  |ok fl =>
   cases fl with
   |next=>exact False.elim h
   |brk=>exact False.elim h
   |cont=>exact False.elim h
   |ret u =>
    obtain⟨v,H',os,bare,un,hok',r',q⟩:=h;have q':v=.bl true:=q;subst q';obtain rfl:u=Value.bool true:=r';refine⟨rfl,⟨fun b o e=>?_,fun b o e=>un.there b o e (by simp)⟩,os,bare⟩;cases q:H b with
    |none=>exact .inl (un.keep b o e q (by intro z;exact absurd (show b∈([]:List Addr) from z) (by simp)) (by simp))
    |some u =>
     by_cases bT:b=T
     ·subst bT;obtain⟨more,hm⟩:=un.ER _ _ hO.1;have e2:s'.heap.get? b=some { cls:=.none,data:=.fields (ps++more) }:=hok' _ _ hm;rw[hT]at e;cases e;exact .inr (.inl ⟨hct,rfl,ps,more,rfl,e2⟩)
     ·rcases hO.2 b bT with z|⟨ob,xs,z⟩
      ·rw[q]at z;cases z
      ·have z2:=un.Cc b ob _ z;obtain⟨e1,_⟩:=hok b _ z;obtain⟨e2,_⟩:=hok' b _ z2;rw[e]at e1;cases e1;exact .inl e2
 have tOk:∀{H:Hp},cH P w H s₁.heap T (.EA ps):=hT;cases hk:K.lookup a with
 |some o =>
  have e:=KX a o hk;rw[ha]at e;cases e;refine core (upd (fun _=>none) T (.EA ps)) ⟨af,fun b n=>.inl (by rw[ax n])⟩ (.inr ⟨_,vs.toArray,_,hk,rfl,rfl,rfl,by rw[size_toArray,lenV];exact hl,by simpa using rv⟩) (fun b u z=>?_) (fun b z=>?_) fun z=>absurd (by rw[ax aT]) z
  ·by_cases hb:b=T
   ·subst hb;rw[af]at z;cases z;exact tOk
   ·rw[ax hb]at z;cases z
  ·by_cases hb:b=T
   ·exact .inr hb
   ·exact absurd (by rw[ax hb]) z
 |none =>
  have fz:upd (upd (fun _=>none) T (.EA ps)) a (.fe { cls:=.type "list",data:=.seq vs.toArray } (.lst (ns.map V.int))) a=some (.fe { cls:=.type "list",data:=.seq vs.toArray } (.lst (ns.map V.int))):=af;refine core (upd (upd (fun _=>none) T (.EA ps)) a (.fe { cls:=.type "list",data:=.seq vs.toArray } (.lst (ns.map V.int)))) ⟨by rw[ax (Ne.symm aT),af],fun b n=>?_⟩ (.inl (.inr ⟨{ cls:=.type "list",data:=.seq vs.toArray },fz⟩)) (fun b u z=>?_) (fun b z=>?_) fun _=>hk
  ·by_cases hb:b=a
   ·exact .inr ⟨_,_,by rw[hb];exact fz⟩
   ·exact .inl (by rw[ax hb,ax n])
  ·by_cases hb:b=a
   ·subst hb;rw[af]at z;cases z;exact⟨ha,by rw[O'];exact hl,vs,_,rv,ha⟩
   ·rw[ax hb]at z
    by_cases hb2:b=T
    ·subst hb2;rw[af]at z;cases z;exact tOk
    ·rw[ax hb2]at z;cases z
  ·by_cases hb:b=a
   ·exact .inl hb
   ·by_cases hb2:b=T
    ·exact .inr hb2
    ·exact absurd (by rw[ax hb,ax hb2]) z
theorem acL {l:OpenLaw}{n k:Nat}{q:Program}{loose:List Str}{XP:(Str->Option Value)->Heap->Prop}{YP:World->Heap->Prop}{d:DefRec}{K K':Params->Frag}{CX:World->CXT}{sp:World->Sp}{x:Str}{T:Addr}{ps:Array Value}
  (hn:l.most=some n) (hn2:n<=sizeLine) (hdf:d.params.defaults=[]) (hr:ma k callerA)
  (hY:∀(w:World)(h:Heap),YP w h->(K' w.params).In h) (hKK:∀(p:Params) a o,(K p).lookup a=some o->(K' p).lookup a=some o) (hT:∀ p:Params,(K' p).lookup T=some (tabObj ps)) (hKT:∀ p:Params,(K p).lookup T=none)
  (F:∀(w:World)(mg:Str->Option Value)(fa:Addr)(h:Heap),(K w.params).In h->h.Ns mainGlobals mg->mg d.name=some (.ref fa) ->
   ∃ fd:FuncData,(∀(s:Shared)(u:Value),BindsTo s fd ⟨[u],[]⟩ [(x,u)])/\(∃ cv,Qa (K w.params) mg cv T) /\
    ∀ base:Heap,(K w.params).In base->base.Ns mainGlobals mg->bK l.prog w (K w.params) mg base (CX w) k fa fd [x] (sp w))
  (hsp:∀(w:World)(H:Hp)(a:Addr)(ns:List Int),ns.length<=n->Yn T ps H->aX (K w.params) H a (ns.map V.int)->sp w [.ref a] H (fun v _=>v=.bl true) fun _ _ _=>False)
  (hCX:∀(w:World)(H:Hp)(s:Shared)(e:Value)(s':Shared),CX w [] H s (fun _ _ _=>False) e s'->False) :
  WalkO q loose XP YP l.row.toRowW d [] (fun f vs=>PySem.call f vs):=by
 refine Att.PX hn hdf fun w s₀ s₁ mg mb fa o pm cd doc a vs ns G Y ho hd hcd hmg hobj hints hlen hg=>?_;have KX':=hY w _ Y;have KX:(K w.params).In s₁.heap:=fun a o e=>KX' a o (hKK _ a o e);obtain⟨fd,hb,⟨cv,c,_,hC,_⟩,hF⟩:=F w mg fa _ KX G.T.g hmg;obtain⟨oc,vc,_,_,_,_,_,_,_,c1,c2,c3,c4,_⟩:=hC _ KX;exact ZL KX (hKT _) (KX' _ _ (hT _)) ⟨c,oc,vc,c1,c2,c3,c4⟩ G.T.g G.T.b G.T.builtins G.T.nolimit hg hobj hints (Nat.le_trans hlen hn2) hr hF hb (fun H hO hS=>hsp w H a ns hlen hO hS) fun H e s'=>hCX w H s₁ e s'
end L2
namespace L2
open PySem PySem.Spec PyProof.Rows
instance amK (k:Key) (l:List Key):Decidable (k∈l):=@List.instDecidableMemOfLawfulBEq Key instBEqOfDecidableEq inferInstance k l
def KA:List Key->List Key
 |[]=>[]
 |k::t=>if k∈t then KA t else k::KA t
theorem KC:∀(l:List Key),(KA l).length<=l.length
 |[]=>C' _
 |x::t=>by
  unfold KA;have:=KC t;split
  ·exact Nat.le_succ_of_le this
  ·rw[length_cons,length_cons];omega
theorem JN:∀(l:List Key),(KA l).length=l.length ↔ l.Nodup
 |[]=>⟨fun _=>.nil,fun _=>rfl⟩
 |x::t=>by
  unfold KA;have h1:=KC t;have h2:=JN t
  by_cases h:x∈t
  ·rw[R' h];exact⟨fun e=>by rw[length_cons]at e;omega,fun e=>absurd h (List.nodup_cons.mp e).1⟩
  ·rw[L' h,length_cons,length_cons,List.nodup_cons];exact⟨fun e=>⟨h,h2.mp (by omega)⟩,fun e=>by have:=h2.mpr e.2;omega⟩
def E8 (P:Program)(w:World)(h:Heap)(S:Addr)(ks:List Key):Prop:=h.SetOf (aW P w) S (fun k=>decide (k∈ks)) (KA ks).length
section
variable {P:Program} {w:World} {A:Around} {E:Value->Shared->Prop} {s:Shared}
theorem E8.other {h h':Heap}{S:Addr}{ks:List Key}(x:E8 P w h S ks)(k:∀ o,h.get? S=some o->h'.get? S=some o):E8 P w h' S ks:=by
 obtain⟨o,es,ep,t,ho,r⟩:=x;exact⟨o,es,ep,t,k o ho,r⟩
theorem acM {a:Addr}{ks:List Key}{k:Key}{v:Value}{Q:Bool->Shared->Prop}(hk:(aW P w).is k v=true)(hv:v.scannable=true)(hS:E8 P w s.heap a ks)(hroom:ks.length+1<scanBound)
  (h:∀ h' b,Heap.SameBut a s.heap h'->E8 P w h' a (k::ks)->Q b { s with heap:=h' }):wpAny (model P w) A (setAddHashed a v ((aW P w).hash k)) Q E s:=by
 refine wpAny_setAddHashed_of hk hv hS (Nat.lt_of_le_of_lt (Nat.succ_le_succ (KC ks)) hroom) fun h' sb hS'=>h h' _ sb ?_;have e1:(fun k'=>decide (k'∈ks)||decide (k'=k))=fun k'=>decide (k'∈k::ks):=by
  funext k'
  rw[<-Bool.decide_or];exact decide_eq_decide.mpr ⟨fun z=>z.elim (Zb' _) (fun e=>e ▸ mem_cons_self),fun z=>(List.mem_cons.mp z).symm⟩
 have e2:(if(decide (k∈ks))=true then(KA ks).length else(KA ks).length+1)=(KA (k::ks)).length:=by
  show _=(if k∈ks then KA ks else k::KA ks).length
  by_cases z:k∈ks
  ·rw[R' z,R' (W' z)]
  ·rw[L' z,L' (fun y=>z (M' y))];rfl
 rw[e1,e2]at hS';exact hS'
theorem ZM {R:Result->Shared->Prop}{I S:Addr}{fp wr:List Addr}{G:Array GenState->Array GenState->Prop}{n:Nat}{Pv:Nat->Value->Prop}{St':Nat->Shared->Prop}(W:WalksS P w A.in1 I fp wr G n Pv St')(hS:S ∉ fp)(key:Nat->Key)
  (hkey:∀ i v,Pv i v->(aW P w).is (key i) v=true/\v.scannable=true) (hn:n+1<scanBound) :
  ∀(k i:Nat)(s:Shared)(ks:List Key),n-i=k->i<=n->ks=((List.range i).map key).reverse->St' i s->E8 P w s.heap S ks ->
   (∀ s',Moved (S::wr) G s s'->E8 P w s'.heap S (((List.range n).map key).reverse)->R (.ok (.ret .none)) s')->codeAny (model P w) A (.builtin "set.update.loop" ⟨[.ref S,.ref I],[]⟩) R s:=by
 have nS:S ∉ wr:=fun z=>hS (W.sub _ z);have up:∀ b∈wr,b∈S::wr:=fun b z=>Zb' _ z;intro k
 induction k with
 |zero =>
  intro i s ks h1 h2 h3 st sk fin;obtain rfl:i=n:=by omega
  refine codeAny_builtin PyProof.Rows.F.entry_set_update_loop ?_;rw[Around.under_plainId PyProof.Rows.F.plain_set_update_loop];show wpAny (model P w) A.in1 (pyNext (.ref I) >>= _) _ _ s;exact S' (W.done s _ _ st fun s' mv=>j' (fin s' (mv.mono up) (h3 ▸ sk.other fun o e=>mv.heap S o nS e)))
 |succ k ih =>
  intro i s ks h1 h2 h3 st sk fin;have hi:i<n:=by omega
  refine codeAny_builtin PyProof.Rows.F.entry_set_update_loop ?_;rw[Around.under_plainId PyProof.Rows.F.plain_set_update_loop];show wpAny (model P w) A.in1 (pyNext (.ref I) >>= _) _ _ s;refine S' (W.item i s _ _ hi st fun v s' pv st' mv=>?_);obtain⟨hk,hsc⟩:=hkey i v pv;show wpAny (model P w) A.in1 (holding [v] (setAdd S v) >>= _) _ _ s';refine S' (wpAny_holding ?_);unfold setAdd;refine wpAny_holding (S' ((aW P w).pyHash hk ?_));have kl:ks.length=i:=by rw[h3];simp
  refine acM (s:={ s' with toks:=s'.toks+1 }) hk hsc (sk.other fun o e=>mv.heap S o nS e) (by omega) fun h' b sb sk'=>?_;refine j' ⟨plainId_quiet PyProof.Rows.F.plain_set_update_loop _,ih (i+1) _ (key i::ks) (by omega) hi ?_ (W.frame _ s' _ _ st' (Nat.le_succ _) fun c hc o e=>?_) sk' fun s2 mv2 sk2=>?_⟩
  ·rw[h3,List.range_succ,map_append,List.reverse_append];rfl
  ·rw[sb.2 c (fun z:c=S=>hS (z ▸ hc))];exact e
  ·refine fin s2 (Moved.trans W.gtrans ((mv.mono up).then_heap (Nat.le_succ _) fun c o hc e=>?_) mv2) sk2;rw[sb.2 c (fun z:c=S=>hc (z ▸ mem_cons_self))];exact e
end
end L2
namespace PySem
section
open PyProof.Rows (setObjOf_fresh SetOf_congr)
variable {P:Program} {w:World} {A:Around} {E:Value->Shared->Prop} {s:Shared}
open L2 in
theorem ZN {l:Addr}{items:Array Value}{key:Nat->Key}{Q:Value->Shared->Prop}(calm:A.handled=none)(li:s.heap.IsList l items)(hkey:∀ i v,items[i]? = some v->(aW P w).is (key i) v=true/\v.scannable=true)(room:items.size+1<scanBound)
  (h:∀(h':Heap)(tk:Nat),E8 P w h' s.heap.objs.size (((List.range items.size).map key).reverse)->(∀ b o,b<s.heap.objs.size->s.heap.get? b=some o->h'.get? b=some o)->Q (.ref s.heap.objs.size) { s with heap:=h',toks:=tk }) :
  wpAny (model P w) A (call (.type "set") [.ref l]) Q E s:=by
 have made:=F.called_set;obtain⟨c,tl,mro⟩:=made.mro;have m1:=made.made;have m2:=made.sub;have m3:=made.notType;have m4:=made.canCreate;have m5:=F.typeCall_set_1 (.ref l);refine wpAny_call (codeAny_of_tree ?_);show wpAny (model P w) _ (callAny (.type "set") _) _ _ s;refine j' ⟨Code.quiet_builtin _ (by lk),codeAny_builtin F.entry_type_call ?_⟩;rw[Around.under_plain (weight_type_call_type "set" [Value.ref l] []) rfl]
 repeat (any_goals (first|wp_step|assumption))
 refine codeAny_mono (code_set_new_1 (.ref l) (E:=E) (Q₁:=fun o s1=>∃ led:Bool,s1 = { s with heap:=s.heap.push { cls:=.type "set",dict:=none,data:=.set #[] 0 (.fresh 0 0 led) } }/\o=.ref s.heap.objs.size) fun led=>⟨led,rfl,rfl⟩) fun r s1 hr=>?_;cases r with
 |error e=>exact hr
 |ok fl =>
  cases fl with
  |next=>exact hr.elim
  |brk=>exact hr.elim
  |cont=>exact hr.elim
  |ret ob =>
   obtain⟨led,rfl,rfl⟩:=hr;generalize hO:({ cls:=.type "set",dict:=none,data:=.set #[] 0 (.fresh 0 0 led) }:Obj)=O;have hget:(s.heap.push O).get? s.heap.objs.size=some O:=Heap.get?_push_size _ (by rw[<-hO];rfl);have hty:Shared.TypeIs { s with heap:=s.heap.push O } (.ref s.heap.objs.size) "set":=⟨O,hget,by rw[<-hO]⟩;have i1:=made.init.lookup;have i2:=made.init.bind (.ref s.heap.objs.size)
   repeat (any_goals (first|wp_step|assumption))
   refine codeAny_mono (codeAny_call_builtin (R:=wants (fun r s2=>r=.none/\∃ h' tk,s2 = { s with heap:=h',toks:=tk }/\E8 P w h' s.heap.objs.size (((List.range items.size).map key).reverse)/\∀ b o,b<s.heap.objs.size->s.heap.get? b=some o->h'.get? b=some o) E) made.init.plain F.entry_set_init (check_set_init_1 hty ?_)) fun r2 s2 hr2=>?_
   ·subst hO;obtain⟨ol,e1,e2,nl,e3⟩:=li;obtain⟨oc,od,oda,osl⟩:=ol;dsimp only at e2 e3;subst e2 e3;have e4:=J' { cls:=.type "set",dict:=none,data:=.set #[] 0 (.fresh 0 0 led) } e1;have t1:=F.sub_list_set;have t2:=F.sub_list_frozenset;have t3:(Value.type "list" == Value.type "dict")=false:=by decide
    have li1:(s.heap.push { cls:=.type "set",dict:=none,data:=.set #[] 0 (.fresh 0 0 led) }).IsList l items:=⟨_,e4,rfl,nl,rfl⟩;unfold Builtin.«set.__init__» noKeywords Builtin.Frozenset.updateFrom;generalize hIt:pyIter=It
    wp_walk
    subst hIt;refine wpAny_pyIter_list li1 (S' (wpAny_runValue ?_));have lt:l<s.heap.objs.size:=T' e1;have sz:(s.heap.push { cls:=.type "set",dict:=none,data:=.set #[] 0 (.fresh 0 0 led) }).objs.size=s.heap.objs.size+1:=Heap.size_push ..;have ak0:A.in1.in1.in1.handled=none:=by simp[calm]
    have n1:l≠(s.heap.push { cls:=.type "set",dict:=none,data:=.set #[] 0 (.fresh 0 0 led) }).objs.size:=by rw[sz];exact Nat.ne_of_lt (Nat.lt_succ_of_lt lt)
    have n2:s.heap.objs.size ∉ [(s.heap.push { cls:=.type "set",dict:=none,data:=.set #[] 0 (.fresh 0 0 led) }).objs.size,l]:=by
     rw[sz];simp only [List.mem_cons,List.not_mem_nil,or_false,not_or];exact⟨Nat.ne_of_lt (Nat.lt_succ_self _),Nat.ne_of_gt lt⟩
    refine ZM (A:=A.in1.in1) (Walks.list ak0 _ l n1 items).toS n2 key hkey room (items.size-0) 0 _ [] (by omega) (V' _) rfl ⟨⟨_,Heap.get?_push_size _ rfl,rfl,rfl⟩,li1.push _⟩ ?_ fun s' mv sk=>?_
    ·have hg2:=J' { cls:=.type "list_iterator",data:=.fields #[.ref l,.int 0 0] } hget;exact⟨_,#[],0,_,hg2,⟨rfl,rfl,rfl⟩,rfl,fun e he=>by simp at he,fun k=>by simp,by decide,by rfl,rfl⟩
    ·obtain⟨h',g',d',tk',os'⟩:=s';cases (show g'=s.gens from mv.gens);cases (show d'=s.drawn from mv.drawn);cases (show os'=s.os from mv.os);show wpAny (model P w) _ _ _ _ _;refine j' ?_;show wpAny (model P w) _ (ret Value.none) _ _ _;refine j' ⟨rfl,h',tk',rfl,sk,fun b o hb e=>mv.heap b o ?_ (J' _ (J' _ e))⟩;rw[sz];simp only [List.mem_cons,List.not_mem_nil,or_false,not_or];exact⟨Nat.ne_of_lt hb,Nat.ne_of_lt (Nat.lt_succ_of_lt hb)⟩
   ·cases r2 with
    |error e=>exact hr2
    |ok f2 =>
     cases f2 with
     |next=>exact hr2.elim
     |brk=>exact hr2.elim
     |cont=>exact hr2.elim
     |ret r =>
      obtain⟨rfl,h',tk,rfl,k1,k2⟩:=hr2
      repeat (any_goals (first|wp_step|assumption))
      exact h h' tk k1 k2
end
end PySem
namespace L2
open PySem PySem.Spec PyProof.Rows
section
variable {X:Cx}
def af7 (P:Program)(w:World)(a:Addr)(ks:List Key):HO:=.ext fun h=>E8 P w h a ks
theorem af8 {P:Program}{w:World}{H:Hp}{h:Heap}{a:Addr}{ks:List Key}(x:E8 P w h a ks):cH P w H h a (af7 P w a ks):=by
 refine⟨x,?_,fun h1 h2 y k=>y.other k⟩;obtain⟨o,es,ep,t,ho,_⟩:=x;exact⟨o,ho⟩
theorem ZO {P:Program}{w:World}{x:Str}{v:Value}(h:RelV (.str x) v):(aW P w).is (Sum.inr x) v=true/\v.scannable=true:=by
 obtain⟨t,rfl⟩:=h;exact⟨by show Value.isStrOf x (.str x t)=true;simp[Value.isStrOf],rfl⟩
theorem ZP (hc:X.calm=true):gU X (.type "set") (fun xs H Q=>∃(p:Addr)(ns:List Str),xs=[.ref p]/\aX X.K H p (ns.map V.str)/\ns.length<=900/\∀ a,H a=none->Q (.ref a) (upd H a (af7 X.prog X.w a ((ns.map Sum.inr).reverse)))):=by
 intro pins s σ H xs us Q I r h;obtain⟨p,ns,rfl,hp,hn,q⟩:=h;obtain⟨u,rfl,rx⟩:=vals1 r;cases rx;obtain⟨its,ri,pl,_⟩:=I.list hp;have ajg:its.length=ns.length:=by have:=ri.length;rw[O']at this;exact this.symm
 have at_:∀ i v,its.toArray[i]? = some v->(aW X.prog X.w).is ((fun i=>Sum.inr (ns.getD i Str.empty)) i) v=true/\v.scannable=true:=fun i v e=>by
  have e':its[i]? = some v:=by simpa using e
  have hi:i<ns.length:=by rw[<-ajg];exact(F'.mp e').1
  obtain⟨y,hy,ry⟩:∃ y,(ns.map V.str)[i]? = some y/\RelV y v:=by
   obtain⟨u,hu,ru⟩:=ri.get (show(ns.map V.str)[i]? = some (.str ns[i]) by rw[getElem?_map,G' hi];rfl);rw[e']at hu;cases hu;exact⟨_,by rw[getElem?_map,G' hi];rfl,ru⟩
  rw[getElem?_map,G' hi]at hy;cases hy;have:ns.getD i Str.empty=ns[i]:=by rw[X',G' hi];rfl
  show(aW X.prog X.w).is (Sum.inr (ns.getD i Str.empty)) v=true/\_;rw[this];exact ZO ry
 refine ZN (key:=fun i=>Sum.inr (ns.getD i Str.empty)) (I.ok.hd hc) pl.isList at_ (by rw[size_toArray,ajg];exact Nat.lt_of_le_of_lt (Nat.succ_le_succ hn) (by decide)) fun h' tk sk keep=>?_;have hsz:H s.heap.objs.size=none:=I.hok.fresh (C' _);have ek:((List.range its.toArray.size).map fun i=>(Sum.inr (ns.getD i Str.empty):Key))=ns.map Sum.inr:=by
  rw[size_toArray,ajg];refine List.ext_getElem? fun i=>?_;rw[getElem?_map,getElem?_map]
  by_cases hi:i<ns.length
  ·rw[List.getElem?_range hi,G' hi];show some (Sum.inr (ns.getD i Str.empty))=some (Sum.inr ns[i]);rw[X',G' hi];rfl
  ·rw[List.getElem?_eq_none (by simp;omega),List.getElem?_eq_none (by omega)];rfl
 rw[ek]at sk;have old:∀ b o,s.heap.get? b=some o->h'.get? b=some o:=fun b o e=>keep b o (T' e) e;exact⟨.ref s.heap.objs.size,_,I.un (Un.laid old (C' _) hsz) (I.hok.laid old (C' _) (af8 sk)),rfl,q _ hsz⟩
theorem ZQ:gU X (.builtin "len") (fun xs H Q=>∃(a:Addr)(ks:List Key),xs=[.ref a]/\H a=some (af7 X.prog X.w a ks)/\ks.length<=900/\Q (.int ((KA ks).length:Nat)) H):=by
 intro pins s σ H xs us Q I r h;obtain⟨a,ks,rfl,ha,hk,q⟩:=h;obtain⟨u,rfl,rx⟩:=vals1 r;cases rx;obtain⟨o,es,ep,t,ho,hex,hd,_,_,hb,hf,hn⟩:=(I.hok a _ ha).1;have hl:(KA ks).length<=900:=Nat.le_trans (KC ks) hk;have hl2:(((KA ks).length:Nat):Int)<2 ^ 63:=Int.lt_of_le_of_lt (show(((KA ks).length:Nat):Int)<=900 by omega) (by decide);refine call_len_set ho hex hd hf (by rw[hn];exact hl2) ?_;rw[hn];exact⟨.int ((KA ks).length:Nat),H,(I.tok _).tok _,⟨_,rfl⟩,q⟩
end
end L2
set_option maxHeartbeats 1000000
namespace mi
open PySem L2
inductive Kd where
 |G|D|R|s|d|r|dot|three|two
 deriving DecidableEq,Repr
def Kd.str:Kd->Str
 |.G=>"G" | .D=>"D" | .R=>"R" | .s=>"s" | .d=>"d" | .r=>"r" | .dot=>"." | .three=>"3" | .two=>"2"
def Kd.cp:Kd->Nat
 |.G=>71|.D=>68|.R=>82|.s=>115|.d=>100|.r=>114|.dot=>46|.three=>51|.two=>50
def Kd.great:Kd->Bool
 |.G=>true|.D=>true|.R=>true|_=>false
def Kd.small:Kd->Bool
 |.s=>true|.d=>true|.r=>true|_=>false
def Kd.parting:Kd->Bool
 |.dot=>true|.three=>true|.two=>true|_=>false
def Kd.meas:Kd->Bool
 |.three=>true|.two=>true|_=>false
def Kd.kQ:Kd->Bool
 |.G=>true|.D=>true|.s=>true|.d=>true|_=>false
abbrev Sg:=Kd×Int
def vd (x y:Str):Bool:=!(Builtin.Str.occurrences y x 0 y.length 1).isEmpty
theorem ak1 (k:Kd):k.str=⟨#[k.cp]⟩:=by cases k <;> decide +kernel
theorem str_inj {a b:Kd}:a.str=b.str ↔ a=b:=by
 constructor
 ·revert a b
  have:∀ a b:Kd,a.str=b.str->a=b:=by
   intro a b;cases a <;> cases b <;> first|(intro _;rfl)|(intro h;exact absurd h (by lk))
  exact fun {a b}=>this a b
 ·exact fun h=>by rw[h]
theorem anY (a b:Str):decide (V.str a=V.str b)=decide (a=b):=by
 by_cases h:a=b
 ·rw[h];simp
 ·rw[i' h];exact i' fun e=>h (V.str.inj e)
theorem ZR (a b:Kd):decide (V.str a.str=V.str b.str)=decide (a=b):=by
 rw[anY];exact decide_eq_decide.mpr str_inj
theorem k_G (k:Kd):decide (V.str k.str=V.str "G")=decide (k=.G):=ZR k .G
theorem k_D (k:Kd):decide (V.str k.str=V.str "D")=decide (k=.D):=ZR k .D
theorem k_s (k:Kd):decide (V.str k.str=V.str "s")=decide (k=.s):=ZR k .s
theorem ahM (k:Kd):decide (V.str k.str=V.str ".")=decide (k=.dot):=ZR k .dot
theorem Yp (k:Kd):decide (V.str k.str=V.str "3")=decide (k=.three):=ZR k .three
theorem ahN (k:Kd):decide (V.str k.str=V.str "2")=decide (k=.two):=ZR k .two
def ZS (H:Hp)(v:V)(s:Sg):Prop:=∃ p,v=.ref p/\H p=some (.tup [.str s.1.str,.int s.2])
theorem ZS.same {H H':Hp}{v:V}{s:Sg}(e:az H H')(h:ZS H v s):ZS H' v s:=by
 obtain⟨p,rfl,q⟩:=h;exact⟨p,rfl,e _ _ q⟩
abbrev ZT (H:Hp):List V->List Sg->Prop:=Paired (ZS H)
theorem ZT.same {H H':Hp}(e:az H H'):∀{xs:List V} {ss:List Sg},ZT H xs ss->ZT H' xs ss
 |_,_,.nil=>.nil
 |_,_,.cons a b=>.cons (a.same e) (ZT.same e b)
theorem gL {α β:Type}{F:α->β->Prop}:∀{xs:List α} {ys:List β} {i:Nat} {x:α},Paired F xs ys->xs[i]? = some x->∃ y,ys[i]? = some y/\F x y
 |_,_,_,_,.nil,e=>by simp at e
 |_,_,0,_,.cons r _,e=>by simp at e;subst e;exact⟨_,rfl,r⟩
 |_,_,i+1,x,.cons _ t,e=>by
  obtain⟨u,h1,h2⟩:=gL (i:=i) (x:=x) t (by simpa using e);exact⟨u,by simpa using h1,h2⟩
theorem ahO {α β:Type}{F:α->β->Prop}:∀{xs:List α} {ys:List β} {i:Nat} {y:β},Paired F xs ys->ys[i]? = some y->∃ x,xs[i]? = some x/\F x y
 |_,_,_,_,.nil,e=>by simp at e
 |_,_,0,_,.cons r _,e=>by simp at e;subst e;exact⟨_,rfl,r⟩
 |_,_,i+1,x,.cons _ t,e=>by
  obtain⟨u,h1,h2⟩:=ahO (i:=i) t (by simpa using e);exact⟨u,by simpa using h1,h2⟩
theorem cO {α β:Type}{F:α->β->Prop}{xs:List α}{ys:List β}(h:Paired F xs ys):xs.length=ys.length:=Paired.length h
theorem lE {α β:Type}{F:α->β->Prop}:∀{xs:List α} {ys:List β} {x:α} {y:β},Paired F xs ys->F x y->Paired F (xs++[x]) (ys++[y])
 |_,_,_,_,.nil,h=>.cons h .nil
 |_,_,_,_,.cons a b,h=>.cons a (lE b h)
theorem ak2 {α β:Type}{F:α->β->Prop}:∀{xs:List α} {ys:List β} {xs':List α} {ys':List β},Paired F xs ys->Paired F xs' ys'->Paired F (xs++xs') (ys++ys')
 |_,_,_,_,.nil,h=>h
 |_,_,_,_,.cons a b,h=>.cons a (ak2 b h)
theorem ahP {α β:Type}{F:α->β->Prop}:∀{xs:List α} {ys:List β} (n:Nat),Paired F xs ys->Paired F (xs.drop n) (ys.drop n)
 |_,_,0,h=>h
 |_,_,n+1,.nil=>.nil
 |_,_,n+1,.cons a b=>ahP n b
theorem acN {α β:Type}{F:α->β->Prop}:∀{xs:List α} {ys:List β} (n:Nat),Paired F xs ys->Paired F (xs.take n) (ys.take n)
 |_,_,0,h=>.nil
 |_,_,n+1,.nil=>.nil
 |_,_,n+1,.cons a b=>.cons a (acN n b)
theorem bC {α β:Type}{F G:α->β->Prop}(h:∀ x y,F x y->G x y):∀{xs:List α} {ys:List β},Paired F xs ys->Paired G xs ys
 |_,_,.nil=>.nil
 |_,_,.cons a b=>.cons (h _ _ a) (bC h b)
theorem cK {H0 H:Hp}{l:Addr}{o:HO}(s:az H0 H)(hl:H0 l=none):az H0 (upd H l o):=fun b u e=>by
 rw[ax (aN e hl)];exact s b u e
theorem ahQ {H:Hp}{D:Addr}{o:HO}{zs:List V}{v:V}{s:Sg}(hD:H D=some (.lst zs))(h:ZS H v s):ZS (upd H D o) v s:=by
 obtain⟨p,e,q⟩:=h;exact⟨p,e,by rw[ax (X4 q hD (by intro z;cases z))];exact q⟩
theorem ajh {H:Hp}{D:Addr}{o:HO}{zs:List V}{xs:List V}{ss:List Sg}(hD:H D=some (.lst zs))(h:ZT H xs ss):ZT (upd H D o) xs ss:=bC (fun _ _ q=>ahQ hD q) h
theorem acO {ms:List Int}{i:Nat}{x:V}(h:(ms.map V.int)[i]? = some x):∃ z,ms[i]? = some z/\x=V.int z:=by
 rw[getElem?_map]at h;cases e:ms[i]? with
 |none=>rw[e]at h;cases h
 |some z=>rw[e]at h;exact⟨z,rfl,(Za' h).symm⟩
section
variable {K:Frag} {H:Hp} {p:Addr} {Q:VK}
theorem ix0 {a b:V}(h:H p=some (.tup [a,b]))(q:Q a H):Hr K (.ref p) (.int 0) H Q\/Hs K (.ref p) (.int 0) H Q\/Ht (.ref p) (.int 0) H Q:=.inr (.inl ⟨p,_,0,a,rfl,rfl,dh.of h,rfl,q⟩)
theorem ix1 {a b:V}(h:H p=some (.tup [a,b]))(q:Q b H):Hr K (.ref p) (.int 1) H Q\/Hs K (.ref p) (.int 1) H Q\/Ht (.ref p) (.int 1) H Q:=.inr (.inl ⟨p,_,1,b,rfl,rfl,dh.of h,rfl,q⟩)
theorem Su {xs:List V}{i:Int}{n:Nat}{v:V}(h:aX K H p xs)(hn:i=n)(e:xs[n]? = some v)(q:Q v H):Hr K (.ref p) (.int i) H Q\/Hs K (.ref p) (.int i) H Q\/Ht (.ref p) (.int i) H Q:=.inl ⟨p,xs,i,v,rfl,rfl,h,by rw[hn];exact xq e,q⟩
theorem an0 {ns:List Int}{i:Int}{n:Nat}{z:Int}(h:aX K H p (ns.map V.int))(hn:i=n)(e:ns[n]? = some z)(q:Q (.int z) H):Hr K (.ref p) (.int i) H Q\/Hs K (.ref p) (.int i) H Q\/Ht (.ref p) (.int i) H Q :=
 Su h hn (by rw[getElem?_map,e];rfl) q
end
def nm (m:Int):Kd->Int
 |.three=>3
 |.two=>2
 |_=>m
def Ms (m:Int):Prop:=m=3\/m=2
theorem Ms.nm {m:Int}(h:Ms m)(k:Kd):Ms (nm m k):=by
 cases k <;> first|exact h|exact .inl rfl|exact .inr rfl
def pw:Kd->Int->Int
 |.G,m=>if m=2 then 2 else 3
 |.R,m=>if m=2 then 2 else 3
 |.D,_=>2
 |.s,_=>1
 |.d,_=>1
 |.r,_=>1
 |_,_=>0
def bw (m:Int)(k:Kd)(n:Option Kd):Int:=if m=2/\k=.G/\n=some .dot then 3 else pw k m
def i0 (m:Int):List Kd->List Int
 |[]=>[]
 |k::t=>bw (nm m k) k t.head? :: i0 (nm m k) t
theorem zS (m:Int)(ks:List Kd):(i0 m ks).length=ks.length:=by
 induction ks generalizing m with
 |nil=>rfl
 |cons k t ih=>simp[i0,ih]
def inR (m:Int)(k:Kd):Bool:=decide (m≠2)&&k.small
def jB (m:Int):List Kd->List Bool
 |[]=>[]
 |k::t=>inR (nm m k) k::jB (nm m k) t
theorem sI (m:Int)(ks:List Kd):(jB m ks).length=ks.length:=by
 induction ks generalizing m with
 |nil=>rfl
 |cons k t ih=>simp[jB,ih]
def dE (at' first:Nat):List Bool->List (Nat×Nat)
 |[]=>if first<at' then [(first,at')] else []
 |true::t=>dE (at'+1) first t
 |false::t=>(if first<at' then [(first,at')] else [])++dE (at'+1) (at'+1) t
def E9 (m:Int)(ks:List Kd):List (Nat×Nat):=dE 0 0 (jB m ks)
def kAt (ks:List Kd)(i:Int):Option Kd:=if 0<=i then ks[i.toNat]? else none
theorem af9 (ks:List Kd)(n:Nat):kAt ks (n:Int)=ks[n]?:=by
 unfold kAt;rw[R' (by omega)];rfl
def qo:Option Kd->Bool
 |some k=>k.great
 |none=>false
def lF (ks:List Kd)(f:List Int)(a:Nat):Bool:=decide (kAt ks ((a:Int)-1)=some .G)&&decide (f.getD (a-1) 0=3)
def i3 (ks:List Kd)(z:Nat):Bool:=decide (ks[z]? = some .G) && !qo ks[z+1]?
def EF (ks:List Kd)(f:List Int)(a z:Nat):Bool×List Int:=if lF ks f a then(true,f.set (a-1) 2) else if i3 ks z then(true,f.set z 2) else(false,f)
def EG (ks:List Kd)(f:List Int)(a z:Nat):Bool×List Int:=if qo ks[z]? && decide (ks[z-1]? = some .s) then(true,f.set (z-1) 2) else if lF ks f a&&i3 ks z then(true,(f.set (a-1) 2).set z 2) else(false,f)
def settle (ks:List Kd)(f:List Int)(a z:Nat):Bool×List Int:=if(z-a) % 3=1 then EF ks f a z else if(z-a) % 3=2 then EG ks f a z else(true,f)
theorem Fb (ks:List Kd)(f:List Int)(a z:Nat):(settle ks f a z).2.length=f.length:=by
 unfold settle EF EG
 repeat' split
 all_goals simp
abbrev RdS:=List Int×List (Nat×Nat)
def kR (ks:List Kd)(c:RdS)(p:Nat×Nat):RdS:=((settle ks c.1 p.1 p.2).2,if(settle ks c.1 p.1 p.2).1 then c.2 else c.2++[p])
def kD (m:Int)(ks:List Kd):RdS:=(E9 m ks).foldl (kR ks) (i0 m ks,[])
theorem acP (ks:List Kd)(rs:List (Nat×Nat))(c:RdS):(rs.foldl (kR ks) c).1.length=c.1.length:=by
 induction rs generalizing c with
 |nil=>rfl
 |cons p t ih=>rw[List.foldl_cons,ih];exact Fb ..
theorem ZU (m:Int)(ks:List Kd):(kD m ks).1.length=ks.length:=by
 unfold kD;rw[acP,zS]
theorem Fc:∀(bs:List Bool)(at' first:Nat),first<=at'->∀ p∈dE at' first bs,first<=p.1/\p.1<p.2/\p.2<=at'+bs.length
 |[],at',first,h,p,hp=>by
  unfold dE at hp;split at hp
  ·have:p=(first,at'):=by simpa using hp
   subst this;exact⟨C' _,by assumption,by simp⟩
  ·cases hp
 |true::t,at',first,h,p,hp=>by
  have:=Fc t (at'+1) first (by omega) p hp
  simp only [length_cons];omega
 |false::t,at',first,h,p,hp=>by
  unfold dE at hp;simp only [length_cons];rcases mem_append.mp hp with hp|hp
  ·split at hp
   ·have:p=(first,at'):=by simpa using hp
    subst this;exact⟨C' _,by assumption,by simp⟩
   ·cases hp
  ·have:=Fc t (at'+1) (at'+1) (C' _) p hp;omega
theorem acQ (m:Int)(ks:List Kd):∀ p∈E9 m ks,p.1<p.2/\p.2<=ks.length:=by
 intro p hp;have:=Fc (jB m ks) 0 0 (C' _) p hp;rw[sI]at this;omega
theorem sJ:∀(bs:List Bool)(at' first:Nat),(dE at' first bs).length<=bs.length+1
 |[],at',first=>by unfold dE;split <;> simp
 |true::t,at',first=>by
  unfold dE;have:=sJ t (at'+1) first
  simp only [length_cons];omega
 |false::t,at',first=>by
  unfold dE;have:=sJ t (at'+1) (at'+1);simp only [length_cons,length_append];split <;> simp <;> omega
def ZV (H:Hp)(v:V)(q:Nat×Nat):Prop:=∃ p,v=.ref p/\H p=some (.tup [.int (q.1:Int),.int (q.2:Int)])
abbrev Prs (H:Hp):List V->List (Nat×Nat)->Prop:=Paired (ZV H)
theorem ZV.same {H H':Hp}{v:V}{q:Nat×Nat}(e:az H H')(h:ZV H v q):ZV H' v q:=by
 obtain⟨p,rfl,z⟩:=h;exact⟨p,rfl,e _ _ z⟩
theorem KG {H H':Hp}(e:az H H'){xs:List V}{qs:List (Nat×Nat)}(h:Prs H xs qs):Prs H' xs qs:=bC (fun _ _ z=>z.same e) h
theorem ahS {H:Hp}{D:Addr}{o:HO}{zs:List V}{v:V}{q:Nat×Nat}(hD:H D=some (.lst zs))(h:ZV H v q):ZV (upd H D o) v q:=by
 obtain⟨p,e,z⟩:=h;exact⟨p,e,by rw[ax (X4 z hD (by intro z;cases z))];exact z⟩
theorem Sv {H:Hp}{D:Addr}{o:HO}{zs:List V}{xs:List V}{qs:List (Nat×Nat)}(hD:H D=some (.lst zs))(h:Prs H xs qs):Prs (upd H D o) xs qs:=bC (fun _ _ q=>ahS hD q) h
theorem acR {H:Hp}{a:Addr}{o:HO}(h:H a=some o):upd H a o=H:=by
 funext b
 unfold upd;split
 ·rename_i e;rw[e,h]
 ·rfl
theorem ZW {ks:List Kd}{f:List Int}{a:Nat}(h:lF ks f a=true):1<=a/\a-1<ks.length:=by
 unfold lF at h;have h1:=M' (Bool.and_eq_true_iff.mp h).1;unfold kAt at h1;split at h1
 ·have:=(F'.mp h1).1;omega
 ·cases h1
theorem Sw {ks:List Kd}{z:Nat}(h:i3 ks z=true):z<ks.length:=by
 unfold i3 at h;have h1:=M' (Bool.and_eq_true_iff.mp h).1;exact(F'.mp h1).1
theorem KH {n:Nat}{i:Int}{j:Nat}(e:i=j)(h:j<n):ixN n i=some j:=by
 unfold ixN;subst e;rw[R' (by omega),R' (by omega)];rfl
theorem xE {α:Type}{l:List α}{i:Nat}{x:α}(h:l[i]? = some x):l.drop i=x::l.drop (i+1):=by
 obtain⟨hi,e⟩:=F'.mp h;rw[List.drop_eq_getElem_cons hi,e]
theorem Fd {α β:Type}{l:List α}{f:α->β}{i:Nat}{x:α}(h:l[i]? = some x):(l.map f)[i]? = some (f x):=by rw[getElem?_map,h];rfl
abbrev dw (ss:List Sg):List Kd:=ss.map Prod.fst
theorem KJ {fs:List Int}{j:Nat}{v:Int}:(fs.map V.int).set j (V.int v)=(fs.set j v).map V.int:=by rw[List.map_set]
theorem big {n:Nat}(h:n<=1000):n<=sizeLine:=Nat.le_of_lt (aS h)
theorem head_drop {α:Type}(l:List α)(i:Nat):(l.drop i).head? = l[i]?:=by
 rw[List.head?_drop]
def ix (m:Int):List Kd->List Bool
 |[]=>[]
 |k::t=>decide (nm m k=3)::ix (nm m k) t
theorem Sx (m:Int)(ks:List Kd):(ix m ks).length=ks.length:=by
 induction ks generalizing m with
 |nil=>rfl
 |cons k t ih=>simp[ix,ih]
def lead:List Bool->Nat
 |true::t=>lead t+1
 |_=>0
theorem Yq:∀ bs:List Bool,lead bs<=bs.length
 |[]=>C' _
 |true::t=>by simp only [lead,length_cons];have:=Yq t;omega
 |false::t=>V' _
theorem Fe:∀(bs:List Bool)(at' first:Nat),first<at'+lead bs\/lead bs=0->first<=at'->dE at' first bs=(if first<at'+lead bs then [(first,at'+lead bs)] else [])++dE (at'+lead bs) (at'+lead bs) (bs.drop (lead bs))
 |[],at',first,_,h=>by
  show(if first<at' then [(first,at')] else [])=(if first<at' then [(first,at')] else [])++dE at' at' [];rw[show dE at' at' []=[] by unfold dE;rw[L' (Nat.lt_irrefl _)],append_nil]
 |true::t,at',first,h0,h=>by
  have ih:=Fe t (at'+1) first (.inl (by omega)) (by omega)
  have e:at'+1+lead t=at'+(lead t+1):=by omega
  rw[e]at ih;simp only [dE,lead,List.drop_succ_cons];exact ih
 |false::t,at',first,_,h=>by
  show(if first<at' then [(first,at')] else [])++dE (at'+1) (at'+1) t=(if first<at' then [(first,at')] else [])++((if at'<at' then [(at',at')] else [])++dE (at'+1) (at'+1) t);rw[L' (Nat.lt_irrefl at'),nil_append]
theorem Yr {m:Int}(h:Ms m):∀(ks:List Kd)(i:Nat)(k:Kd),ks[i]? = some k->∃ b,(ix m ks)[i]? = some b/\(jB m ks)[i]? = some (k.small&&b)
 |[],i,k,e=>by simp at e
 |c::t,0,k,e=>by
  have:c=k:=by simpa using e
  subst this;refine⟨decide (nm m c=3),rfl,?_⟩;simp only [jB,List.getElem?_cons_zero,inR];have hm:=h.nm c;rcases hm with e|e <;> rw[e] <;> cases c <;> rfl
 |c::t,i+1,k,e=>by
  obtain⟨b,h1,h2⟩:=Yr (h.nm c) t i k (by simpa using e);exact⟨b,by simpa [ix] using h1,by simpa [jB] using h2⟩
theorem Ys:∀(bs:List Bool)(j:Nat),j<=lead bs->(j<lead bs ↔ bs[j]? = some true)
 |[],j,h=>by simp[lead]
 |true::t,0,h=>by simp[lead]
 |true::t,j+1,h=>by
  have:=Ys t j (by simp only [lead]at h;omega);simp only [lead,List.getElem?_cons_succ];rw[<-this];omega
 |false::t,j,h=>by
  have:j=0:=by simp only [lead]at h;omega
  subst this;simp[lead]
theorem aji {m:Int}{ks:List Kd}{low j:Nat}:((jB m ks).drop low)[j]? = (jB m ks)[low+j]?:=by rw[List.getElem?_drop]
theorem ahT (xs:List V)(n:Nat):Hq xs none (some (n:Int))=xs.take n:=by
 unfold Hq;have e:HT.jI xs.length xs.length (some (n:Int))=min n xs.length:=HT.Yc xs.length xs.length n;rw[HT.PU,e,Nat.sub_zero,List.drop_zero];rcases Nat.le_total n xs.length with h|h
 ·rw[Nat.min_eq_left h]
 ·rw[Nat.min_eq_right h,take_length,List.take_of_length_le h]
theorem aga (xs:List V)(n:Nat)(h:n<=xs.length):Hq xs (some (n:Int)) none=xs.drop n:=by
 unfold Hq;have e:HT.jI xs.length 0 (some (n:Int))=min n xs.length:=HT.Yc xs.length 0 n;rw[HT.PU,e,Nat.min_eq_left h];exact List.take_of_length_le (by rw[length_drop];omega)
def PrI (H:Hp)(v:V)(q:Int×Int):Prop:=∃ p,v=.ref p/\H p=some (.tup [.int q.1,.int q.2])
abbrev xF (H:Hp):List V->List (Int×Int)->Prop:=Paired (PrI H)
theorem oM {H H':Hp}(e:az H H'){xs:List V}{qs:List (Int×Int)}(h:xF H xs qs):xF H' xs qs:=bC (fun _ _ ⟨p,a,z⟩=>⟨p,a,e _ _ z⟩) h
theorem Sy {H:Hp}{D:Addr}{o:HO}{zs:List V}{v:V}{q:Int×Int}(hD:H D=some (.lst zs))(h:PrI H v q):PrI (upd H D o) v q:=by
 obtain⟨p,e,z⟩:=h;exact⟨p,e,by rw[ax (X4 z hD (by intro z;cases z))];exact z⟩
theorem Yt {H:Hp}{D:Addr}{o:HO}{zs:List V}{xs:List V}{qs:List (Int×Int)}(hD:H D=some (.lst zs))(h:xF H xs qs):xF (upd H D o) xs qs:=bC (fun _ _ q=>Sy hD q) h
abbrev dN:=Option Int×Option Int×Option Int
def fo:Option Int->V
 |none=>.non
 |some n=>.int n
def costOf (c:dN):Kd->Option Int
 |.dot=>c.1
 |.D=>c.2.1
 |.d=>c.2.1
 |.three=>c.2.2
 |.two=>c.2.2
 |_=>some 0
end mi
set_option maxHeartbeats 4000000
namespace L2
open PySem PySem.Spec PyProof.Rows PySem.SeqAt
section
variable {X:Cx}
theorem Qb:∀{ss:List Str} {vs:List Value},Vals (ss.map V.str) vs->StrsAre vs ss:=by
 intro ss
 induction ss with
 |nil=>intro vs h;cases h;exact .nil
 |cons x ss ih =>
  intro vs h;cases h with
  |cons h1 h2 =>
   obtain⟨t,rfl⟩:=h1;exact .cons x t (ih h2)
theorem Qc:∀{ss:List Str} {vs:List Value},StrsAre vs ss->Vals (ss.map V.str) vs
 |_,_,.nil=>.nil
 |_,_,.cons x t h=>.cons ⟨t,rfl⟩ (Qc h)
theorem JO:∀(p:Str)(l:List Str),risingS p l=true->(p::l).Pairwise (fun a b=>¬ b.cps.toList<a.cps.toList)
 |p,[],_=>by simp
 |p,x::r,h=>by
  unfold risingS at h;rw[Bool.and_eq_true,ltCps_eq]at h;have h1:¬ x.cps.toList<p.cps.toList:=by simpa using h.1
  have ih:=JO x r h.2;refine List.pairwise_cons.mpr ⟨fun y hy=>?_,ih⟩;rcases List.mem_cons.mp hy with rfl|hy
  ·exact h1
  ·have h2:=(List.pairwise_cons.mp ih).1 y hy;have a1:p.cps.toList<=x.cps.toList:=List.not_lt.mp h1;have a2:x.cps.toList<=y.cps.toList:=List.not_lt.mp h2;exact List.not_lt.mpr (List.le_trans a1 a2)
theorem JP (l:List Str)(h:sortedS l=true):l.Pairwise (fun a b=>¬ b.cps.toList<a.cps.toList):=by
 cases l with
 |nil=>simp
 |cons x r=>exact JO x r h
theorem Qd {l m:List Str}(hl:sortedS l=true)(hm:sortedS m=true)(p:l.Perm m):l=m :=
 p.eq_of_pairwise (le:=fun a b=>¬ b.cps.toList<a.cps.toList) (fun a b _ _ h1 h2=>by
  have e:a.cps.toList=b.cps.toList:=List.le_antisymm (List.not_lt.mp h1) (List.not_lt.mp h2);cases a;cases b;simp only at e
  congr 1
  exact Array.toList_inj.mp e) (JP l hl) (JP m hm)
theorem BZ:gU X (.builtin "sorted") (fun xs H Q=>∃(a:Addr)(ss ts:List Str),xs=[.ref a]/\aX X.K H a (ss.map V.str)/\ss.length<64/\ts.Perm ss/\sortedS ts=true/\∀ l,H l=none->Q (.ref l) (upd H l (.lst (ts.map V.str)))):=by
 intro pins s σ H xs us Q I r h;obtain⟨a,ss,ts,rfl,hq,hlen,hp,hs,q⟩:=h;obtain⟨u,rfl,rfl⟩:=r.one;obtain⟨its,rv,p,hz⟩:=I.list hq;have hl:=rv.length;rw[O']at hl;refine sorted_strs p.isList (Qb rv) (by omega) fun out ss' a1 a2 a3=>?_;obtain rfl:ss'=ts:=Qd a3 hs (a2.trans hp.symm);obtain⟨e,he⟩:=sortedAll_at s.heap its out;have hz':(ss'.map V.str).length<=sizeLine:=by
  rw[O',a2.length_eq,<-O' (f:=V.str)];exact hz
 exact⟨.ref (s.heap.objs.size+1),_,I.laid (t':=s.toks) (fun _ _=>sortedAll_old) (Nat.le_succ _) (show cH X.prog X.w _ _ _ (.lst (ss'.map V.str)) from⟨hz',out.toList,e,Qc a1,by simpa [seqObj] using he⟩),rfl,q _ (I.hok.fresh (Nat.le_succ _))⟩
theorem agb {z:Str}{g:TG}{tb:TS}{D:Ends}{σ:St}{H:Hp}(Pv:Nat->St->Hp->Prop)(h0:Pv 0 σ H)
  (hs:∀ i c σ H,z.cps[i]? = some c->Pv i σ H->g (.str ⟨#[c]⟩) σ H fun σ2 H2=>tb { D with nx:=Pv (i+1),ct:=Pv (i+1),bk:=D.nx } σ2 H2) (hd:∀ σ H,Pv z.cps.size σ H->D.nx σ H) :
  ∃ W:Nat->Nat->St->Hp->Prop,(∃ m,W 0 m σ H)/\∀ i m σ H,W i m σ H ->
   ((Its z).stop i H/\D.nx σ H)\/((Its z).go i H/\∃ N:St->Hp->Prop,(∀ σ' H',N σ' H'->∃ m',m'<m/\W (i+1) m' σ' H')/\∀ x H',(Its z).RX i H x H'->g x σ H' fun σ2 H2=>tb { D with nx:=N,ct:=N,bk:=D.nx } σ2 H2):=by
 refine⟨fun i m σ H=>m=z.cps.size-i/\i<=z.cps.size/\Pv i σ H,⟨z.cps.size,by simp,V' _,h0⟩,?_⟩;rintro i m σ H ⟨rfl,hi,p⟩
 by_cases hlt:i<z.cps.size
 ·refine .inr ⟨hlt,Pv (i+1),fun σ' H' p'=>⟨z.cps.size-(i+1),by omega,rfl,hlt,p'⟩,fun x H' y=>?_⟩;obtain⟨e,c,hc,rfl⟩:=y;subst e;exact hs i c σ _ hc p
 ·have e:i=z.cps.size:=by omega
  subst e;exact .inl ⟨C' _,hd σ H p⟩
end
end L2
set_option maxHeartbeats 1000000
namespace mi
open PySem L2 PyProof.Rows
theorem ou {n:Nat}(h:n<=1000):n<=sizeLine:=Nat.le_of_lt (aS h)
def ST:List Str:=["2-","2G","2g","3h0-","3h0o","3h0s","3h1o","3h1s","3h2S","3h2o","3h2s","3n0-","3n0o","3n0s","3n1o","3n1s","3n2S","3n2o","3n2s","3t0-","3w0-","3w0o","3w0s","3w1o","3w1s","3w2S","3w2o","3w2s"]
theorem JQ:sortedS ST=true:=by lk
def n9 (l c:Nat):Bool:=if decide (c=48)=true then decide (l≠104) else(decide (c=49)&&decide (l=104))
def vH (z:Str):Bool:=z.cps.toList.head? == some 50
def iI (z:Str):Bool:=if vH z=true then decide (z ≠ "2G") else n9 (z.cps.toList.getD 1 0) (z.cps.toList.getD 2 0)
theorem Ff (p:Str->Bool)(h:ST.all p=true){z:Str}(hz:z∈ST):p z=true:=all_eq_true.mp h z hz
theorem ahU {z:Str}(hz:z∈ST):inV (.str z) [.str "2-",.str "2g",.str "2G"]=vH z:=M' (Ff (fun z=>decide (inV (.str z) [.str "2-",.str "2g",.str "2G"]=vH z)) (by lk) hz)
theorem EH {z:Str}(hz:z∈ST):z.length<=4:=M' (Ff (fun z=>decide (z.length<=4)) (by lk) hz)
theorem xG {z:Str}(hz:z∈ST)(h:¬ vH z=true):∃ l c t,z.cps.toList=[51,l,c,t]:=by
 have:=Ff (fun z=>vH z||decide (z.cps.toList=[51,z.cps.toList.getD 1 0,z.cps.toList.getD 2 0,z.cps.toList.getD 3 0])) (by lk) hz;rw[P'.mpr h,Bool.false_or]at this;exact⟨_,_,_,M' this⟩
theorem acS {z:Str}(hz:z∈ST):∃ c t,z.cps.toList=c::t:=by
 have:=Ff (fun z=>decide (z.cps.toList=z.cps.toList.getD 0 0::z.cps.toList.tail)) (by lk) hz;exact⟨_,_,M' this⟩
theorem b7 (c n:Nat){s:Str}(h:s=⟨#[n]⟩):decide (V.str ⟨#[c]⟩=V.str s)=decide (c=n):=by
 subst h
 by_cases e:c=n
 ·subst e;simp
 ·rw[i' e,i'];intro z;apply e;have:=V.str.inj z;have:=congrArg (fun s:Str=>s.cps.toList) this
  simpa using this
theorem acT (c n:Nat){s:Str}(h:s=⟨#[n]⟩):(!decide (V.str ⟨#[c]⟩=V.str s))=decide (c≠n):=by
 rw[b7 c n h];simp
theorem Sz (z s:Str):(!decide (V.str z=V.str s))=decide (z≠s):=by
 by_cases e:z=s
 ·subst e;simp
 ·have:V.str z≠V.str s:=fun q=>e (V.str.inj q);simp[e,this]
def LF:List Str:=["n","w","h"]
def RN:List Str:=["0s","0o","1s","1o","2s","2S","2o"]
def f3 (l r:Str):Str:=Str.empty ++ "3" ++ l++r
def blk (l:Str):List Str:=f3 l "0-" :: RN.map (f3 l)
def B0:List Str:=["2-","2g","2G","3t0-"]
def Hy (i:Nat):List Str:=B0++(LF.take i).flatMap blk
theorem ZX:ST.Perm (Hy 3):=by
 have:ST.isPerm (Hy 3)=true:=by lk
 exact List.isPerm_iff.mp this
theorem ZY {i:Nat}{l:Str}(h:LF[i]? = some l):Hy (i+1)=Hy i++blk l:=by
 unfold Hy;rw[List.take_add_one,h,List.flatMap_append,List.append_assoc]
 congr 2
theorem Qe {i:Nat}(h:i<=3):(Hy i).length<=28:=by
 match i,h with
 |0,_=>decide +kernel
 |1,_=>decide +kernel
 |2,_=>decide +kernel
 |3,_=>decide +kernel
theorem ak3 {i:Nat}{l:Str}(h:LF[i]? = some l):i<3:=(F'.mp h).1
theorem ajj {i:Nat}{l:Str}(h:LF[i]? = some l):l.length<=1:=by
 have hm:l∈LF:=Z' h;exact M' (all_eq_true.mp (show LF.all (fun z=>decide (z.length<=1))=true by lk) l hm)
theorem ajk {i:Nat}{l:Str}(h:RN[i]? = some l):l.length<=2:=by
 have hm:l∈RN:=Z' h;exact M' (all_eq_true.mp (show RN.all (fun z=>decide (z.length<=2))=true by lk) l hm)
def QF:List Str:=["n","w","h","t"]
def QN:List Str:=["0o","0s","1o","1s","2S","2o","2s"]
def g3 (l r:Str):Str:="3" ++ l++r
def blq (l:Str):List Str:=g3 l "0-" :: (if l = "t" then [] else QN.map (g3 l))
def B1:List Str:=["2-","2G","2g"]
def Hz (i:Nat):List Str:=B1++(QF.take i).flatMap blq
theorem ZZ:ST.Perm (Hz 4):=by
 have:ST.isPerm (Hz 4)=true:=by lk
 exact List.isPerm_iff.mp this
theorem Z0 {i:Nat}{l:Str}(h:QF[i]? = some l):Hz (i+1)=Hz i++blq l:=by
 unfold Hz;rw[List.take_add_one,h,List.flatMap_append,List.append_assoc]
 congr 2
 simp
theorem Qf {i:Nat}(h:i<=4):(Hz i).length<=28:=by
 match i,h with
 |0,_=>decide +kernel
 |1,_=>decide +kernel
 |2,_=>decide +kernel
 |3,_=>decide +kernel
 |4,_=>decide +kernel
theorem an4 {i c:Nat}(h:(Str.ofString "nwht").cps[i]? = some c):QF[i]? = some ⟨#[c]⟩:=by
 have hz:(Str.ofString "nwht").cps = #[110,119,104,116]:=by lk
 rw[hz]at h;have hi:i<4:=by
  have:=(Array.getElem?_eq_some_iff.mp h).1
  simpa using this
 match i,hi with
 |0,_=>cases h;exact congrArg some (by lk)
 |1,_=>cases h;exact congrArg some (by lk)
 |2,_=>cases h;exact congrArg some (by lk)
 |3,_=>cases h;exact congrArg some (by lk)
theorem ak4 {i:Nat}{l:Str}(h:QF[i]? = some l):i<4:=(F'.mp h).1
theorem ajl {i:Nat}{l:Str}(h:QF[i]? = some l):l.length<=1:=by
 have hm:l∈QF:=Z' h;exact M' (all_eq_true.mp (show QF.all (fun z=>decide (z.length<=1))=true by lk) l hm)
theorem ajm {i:Nat}{l:Str}(h:QN[i]? = some l):l.length<=2:=by
 have hm:l∈QN:=Z' h;exact M' (all_eq_true.mp (show QN.all (fun z=>decide (z.length<=2))=true by lk) l hm)
theorem xH {xs:List Str}{i:Nat}{x:V}(h:(xs.map V.str)[i]? = some x):∃ z,xs[i]? = some z/\x=.str z:=by
 rw[getElem?_map]at h;cases e:xs[i]? with
 |none=>rw[e]at h;cases h
 |some z=>rw[e]at h;cases h;exact⟨z,rfl,rfl⟩
end mi
namespace mi
open PySem L2 PyProof.Rows
theorem kE (a b:Str):decide (V.str a=V.str b)=decide (a=b):=by
 by_cases h:a=b
 ·rw[h,W' rfl,W' rfl]
 ·rw[i' h,i' (fun z=>h (V.str.inj z))]
theorem intD (a b:Int):decide (V.int a=V.int b)=decide (a=b):=by
 by_cases h:a=b
 ·rw[h,W' rfl,W' rfl]
 ·rw[i' h,i' (fun z=>h (V.int.inj z))]
def TW:List ((Str×Int)×V):=[(("s",1),V.str "2-"),(("d",1),V.str "2-"),(("r",1),V.str "2-"),(("D",2),V.str "2-"),(("R",2),V.str "2-"),(("G",2),V.str "2g"),(("G",3),V.str "2G"),((".",0),V.str "2-"),(("2",0),V.str "2-"),(("3",0),V.str "3n0-")]
def GS:List ((Str×Int)×V):=[(("G",3),V.str "3w0-"),(("G",2),V.str "3h0-"),(("D",2),V.str "3n0-"),(("R",3),V.str "3n0-")]
def chr (z:Str)(i:Nat):Str:=⟨#[z.cps.toList.getD i 0]⟩
def clZ (z:Str):Bool:=n9 (z.cps.toList.getD 1 0) (z.cps.toList.getD 2 0)
def twS (z k:Str)(n:Int):V:=if(decide (z = "2G") && !decide (k = "."))=true then .non else if(decide (z = "2g")&&decide (k = "."))=true then .non else(TW.lookup (k,n)).getD .non
def rnZ (z:Str):Bool:=inV (.str z) [.str "3n1s",.str "3n1o",.str "3h2o"]
def bgZ (z:Str):Bool:=inV (.str z) [.str "3n2S",.str "3w2S"]
def grS (z k:Str)(n:Int):V:=if decide (z = "3t0-")=true then .non else if(rnZ z&&(decide (k = "G")&&decide (n=2)))=true then .str "3t0-" else if(clZ z||bgZ z)=true then(GS.lookup (k,n)).getD .non else .non
def ptS (z k:Str)(n:Int):V:=if(!decide (n=0) || !clZ z)=true then .non else if decide (k = "2")=true then .str "2-" else .str "3n0-"
def tlS (k c:Str)(n:Int):V:=if decide (n=1)=true then(if decide (k = "s")=true then .str "s" else .str "o") else if(decide (n=2)&&(decide (k = "s")&&decide (c = "2")))=true then .str "S" else .non
theorem Z1 (k c:Str)(n:Int):tlS k c n=.non\/tlS k c n=.str "s"\/tlS k c n=.str "o"\/tlS k c n=.str "S":=by
 unfold tlS
 repeat' split
 all_goals simp
def nxC (c:Nat):Str:=if c=48 then "1" else if c=49 then "2" else "0"
theorem Yu (c:Nat):(nxC c).length=1:=by
 unfold nxC
 repeat' split
 all_goals decide +kernel
theorem sM (a b:Str):(a++b).length=a.length+b.length:=by
 show(a.cps++b.cps).size=_;rw[Array.size_append];rfl
theorem JR (s:Str)(h:s = "s"\/s = "o"\/s = "S"\/s = "3"\/s = "n"):s.length=1:=by
 rcases h with rfl|rfl|rfl|rfl|rfl <;> decide +kernel
def lfZ (z:Str):Str:=if decide (z.cps.toList.getD 1 0=116)=true then "n" else chr z 1
theorem Yv (z:Str):(lfZ z).length=1:=by
 unfold lfZ;split
 ·exact JR _ (.inr (.inr (.inr (.inr rfl))))
 ·rfl
def smS (z k:Str)(n:Int):V:=if decide (z.cps.toList.getD 3 0=83)=true then .non else match tlS k (nxC (z.cps.toList.getD 2 0)) n with
 |.str l=>.str ("3" ++ lfZ z++nxC (z.cps.toList.getD 2 0)++l)
 |_=>.non
def stS (z:Str)(k:Kd)(n:Int):V:=if vH z=true then twS z k.str n else if k.small=true then smS z k.str n else if k.parting=true then ptS z k.str n else grS z k.str n
def shS (z k:Str)(n:Int):Str :=
 let l:=z.cps.toList.getD 1 0
 let c:=z.cps.toList.getD 2 0
 let t:=z.cps.toList.getD 3 0
 let sh:=(decide (k = "G")&&decide (n=2))
 if decide (c=48)=true then(if(decide (l=104)||(decide (l=116)&&vd k "GDR"))=true then "" else "g")
 else if decide (c=49)=true then(if(decide (l=110)&&sh)=true then "t" else if decide (l=104)=true then "g" else "")
 else if(vd k ".32" || decide (t=115))=true then ""
 else if decide (t=83)=true then(if decide (l=104)=true then "" else "g")
 else if(decide (l=104)&&sh)=true then "t" else ""
def l2S (z k:Str)(n:Int):V :=
 if(decide (z = "2G")||decide (k = "."))=true then(if(decide (k = ".")&&(decide (n=0) && !decide (z = "2g")))=true then .str "2-" else .non)
 else if vd k "32"=true then(if(!decide (n=0))=true then .non else if decide (k = "3")=true then .str "3n0-" else .str "2-")
 else if vd k "sdr"=true then(if decide (n=1)=true then .str "2-" else .non)
 else if(decide (k = "G")&&decide (n=3))=true then .str "2G"
 else if(!decide (n=2))=true then .non
 else if decide (k = "G")=true then .str "2g" else .str "2-"
def lbS (z k:Str)(n:Int):V :=
 if vH z=true then l2S z k n
 else if(vd k "sdr" && decide (z.cps.toList.getD 3 0=83))=true then .non
 else if vd k "sdr"=true then
  let c:=nxC (z.cps.toList.getD 2 0)
  if(decide (n=2)&&(decide (k = "s")&&decide (c = "2")))=true then .str ("3" ++ lfZ z ++ "2S")
  else if decide (n=1)=true then .str ("3" ++ lfZ z++c++(if decide (k = "s")=true then "s" else "o")) else .non
 else if decide (shS z k n = "")=true then .non
 else if vd k ".32" = true then(if(!decide (n=0))=true then .non else if decide (k = "2")=true then .str "2-" else .str "3n0-")
 else if(decide (k = "D")||decide (k = "R"))=true then(if decide (n=(if decide (k = "R")=true then 1 else 0)+2)=true then .str "3n0-" else .non)
 else if decide (shS z k n = "t")=true then .str "3t0-"
 else if decide (n=3)=true then .str "3w0-" else if decide (n=2)=true then .str "3h0-" else .non
theorem ak5 {z:Str}(hz:z∈ST){l c e:Nat}(h:z.cps.toList=[51,l,c,e]):c=48\/c=49\/c=50:=by
 have:=M' (Ff (fun z=>decide (vH z=true\/z.cps.toList.getD 2 0=48\/z.cps.toList.getD 2 0=49\/z.cps.toList.getD 2 0=50)) (by lk) hz);unfold vH at this;rw[h]at this;rcases this with z|z
 ·exact absurd z (by simp)
 ·exact z
def ajn:List Kd:=[.G,.D,.R,.s,.d,.r,.dot,.three,.two]
theorem Qg (k:Kd):k∈ajn:=by cases k <;> decide
theorem ak6:(ST.all fun z=>ajn.all fun k=>(List.range 10).all fun m=>decide (stS z k (m:Nat)=lbS z k.str (m:Nat)))=true:=by lk
theorem ajo {z:Str}(hz:z∈ST)(k:Kd){n:Int}(h0:0<=n)(h9:n<=9):stS z k n=lbS z k.str n:=by
 have h1:=all_eq_true.mp (all_eq_true.mp (all_eq_true.mp ak6 z hz) k (Qg k)) n.toNat (mem_range.mpr (by omega));have h2:=M' h1
 rwa [Int.toNat_of_nonneg h0]at h2
end mi
namespace mi
open PySem L2 PyProof.Rows
section
variable {K:Frag} {H H':Hp} {p:Addr} {Q:VK}
theorem KL {a b:V}(h:dh K H p [a,b])(q:Q a H):Hr K (.ref p) (.int 0) H Q\/Hs K (.ref p) (.int 0) H Q\/Ht (.ref p) (.int 0) H Q:=.inr (.inl ⟨p,_,0,a,rfl,rfl,h,rfl,q⟩)
end
def isD:HO->Bool
 |.dK _=>true
 |.fe _ (.dK _)=>true
 |_=>false
def Kn (H H':Hp):Prop:=∀ b o,H b=some o->isD o=false->H' b=some o
theorem Kn.trans {H H1 H2:Hp}(a:Kn H H1)(b:Kn H1 H2):Kn H H2:=fun c o e n=>b c o (a c o e n) n
theorem _root_.L2.az.kn {H H':Hp}(s:az H H'):Kn H H':=fun b o e _=>s b o e
theorem Kn.put {H:Hp}{d:Addr}{o u:HO}(e:H d=some o)(h:isD o=true):Kn H (upd H d u):=fun b v eb n=>by
 rw[ax (fun z=>by rw[z,e]at eb;cases eb;rw[h]at n;cases n)];exact eb
theorem Kn.of {H H':Hp}{d:Addr}{kvs:List (Key×V)}(e:H d=some (.dK kvs))(h:∀ b o,b≠d->H b=some o->H' b=some o):Kn H H':=fun b o eb n=>h b o (fun z=>by rw[z,e]at eb;cases eb;cases n) eb
theorem Kn.tup {K:Frag}{H H':Hp}{p:Addr}{xs:List V}(k:Kn H H')(h:dh K H p xs):dh K H' p xs:=by
 rcases h with (h|⟨o,h⟩)|h
 ·exact .inl (.inl (k _ _ h rfl))
 ·exact .inl (.inr ⟨o,k _ _ h rfl⟩)
 ·exact .inr h
def vm (K:Frag)(H:Hp)(y:V)(s:Sg):Prop:=∃ p,y=.ref p/\dh K H p [.str s.1.str,.int s.2]
theorem vm.kn {K:Frag}{H H':Hp}(k:Kn H H'){y:V}{s:Sg}(h:vm K H y s):vm K H' y s:=by
 obtain⟨p,e,q⟩:=h;exact⟨p,e,k.tup q⟩
theorem vm.xI {K:Frag}{H H':Hp}(k:Kn H H'){ys:List V}{ss:List Sg}(h:Paired (vm K H) ys ss):Paired (vm K H') ys ss:=bC (fun _ _ q=>vm.kn k q) h
theorem vm.write {K:Frag}{H:Hp}{l:Addr}{xs:List V}{o:HO}(hl:H l=some (.lst xs)){y:V}{s:Sg}(h:vm K H y s):vm K (upd H l o) y s:=by
 obtain⟨q,e,h2⟩:=h;refine⟨q,e,?_⟩;rcases h2 with (h|⟨o,h⟩)|h
 ·exact .inl (.inl (by rw[ax (fun z=>by rw[z,hl]at h;cases h)];exact h))
 ·exact .inl (.inr ⟨o,by rw[ax (fun z=>by rw[z,hl]at h;cases h)];exact h⟩)
 ·exact .inr h
def stQ (z:Str)(k:Kd)(n:Int):Option Str:=match stS z k n with
 |.str y=>some y
 |_=>none
def aob (p:Int->Bool):Bool:=(List.range 10).all fun m=>p (m:Nat)
theorem ajp:(ST.all fun z=>ajn.all fun k=>aob fun c=>match stS z k c with|.str y=>decide (y∈ST)|.non=>true|_=>false)=true:=by lk
theorem acU {z:Str}(hz:z∈ST)(k:Kd){n:Int}(h0:0<=n)(h9:n<=9):(stS z k n=.non/\stQ z k n=none)\/∃ y∈ST,stS z k n=.str y/\stQ z k n=some y:=by
 have h1:=all_eq_true.mp (all_eq_true.mp (all_eq_true.mp ajp z hz) k (Qg k)) n.toNat (mem_range.mpr (by omega));rw[Int.toNat_of_nonneg h0]at h1;dsimp only at h1;unfold stQ;cases e:stS z k n with
 |non=>exact .inl ⟨rfl,rfl⟩
 |str y=>rw[e]at h1;exact .inr ⟨y,M' h1,rfl,rfl⟩
 |_=>rw[e]at h1;cases h1
abbrev Mv:=Sg×Int×Str
def KN (c:dN)(z:Str)(n:Int)(s:Sg):Option Mv:=match costOf c s.1,stQ z s.1 n with
 |some m,some y=>some (s,m,y)
 |_,_=>none
def a7 (c:dN)(z:Str)(n:Int)(ss:List Sg):List Mv:=ss.filterMap (KN c z n)
theorem Fg {c:dN}{z:Str}(hz:z∈ST){n:Int}(h0:0<=n)(h9:n<=9){ss:List Sg}{m:Mv}(hm:m∈a7 c z n ss):m.2.2∈ST:=by
 obtain⟨s,hs,e⟩:=List.mem_filterMap.mp hm;unfold KN at e;rcases acU hz s.1 h0 h9 with ⟨_,e2⟩|⟨y,hy,_,e2⟩
 ·rw[e2]at e;cases h:costOf c s.1 <;> rw[h]at e <;> cases e
 ·rw[e2]at e;cases h:costOf c s.1 with
  |none=>rw[h]at e;cases e
  |some k=>rw[h]at e;cases e;exact hy
theorem Z2 (c:dN)(z:Str)(n:Int)(ss:List Sg):(a7 c z n ss).length<=ss.length:=List.length_filterMap_le ..
theorem SA {c:dN}{z:Str}{n:Int}{ss:List Sg}{i:Nat}{s:Sg}(h:ss[i]? = some s):a7 c z n (ss.take (i+1))=a7 c z n (ss.take i)++(match KN c z n s with|some m=>[m]|none=>[]):=by
 unfold a7;rw[take_succ,h,List.filterMap_append]
 congr 1
 show List.filterMap (KN c z n) [s]=_;rw[List.filterMap_cons];cases KN c z n s <;> rfl
def KO (K:Frag)(H:Hp)(y:V)(m:Mv):Prop:=∃ p q,y=.ref p/\H p=some (.tup [.ref q,.int m.2.1,.str m.2.2])/\dh K H q [.str m.1.1.str,.int m.1.2]
theorem KO.kn {K:Frag}{H H':Hp}(k:Kn H H'){y:V}{m:Mv}(h:KO K H y m):KO K H' y m:=by
 obtain⟨p,q,e,h1,h2⟩:=h;exact⟨p,q,e,k _ _ h1 rfl,k.tup h2⟩
theorem KO.write {K:Frag}{H:Hp}{l:Addr}{xs:List V}{o:HO}(hl:H l=some (.lst xs)){y:V}{m:Mv}(h:KO K H y m):KO K (upd H l o) y m:=by
 obtain⟨p,q,e,h1,h2⟩:=h;refine⟨p,q,e,by rw[ax (fun z=>by rw[z,hl]at h1;cases h1)];exact h1,?_⟩;rcases h2 with (h|⟨o,h⟩)|h
 ·exact .inl (.inl (by rw[ax (fun z=>by rw[z,hl]at h;cases h)];exact h))
 ·exact .inl (.inr ⟨o,by rw[ax (fun z=>by rw[z,hl]at h;cases h)];exact h⟩)
 ·exact .inr h
abbrev Wy:=Str×Int×List Sg
def bR:List Wy->Str->Option (Int×List Sg)
 |[],_=>none
 |w::t,z=>if w.1=z then some w.2 else bR t z
def Qh (ws:List Wy)(z:Str)(c:Int)(ln:List Sg):List Wy:=ws.map fun w=>if w.1=z then(z,c,ln) else w
def acV (ws:List Wy)(z:Str)(c:Int)(ln:List Sg):List Wy:=match bR ws z with
 |none=>ws++[(z,c,ln)]
 |some _=>Qh ws z c ln
def gW (ws:List Wy)(z:Str)(c:Int)(ln:List Sg):List Wy:=match bR ws z with
 |none=>ws++[(z,c,ln)]
 |some q=>if c<q.1 then Qh ws z c ln else ws
def eA (k:Int)(ln:List Sg)(ms:List Mv)(acc:List Wy):List Wy:=ms.foldl (fun acc m=>gW acc m.2.2 (k+m.2.1) (ln++[m.1])) acc
def gX:List Sg:=[(.dot,0),(.three,0),(.two,0)]
def kF (c:dN)(zs:List Str)(acc:List Wy):List Wy:=zs.foldl (fun acc z=>match bR acc z with|some q=>eA q.1 q.2 (a7 c z 0 gX) acc|none=>acc) acc
def Ce (c:dN)(ws:List Wy):Nat->List Wy
 |0=>ws
 |i+1=>kF c ((Ce c ws i).map (·.1)) (Ce c ws i)
def withPart (c:dN)(ws:List Wy):List Wy:=Ce c ws 2
def dX (t:Int):List Sg:=if t = -1 then [(.R,0),(.r,0)] else [(.G,t),(.D,t),(.s,t),(.d,t)]
def oN (c:dN)(ws:List Wy)(q:Int×Int):List Wy:=ws.foldl (fun acc w=>eA w.2.1 w.2.2 (a7 c w.1 q.2 (dX q.1)) acc) []
def cN (ws:List Wy):List (Str×Int):=ws.map fun w=>(w.1,w.2.1)
structure fq (B:Nat)(ws:List Wy):Prop where
 nd:(ws.map (·.1)).Nodup
 st:∀ w∈ws,w.1∈ST
 ln:∀ w∈ws,w.2.2.length<=B
theorem fq.mono {B B':Nat}{ws:List Wy}(h:fq B ws)(hb:B<=B'):fq B' ws:=⟨h.nd,h.st,fun w hw=>Nat.le_trans (h.ln w hw) hb⟩
theorem acW {α:Type}[DecidableEq α]:∀(l L:List α),l.Nodup->(∀ x∈l,x∈L)->l.length<=L.length
 |[],_,_,_=>V' _
 |x::t,L,nd,h=>by
  have hx:=h x mem_cons_self;have h1:=acW t (L.erase x) (List.nodup_cons.mp nd).2 fun y hy=>by
   have hne:y≠x:=fun z=>(List.nodup_cons.mp nd).1 (z ▸ hy);exact(List.mem_erase_of_ne hne).mpr (h y (Zb' _ hy))
  have h2:=List.length_erase_of_mem hx;have h3:0<L.length:=List.length_pos_of_mem hx;rw[length_cons];omega
theorem fq.len {B:Nat}{ws:List Wy}(h:fq B ws):ws.length<=28:=by
 have:=acW (ws.map (·.1)) ST h.nd fun x hx=>by
  obtain⟨w,hw,rfl⟩:=mem_map.mp hx;exact h.st w hw
 rwa [O']at this
theorem zT:∀{ws:List Wy} {z:Str},bR ws z=none->z ∉ ws.map (·.1)
 |[],_,_=>by simp
 |w::t,z,h=>by
  unfold bR at h;split at h
  ·cases h
  ·next hne =>
   intro hm;rcases List.mem_cons.mp hm with e|e
   ·exact hne e.symm
   ·exact zT h e
theorem xJ:∀{ws:List Wy} {z:Str} {q:Int×List Sg},bR ws z=some q->(z,q)∈ws
 |w::t,z,q,h=>by
  unfold bR at h;split at h
  ·next e=>cases h;subst e;exact mem_cons_self
  ·exact Zb' _ (xJ h)
theorem Z3 {ws:List Wy}{z:Str}(h:z∈ws.map (·.1)):∃ q,bR ws z=some q:=by
 cases e:bR ws z with
 |none=>exact absurd h (zT e)
 |some q=>exact⟨q,rfl⟩
theorem JS (ws:List Wy)(z:Str)(c:Int)(ln:List Sg):(Qh ws z c ln).map (·.1)=ws.map (·.1):=by
 unfold Qh;rw[List.map_map];refine List.map_congr_left fun w _=>?_;show(if w.1=z then(z,c,ln) else w).1=w.1;split
 ·next e=>exact e.symm
 ·rfl
theorem acX {B:Nat}{ws:List Wy}(h:fq B ws){z:Str}(hz:z∈ST){c:Int}{ln:List Sg}(hl:ln.length<=B):fq B (gW ws z c ln):=by
 unfold gW;split
 ·next e =>
  refine⟨?_,fun w hw=>?_,fun w hw=>?_⟩
  ·rw[map_append];refine List.nodup_append.mpr ⟨h.nd,by simp,fun a ha b hb=>?_⟩;have:b=z:=by simpa using hb
   subst this;exact fun e2=>zT e (e2 ▸ ha)
  ·rcases mem_append.mp hw with q|q
   ·exact h.st w q
   ·rw[mem_singleton.mp q];exact hz
  ·rcases mem_append.mp hw with q|q
   ·exact h.ln w q
   ·rw[mem_singleton.mp q];exact hl
 ·split
  ·refine⟨by rw[JS];exact h.nd,fun w hw=>?_,fun w hw=>?_⟩
   all_goals
    obtain⟨v,hv,rfl⟩:=mem_map.mp hw;split
   ·exact hz
   ·exact h.st v hv
   ·exact hl
   ·exact h.ln v hv
  ·exact h
theorem SD (ws:List Wy)(z:Str)(c:Int)(ln:List Sg){x:Str}(h:x∈ws.map (·.1)):x∈(gW ws z c ln).map (·.1):=by
 unfold gW;split
 ·rw[map_append];exact mem_append_left _ h
 ·split
  ·rw[JS];exact h
  ·exact h
theorem sN {B:Nat}{k:Int}{ln:List Sg}(hl:ln.length+1<=B):∀{ms:List Mv} {acc:List Wy},(∀ m∈ms,m.2.2∈ST)->fq B acc->fq B (eA k ln ms acc)
 |[],_,_,h=>h
 |m::t,acc,hm,h=>sN hl (ms:=t) (fun x hx=>hm x (Zb' _ hx)) (acX h (hm m mem_cons_self) (by rw[length_append];exact hl))
theorem Fh (k:Int)(ln:List Sg):∀(ms:List Mv)(acc:List Wy) {x:Str},x∈acc.map (·.1)->x∈(eA k ln ms acc).map (·.1)
 |[],_,_,h=>h
 |m::t,acc,_,h=>Fh k ln t _ (SD _ _ _ _ h)
def iJ (K:Frag)(A:Addr->Prop)(H:Hp)(kv:Key×V)(w:Wy):Prop:=kv.1=Sum.inr w.1/\∃ t l ys,kv.2=.ref t/\A l/\H t=some (.tup [.int w.2.1,.ref l])/\H l=some (.lst ys)/\Paired (vm K H) ys w.2.2
theorem iJ.kn {K:Frag}{A:Addr->Prop}{H H':Hp}(k:Kn H H'){kv:Key×V}{w:Wy}(h:iJ K A H kv w):iJ K A H' kv w:=by
 obtain⟨e,t,l,ys,e2,a,h1,h2,h3⟩:=h;exact⟨e,t,l,ys,e2,a,k _ _ h1 rfl,k _ _ h2 rfl,vm.xI k h3⟩
theorem iJ.xI {K:Frag}{A:Addr->Prop}{H H':Hp}(k:Kn H H'){kvs:List (Key×V)}{ws:List Wy}(h:Paired (iJ K A H) kvs ws):Paired (iJ K A H') kvs ws:=bC (fun _ _ q=>iJ.kn k q) h
theorem iJ.write {K:Frag}{A:Addr->Prop}{H:Hp}{d:Addr}{xs:List V}{o:HO}(hd:H d=some (.lst xs))(hA:¬ A d){kv:Key×V}{w:Wy}(h:iJ K A H kv w):iJ K A (upd H d o) kv w:=by
 obtain⟨e,t,l,ys,e2,a,h1,h2,h3⟩:=h;exact⟨e,t,l,ys,e2,a,by rw[ax (fun z=>by rw[z,hd]at h1;cases h1)];exact h1,by rw[ax (fun z=>hA (by rw[<-z];exact a))];exact h2,bC (fun _ _ q=>vm.write hd q) h3⟩
theorem iJ.away {K:Frag}{A:Addr->Prop}{H:Hp}{p:Addr}(hp:H p=none){kv:Key×V}{w:Wy}(h:iJ K A H kv w):iJ K (· ≠ p) H kv w:=by
 obtain⟨e,t,l,ys,e2,a,h1,h2,h3⟩:=h;exact⟨e,t,l,ys,e2,aN h2 hp,h1,h2,h3⟩
theorem iJ.val {K:Frag}{A:Addr->Prop}{H:Hp}{kvs:List (Key×V)}{ws:List Wy}(h:Paired (iJ K A H) kvs ws)(z:Str):(bR ws z=none/\rP kvs (Sum.inr z)=none)\/∃ q v,bR ws z=some q/\rP kvs (Sum.inr z)=some v/\iJ K A H (Sum.inr z,v) (z,q):=by
 induction h with
 |nil=>exact .inl ⟨rfl,rfl⟩
 | @cons kv w kvs ws h0 _ ih =>
  unfold bR
  by_cases e:w.1=z
  ·refine .inr ⟨w.2,kv.2,R' e,?_,?_⟩
   ·exact sE (by rw[h0.1,e])
   ·subst e;obtain⟨e1,r⟩:=h0;exact⟨rfl,r⟩
  ·rw[L' e,sG (fun q=>e (Sum.inr.inj (h0.1.symm.trans q)))];exact ih
theorem iJ.put {K:Frag}{A:Addr->Prop}{H:Hp}{kvs:List (Key×V)}{ws:List Wy}(h:Paired (iJ K A H) kvs ws){z:Str}{v:V}{c:Int}{ln:List Sg}(hv:iJ K A H (Sum.inr z,v) (z,c,ln)):Paired (iJ K A H) (putK kvs (Sum.inr z) v) (acV ws z c ln):=by
 unfold putK acV;rcases iJ.val h z with ⟨e1,e2⟩|⟨q,u,e1,e2,_⟩
 ·rw[sH,e2,L' (by decide),e1];exact lE h hv
 ·rw[sH,e2,R' (show(some u).isSome=true from rfl),e1];clear e1 e2;show Paired _ _ (Qh ws z c ln);unfold Qh
  induction h with
  |nil=>exact .nil
  | @cons kv w kvs ws h0 _ ih =>
   refine .cons ?_ ih;show iJ K A H (if kv.1=Sum.inr z then(kv.1,v) else kv) (if w.1=z then(z,c,ln) else w)
   by_cases e:w.1=z
   ·rw[R' e,R' (by rw[h0.1,e]),h0.1,e];exact hv
   ·rw[L' e,L' (fun q=>e (Sum.inr.inj (h0.1.symm.trans q)))];exact h0
def dW (c:dN)(acc:List Wy)(z:Str):List Wy:=match bR acc z with
 |some q=>eA q.1 q.2 (a7 c z 0 gX) acc
 |none=>acc
theorem mj (c:dN)(z:Str)(t:List Str)(acc:List Wy):kF c (z::t) acc=kF c t (dW c acc z):=rfl
theorem SE (c:dN)(zs:List Str)(z:Str)(acc:List Wy):kF c (zs++[z]) acc=dW c (kF c zs acc) z:=by
 unfold kF;rw[List.foldl_append];rfl
theorem Fi {c:dN}{z:Str}(hz:z∈ST){m:Mv}(hm:m∈a7 c z 0 gX):m.2.2∈ST:=Fg hz (by decide) (by decide) hm
theorem acY {B:Nat}{c:dN}{acc:List Wy}(h:fq B acc){z:Str}(hz:z∈ST):fq (B+1) (dW c acc z):=by
 unfold dW;cases e:bR acc z with
 |none=>exact h.mono (Nat.le_succ _)
 |some q =>
  have:=h.ln _ (xJ e);exact sN (by show q.2.length+1<=_;have:q.2.length<=B:=this;omega) (fun m hm=>Fi hz hm) (h.mono (Nat.le_succ _))
theorem Fj {c:dN}:∀{zs:List Str} {acc:List Wy} {B:Nat},(∀ z∈zs,z∈ST)->fq B acc->fq (B+zs.length) (kF c zs acc)
 |[],_,_,_,h=>h
 |z::t,acc,B,hz,h=>by
  rw[mj];exact(Fj (zs:=t) (fun x hx=>hz x (Zb' _ hx)) (acY h (hz z mem_cons_self))).mono (by rw[length_cons];omega)
theorem SF (c:dN)(acc:List Wy)(z:Str){x:Str}(h:x∈acc.map (·.1)):x∈(dW c acc z).map (·.1):=by
 unfold dW;cases bR acc z with
 |none=>exact h
 |some q=>exact Fh _ _ _ _ h
theorem Fl (c:dN):∀(zs:List Str)(acc:List Wy) {x:Str},x∈acc.map (·.1)->x∈(kF c zs acc).map (·.1)
 |[],_,_,h=>h
 |z::t,acc,_,h=>Fl c t _ (SF c acc z h)
theorem EI {c:dN}{ws:List Wy}{B:Nat}(h:fq B ws):∀ i,fq (B+28 * i) (Ce c ws i)
 |0=>h
 |i+1=>by
  have h1:=EI (c:=c) h i;have h2:=Fj (c:=c) (zs:=(Ce c ws i).map (·.1)) (fun z hz=>by
   obtain⟨w,hw,rfl⟩:=mem_map.mp hz;exact h1.st w hw) h1
  exact h2.mono (by rw[O'];have:=h1.len;omega)
theorem ajq {K:Frag}{A:Addr->Prop}{H:Hp}{kvs:List (Key×V)}{ws:List Wy}(h:Paired (iJ K A H) kvs ws):(kvs.map fun kv=>kV kv.1)=(ws.map (·.1)).map V.str:=by
 induction h with
 |nil=>rfl
 |cons h0 _ ih =>
  rw[map_cons,map_cons,map_cons,ih,h0.1];rfl
def iq (c:dN)(q:Int×Int)(ws:List Wy)(acc:List Wy):List Wy:=ws.foldl (fun acc w=>eA w.2.1 w.2.2 (a7 c w.1 q.2 (dX q.1)) acc) acc
theorem HA (c:dN)(q:Int×Int)(ws:List Wy)(w:Wy)(acc:List Wy):iq c q (ws++[w]) acc=eA w.2.1 w.2.2 (a7 c w.1 q.2 (dX q.1)) (iq c q ws acc):=by
 unfold iq;rw[List.foldl_append];rfl
theorem fq.nil (B:Nat):fq B []:=⟨.nil,fun _ h=>(nomatch h),fun _ h=>(nomatch h)⟩
theorem sO {B:Nat}{c:dN}{q:Int×Int}(h0:0<=q.2)(h9:q.2<=9):∀{ws acc:List Wy},(∀ w∈ws,w.1∈ST)->(∀ w∈ws,w.2.2.length<=B)->fq (B+1) acc->fq (B+1) (iq c q ws acc)
 |[],_,_,_,h=>h
 |w::t,acc,hs,hl,h=>sO h0 h9 (ws:=t) (fun x hx=>hs x (Zb' _ hx)) (fun x hx=>hl x (Zb' _ hx))
   (sN (by have:=hl w mem_cons_self;omega) (fun m hm=>Fg (hs w mem_cons_self) h0 h9 hm) h)
theorem sP {B:Nat}{c:dN}{q:Int×Int}(h0:0<=q.2)(h9:q.2<=9){ws:List Wy}(h:fq B ws):fq (B+1) (oN c ws q):=sO h0 h9 h.st h.ln (fq.nil _)
theorem sQ {B:Nat}{c:dN}{ws:List Wy}(h:fq B ws):fq (B+56) (withPart c ws):=EI h 2
def Qi (H:Hp)(y:V)(q:Str×Int):Prop:=∃ p,y=.ref p/\H p=some (.tup [.str q.1,.int q.2])
theorem Qi.kn {H H':Hp}(k:Kn H H'){y:V}{q:Str×Int}(h:Qi H y q):Qi H' y q:=by
 obtain⟨p,e,h1⟩:=h;exact⟨p,e,k _ _ h1 rfl⟩
theorem Qi.write {H:Hp}{l:Addr}{xs:List V}{o:HO}(hl:H l=some (.lst xs)){y:V}{q:Str×Int}(h:Qi H y q):Qi (upd H l o) y q:=by
 obtain⟨p,e,h1⟩:=h;exact⟨p,e,by rw[ax (fun z=>by rw[z,hl]at h1;cases h1)];exact h1⟩
def HB (pp:Addr)(H:Hp)(y:V)(cs:List (Str×Int)):Prop:=∃ l xs,y=.ref l/\l≠pp/\H l=some (.lst xs)/\Paired (Qi H) xs cs
theorem HB.kn {pp:Addr}{H H':Hp}(k:Kn H H'){y:V}{q:List (Str×Int)}(h:HB pp H y q):HB pp H' y q:=by
 obtain⟨l,xs,e,ne,h1,h2⟩:=h;exact⟨l,xs,e,ne,k _ _ h1 rfl,bC (fun _ _ q=>Qi.kn k q) h2⟩
theorem HB.write {pp:Addr}{H:Hp}{zs:List V}{o:HO}(hp:H pp=some (.lst zs)){y:V}{q:List (Str×Int)}(h:HB pp H y q):HB pp (upd H pp o) y q:=by
 obtain⟨l,xs,e,ne,h1,h2⟩:=h;exact⟨l,xs,e,ne,by rw[ax ne];exact h1,bC (fun _ _ q=>Qi.write hp q) h2⟩
def HE (b:Int):Str:=if b=3 then "3n0-" else "2-"
theorem SH (b:Int):HE b∈ST:=by
 unfold HE;split <;> decide +kernel
def ahW (c:dN)(b:Int):List Wy:=withPart c [(HE b,0,[])]
def gY (c:dN)(b:Int)(qs:List (Int×Int)):List Wy:=qs.foldl (fun ws q=>withPart c (oN c ws q)) (ahW c b)
theorem qp (c:dN)(b:Int)(qs:List (Int×Int))(q:Int×Int):gY c b (qs++[q])=withPart c (oN c (gY c b qs) q):=by
 unfold gY;rw[List.foldl_append];rfl
def ml (c:dN)(b:Int)(qs:List (Int×Int))(i:Nat):List (List (Str×Int)):=(List.range (i+1)).map fun j=>cN (gY c b (qs.take j))
theorem Z4 (c:dN)(b:Int)(qs:List (Int×Int))(i:Nat):ml c b qs (i+1)=ml c b qs i++[cN (gY c b (qs.take (i+1)))]:=by
 unfold ml;rw[List.range_succ,map_append];rfl
def Fm (c:dN)(b:Int)(qs:List (Int×Int)):List Wy:=(gY c b qs).filter fun w=>iI w.1
def Wsh (qs:List (Int×Int)):Prop:=∀ q∈qs,0<=q.2/\q.2<=9
theorem acZ (c:dN)(b:Int):fq 56 (ahW c b):=sQ (B:=0) ⟨by simp,fun w hw=>by rw[mem_singleton.mp hw];exact SH b,fun w hw=>by rw[mem_singleton.mp hw];exact C' _⟩
theorem kG {c:dN}{b:Int}{qs:List (Int×Int)}(hq:Wsh qs):∀ i,fq (56+57 * i) (gY c b (qs.take i))
 |0=>acZ c b
 |i+1=>by
  have h1:=kG (c:=c) (b:=b) hq i;cases e:qs[i]? with
  |none=>rw[take_succ,e];exact(show fq _ (gY c b (qs.take i++[])) by rw[append_nil];exact h1.mono (by omega))
  |some q =>
   have hm:=hq q (Z' e);rw[take_succ,e];show fq _ (gY c b (qs.take i++[q]));rw[qp];exact(sQ (sP hm.1 hm.2 h1)).mono (by omega)
def EnK (K:Frag)(H:Hp)(y:V)(w:Wy):Prop:=∃ t l ys,y=.ref t/\H t=some (.tup [.int w.2.1,.ref l])/\H l=some (.lst ys)/\Paired (vm K H) ys w.2.2
theorem EnK.kn {K:Frag}{H H':Hp}(k:Kn H H'){y:V}{w:Wy}(h:EnK K H y w):EnK K H' y w:=by
 obtain⟨t,l,ys,e2,h1,h2,h3⟩:=h;exact⟨t,l,ys,e2,k _ _ h1 rfl,k _ _ h2 rfl,vm.xI k h3⟩
theorem ac0 {ws:List Wy}{i:Nat}{w:Wy}(h:ws[i]? = some w):(ws.take (i+1)).filter (fun w=>iI w.1)=(ws.take i).filter (fun w=>iI w.1)++(if iI w.1=true then [w] else []):=by
 rw[take_succ,h,List.filter_append]
 congr 1
 show List.filter _ [w]=_;rw[List.filter_cons];rfl
def fd (ks:List Kd)(rs:List (Nat×Nat))(f:List Int):List Int:=rs.foldl (fun f q=>(settle ks f q.1 q.2).2) f
theorem Yw (ks:List Kd):∀(rs:List (Nat×Nat)) (c:RdS),(rs.foldl (kR ks) c).1=fd ks rs c.1
 |[],_=>rfl
 |r::t,c=>by rw[List.foldl_cons,Yw ks t];rfl
def rd (m:Int)(ks:List Kd):List Int:=(kD m ks).1
theorem ak7 (m:Int)(ks:List Kd):rd m ks=fd ks (E9 m ks) (i0 m ks):=Yw ks _ _
def Fn (r:List Kd):Prop:=∀ k∈r,k.small=true
def Cut (B:List Kd):Prop:=∀ k t,B=k::t->k.small=false
end mi
namespace mi
open PySem L2 PyProof.Rows
def okF (ks:List Kd):List (Nat×Nat)->List Int->Bool
 |[],_=>true
 |p::rs,f=>(settle ks f p.1 p.2).1&&okF ks rs (settle ks f p.1 p.2).2
def ala (m:Int)(ks:List Kd):Bool:=okF ks (E9 m ks) (i0 m ks)
end mi
namespace mi
open PySem L2 PyProof.Rows
def acc:Str->List Kd->List Int->Bool
 |z,[],[]=>iI z
 |z,k::ks,c::cs=>match stS z k c with
  |.str y=>acc y ks cs
  |_=>false
 |_,_,_=>false
def Cl (cs:List Int):Prop:=∀ c∈cs,0<=c/\c<=9
def w2 (k:Kd):Int:=bw (nm 2 k) k none
def w3 (k:Kd):Int:=bw (nm 3 k) k none
def P2 (ks:List Kd)(cs:List Int):Prop:=cs=rd 2 ks/\ala 2 ks=true
def P3 (ks:List Kd)(cs:List Int):Prop:=cs=rd 3 ks/\ala 3 ks=true
structure All (ks:List Kd):Prop where
 two:∀ cs:List Int,cs.length=ks.length->Cl cs->(acc "2-" ks cs=true ↔ P2 ks cs)
 g:∀ cs:List Int,cs.length=ks.length->Cl cs->(acc "2g" ks cs=true ↔ ks.head? ≠ some .dot/\P2 ks cs)
 G:∀ cs:List Int,cs.length=ks.length->Cl cs->(acc "2G" ks cs=true ↔ ks.head? = some .dot/\P2 ks cs)
 n:∀ cs:List Int,cs.length=ks.length->Cl cs->(acc "3n0-" ks cs=true ↔ P3 ks cs)
 w:∀ cs:List Int,cs.length=ks.length->Cl cs->(acc "3w0-" ks cs=true ↔ P3 (.G::ks) (3::cs))
 h:∀ cs:List Int,cs.length=ks.length->Cl cs->(acc "3h0-" ks cs=true ↔ P3 (.G::ks) (2::cs))
 t:∀ cs:List Int,cs.length=ks.length->Cl cs->(acc "3t0-" ks cs=true ↔ qo ks.head? = false/\P3 ks cs)
section
variable {r B:List Kd} (hr:Fn r) (hB:Cut B) (hc:0<r.length) (ihB:All B) (ihT:∀ t,t.length<B.length->All t) {cs:List Int} (hl:cs.length=r.length+B.length) (hcl:Cl cs)
include hr hB hc ihB ihT hl hcl
end
end mi
namespace mi
open PySem L2 PyProof.Rows
def Wt (x:Int):Prop:=0<=x/\x<=9
theorem Yx {m:Int}(hM:Ms m):∀(ks:List Kd),∀ x∈i0 m ks,Wt x
 |[],_,z=>(nomatch z)
 |k::t,x,hx=>by
  rcases List.mem_cons.mp hx with rfl|hx
  ·unfold bw Wt;split
   ·decide
   ·rcases hM.nm k with e|e <;> rw[e] <;> cases k <;> decide
  ·exact Yx (hM.nm k) t x hx
theorem SI {f:List Int}(h:∀ x∈f,Wt x)(i:Nat):∀ x∈f.set i 2,Wt x:=fun x hx=>by
 rcases List.mem_or_eq_of_mem_set hx with z|rfl
 ·exact h x z
 ·exact⟨by decide,by decide⟩
theorem Z5 (ks:List Kd){f:List Int}(h:∀ x∈f,Wt x)(a z:Nat):∀ x∈(settle ks f a z).2,Wt x:=by
 unfold settle EF EG
 repeat' split
 all_goals first|exact h|exact SI h _|exact SI (SI h _) _
theorem ahX (ks:List Kd):∀(rs:List (Nat×Nat)) (f:List Int),(∀ x∈f,Wt x)->∀ x∈fd ks rs f,Wt x
 |[],f,h=>h
 |r::t,f,h=>ahX ks t _ (Z5 ks h r.1 r.2)
theorem age {m:Int}(hM:Ms m)(ks:List Kd):Cl (kD m ks).1:=by
 have:=ahX ks (E9 m ks) (i0 m ks) (Yx hM ks);rw[<-ak7]at this;exact this
end mi
namespace mi
open PySem L2 PyProof.Rows
def xK (K:Frag)(T:Addr):Sp:=fun vs H Q _=>∃(a:Addr)(ns:List Int),vs=[.ref a]/\aX K H a (ns.map V.int)/\ns.length<=63/\H T=some (.EA #[])/\∀ H',Q (.bl true) H'
theorem SJ {K:Frag}{H:Hp}{a T:Addr}{ns:List Int}(hl:ns.length<=63)(hO:Yn T #[] H)(hS:aX K H a (ns.map V.int)):xK K T [.ref a] H (fun v _=>v=.bl true) fun _ _ _=>False :=
 ⟨a,ns,rfl,hS,hl,hO.1,fun _=>rfl⟩
def Fo (s:Sg):Int:=if s.1.kQ then s.2 else -1
def i4:List Sg->List Int->List (Int×Int)
 |s::t,w::ws=>(if s.1.parting then [] else [(Fo s,w)])++i4 t ws
 |_,_=>[]
theorem zU:∀(ss:List Sg)(ws:List Int),(i4 ss ws).length<=ss.length
 |[],_=>by simp[i4]
 |s::t,[]=>by simp[i4]
 |s::t,w::ws=>by
  have:=zU t ws;simp only [i4,length_append,length_cons];split <;> simp <;> omega
theorem JT (k:Kd):vd k.str "GDsd"=k.kQ:=by cases k <;> decide +kernel
theorem iK {n:Nat}(h:n<9000):n<sizeLine:=U' h (by decide)
structure SgT (K:Frag)(H:Hp)(p:Addr)(k:Kd)(n:Int):Prop where
 h:dh K H p [.str k.str,.int n]
theorem SgT.same {K:Frag}{H H':Hp}{p:Addr}{k:Kd}{n:Int}(h:SgT K H p k n)(e:az H H'):SgT K H' p k n:=⟨e.tup h.h⟩
def SgM (K:Frag)(H:Hp)(y:V)(s:Sg):Prop:=∃ p,y=.ref p/\SgT K H p s.1 s.2
abbrev ve (K:Frag)(H:Hp):List V->List Sg->Prop:=Paired (SgM K H)
theorem ve.same {K:Frag}{H H':Hp}(e:az H H'){xs:List V}{ss:List Sg}(h:ve K H xs ss):ve K H' xs ss:=bC (fun _ _ ⟨p,e1,q⟩=>⟨p,e1,q.same e⟩) h
theorem ve.of {K:Frag}{H:Hp}{xs:List V}{ss:List Sg}(h:ZT H xs ss):ve K H xs ss:=bC (fun _ _ ⟨p,e,q⟩=>⟨p,e,⟨dh.of q⟩⟩) h
section
variable {K:Frag} {H:Hp} {p:Addr} {Q:VK}
theorem aoc {k:Kd}{n:Int}(h:SgT K H p k n)(q:Q (.str k.str) H):Hr K (.ref p) (.int 0) H Q\/Hs K (.ref p) (.int 0) H Q\/Ht (.ref p) (.int 0) H Q:=.inr (.inl ⟨p,_,0,_,rfl,rfl,h.h,rfl,q⟩)
theorem aod {k:Kd}{n:Int}(h:SgT K H p k n)(q:Q (.int n) H):Hr K (.ref p) (.int 1) H Q\/Hs K (.ref p) (.int 1) H Q\/Ht (.ref p) (.int 1) H Q:=.inr (.inl ⟨p,_,1,_,rfl,rfl,h.h,rfl,q⟩)
theorem Fp {xs:List V}{ss:List Sg}{i:Int}{n:Nat}{s:Sg}(h:aX K H p xs)(g:ve K H xs ss)(hn:i=n)(e:ss[n]? = some s)(q:∀ b,SgT K H b s.1 s.2->Q (.ref b) H) :
  Hr K (.ref p) (.int i) H Q\/Hs K (.ref p) (.int i) H Q\/Ht (.ref p) (.int i) H Q:=by
 obtain⟨x,hx,b,rfl,hb⟩:=ahO g e;exact Su h hn hx (q b hb)
end
def agf (qs:List (Int×Int)):Prop:=∀ q∈qs,q.1 = -1\/(0<=q.1/\q.1<=99)
theorem JU {c:dN}{z:Str}{n:Int}{s:Sg}{m:Mv}(h:KN c z n s=some m):m.1=s/\costOf c s.1=some m.2.1/\stQ z s.1 n=some m.2.2:=by
 unfold KN at h;cases e1:costOf c s.1 with
 |none=>rw[e1]at h;cases h
 |some a =>
  cases e2:stQ z s.1 n with
  |none=>rw[e1,e2]at h;cases h
  |some y=>rw[e1,e2]at h;cases h;exact⟨rfl,rfl,rfl⟩
theorem zV:∀{ss:List Sg} {ws:List Int} {q:Int×Int},q∈i4 ss ws->∃ s∈ss,s.1.parting=false/\q.1=Fo s/\q.2∈ws
 |[],_,q,h=>by simp[i4]at h
 |_::_,[],q,h=>by simp[i4]at h
 |s::t,w::ws,q,h=>by
  simp only [i4]at h;rcases mem_append.mp h with z|z
  ·cases e:s.1.parting with
   |true=>rw[e]at z;simp at z
   |false =>
    rw[e]at z;have:q=(Fo s,w):=by simpa using z
    subst this;exact⟨s,mem_cons_self,e,rfl,mem_cons_self⟩
  ·obtain⟨s',a,b,c,d⟩:=zV z;exact⟨s',Zb' _ a,b,c,Zb' _ d⟩
theorem Z6 {ss:List Sg}{ws:List Int}(h:Cl ws):Wsh (i4 ss ws):=fun q hq=>by
 obtain⟨_,_,_,_,d⟩:=zV hq;exact h _ d
theorem SK {ss:List Sg}{ws:List Int}(h:∀ s∈ss,s.1.kQ=true->0<=s.2/\s.2<100):agf (i4 ss ws):=fun q hq=>by
 obtain⟨s,a,b,c,_⟩:=zV hq;rw[c];unfold Fo;cases e:s.1.kQ with
 |true=>have:=h s a e;exact .inr ⟨by rw[R' rfl];exact this.1,by rw[R' rfl];omega⟩
 |false=>exact .inl rfl
def HF (c:dN):Prop:=∀ k n,costOf c k=some n->0<=n
def Lw (ws:List Wy)(z:Str)(p:Int):Prop:=∃ q,bR ws z=some q/\q.1<=p
theorem Lw.mono {ws:List Wy}{z:Str}{p p':Int}(h:Lw ws z p)(hp:p<=p'):Lw ws z p':=by
 obtain⟨q,e,l⟩:=h;exact⟨q,e,by omega⟩
theorem Qj:∀(ws:List Wy)(z:Str)(c:Int)(ln:List Sg)(z':Str),bR (ws++[(z,c,ln)]) z'=match bR ws z' with|some q=>some q|none=>if z=z' then some (c,ln) else none
 |[],z,c,ln,z'=>rfl
 |w::t,z,c,ln,z'=>by
  show bR (w::(t++[(z,c,ln)])) z'=_;unfold bR
  by_cases e:w.1=z'
  ·rw[R' e,R' e]
  ·rw[L' e,L' e];exact Qj t z c ln z'
theorem Qk:∀(ws:List Wy)(z:Str)(c:Int)(ln:List Sg)(z':Str),bR (Qh ws z c ln) z'=if z'=z then(bR ws z).map (fun _=>(c,ln)) else bR ws z'
 |[],z,c,ln,z'=>by
  show none=_;split <;> rfl
 |w::t,z,c,ln,z'=>by
  have ih:=Qk t z c ln z';show bR ((if w.1=z then(z,c,ln) else w)::Qh t z c ln) z'=_;unfold bR
  by_cases e:w.1=z
  ·rw[R' e,R' e]
   by_cases e2:z=z'
   ·rw[R' e2,R' e2.symm];rfl
   ·rw[L' e2,L' (Ne.symm e2),ih,L' (Ne.symm e2),L' (fun q=>e2 (e.symm.trans q))]
  ·rw[L' e,L' e]
   by_cases e2:w.1=z'
   ·rw[R' e2,L' (fun q=>e (e2.trans q)),R' e2]
   ·rw[L' e2,ih,L' e2]
theorem uV (ws:List Wy)(z:Str)(c:Int)(ln:List Sg)(z':Str):bR (gW ws z c ln) z'=if z'=z then some (match bR ws z with|none=>(c,ln)|some q=>if c<q.1 then(c,ln) else q) else bR ws z':=by
 unfold gW;cases e:bR ws z with
 |none =>
  show bR (ws++[(z,c,ln)]) z'=_;rw[Qj]
  by_cases h:z'=z
  ·subst h;rw[e,R' rfl]
   try exact R' rfl
  ·rw[L' h,L' (Ne.symm h)];cases bR ws z' <;> rfl
 |some q =>
  dsimp only
  by_cases hc:c<q.1
  ·rw[R' hc,Qk,e];split <;> rfl
  ·rw[L' hc]
   by_cases h:z'=z
   ·subst h;rw[R' rfl,e,L' hc]
   ·rw[L' h]
theorem ac1 (ws:List Wy)(z:Str)(c:Int)(ln:List Sg):Lw (gW ws z c ln) z c:=by
 refine⟨_,by rw[uV,R' rfl],?_⟩;cases bR ws z with
 |none=>exact Int.le_refl _
 |some q =>
  dsimp only;split
  ·exact Int.le_refl _
  ·show q.1<=c;omega
theorem SN {ws:List Wy}{z:Str}{c:Int}{ln:List Sg}{z':Str}{p:Int}(h:Lw ws z' p):Lw (gW ws z c ln) z' p:=by
 obtain⟨q,e,l⟩:=h
 by_cases hz:z'=z
 ·subst hz;refine⟨_,by rw[uV,R' rfl],?_⟩;rw[e];dsimp only;split
  ·show c<=p;omega
  ·exact l
 ·exact⟨q,by rw[uV,L' hz];exact e,l⟩
theorem SO {ws:List Wy}{z:Str}{c:Int}{ln:List Sg}(h:Lw ws z c):gW ws z c ln=ws:=by
 obtain⟨q,e,l⟩:=h;unfold gW;rw[e];exact L' (by omega)
theorem qr {k:Int}{ln:List Sg}{z:Str}{p:Int}:∀{ms:List Mv} {acc:List Wy},Lw acc z p->Lw (eA k ln ms acc) z p
 |[],_,h=>h
 |_::t,_,h=>qr (ms:=t) (SN h)
theorem Fq {k:Int}{ln:List Sg}{m:Mv}:∀{ms:List Mv} {acc:List Wy},m∈ms->Lw (eA k ln ms acc) m.2.2 (k+m.2.1)
 |x::t,acc,h=>by
  rcases List.mem_cons.mp h with rfl|h
  ·exact qr (ms:=t) (ac1 ..)
  ·exact Fq (ms:=t) h
theorem Fs {k:Int}{ln:List Sg}:∀{ms:List Mv} {acc:List Wy},(∀ m∈ms,Lw acc m.2.2 (k+m.2.1))->eA k ln ms acc=acc
 |[],_,_=>rfl
 |m::t,acc,h=>by
  show eA k ln t (gW acc m.2.2 (k+m.2.1) (ln++[m.1]))=acc;rw[SO (h m mem_cons_self)];exact Fs (ms:=t) fun x hx=>h x (Zb' _ hx)
theorem oa {k:Int}{ln:List Sg}{z:Str}:∀{ms:List Mv} {acc:List Wy},bR (eA k ln ms acc) z=bR acc z\/∃ m∈ms,m.2.2=z/\(∃ l,bR (eA k ln ms acc) z=some (k+m.2.1,l))/\∀ q,bR acc z=some q->k+m.2.1<q.1
 |[],_=>.inl rfl
 |m::t,acc=>by
  have ih:=oa (k:=k) (ln:=ln) (z:=z) (ms:=t) (acc:=gW acc m.2.2 (k+m.2.1) (ln++[m.1]));have hk:=uV acc m.2.2 (k+m.2.1) (ln++[m.1]) z;show bR (eA k ln t (gW acc m.2.2 (k+m.2.1) (ln++[m.1]))) z=bR acc z\/∃ x∈m::t,x.2.2=z/\(∃ l,bR (eA k ln t (gW acc m.2.2 (k+m.2.1) (ln++[m.1]))) z=some (k+x.2.1,l))/\∀ q,bR acc z=some q->k+x.2.1<q.1
  by_cases hz:z=m.2.2
  ·rw[R' hz,<-hz]at hk;cases e:bR acc z with
   |none =>
    rw[e]at hk;rcases ih with ih|⟨x,hx,h1,h2,_⟩
    ·exact .inr ⟨m,mem_cons_self,hz.symm,⟨_,by rw[<-hz]at ih ⊢;rw[ih,hk]⟩,fun q z=>(nomatch z)⟩
    ·exact .inr ⟨x,Zb' _ hx,h1,h2,fun q z=>(nomatch z)⟩
   |some q =>
    rw[e]at hk;dsimp only at hk;rcases ih with ih|⟨x,hx,h1,h2,h3⟩
    ·by_cases hc:k+m.2.1<q.1
     ·rw[R' hc]at hk;refine .inr ⟨m,mem_cons_self,hz.symm,⟨_,by rw[<-hz]at ih ⊢;rw[ih,hk]⟩,fun q' z=>?_⟩;cases z;exact hc
     ·rw[L' hc]at hk;exact .inl (by rw[<-hz]at ih ⊢;rw[ih,hk])
    ·refine .inr ⟨x,Zb' _ hx,h1,h2,fun q' z=>?_⟩;cases z;rw[<-hz]at h3;have:=h3 _ hk;split at this
     ·next hc=>have h4:k+x.2.1<k+m.2.1:=this;omega
     ·exact this
  ·rw[L' hz]at hk;rcases ih with ih|⟨x,hx,h1,h2,h3⟩
   ·exact .inl (ih.trans hk)
   ·exact .inr ⟨x,Zb' _ hx,h1,h2,fun q e=>h3 q (hk.trans e)⟩
def Yy (z:Str):Prop:=z = "2-"\/z = "3n0-"
instance (z:Str):Decidable (Yy z):=by unfold Yy;exact inferInstance
theorem ac2:(ST.all fun z=>[Kd.dot,Kd.three,Kd.two].all fun k=>match stQ z k 0 with|some y=>decide (Yy y)|none=>true)=true:=by lk
theorem Yz {c:dN}{z:Str}(hz:z∈ST){m:Mv}(hm:m∈a7 c z 0 gX):Yy m.2.2:=by
 obtain⟨s,hs,e⟩:=List.mem_filterMap.mp hm;obtain⟨e1,e2,e3⟩:=JU e;have hk:s.1∈[Kd.dot,Kd.three,Kd.two]:=by
  unfold gX at hs;simp only [List.mem_cons,List.not_mem_nil,or_false]at hs ⊢;rcases hs with rfl|rfl|rfl <;> simp
 have:=all_eq_true.mp (all_eq_true.mp ac2 z hz) s.1 hk;rw[e3]at this;exact M' this
theorem Ft {c:dN}(hc:HF c){z:Str}{n:Int}{ss:List Sg}{m:Mv}(hm:m∈a7 c z n ss):0<=m.2.1:=by
 obtain⟨s,hs,e⟩:=List.mem_filterMap.mp hm;obtain⟨e1,e2,e3⟩:=JU e;exact hc _ _ e2
def Cz (c:dN)(acc:List Wy)(z:Str):Prop:=∀ q,bR acc z=some q->∀ m∈a7 c z 0 gX,Lw acc m.2.2 (q.1+m.2.1)
theorem Fu {c:dN}{acc:List Wy}{x z:Str}{p:Int}(h:Lw acc z p):Lw (dW c acc x) z p:=by
 unfold dW;cases bR acc x with
 |none=>exact h
 |some q=>exact qr h
theorem vI {c:dN}(hc:HF c)(acc:List Wy)(x:Str):bR (dW c acc x) x=bR acc x:=by
 unfold dW;cases e:bR acc x with
 |none=>exact e
 |some q =>
  dsimp only;rcases oa (k:=q.1) (ln:=q.2) (z:=x) (ms:=a7 c x 0 gX) (acc:=acc) with h|⟨m,hm,_,_,h⟩
  ·exact h.trans e
  ·have h1:=h q e;have h2:=Ft hc hm;omega
theorem Ql {c:dN}(hc:HF c)(acc:List Wy)(x:Str):Cz c (dW c acc x) x:=by
 intro q hq m hm;rw[vI hc]at hq;unfold dW;rw[hq];exact Fq hm
theorem SQ {c:dN}{acc:List Wy}{x:Str}(h:Cz c acc x):dW c acc x=acc:=by
 unfold dW;cases e:bR acc x with
 |none=>rfl
 |some q=>exact Fs (h q e)
theorem Fv {c:dN}{acc:List Wy}{x z:Str}(hx:x∈ST)(hz:¬ Yy z):bR (dW c acc x) z=bR acc z:=by
 unfold dW;cases e:bR acc x with
 |none=>rfl
 |some q =>
  dsimp only;rcases oa (k:=q.1) (ln:=q.2) (z:=z) (ms:=a7 c x 0 gX) (acc:=acc) with h|⟨m,hm,h,_⟩
  ·exact h
  ·exact absurd (h ▸ Yz hx hm) hz
theorem Cz.keep {c:dN}{acc acc':List Wy}{z:Str}(h:Cz c acc z)(e:bR acc' z=bR acc z)(mo:∀ y p,Lw acc y p->Lw acc' y p):Cz c acc' z:=fun q hq m hm=>mo _ _ (h q (e ▸ hq) m hm)
theorem B2 {c:dN}(hc:HF c){acc:List Wy}{x y:Str}(hy:y∈ST)(sx:Yy x)(sy:Yy y):bR (dW c acc x) y=bR acc y\/Cz c (dW c acc x) y:=by
 by_cases hxy:x=y
 ·subst hxy;exact .inl (vI hc acc x)
 cases e:bR acc x with
 |none=>unfold dW;rw[e];exact .inl rfl
 |some q =>
  have hs:=vI hc acc x;have hp:dW c acc x=eA q.1 q.2 (a7 c x 0 gX) acc:=by unfold dW;rw[e]
  rcases oa (k:=q.1) (ln:=q.2) (z:=y) (ms:=a7 c x 0 gX) (acc:=acc) with h|⟨m,hm,h1,⟨l,h2⟩,_⟩
  ·exact .inl (by rw[hp];exact h)
  ·refine .inr fun q' hq' m' hm'=>?_;rw[hp,h2]at hq';cases hq';have p1:=Ft hc hm;have p2:=Ft hc hm';have t:=Yz hy hm';have lx:Lw (dW c acc x) x q.1:=⟨q,hs.trans e,Int.le_refl _⟩;have ly:Lw (dW c acc x) y (q.1+m.2.1):=⟨_,by rw[hp];exact h2,Int.le_refl _⟩;show Lw (dW c acc x) m'.2.2 (q.1+m.2.1+m'.2.1);have txy:m'.2.2=x\/m'.2.2=y:=by
    rcases sx with s1|s1 <;> rcases sy with s2|s2 <;> first|exact absurd (s1.trans s2.symm) hxy|(rcases t with t|t <;> first|exact .inl (t.trans s1.symm)|exact .inr (t.trans s2.symm))
   rcases txy with e1|e1
   ·rw[e1];exact lx.mono (by omega)
   ·rw[e1];exact ly.mono (by omega)
theorem qt {c:dN}{z:Str}{p:Int}:∀{zs:List Str} {acc:List Wy},Lw acc z p->Lw (kF c zs acc) z p
 |[],_,h=>h
 |x::t,acc,h=>by
  rw[mj];exact qt (zs:=t) (Fu h)
theorem vJ {c:dN}{z:Str}(hz:¬ Yy z):∀{zs:List Str} {acc:List Wy},(∀ x∈zs,x∈ST)->bR (kF c zs acc) z=bR acc z
 |[],_,_=>rfl
 |x::t,acc,h=>by
  rw[mj,vJ hz (zs:=t) fun y hy=>h y (Zb' _ hy)];exact Fv (h x mem_cons_self) hz
theorem JV {c:dN}(hc:HF c){z:Str}(hz:¬ Yy z):∀{zs:List Str} {acc:List Wy},(∀ x∈zs,x∈ST)->z∈zs->Cz c (kF c zs acc) z
 |x::t,acc,h,hm=>by
  rw[mj]
  by_cases e:z∈t
  ·exact JV hc hz (zs:=t) (fun y hy=>h y (Zb' _ hy)) e
  ·have:z=x:=(List.mem_cons.mp hm).resolve_right e;subst this;exact(Ql hc acc z).keep (vJ hz fun y hy=>h y (Zb' _ hy)) fun y p l=>qt l
theorem zW {c:dN}(hc:HF c):∀{todo:List Str} (done:List Str) {acc:List Wy},(∀ x∈todo,x∈ST)->(∀ z,¬ Yy z->Cz c acc z)->(∀ z∈ST,Yy z->z∈done->Cz c acc z)->(∀ z∈ST,Yy z->z ∉ done->z ∉ todo->Cz c acc z)->∀ z∈ST,Cz c (kF c todo acc) z
 |[],done,acc,_,h1,h2,h3,z,hz=>by
  by_cases s:Yy z
  ·by_cases d:z∈done
   ·exact h2 z hz s d
   ·exact h3 z hz s d (by simp)
  ·exact h1 z s
 |x::t,done,acc,hT,h1,h2,h3,z,hz=>by
  rw[mj];have hx:=hT x mem_cons_self;have hT':∀ y∈t,y∈ST:=fun y hy=>hT y (Zb' _ hy)
  by_cases s:Yy x
  ·have mo:∀ y p,Lw acc y p->Lw (dW c acc x) y p:=fun y p l=>Fu l;refine zW hc (todo:=t) (x::done) hT' (fun y hy=>(h1 y hy).keep (Fv hx hy) mo) (fun y hy sy dy=>?_) (fun y hy sy dy ty=>?_) z hz
   ·rcases List.mem_cons.mp dy with rfl|dy
    ·exact Ql hc acc y
    ·rcases B2 hc (acc:=acc) hy s sy with e|e
     ·exact(h2 y hy sy dy).keep e mo
     ·exact e
   ·have n1:y≠x:=fun e=>dy (e ▸ mem_cons_self);have n2:y ∉ done:=fun e=>dy (Zb' _ e);rcases B2 hc (acc:=acc) hy s sy with e|e
    ·exact(h3 y hy sy n2 (fun z=>(List.mem_cons.mp z).elim n1 ty)).keep e mo
    ·exact e
  ·rw[SQ (h1 x s)];refine zW hc (todo:=t) done hT' h1 h2 (fun y hy sy dy ty=>h3 y hy sy dy fun z=>?_) z hz;rcases List.mem_cons.mp z with rfl|z
   ·exact s sy
   ·exact ty z
theorem Qm {ws:List Wy}{z:Str}{q:Int×List Sg}(h:bR ws z=some q):z∈ws.map (·.1):=mem_map.mpr ⟨(z,q),xJ h,rfl⟩
theorem Cf {c:dN}(hc:HF c){B:Nat}{ws:List Wy}(h:fq B ws):∀ z∈ST,Cz c (withPart c ws) z:=by
 have k0:∀ x∈ws.map (·.1),x∈ST:=fun x hx=>by
  obtain⟨w,hw,rfl⟩:=mem_map.mp hx;exact h.st w hw
 have h1:fq (B+28 * 1) (Ce c ws 1):=EI h 1;have k1:∀ x∈(Ce c ws 1).map (·.1),x∈ST:=fun x hx=>by
  obtain⟨w,hw,rfl⟩:=mem_map.mp hx;exact h1.st w hw
 refine zW hc [] k1 (fun z hz=>?_) (fun z _ _ d=>(nomatch d)) fun z _ _ _ hn=>fun q hq=>absurd (Qm hq) hn;intro q hq;have e:bR (Ce c ws 1) z=bR ws z:=vJ hz k0;rw[e]at hq;have:=JV hc hz (acc:=ws) k0 (Qm hq);exact this q (e.trans hq)
theorem vn {c:dN}{ws:List Wy}{z:Str}{p:Int}(h:Lw ws z p):Lw (withPart c ws) z p:=qt (qt h)
theorem vo {c:dN}{q:Int×Int}{z:Str}{p:Int}:∀{ws acc:List Wy},Lw acc z p->Lw (iq c q ws acc) z p
 |[],_,h=>h
 |_::t,_,h=>vo (ws:=t) (qr h)
theorem B3 {c:dN}{q:Int×Int}{w:Wy}{m:Mv}:∀{ws acc:List Wy},w∈ws->m∈a7 c w.1 q.2 (dX q.1)->Lw (iq c q ws acc) m.2.2 (w.2.1+m.2.1)
 |x::t,acc,hw,hm=>by
  rcases List.mem_cons.mp hw with rfl|hw
  ·exact vo (ws:=t) (Fq hm)
  ·exact B3 (ws:=t) hw hm
theorem snoc_cases {α:Type}(l:List α):l=[]\/∃ l' x,l=l'++[x]:=by
 rcases List.eq_nil_or_concat l with h|⟨l',x,h⟩
 ·exact .inl h
 ·exact .inr ⟨l',x,by rw[h];simp⟩
structure PrB (c:dN):Prop where
 a:∀ n,c.1=some n->1<=n
 b:∀ n,c.2.1=some n->1<=n
 c:∀ n,c.2.2=some n->1<=n
theorem PrB.pos {c:dN}(h:PrB c):HF c:=fun k n e=>by
 cases k <;> first|(have:=h.a n e;omega)|(have:=h.b n e;omega)|(have:=h.c n e;omega)|(cases e;exact Int.le_refl _)
theorem ajr:bootBuiltins "set"=some (.type "set"):=by lk
abbrev Nb:=List (Str×Int)
def gN:Nb->Str->Option Int
 |[],_=>none
 |p::t,y=>if p.1=y then some p.2 else gN t y
def lN (t:Nb):List (Key×V):=t.map fun p=>(Sum.inr p.1,V.int p.2)
theorem uW:∀(t:Nb)(z:Str),rP (lN t) (Sum.inr z)=(gN t z).map V.int
 |[],_=>rfl
 |p::t,z=>by
  unfold gN
  by_cases e:p.1=z
  ·rw[R' e];exact sE (congrArg Sum.inr e)
  ·rw[L' e,<-uW t z];exact sG (fun q=>e (Sum.inr.inj q))
theorem EJ {t:Nb}{i:Nat}{kv:Key×V}(h:(lN t)[i]? = some kv):∃ p,t[i]? = some p/\kv=(Sum.inr p.1,V.int p.2):=by
 unfold lN at h;rw[getElem?_map]at h;cases e:t[i]? with
 |none=>rw[e]at h;cases h
 |some p=>rw[e]at h;exact⟨p,rfl,(Za' h).symm⟩
theorem uX (t:Nb):(lN t).length=t.length:=O' ..
theorem YA {t:Nb}{z:Str}{n:Int}(h:gN t z=none):putK (lN t) (Sum.inr z) (.int n)=lN (t++[(z,n)]):=by
 unfold putK;rw[sH,uW,h,L' (by decide)];unfold lN;rw[map_append];rfl
theorem EK {z:Str}:∀{t:Nb},gN t z=none ↔ z ∉ t.map (·.1)
 |[]=>by simp[gN]
 |p::t=>by
  unfold gN
  by_cases e:p.1=z
  ·rw[R' e];simp[e]
  ·rw[L' e,EK];simp[show ¬ z=p.1 from fun q=>e q.symm]
theorem ac3 {z:Str}{n:Int}:∀{t:Nb},(t.map (·.1)).Nodup->((z,n)∈t)->gN t z=some n
 |[],_,h=>nomatch h
 |p::t,hn,h=>by
  rw[map_cons,List.nodup_cons]at hn;unfold gN;rcases List.mem_cons.mp h with e|h
  ·rw[<-e,R' rfl]
  ·rw[L' (fun e=>hn.1 (by rw[e];exact mem_map.mpr ⟨_,h,rfl⟩))];exact ac3 hn.2 h
def zX (t:Nb)(z:Str)(m:Int):Bool:=match gN t z with
 |some n=>decide (n<=m)
 |none=>false
def Fw (t:Nb)(n:Int)(ms:List Mv):Bool:=ms.all fun m=>zX t m.2.2 (n+m.2.1)
def bdP (c:dN)(t:Nb):Bool:=t.all fun p=>Fw t p.2 (a7 c p.1 0 gX)
def Z7 (c:dN)(t u:Nb)(q:Int×Int):Bool:=t.all fun p=>Fw u p.2 (a7 c p.1 q.2 (dX q.1))
def jC (t:Nb):List Int:=(t.filter fun p=>iI p.1).map (·.2)
def rcB (t:Nb)(o:Option Int):Bool:=match o with
 |none=>(jC t).isEmpty
 |some m=>(jC t).all fun n=>decide (m<=n)
def Fx (t:Nb):Bool:=decide ((t.map (·.1)).Nodup)&&t.all fun p=>decide (p.1∈ST)
def hdB (c:dN)(b:Int)(o:Option Int)(qs:List (Int×Int))(ts:List Nb):Bool :=
 decide (ts.length=qs.length+1)&&(ts.all Fx&&(zX (ts.headD []) (HE b) 0&&(ts.all (bdP c)&&((List.range qs.length).all (fun i=>Z7 c (ts.getD i []) (ts.getD (i+1) []) (qs.getD i (0,0)))&&rcB (ts.getD qs.length []) o))))
theorem qu {α:Type}{f:α->Bool}{l:List α}{i:Nat}{x:α}(h:l[i]? = some x)(ha:(l.take i).all f=true)(hx:f x=true):(l.take (i+1)).all f=true:=by
 rw[take_succ,h,List.all_append,ha];simp[hx]
theorem qv {α:Type}{f:α->Bool}{l:List α}{i:Nat}{x:α}(h:l[i]? = some x)(hx:f x=false):l.all f=false :=
 List.all_eq_false.mpr ⟨x,Z' h,by rw[hx];decide⟩
theorem ac4 (z:Str):inV (.str z) (ST.map V.str)=decide (z∈ST):=by
 rw[Bool.eq_iff_iff,decide_eq_true_iff];unfold inV;rw[List.any_eq_true];constructor
 ·rintro⟨y,hy,e⟩;obtain⟨x,hx,rfl⟩:=mem_map.mp hy;have:x=z\/z=x:=by
   have e:Zz _ _=true:=e;simp[Zz]at e
   first|exact .inl e|exact .inr e
  rcases this with rfl|rfl <;> exact hx
 ·intro h;exact⟨_,mem_map.mpr ⟨z,h,rfl⟩,by simp[Zz]⟩
theorem ddS (ns:List Str):decide ((KA ((ns.map (Sum.inr:Str->Key)).reverse)).length=ns.length)=decide ns.Nodup:=by
 rw[Bool.eq_iff_iff,decide_eq_true_iff,decide_eq_true_iff];have h:=JN ((ns.map (Sum.inr:Str->Key)).reverse);rw[List.length_reverse,O']at h;rw[h];unfold List.Nodup;rw[List.pairwise_reverse,List.pairwise_map];exact⟨fun h=>h.imp fun n e=>n (by rw[e]),fun h=>h.imp fun n e=>n (Sum.inr.inj e).symm⟩
end mi
local macro_rules | `(tactic| tm_up) => `(tactic| repeat w_up)
local macro_rules | `(tactic| w_up) => `(tactic| first
 |refine⟨_,rfl,?_⟩
 |refine⟨_,_,rfl,rfl,⟨by decide,by decide⟩,?_⟩
 |refine⟨_,_,rfl,rfl,(by first|decide|(show(0:Int)<_;decide)),?_⟩
 |refine .inl ⟨_,_,rfl,rfl,.inr ⟨by decide,by decide⟩,?_⟩
 |refine⟨_,_,rfl,rfl,?_⟩
 |refine .inl ⟨_,_,rfl,rfl,?_⟩
 |refine .inl ⟨rfl,?_⟩
 |refine .inr ⟨_,_,rfl,rfl,?_⟩
 |refine mi.ix0 (by assumption) ?_
 |refine mi.ix1 (by assumption) ?_
 |refine mi.aoc (by assumption) ?_
 |refine mi.aod (by assumption) ?_)
noncomputable section
namespace Hd
open PySem PySem.W
noncomputable abbrev pr:Program:=PySem.Challenge.rw_noteworth_k28_papers_told.prog
noncomputable def tp (i:Nat):Stmt:=pr.main.body.getD i (.Pass ⟨0,0,0,0⟩)
noncomputable def m0:Nat:=11
noncomputable def ann:Option Value:=some (.ref 6)
noncomputable def drawn:Drawn:=boot_drawn
noncomputable def eG:Pos:=⟨0,0,0,0⟩
noncomputable def code:Value:=.ref 13
noncomputable def frame:Nat:=14
noncomputable def fB (P:Params):Obj:=⟨.type "tuple",none,.seq #[] 0,#[]⟩
noncomputable def ah0 (P:Params):Obj:=⟨.none,none,.fields #[],#[]⟩
noncomputable def fD (P:Params):Obj:=⟨.type "code",none,.fields #[.str "<module>" 182,.str "<module>" 183,.str "/claim/cut.py" 184,.int (1) 0,.int (0) 0,.int (0) 0,.int (0) 0,.int (0) 0,.ref 11,.bool false,.int (181) 0,.ref 12,.none,.none,.none,.none,.int (185) 0,.int (1) 0,.str "/claim/cut.py" 186],#[]⟩
noncomputable def fE (P:Params):Obj:=⟨.type "frame",none,.plain,#[some (.ref 13),some (.ref 3),some (.ref 3),none,some (.str "__main__" 164),none,some (.ref 0)]⟩
noncomputable def H1 (P:Params):Heap:=⟨⟨[boot_o_0 P,boot_o_1 P,boot_o_2 P,boot_o_3 P,boot_o_4 P,boot_o_5 P,boot_o_6 P,boot_o_7 P,boot_o_8 P,boot_o_9 P,boot_o_10 P,fB P,ah0 P,fD P,fE P]⟩,(boot_heap P).life⟩
noncomputable def k1:Nat:=187
noncomputable def n1:Nat:=12
noncomputable def p1:Pos:=⟨0,0,0,0⟩
noncomputable def H2 (P:Params):Heap:=⟨⟨[boot_o_0 P,boot_o_1 P,boot_o_2 P,boot_o_3 P,boot_o_4 P,boot_o_5 P,boot_o_6 P,boot_o_7 P,boot_o_8 P,boot_o_9 P,boot_o_10 P,fB P,ah0 P,fD P,fE P]⟩,(boot_heap P).life⟩
noncomputable def k2:Nat:=187
noncomputable def n2:Nat:=1
noncomputable def p2:Pos:=⟨0,0,0,0⟩
noncomputable def Cg (P:Params):Obj:=⟨.type "dict",none,.dict #[⟨PyData.keyHash P "__name__",.str "__name__" 165,.str "noteworth.steps" 238⟩,⟨PyData.keyHash P "__doc__",.str "__doc__" 166,.none⟩,⟨PyData.keyHash P "__package__",.str "__package__" 167,.none⟩,⟨PyData.keyHash P "__loader__",.str "__loader__" 168,.builtin "__main__.__loader__#opaque"⟩,⟨PyData.keyHash P "__spec__",.str "__spec__" 169,.none⟩,⟨PyData.keyHash P "__annotations__",.str "__annotations__" 170,.ref 6⟩,⟨PyData.keyHash P "__builtins__",.str "__builtins__" 171,.ref 4⟩,⟨PyData.keyHash P "__file__",.str "__file__" 173,.str "/claim/cut.py" 172⟩,⟨PyData.keyHash P "__cached__",.str "__cached__" 174,.none⟩,⟨PyData.keyHash P "SMALL_KINDS",.str "SMALL_KINDS" 192,.ref 15⟩,⟨PyData.keyHash P "PARTING_KINDS",.str "PARTING_KINDS" 196,.ref 16⟩,⟨PyData.keyHash P "MEASURE_KINDS",.str "MEASURE_KINDS" 199,.ref 17⟩,⟨PyData.keyHash P "SOUNDING_KINDS",.str "SOUNDING_KINDS" 204,.ref 18⟩,⟨PyData.keyHash P "small",.str "small" 211,.ref 25⟩,⟨PyData.keyHash P "parting",.str "parting" 218,.ref 32⟩,⟨PyData.keyHash P "DARK_KINDS",.str "DARK_KINDS" 223,.ref 33⟩,⟨PyData.keyHash P "sign_price",.str "sign_price" 234,.ref 40⟩,⟨PyData.keyHash P "REST_TONE",.str "REST_TONE" 237,.int (-1) 236⟩,⟨PyData.keyHash P "TWOFOLD_STATES",.str "TWOFOLD_STATES" 243,.ref 41⟩,⟨PyData.keyHash P "TWOFOLD_BEGIN",.str "TWOFOLD_BEGIN" 245,.str "2-" 244⟩,⟨PyData.keyHash P "THREEFOLD_BEGIN",.str "THREEFOLD_BEGIN" 247,.str "3n0-" 246⟩,⟨PyData.keyHash P "SHORTENED_FROM_AHEAD",.str "SHORTENED_FROM_AHEAD" 249,.str "3t0-" 248⟩,⟨PyData.keyHash P "NO_RUN",.str "NO_RUN" 251,.str "0-" 250⟩,⟨PyData.keyHash P "RUNS_GOING_ON",.str "RUNS_GOING_ON" 259,.ref 42⟩,⟨PyData.keyHash P "LEFTS_OF_RUNS",.str "LEFTS_OF_RUNS" 263,.ref 43⟩,⟨PyData.keyHash P "NEXT_COUNTS",.str "NEXT_COUNTS" 273,.ref 44⟩] 26,#[]⟩
noncomputable def i5 (P:Params):Obj:=⟨.none,none,.fields #[.int (6) 0,.int (0) 0,.ref 24,.int (8) 0,.int (0) 0,.ref 31,.int (12) 0,.int (0) 0,.ref 39],#[]⟩
noncomputable def fI (P:Params):Obj:=⟨.type "tuple",none,.seq #[.str "s" 189,.str "d" 190,.str "r" 191] 0,#[]⟩
noncomputable def fJ (P:Params):Obj:=⟨.type "tuple",none,.seq #[.str "." 193,.str "3" 194,.str "2" 195] 0,#[]⟩
noncomputable def fK (P:Params):Obj:=⟨.type "tuple",none,.seq #[.str "3" 197,.str "2" 198] 0,#[]⟩
noncomputable def fL (P:Params):Obj:=⟨.type "tuple",none,.seq #[.str "G" 200,.str "D" 201,.str "s" 202,.str "d" 203] 0,#[]⟩
noncomputable def fM (P:Params):Obj:=⟨.type "tuple",none,.seq #[] 0,#[]⟩
noncomputable def gZ (P:Params):Obj:=⟨.none,none,.fields #[],#[]⟩
noncomputable def fN (P:Params):Obj:=⟨.type "tuple",none,.seq #[.str "sign" 208] 0,#[]⟩
noncomputable def fO (P:Params):Obj:=⟨.type "tuple",none,.seq #[] 0,#[]⟩
noncomputable def g0 (P:Params):Obj:=⟨.none,none,.func { name:="small",qualname:="small",params:=L2.ak (tp 5),body:=.stmts (L2.ah (tp 5)),scope:=L2.ae (tp 5),globals:=0,closure:=[],defaults:=.none,kwdefaults:=.none,doc:=.none,pyModule:=.none,annotations:=none,code:=.none,closureTuple:=.none,builtins:=0 },#[]⟩
noncomputable def fQ (P:Params):Obj:=⟨.type "code",none,.fields #[.str "small" 205,.str "small" 206,.str "/claim/cut.py" 207,.int (6) 0,.int (1) 0,.int (0) 0,.int (0) 0,.int (3) 0,.ref 19,.bool true,.int (181) 0,.ref 20,.none,.ref 21,.ref 22,.ref 23,.int (209) 0,.int (6) 0,.str "/claim/cut.py" 210],#[]⟩
noncomputable def fR (P:Params):Obj:=⟨.type "function",none,.func { name:="small",qualname:="small",params:=L2.ak (tp 5),body:=.stmts (L2.ah (tp 5)),scope:=L2.ae (tp 5),globals:=3,closure:=[],defaults:=.none,kwdefaults:=.none,doc:=.none,pyModule:=.str "noteworth.signs" 187,annotations:=none,code:=.ref 24,closureTuple:=.none,builtins:=0 },#[]⟩
noncomputable def fS (P:Params):Obj:=⟨.type "tuple",none,.seq #[] 0,#[]⟩
noncomputable def g8 (P:Params):Obj:=⟨.none,none,.fields #[],#[]⟩
noncomputable def fU (P:Params):Obj:=⟨.type "tuple",none,.seq #[.str "sign" 215] 0,#[]⟩
noncomputable def fV (P:Params):Obj:=⟨.type "tuple",none,.seq #[] 0,#[]⟩
noncomputable def hG (P:Params):Obj:=⟨.none,none,.func { name:="parting",qualname:="parting",params:=L2.ak (tp 6),body:=.stmts (L2.ah (tp 6)),scope:=L2.ae (tp 6),globals:=0,closure:=[],defaults:=.none,kwdefaults:=.none,doc:=.none,pyModule:=.none,annotations:=none,code:=.none,closureTuple:=.none,builtins:=0 },#[]⟩
noncomputable def fW (P:Params):Obj:=⟨.type "code",none,.fields #[.str "parting" 212,.str "parting" 213,.str "/claim/cut.py" 214,.int (8) 0,.int (1) 0,.int (0) 0,.int (0) 0,.int (3) 0,.ref 26,.bool true,.int (181) 0,.ref 27,.none,.ref 28,.ref 29,.ref 30,.int (216) 0,.int (8) 0,.str "/claim/cut.py" 217],#[]⟩
noncomputable def fX (P:Params):Obj:=⟨.type "function",none,.func { name:="parting",qualname:="parting",params:=L2.ak (tp 6),body:=.stmts (L2.ah (tp 6)),scope:=L2.ae (tp 6),globals:=3,closure:=[],defaults:=.none,kwdefaults:=.none,doc:=.none,pyModule:=.str "noteworth.signs" 187,annotations:=none,code:=.ref 31,closureTuple:=.none,builtins:=0 },#[]⟩
noncomputable def fY (P:Params):Obj:=⟨.type "tuple",none,.seq #[.str "D" 221,.str "d" 222] 0,#[]⟩
noncomputable def fZ (P:Params):Obj:=⟨.type "tuple",none,.seq #[] 0,#[]⟩
noncomputable def hI (P:Params):Obj:=⟨.none,none,.fields #[],#[]⟩
noncomputable def gb (P:Params):Obj:=⟨.type "tuple",none,.seq #[.str "sign" 227,.str "prices" 228,.str "dot" 229,.str "dark" 230,.str "measure" 231] 0,#[]⟩
noncomputable def gg (P:Params):Obj:=⟨.type "tuple",none,.seq #[] 0,#[]⟩
noncomputable def hU (P:Params):Obj:=⟨.none,none,.func { name:="sign_price",qualname:="sign_price",params:=L2.ak (tp 9),body:=.stmts (L2.ah (tp 9)),scope:=L2.ae (tp 9),globals:=0,closure:=[],defaults:=.none,kwdefaults:=.none,doc:=.none,pyModule:=.none,annotations:=none,code:=.none,closureTuple:=.none,builtins:=0 },#[]⟩
noncomputable def gh (P:Params):Obj:=⟨.type "code",none,.fields #[.str "sign_price" 224,.str "sign_price" 225,.str "/claim/cut.py" 226,.int (12) 0,.int (2) 0,.int (0) 0,.int (0) 0,.int (3) 0,.ref 34,.bool true,.int (181) 0,.ref 35,.none,.ref 36,.ref 37,.ref 38,.int (232) 0,.int (12) 0,.str "/claim/cut.py" 233],#[]⟩
noncomputable def gi (P:Params):Obj:=⟨.type "function",none,.func { name:="sign_price",qualname:="sign_price",params:=L2.ak (tp 9),body:=.stmts (L2.ah (tp 9)),scope:=L2.ae (tp 9),globals:=3,closure:=[],defaults:=.none,kwdefaults:=.none,doc:=.none,pyModule:=.str "noteworth.prices" 219,annotations:=none,code:=.ref 39,closureTuple:=.none,builtins:=0 },#[]⟩
noncomputable def gj (P:Params):Obj:=⟨.type "tuple",none,.seq #[.str "2-" 240,.str "2g" 241,.str "2G" 242] 0,#[]⟩
noncomputable def gk (P:Params):Obj:=⟨.type "tuple",none,.seq #[.str "0s" 252,.str "0o" 253,.str "1s" 254,.str "1o" 255,.str "2s" 256,.str "2S" 257,.str "2o" 258] 0,#[]⟩
noncomputable def gn (P:Params):Obj:=⟨.type "tuple",none,.seq #[.str "n" 260,.str "w" 261,.str "h" 262] 0,#[]⟩
noncomputable def gp (P:Params):Obj:=⟨.type "dict",none,.dict #[⟨PyData.keyHash P "0",.str "0" 264,.str "1" 265⟩,⟨PyData.keyHash P "1",.str "1" 266,.str "2" 267⟩,⟨PyData.keyHash P "2",.str "2" 268,.str "0" 269⟩] 3,#[]⟩
noncomputable def H3 (P:Params):Heap:=⟨⟨[boot_o_0 P,boot_o_1 P,boot_o_2 P,Cg P,boot_o_4 P,boot_o_5 P,boot_o_6 P,boot_o_7 P,boot_o_8 P,boot_o_9 P,boot_o_10 P,fB P,i5 P,fD P,fE P,fI P,fJ P,fK P,fL P,fM P,gZ P,fN P,fO P,g0 P,fQ P,fR P,fS P,g8 P,fU P,fV P,hG P,fW P,fX P,fY P,fZ P,hI P,gb P,gg P,hU P,gh P,gi P,gj P,gk P,gn P,gp P]⟩,(boot_heap P).life⟩
noncomputable def k3:Nat:=274
noncomputable def n3:Nat:=331
noncomputable def p3:Pos:=⟨30,0,30,11⟩
noncomputable def s3:List Stmt:=[tp 0,tp 1,tp 2,tp 3,tp 4,tp 5,tp 6,tp 7,tp 8,tp 9,tp 10,tp 11,tp 12,tp 13,tp 14,tp 15,tp 16,tp 17,tp 18,tp 19]
noncomputable def d4:Nat:=45
noncomputable def dp4:Pos:=⟨31,16,31,178⟩
noncomputable def vs4:List (Value×Value):=[(.ref 46,.str "2-" 276),(.ref 47,.str "2-" 279),(.ref 48,.str "2-" 282),(.ref 49,.str "2-" 285),(.ref 50,.str "2-" 288),(.ref 51,.str "2g" 291),(.ref 52,.str "2G" 294),(.ref 53,.str "2-" 297),(.ref 54,.str "2-" 300),(.ref 55,.str "3n0-" 303)]
noncomputable def agi (P:Params):Obj:=⟨.type "dict",none,.dict #[] 0,#[]⟩
noncomputable def cw (P:Params):Obj:=⟨.type "tuple",none,.seq #[.str "s" 274,.int (1) 275] 0,#[]⟩
noncomputable def cx (P:Params):Obj:=⟨.type "tuple",none,.seq #[.str "d" 277,.int (1) 278] 0,#[]⟩
noncomputable def cy (P:Params):Obj:=⟨.type "tuple",none,.seq #[.str "r" 280,.int (1) 281] 0,#[]⟩
noncomputable def cz (P:Params):Obj:=⟨.type "tuple",none,.seq #[.str "D" 283,.int (2) 284] 0,#[]⟩
noncomputable def cA (P:Params):Obj:=⟨.type "tuple",none,.seq #[.str "R" 286,.int (2) 287] 0,#[]⟩
noncomputable def cB (P:Params):Obj:=⟨.type "tuple",none,.seq #[.str "G" 289,.int (2) 290] 0,#[]⟩
noncomputable def cC (P:Params):Obj:=⟨.type "tuple",none,.seq #[.str "G" 292,.int (3) 293] 0,#[]⟩
noncomputable def cD (P:Params):Obj:=⟨.type "tuple",none,.seq #[.str "." 295,.int (0) 296] 0,#[]⟩
noncomputable def cF (P:Params):Obj:=⟨.type "tuple",none,.seq #[.str "2" 298,.int (0) 299] 0,#[]⟩
noncomputable def cG (P:Params):Obj:=⟨.type "tuple",none,.seq #[.str "3" 301,.int (0) 302] 0,#[]⟩
noncomputable def KQ (P:Params):Heap:=⟨⟨[boot_o_0 P,boot_o_1 P,boot_o_2 P,Cg P,boot_o_4 P,boot_o_5 P,boot_o_6 P,boot_o_7 P,boot_o_8 P,boot_o_9 P,boot_o_10 P,fB P,i5 P,fD P,fE P,fI P,fJ P,fK P,fL P,fM P,gZ P,fN P,fO P,g0 P,fQ P,fR P,fS P,g8 P,fU P,fV P,hG P,fW P,fX P,fY P,fZ P,hI P,gb P,gg P,hU P,gh P,gi P,gj P,gk P,gn P,gp P,agi P,cw P,cx P,cy P,cz P,cA P,cB P,cC P,cD P,cF P,cG P]⟩,(boot_heap P).life⟩
noncomputable def Qn:Nat:=304
noncomputable def aof (P:Params):Array DictEntry:=#[]
noncomputable def alb:Nat:=0
noncomputable def alc:Nat:=46
noncomputable def ald:Value:=.str "2-" 276
noncomputable def agj (P:Params):Obj:=⟨.type "dict",none,.dict #[⟨th P "s" (1),.ref 46,.str "2-" 276⟩] 1,#[]⟩
noncomputable def KR (P:Params):Heap:=⟨⟨[boot_o_0 P,boot_o_1 P,boot_o_2 P,Cg P,boot_o_4 P,boot_o_5 P,boot_o_6 P,boot_o_7 P,boot_o_8 P,boot_o_9 P,boot_o_10 P,fB P,i5 P,fD P,fE P,fI P,fJ P,fK P,fL P,fM P,gZ P,fN P,fO P,g0 P,fQ P,fR P,fS P,g8 P,fU P,fV P,hG P,fW P,fX P,fY P,fZ P,hI P,gb P,gg P,hU P,gh P,gi P,gj P,gk P,gn P,gp P,agj P,cw P,cx P,cy P,cz P,cA P,cB P,cC P,cD P,cF P,cG P]⟩,(boot_heap P).life⟩
noncomputable def HG:Nat:=307
noncomputable def aog (P:Params):Array DictEntry:=#[⟨th P "s" (1),.ref 46,.str "2-" 276⟩]
noncomputable def ale:Nat:=1
noncomputable def alf:Nat:=47
noncomputable def alg:Value:=.str "2-" 279
noncomputable def agk (P:Params):Obj:=⟨.type "dict",none,.dict #[⟨th P "s" (1),.ref 46,.str "2-" 276⟩,⟨th P "d" (1),.ref 47,.str "2-" 279⟩] 2,#[]⟩
noncomputable def KS (P:Params):Heap:=⟨⟨[boot_o_0 P,boot_o_1 P,boot_o_2 P,Cg P,boot_o_4 P,boot_o_5 P,boot_o_6 P,boot_o_7 P,boot_o_8 P,boot_o_9 P,boot_o_10 P,fB P,i5 P,fD P,fE P,fI P,fJ P,fK P,fL P,fM P,gZ P,fN P,fO P,g0 P,fQ P,fR P,fS P,g8 P,fU P,fV P,hG P,fW P,fX P,fY P,fZ P,hI P,gb P,gg P,hU P,gh P,gi P,gj P,gk P,gn P,gp P,agk P,cw P,cx P,cy P,cz P,cA P,cB P,cC P,cD P,cF P,cG P]⟩,(boot_heap P).life⟩
noncomputable def HH:Nat:=310
noncomputable def aoh (P:Params):Array DictEntry:=#[⟨th P "s" (1),.ref 46,.str "2-" 276⟩,⟨th P "d" (1),.ref 47,.str "2-" 279⟩]
noncomputable def alh:Nat:=2
noncomputable def ali:Nat:=48
noncomputable def alj:Value:=.str "2-" 282
noncomputable def agl (P:Params):Obj:=⟨.type "dict",none,.dict #[⟨th P "s" (1),.ref 46,.str "2-" 276⟩,⟨th P "d" (1),.ref 47,.str "2-" 279⟩,⟨th P "r" (1),.ref 48,.str "2-" 282⟩] 3,#[]⟩
noncomputable def KU (P:Params):Heap:=⟨⟨[boot_o_0 P,boot_o_1 P,boot_o_2 P,Cg P,boot_o_4 P,boot_o_5 P,boot_o_6 P,boot_o_7 P,boot_o_8 P,boot_o_9 P,boot_o_10 P,fB P,i5 P,fD P,fE P,fI P,fJ P,fK P,fL P,fM P,gZ P,fN P,fO P,g0 P,fQ P,fR P,fS P,g8 P,fU P,fV P,hG P,fW P,fX P,fY P,fZ P,hI P,gb P,gg P,hU P,gh P,gi P,gj P,gk P,gn P,gp P,agl P,cw P,cx P,cy P,cz P,cA P,cB P,cC P,cD P,cF P,cG P]⟩,(boot_heap P).life⟩
noncomputable def HI:Nat:=313
noncomputable def aoi (P:Params):Array DictEntry:=#[⟨th P "s" (1),.ref 46,.str "2-" 276⟩,⟨th P "d" (1),.ref 47,.str "2-" 279⟩,⟨th P "r" (1),.ref 48,.str "2-" 282⟩]
noncomputable def alk:Nat:=3
noncomputable def alm:Nat:=49
noncomputable def aln:Value:=.str "2-" 285
noncomputable def agm (P:Params):Obj:=⟨.type "dict",none,.dict #[⟨th P "s" (1),.ref 46,.str "2-" 276⟩,⟨th P "d" (1),.ref 47,.str "2-" 279⟩,⟨th P "r" (1),.ref 48,.str "2-" 282⟩,⟨th P "D" (2),.ref 49,.str "2-" 285⟩] 4,#[]⟩
noncomputable def KW (P:Params):Heap:=⟨⟨[boot_o_0 P,boot_o_1 P,boot_o_2 P,Cg P,boot_o_4 P,boot_o_5 P,boot_o_6 P,boot_o_7 P,boot_o_8 P,boot_o_9 P,boot_o_10 P,fB P,i5 P,fD P,fE P,fI P,fJ P,fK P,fL P,fM P,gZ P,fN P,fO P,g0 P,fQ P,fR P,fS P,g8 P,fU P,fV P,hG P,fW P,fX P,fY P,fZ P,hI P,gb P,gg P,hU P,gh P,gi P,gj P,gk P,gn P,gp P,agm P,cw P,cx P,cy P,cz P,cA P,cB P,cC P,cD P,cF P,cG P]⟩,(boot_heap P).life⟩
noncomputable def HJ:Nat:=316
noncomputable def aoj (P:Params):Array DictEntry:=#[⟨th P "s" (1),.ref 46,.str "2-" 276⟩,⟨th P "d" (1),.ref 47,.str "2-" 279⟩,⟨th P "r" (1),.ref 48,.str "2-" 282⟩,⟨th P "D" (2),.ref 49,.str "2-" 285⟩]
noncomputable def alo:Nat:=4
noncomputable def alp:Nat:=50
noncomputable def alq:Value:=.str "2-" 288
noncomputable def agn (P:Params):Obj:=⟨.type "dict",none,.dict #[⟨th P "s" (1),.ref 46,.str "2-" 276⟩,⟨th P "d" (1),.ref 47,.str "2-" 279⟩,⟨th P "r" (1),.ref 48,.str "2-" 282⟩,⟨th P "D" (2),.ref 49,.str "2-" 285⟩,⟨th P "R" (2),.ref 50,.str "2-" 288⟩] 5,#[]⟩
noncomputable def KY (P:Params):Heap:=⟨⟨[boot_o_0 P,boot_o_1 P,boot_o_2 P,Cg P,boot_o_4 P,boot_o_5 P,boot_o_6 P,boot_o_7 P,boot_o_8 P,boot_o_9 P,boot_o_10 P,fB P,i5 P,fD P,fE P,fI P,fJ P,fK P,fL P,fM P,gZ P,fN P,fO P,g0 P,fQ P,fR P,fS P,g8 P,fU P,fV P,hG P,fW P,fX P,fY P,fZ P,hI P,gb P,gg P,hU P,gh P,gi P,gj P,gk P,gn P,gp P,agn P,cw P,cx P,cy P,cz P,cA P,cB P,cC P,cD P,cF P,cG P]⟩,(boot_heap P).life⟩
noncomputable def HK:Nat:=319
noncomputable def aol (P:Params):Array DictEntry:=#[⟨th P "s" (1),.ref 46,.str "2-" 276⟩,⟨th P "d" (1),.ref 47,.str "2-" 279⟩,⟨th P "r" (1),.ref 48,.str "2-" 282⟩,⟨th P "D" (2),.ref 49,.str "2-" 285⟩,⟨th P "R" (2),.ref 50,.str "2-" 288⟩]
noncomputable def alr:Nat:=5
noncomputable def als:Nat:=51
noncomputable def alu:Value:=.str "2g" 291
noncomputable def ago (P:Params):Obj:=⟨.type "dict",none,.dict #[⟨th P "s" (1),.ref 46,.str "2-" 276⟩,⟨th P "d" (1),.ref 47,.str "2-" 279⟩,⟨th P "r" (1),.ref 48,.str "2-" 282⟩,⟨th P "D" (2),.ref 49,.str "2-" 285⟩,⟨th P "R" (2),.ref 50,.str "2-" 288⟩,⟨th P "G" (2),.ref 51,.str "2g" 291⟩] 6,#[]⟩
noncomputable def KZ (P:Params):Heap:=⟨⟨[boot_o_0 P,boot_o_1 P,boot_o_2 P,Cg P,boot_o_4 P,boot_o_5 P,boot_o_6 P,boot_o_7 P,boot_o_8 P,boot_o_9 P,boot_o_10 P,fB P,i5 P,fD P,fE P,fI P,fJ P,fK P,fL P,fM P,gZ P,fN P,fO P,g0 P,fQ P,fR P,fS P,g8 P,fU P,fV P,hG P,fW P,fX P,fY P,fZ P,hI P,gb P,gg P,hU P,gh P,gi P,gj P,gk P,gn P,gp P,ago P,cw P,cx P,cy P,cz P,cA P,cB P,cC P,cD P,cF P,cG P]⟩,(boot_heap P).life⟩
noncomputable def HL:Nat:=322
noncomputable def aom (P:Params):Array DictEntry:=#[⟨th P "s" (1),.ref 46,.str "2-" 276⟩,⟨th P "d" (1),.ref 47,.str "2-" 279⟩,⟨th P "r" (1),.ref 48,.str "2-" 282⟩,⟨th P "D" (2),.ref 49,.str "2-" 285⟩,⟨th P "R" (2),.ref 50,.str "2-" 288⟩,⟨th P "G" (2),.ref 51,.str "2g" 291⟩]
noncomputable def alv:Nat:=6
noncomputable def alw:Nat:=52
noncomputable def alx:Value:=.str "2G" 294
noncomputable def agp (P:Params):Obj:=⟨.type "dict",none,.dict #[⟨th P "s" (1),.ref 46,.str "2-" 276⟩,⟨th P "d" (1),.ref 47,.str "2-" 279⟩,⟨th P "r" (1),.ref 48,.str "2-" 282⟩,⟨th P "D" (2),.ref 49,.str "2-" 285⟩,⟨th P "R" (2),.ref 50,.str "2-" 288⟩,⟨th P "G" (2),.ref 51,.str "2g" 291⟩,⟨th P "G" (3),.ref 52,.str "2G" 294⟩] 7,#[]⟩
noncomputable def K0 (P:Params):Heap:=⟨⟨[boot_o_0 P,boot_o_1 P,boot_o_2 P,Cg P,boot_o_4 P,boot_o_5 P,boot_o_6 P,boot_o_7 P,boot_o_8 P,boot_o_9 P,boot_o_10 P,fB P,i5 P,fD P,fE P,fI P,fJ P,fK P,fL P,fM P,gZ P,fN P,fO P,g0 P,fQ P,fR P,fS P,g8 P,fU P,fV P,hG P,fW P,fX P,fY P,fZ P,hI P,gb P,gg P,hU P,gh P,gi P,gj P,gk P,gn P,gp P,agp P,cw P,cx P,cy P,cz P,cA P,cB P,cC P,cD P,cF P,cG P]⟩,(boot_heap P).life⟩
noncomputable def HM:Nat:=325
noncomputable def aon (P:Params):Array DictEntry:=#[⟨th P "s" (1),.ref 46,.str "2-" 276⟩,⟨th P "d" (1),.ref 47,.str "2-" 279⟩,⟨th P "r" (1),.ref 48,.str "2-" 282⟩,⟨th P "D" (2),.ref 49,.str "2-" 285⟩,⟨th P "R" (2),.ref 50,.str "2-" 288⟩,⟨th P "G" (2),.ref 51,.str "2g" 291⟩,⟨th P "G" (3),.ref 52,.str "2G" 294⟩]
noncomputable def aly:Nat:=7
noncomputable def alz:Nat:=53
noncomputable def alA:Value:=.str "2-" 297
noncomputable def agq (P:Params):Obj:=⟨.type "dict",none,.dict #[⟨th P "s" (1),.ref 46,.str "2-" 276⟩,⟨th P "d" (1),.ref 47,.str "2-" 279⟩,⟨th P "r" (1),.ref 48,.str "2-" 282⟩,⟨th P "D" (2),.ref 49,.str "2-" 285⟩,⟨th P "R" (2),.ref 50,.str "2-" 288⟩,⟨th P "G" (2),.ref 51,.str "2g" 291⟩,⟨th P "G" (3),.ref 52,.str "2G" 294⟩,⟨th P "." (0),.ref 53,.str "2-" 297⟩] 8,#[]⟩
noncomputable def K1 (P:Params):Heap:=⟨⟨[boot_o_0 P,boot_o_1 P,boot_o_2 P,Cg P,boot_o_4 P,boot_o_5 P,boot_o_6 P,boot_o_7 P,boot_o_8 P,boot_o_9 P,boot_o_10 P,fB P,i5 P,fD P,fE P,fI P,fJ P,fK P,fL P,fM P,gZ P,fN P,fO P,g0 P,fQ P,fR P,fS P,g8 P,fU P,fV P,hG P,fW P,fX P,fY P,fZ P,hI P,gb P,gg P,hU P,gh P,gi P,gj P,gk P,gn P,gp P,agq P,cw P,cx P,cy P,cz P,cA P,cB P,cC P,cD P,cF P,cG P]⟩,(boot_heap P).life⟩
noncomputable def HN:Nat:=328
noncomputable def aoo (P:Params):Array DictEntry:=#[⟨th P "s" (1),.ref 46,.str "2-" 276⟩,⟨th P "d" (1),.ref 47,.str "2-" 279⟩,⟨th P "r" (1),.ref 48,.str "2-" 282⟩,⟨th P "D" (2),.ref 49,.str "2-" 285⟩,⟨th P "R" (2),.ref 50,.str "2-" 288⟩,⟨th P "G" (2),.ref 51,.str "2g" 291⟩,⟨th P "G" (3),.ref 52,.str "2G" 294⟩,⟨th P "." (0),.ref 53,.str "2-" 297⟩]
noncomputable def alB:Nat:=8
noncomputable def alC:Nat:=54
noncomputable def alD:Value:=.str "2-" 300
noncomputable def agr (P:Params):Obj:=⟨.type "dict",none,.dict #[⟨th P "s" (1),.ref 46,.str "2-" 276⟩,⟨th P "d" (1),.ref 47,.str "2-" 279⟩,⟨th P "r" (1),.ref 48,.str "2-" 282⟩,⟨th P "D" (2),.ref 49,.str "2-" 285⟩,⟨th P "R" (2),.ref 50,.str "2-" 288⟩,⟨th P "G" (2),.ref 51,.str "2g" 291⟩,⟨th P "G" (3),.ref 52,.str "2G" 294⟩,⟨th P "." (0),.ref 53,.str "2-" 297⟩,⟨th P "2" (0),.ref 54,.str "2-" 300⟩] 9,#[]⟩
noncomputable def K2 (P:Params):Heap:=⟨⟨[boot_o_0 P,boot_o_1 P,boot_o_2 P,Cg P,boot_o_4 P,boot_o_5 P,boot_o_6 P,boot_o_7 P,boot_o_8 P,boot_o_9 P,boot_o_10 P,fB P,i5 P,fD P,fE P,fI P,fJ P,fK P,fL P,fM P,gZ P,fN P,fO P,g0 P,fQ P,fR P,fS P,g8 P,fU P,fV P,hG P,fW P,fX P,fY P,fZ P,hI P,gb P,gg P,hU P,gh P,gi P,gj P,gk P,gn P,gp P,agr P,cw P,cx P,cy P,cz P,cA P,cB P,cC P,cD P,cF P,cG P]⟩,(boot_heap P).life⟩
noncomputable def HP:Nat:=331
noncomputable def aop (P:Params):Array DictEntry:=#[⟨th P "s" (1),.ref 46,.str "2-" 276⟩,⟨th P "d" (1),.ref 47,.str "2-" 279⟩,⟨th P "r" (1),.ref 48,.str "2-" 282⟩,⟨th P "D" (2),.ref 49,.str "2-" 285⟩,⟨th P "R" (2),.ref 50,.str "2-" 288⟩,⟨th P "G" (2),.ref 51,.str "2g" 291⟩,⟨th P "G" (3),.ref 52,.str "2G" 294⟩,⟨th P "." (0),.ref 53,.str "2-" 297⟩,⟨th P "2" (0),.ref 54,.str "2-" 300⟩]
noncomputable def alE:Nat:=9
noncomputable def alF:Nat:=55
noncomputable def alG:Value:=.str "3n0-" 303
noncomputable def fg (P:Params):Obj:=⟨.type "dict",none,.dict #[⟨th P "s" (1),.ref 46,.str "2-" 276⟩,⟨th P "d" (1),.ref 47,.str "2-" 279⟩,⟨th P "r" (1),.ref 48,.str "2-" 282⟩,⟨th P "D" (2),.ref 49,.str "2-" 285⟩,⟨th P "R" (2),.ref 50,.str "2-" 288⟩,⟨th P "G" (2),.ref 51,.str "2g" 291⟩,⟨th P "G" (3),.ref 52,.str "2G" 294⟩,⟨th P "." (0),.ref 53,.str "2-" 297⟩,⟨th P "2" (0),.ref 54,.str "2-" 300⟩,⟨th P "3" (0),.ref 55,.str "3n0-" 303⟩] 10,#[]⟩
noncomputable def YB (P:Params):Heap:=⟨⟨[boot_o_0 P,boot_o_1 P,boot_o_2 P,Cg P,boot_o_4 P,boot_o_5 P,boot_o_6 P,boot_o_7 P,boot_o_8 P,boot_o_9 P,boot_o_10 P,fB P,i5 P,fD P,fE P,fI P,fJ P,fK P,fL P,fM P,gZ P,fN P,fO P,g0 P,fQ P,fR P,fS P,g8 P,fU P,fV P,hG P,fW P,fX P,fY P,fZ P,hI P,gb P,gg P,hU P,gh P,gi P,gj P,gk P,gn P,gp P,fg P,cw P,cx P,cy P,cz P,cA P,cB P,cC P,cD P,cF P,cG P]⟩,(boot_heap P).life⟩
noncomputable def JW:Nat:=334
noncomputable def t4:Stmt:=tp 20
noncomputable def Z8 (P:Params):Obj:=⟨.type "dict",none,.dict #[⟨PyData.keyHash P "__name__",.str "__name__" 165,.str "noteworth.steps" 238⟩,⟨PyData.keyHash P "__doc__",.str "__doc__" 166,.none⟩,⟨PyData.keyHash P "__package__",.str "__package__" 167,.none⟩,⟨PyData.keyHash P "__loader__",.str "__loader__" 168,.builtin "__main__.__loader__#opaque"⟩,⟨PyData.keyHash P "__spec__",.str "__spec__" 169,.none⟩,⟨PyData.keyHash P "__annotations__",.str "__annotations__" 170,.ref 6⟩,⟨PyData.keyHash P "__builtins__",.str "__builtins__" 171,.ref 4⟩,⟨PyData.keyHash P "__file__",.str "__file__" 173,.str "/claim/cut.py" 172⟩,⟨PyData.keyHash P "__cached__",.str "__cached__" 174,.none⟩,⟨PyData.keyHash P "SMALL_KINDS",.str "SMALL_KINDS" 192,.ref 15⟩,⟨PyData.keyHash P "PARTING_KINDS",.str "PARTING_KINDS" 196,.ref 16⟩,⟨PyData.keyHash P "MEASURE_KINDS",.str "MEASURE_KINDS" 199,.ref 17⟩,⟨PyData.keyHash P "SOUNDING_KINDS",.str "SOUNDING_KINDS" 204,.ref 18⟩,⟨PyData.keyHash P "small",.str "small" 211,.ref 25⟩,⟨PyData.keyHash P "parting",.str "parting" 218,.ref 32⟩,⟨PyData.keyHash P "DARK_KINDS",.str "DARK_KINDS" 223,.ref 33⟩,⟨PyData.keyHash P "sign_price",.str "sign_price" 234,.ref 40⟩,⟨PyData.keyHash P "REST_TONE",.str "REST_TONE" 237,.int (-1) 236⟩,⟨PyData.keyHash P "TWOFOLD_STATES",.str "TWOFOLD_STATES" 243,.ref 41⟩,⟨PyData.keyHash P "TWOFOLD_BEGIN",.str "TWOFOLD_BEGIN" 245,.str "2-" 244⟩,⟨PyData.keyHash P "THREEFOLD_BEGIN",.str "THREEFOLD_BEGIN" 247,.str "3n0-" 246⟩,⟨PyData.keyHash P "SHORTENED_FROM_AHEAD",.str "SHORTENED_FROM_AHEAD" 249,.str "3t0-" 248⟩,⟨PyData.keyHash P "NO_RUN",.str "NO_RUN" 251,.str "0-" 250⟩,⟨PyData.keyHash P "RUNS_GOING_ON",.str "RUNS_GOING_ON" 259,.ref 42⟩,⟨PyData.keyHash P "LEFTS_OF_RUNS",.str "LEFTS_OF_RUNS" 263,.ref 43⟩,⟨PyData.keyHash P "NEXT_COUNTS",.str "NEXT_COUNTS" 273,.ref 44⟩,⟨PyData.keyHash P "TWOFOLD_STEPS",.str "TWOFOLD_STEPS" 334,.ref 45⟩] 27,#[]⟩
noncomputable def H4 (P:Params):Heap:=⟨⟨[boot_o_0 P,boot_o_1 P,boot_o_2 P,Z8 P,boot_o_4 P,boot_o_5 P,boot_o_6 P,boot_o_7 P,boot_o_8 P,boot_o_9 P,boot_o_10 P,fB P,i5 P,fD P,fE P,fI P,fJ P,fK P,fL P,fM P,gZ P,fN P,fO P,g0 P,fQ P,fR P,fS P,g8 P,fU P,fV P,hG P,fW P,fX P,fY P,fZ P,hI P,gb P,gg P,hU P,gh P,gi P,gj P,gk P,gn P,gp P,fg P,cw P,cx P,cy P,cz P,cA P,cB P,cC P,cD P,cF P,cG P]⟩,(boot_heap P).life⟩
noncomputable def k4:Nat:=335
noncomputable def n4:Nat:=351
noncomputable def p4:Pos:=⟨31,0,31,13⟩
noncomputable def d5:Nat:=56
noncomputable def dp5:Pos:=⟨32,14,32,86⟩
noncomputable def vs5:List (Value×Value):=[(.ref 57,.str "3w0-" 337),(.ref 58,.str "3h0-" 340),(.ref 59,.str "3n0-" 343),(.ref 60,.str "3n0-" 346)]
noncomputable def ags (P:Params):Obj:=⟨.type "dict",none,.dict #[] 0,#[]⟩
noncomputable def kj (P:Params):Obj:=⟨.type "tuple",none,.seq #[.str "G" 335,.int (3) 336] 0,#[]⟩
noncomputable def km (P:Params):Obj:=⟨.type "tuple",none,.seq #[.str "G" 338,.int (2) 339] 0,#[]⟩
noncomputable def ko (P:Params):Obj:=⟨.type "tuple",none,.seq #[.str "D" 341,.int (2) 342] 0,#[]⟩
noncomputable def kq (P:Params):Obj:=⟨.type "tuple",none,.seq #[.str "R" 344,.int (3) 345] 0,#[]⟩
noncomputable def K3 (P:Params):Heap:=⟨⟨[boot_o_0 P,boot_o_1 P,boot_o_2 P,Z8 P,boot_o_4 P,boot_o_5 P,boot_o_6 P,boot_o_7 P,boot_o_8 P,boot_o_9 P,boot_o_10 P,fB P,i5 P,fD P,fE P,fI P,fJ P,fK P,fL P,fM P,gZ P,fN P,fO P,g0 P,fQ P,fR P,fS P,g8 P,fU P,fV P,hG P,fW P,fX P,fY P,fZ P,hI P,gb P,gg P,hU P,gh P,gi P,gj P,gk P,gn P,gp P,fg P,cw P,cx P,cy P,cz P,cA P,cB P,cC P,cD P,cF P,cG P,ags P,kj P,km P,ko P,kq P]⟩,(boot_heap P).life⟩
noncomputable def Qo:Nat:=347
noncomputable def aor (P:Params):Array DictEntry:=#[]
noncomputable def alH:Nat:=0
noncomputable def alI:Nat:=57
noncomputable def alJ:Value:=.str "3w0-" 337
noncomputable def agt (P:Params):Obj:=⟨.type "dict",none,.dict #[⟨th P "G" (3),.ref 57,.str "3w0-" 337⟩] 1,#[]⟩
noncomputable def K4 (P:Params):Heap:=⟨⟨[boot_o_0 P,boot_o_1 P,boot_o_2 P,Z8 P,boot_o_4 P,boot_o_5 P,boot_o_6 P,boot_o_7 P,boot_o_8 P,boot_o_9 P,boot_o_10 P,fB P,i5 P,fD P,fE P,fI P,fJ P,fK P,fL P,fM P,gZ P,fN P,fO P,g0 P,fQ P,fR P,fS P,g8 P,fU P,fV P,hG P,fW P,fX P,fY P,fZ P,hI P,gb P,gg P,hU P,gh P,gi P,gj P,gk P,gn P,gp P,fg P,cw P,cx P,cy P,cz P,cA P,cB P,cC P,cD P,cF P,cG P,agt P,kj P,km P,ko P,kq P]⟩,(boot_heap P).life⟩
noncomputable def HQ:Nat:=350
noncomputable def aos (P:Params):Array DictEntry:=#[⟨th P "G" (3),.ref 57,.str "3w0-" 337⟩]
noncomputable def alK:Nat:=1
noncomputable def alL:Nat:=58
noncomputable def alM:Value:=.str "3h0-" 340
noncomputable def agu (P:Params):Obj:=⟨.type "dict",none,.dict #[⟨th P "G" (3),.ref 57,.str "3w0-" 337⟩,⟨th P "G" (2),.ref 58,.str "3h0-" 340⟩] 2,#[]⟩
noncomputable def K5 (P:Params):Heap:=⟨⟨[boot_o_0 P,boot_o_1 P,boot_o_2 P,Z8 P,boot_o_4 P,boot_o_5 P,boot_o_6 P,boot_o_7 P,boot_o_8 P,boot_o_9 P,boot_o_10 P,fB P,i5 P,fD P,fE P,fI P,fJ P,fK P,fL P,fM P,gZ P,fN P,fO P,g0 P,fQ P,fR P,fS P,g8 P,fU P,fV P,hG P,fW P,fX P,fY P,fZ P,hI P,gb P,gg P,hU P,gh P,gi P,gj P,gk P,gn P,gp P,fg P,cw P,cx P,cy P,cz P,cA P,cB P,cC P,cD P,cF P,cG P,agu P,kj P,km P,ko P,kq P]⟩,(boot_heap P).life⟩
noncomputable def HR:Nat:=353
noncomputable def aot (P:Params):Array DictEntry:=#[⟨th P "G" (3),.ref 57,.str "3w0-" 337⟩,⟨th P "G" (2),.ref 58,.str "3h0-" 340⟩]
noncomputable def alN:Nat:=2
noncomputable def alO:Nat:=59
noncomputable def alP:Value:=.str "3n0-" 343
noncomputable def agv (P:Params):Obj:=⟨.type "dict",none,.dict #[⟨th P "G" (3),.ref 57,.str "3w0-" 337⟩,⟨th P "G" (2),.ref 58,.str "3h0-" 340⟩,⟨th P "D" (2),.ref 59,.str "3n0-" 343⟩] 3,#[]⟩
noncomputable def K6 (P:Params):Heap:=⟨⟨[boot_o_0 P,boot_o_1 P,boot_o_2 P,Z8 P,boot_o_4 P,boot_o_5 P,boot_o_6 P,boot_o_7 P,boot_o_8 P,boot_o_9 P,boot_o_10 P,fB P,i5 P,fD P,fE P,fI P,fJ P,fK P,fL P,fM P,gZ P,fN P,fO P,g0 P,fQ P,fR P,fS P,g8 P,fU P,fV P,hG P,fW P,fX P,fY P,fZ P,hI P,gb P,gg P,hU P,gh P,gi P,gj P,gk P,gn P,gp P,fg P,cw P,cx P,cy P,cz P,cA P,cB P,cC P,cD P,cF P,cG P,agv P,kj P,km P,ko P,kq P]⟩,(boot_heap P).life⟩
noncomputable def HS:Nat:=356
noncomputable def aou (P:Params):Array DictEntry:=#[⟨th P "G" (3),.ref 57,.str "3w0-" 337⟩,⟨th P "G" (2),.ref 58,.str "3h0-" 340⟩,⟨th P "D" (2),.ref 59,.str "3n0-" 343⟩]
noncomputable def alQ:Nat:=3
noncomputable def alR:Nat:=60
noncomputable def alS:Value:=.str "3n0-" 346
noncomputable def uY (P:Params):Obj:=⟨.type "dict",none,.dict #[⟨th P "G" (3),.ref 57,.str "3w0-" 337⟩,⟨th P "G" (2),.ref 58,.str "3h0-" 340⟩,⟨th P "D" (2),.ref 59,.str "3n0-" 343⟩,⟨th P "R" (3),.ref 60,.str "3n0-" 346⟩] 4,#[]⟩
noncomputable def agw (P:Params):Heap:=⟨⟨[boot_o_0 P,boot_o_1 P,boot_o_2 P,Z8 P,boot_o_4 P,boot_o_5 P,boot_o_6 P,boot_o_7 P,boot_o_8 P,boot_o_9 P,boot_o_10 P,fB P,i5 P,fD P,fE P,fI P,fJ P,fK P,fL P,fM P,gZ P,fN P,fO P,g0 P,fQ P,fR P,fS P,g8 P,fU P,fV P,hG P,fW P,fX P,fY P,fZ P,hI P,gb P,gg P,hU P,gh P,gi P,gj P,gk P,gn P,gp P,fg P,cw P,cx P,cy P,cz P,cA P,cB P,cC P,cD P,cF P,cG P,uY P,kj P,km P,ko P,kq P]⟩,(boot_heap P).life⟩
noncomputable def Z9:Nat:=359
noncomputable def t5:Stmt:=tp 21
noncomputable def aov (P:Params):Obj:=⟨.type "dict",none,.dict #[⟨PyData.keyHash P "__name__",.str "__name__" 165,.str "noteworth.steps" 238⟩,⟨PyData.keyHash P "__doc__",.str "__doc__" 166,.none⟩,⟨PyData.keyHash P "__package__",.str "__package__" 167,.none⟩,⟨PyData.keyHash P "__loader__",.str "__loader__" 168,.builtin "__main__.__loader__#opaque"⟩,⟨PyData.keyHash P "__spec__",.str "__spec__" 169,.none⟩,⟨PyData.keyHash P "__annotations__",.str "__annotations__" 170,.ref 6⟩,⟨PyData.keyHash P "__builtins__",.str "__builtins__" 171,.ref 4⟩,⟨PyData.keyHash P "__file__",.str "__file__" 173,.str "/claim/cut.py" 172⟩,⟨PyData.keyHash P "__cached__",.str "__cached__" 174,.none⟩,⟨PyData.keyHash P "SMALL_KINDS",.str "SMALL_KINDS" 192,.ref 15⟩,⟨PyData.keyHash P "PARTING_KINDS",.str "PARTING_KINDS" 196,.ref 16⟩,⟨PyData.keyHash P "MEASURE_KINDS",.str "MEASURE_KINDS" 199,.ref 17⟩,⟨PyData.keyHash P "SOUNDING_KINDS",.str "SOUNDING_KINDS" 204,.ref 18⟩,⟨PyData.keyHash P "small",.str "small" 211,.ref 25⟩,⟨PyData.keyHash P "parting",.str "parting" 218,.ref 32⟩,⟨PyData.keyHash P "DARK_KINDS",.str "DARK_KINDS" 223,.ref 33⟩,⟨PyData.keyHash P "sign_price",.str "sign_price" 234,.ref 40⟩,⟨PyData.keyHash P "REST_TONE",.str "REST_TONE" 237,.int (-1) 236⟩,⟨PyData.keyHash P "TWOFOLD_STATES",.str "TWOFOLD_STATES" 243,.ref 41⟩,⟨PyData.keyHash P "TWOFOLD_BEGIN",.str "TWOFOLD_BEGIN" 245,.str "2-" 244⟩,⟨PyData.keyHash P "THREEFOLD_BEGIN",.str "THREEFOLD_BEGIN" 247,.str "3n0-" 246⟩,⟨PyData.keyHash P "SHORTENED_FROM_AHEAD",.str "SHORTENED_FROM_AHEAD" 249,.str "3t0-" 248⟩,⟨PyData.keyHash P "NO_RUN",.str "NO_RUN" 251,.str "0-" 250⟩,⟨PyData.keyHash P "RUNS_GOING_ON",.str "RUNS_GOING_ON" 259,.ref 42⟩,⟨PyData.keyHash P "LEFTS_OF_RUNS",.str "LEFTS_OF_RUNS" 263,.ref 43⟩,⟨PyData.keyHash P "NEXT_COUNTS",.str "NEXT_COUNTS" 273,.ref 44⟩,⟨PyData.keyHash P "TWOFOLD_STEPS",.str "TWOFOLD_STEPS" 334,.ref 45⟩,⟨PyData.keyHash P "GREAT_STEPS",.str "GREAT_STEPS" 359,.ref 56⟩] 28,#[]⟩
noncomputable def H5 (P:Params):Heap:=⟨⟨[boot_o_0 P,boot_o_1 P,boot_o_2 P,aov P,boot_o_4 P,boot_o_5 P,boot_o_6 P,boot_o_7 P,boot_o_8 P,boot_o_9 P,boot_o_10 P,fB P,i5 P,fD P,fE P,fI P,fJ P,fK P,fL P,fM P,gZ P,fN P,fO P,g0 P,fQ P,fR P,fS P,g8 P,fU P,fV P,hG P,fW P,fX P,fY P,fZ P,hI P,gb P,gg P,hU P,gh P,gi P,gj P,gk P,gn P,gp P,fg P,cw P,cx P,cy P,cz P,cA P,cB P,cC P,cD P,cF P,cG P,uY P,kj P,km P,ko P,kq P]⟩,(boot_heap P).life⟩
noncomputable def k5:Nat:=360
noncomputable def n5:Nat:=147
noncomputable def p5:Pos:=⟨32,0,32,11⟩
noncomputable def aow (P:Params):Obj:=⟨.type "dict",none,.dict #[⟨PyData.keyHash P "__name__",.str "__name__" 165,.str "law_noteworth_k28_papers_told" 634⟩,⟨PyData.keyHash P "__doc__",.str "__doc__" 166,.none⟩,⟨PyData.keyHash P "__package__",.str "__package__" 167,.none⟩,⟨PyData.keyHash P "__loader__",.str "__loader__" 168,.builtin "__main__.__loader__#opaque"⟩,⟨PyData.keyHash P "__spec__",.str "__spec__" 169,.none⟩,⟨PyData.keyHash P "__annotations__",.str "__annotations__" 170,.ref 6⟩,⟨PyData.keyHash P "__builtins__",.str "__builtins__" 171,.ref 4⟩,⟨PyData.keyHash P "__file__",.str "__file__" 173,.str "/claim/cut.py" 172⟩,⟨PyData.keyHash P "__cached__",.str "__cached__" 174,.none⟩,⟨PyData.keyHash P "SMALL_KINDS",.str "SMALL_KINDS" 192,.ref 15⟩,⟨PyData.keyHash P "PARTING_KINDS",.str "PARTING_KINDS" 196,.ref 16⟩,⟨PyData.keyHash P "MEASURE_KINDS",.str "MEASURE_KINDS" 199,.ref 17⟩,⟨PyData.keyHash P "SOUNDING_KINDS",.str "SOUNDING_KINDS" 204,.ref 18⟩,⟨PyData.keyHash P "small",.str "small" 211,.ref 25⟩,⟨PyData.keyHash P "parting",.str "parting" 218,.ref 32⟩,⟨PyData.keyHash P "DARK_KINDS",.str "DARK_KINDS" 223,.ref 33⟩,⟨PyData.keyHash P "sign_price",.str "sign_price" 234,.ref 40⟩,⟨PyData.keyHash P "REST_TONE",.str "REST_TONE" 237,.int (-1) 236⟩,⟨PyData.keyHash P "TWOFOLD_STATES",.str "TWOFOLD_STATES" 243,.ref 41⟩,⟨PyData.keyHash P "TWOFOLD_BEGIN",.str "TWOFOLD_BEGIN" 245,.str "2-" 244⟩,⟨PyData.keyHash P "THREEFOLD_BEGIN",.str "THREEFOLD_BEGIN" 247,.str "3n0-" 246⟩,⟨PyData.keyHash P "SHORTENED_FROM_AHEAD",.str "SHORTENED_FROM_AHEAD" 249,.str "3t0-" 248⟩,⟨PyData.keyHash P "NO_RUN",.str "NO_RUN" 251,.str "0-" 250⟩,⟨PyData.keyHash P "RUNS_GOING_ON",.str "RUNS_GOING_ON" 259,.ref 42⟩,⟨PyData.keyHash P "LEFTS_OF_RUNS",.str "LEFTS_OF_RUNS" 263,.ref 43⟩,⟨PyData.keyHash P "NEXT_COUNTS",.str "NEXT_COUNTS" 273,.ref 44⟩,⟨PyData.keyHash P "TWOFOLD_STEPS",.str "TWOFOLD_STEPS" 334,.ref 45⟩,⟨PyData.keyHash P "GREAT_STEPS",.str "GREAT_STEPS" 359,.ref 56⟩,⟨PyData.keyHash P "states",.str "states" 368,.ref 67⟩,⟨PyData.keyHash P "begin_state",.str "begin_state" 376,.ref 75⟩,⟨PyData.keyHash P "step",.str "step" 385,.ref 82⟩,⟨PyData.keyHash P "ends",.str "ends" 392,.ref 89⟩,⟨PyData.keyHash P "twofold_step",.str "twofold_step" 401,.ref 96⟩,⟨PyData.keyHash P "closes",.str "closes" 410,.ref 103⟩,⟨PyData.keyHash P "closes_by_great",.str "closes_by_great" 417,.ref 110⟩,⟨PyData.keyHash P "closes_by_right_note",.str "closes_by_right_note" 424,.ref 117⟩,⟨PyData.keyHash P "great_step",.str "great_step" 433,.ref 124⟩,⟨PyData.keyHash P "parting_step",.str "parting_step" 442,.ref 131⟩,⟨PyData.keyHash P "told_last",.str "told_last" 451,.ref 138⟩,⟨PyData.keyHash P "small_step",.str "small_step" 463,.ref 145⟩,⟨PyData.keyHash P "PARTING_SIGNS",.str "PARTING_SIGNS" 472,.ref 149⟩,⟨PyData.keyHash P "REST_SIGNS",.str "REST_SIGNS" 477,.ref 152⟩,⟨PyData.keyHash P "moves",.str "moves" 491,.ref 159⟩,⟨PyData.keyHash P "parting_moves",.str "parting_moves" 499,.ref 166⟩,⟨PyData.keyHash P "wished_signs",.str "wished_signs" 505,.ref 171⟩,⟨PyData.keyHash P "wish_moves",.str "wish_moves" 516,.ref 178⟩,⟨PyData.keyHash P "MOST_PARTING_SIGNS",.str "MOST_PARTING_SIGNS" 520,.int (2) 519⟩,⟨PyData.keyHash P "keep_cheaper",.str "keep_cheaper" 530,.ref 185⟩,⟨PyData.keyHash P "with_parting_signs",.str "with_parting_signs" 546,.ref 192⟩,⟨PyData.keyHash P "with_wish",.str "with_wish" 562,.ref 199⟩,⟨PyData.keyHash P "costs",.str "costs" 568,.ref 204⟩,⟨PyData.keyHash P "written",.str "written" 575,.ref 210⟩,⟨PyData.keyHash P "names_states",.str "names_states" 583,.ref 215⟩,⟨PyData.keyHash P "bounds",.str "bounds" 592,.ref 222⟩,⟨PyData.keyHash P "bounds_parting_moves",.str "bounds_parting_moves" 605,.ref 229⟩,⟨PyData.keyHash P "bounds_wish_moves",.str "bounds_wish_moves" 620,.ref 236⟩,⟨PyData.keyHash P "reaches_bound",.str "reaches_bound" 626,.ref 241⟩,⟨PyData.keyHash P "holds",.str "holds" 633,.ref 247⟩,⟨PyData.keyHash P "_law_cell_at",.str "_law_cell_at" 643,.ref 254⟩,⟨PyData.keyHash P "_law_mixed",.str "_law_mixed" 653,.ref 261⟩,⟨PyData.keyHash P "_law_numbers",.str "_law_numbers" 659,.ref 266⟩,⟨PyData.keyHash P "_law_sign_by",.str "_law_sign_by" 667,.ref 273⟩,⟨PyData.keyHash P "_law_line",.str "_law_line" 673,.ref 278⟩,⟨PyData.keyHash P "_law_begin",.str "_law_begin" 680,.ref 285⟩] 64,#[]⟩
noncomputable def alT (P:Params):Obj:=⟨.none,none,.fields #[.int (6) 0,.int (0) 0,.ref 24,.int (8) 0,.int (0) 0,.ref 31,.int (12) 0,.int (0) 0,.ref 39,.int (33) 0,.int (0) 0,.ref 66,.int (41) 0,.int (0) 0,.ref 74,.int (45) 0,.int (0) 0,.ref 81,.int (53) 0,.int (0) 0,.ref 88,.int (57) 0,.int (0) 0,.ref 95,.int (63) 0,.int (0) 0,.ref 102,.int (68) 0,.int (0) 0,.ref 109,.int (70) 0,.int (0) 0,.ref 116,.int (72) 0,.int (0) 0,.ref 123,.int (80) 0,.int (0) 0,.ref 130,.int (86) 0,.int (0) 0,.ref 137,.int (92) 0,.int (0) 0,.ref 144,.int (104) 0,.int (0) 0,.ref 158,.int (112) 0,.int (0) 0,.ref 165,.int (114) 0,.int (0) 0,.ref 170,.int (118) 0,.int (0) 0,.ref 177,.int (123) 0,.int (0) 0,.ref 184,.int (126) 0,.int (0) 0,.ref 191,.int (134) 0,.int (0) 0,.ref 198,.int (140) 0,.int (0) 0,.ref 203,.int (142) 0,.int (0) 0,.ref 209,.int (154) 0,.int (0) 0,.ref 214,.int (157) 0,.int (0) 0,.ref 221,.int (159) 0,.int (0) 0,.ref 228,.int (165) 0,.int (0) 0,.ref 235,.int (171) 0,.int (0) 0,.ref 240,.int (176) 0,.int (0) 0,.ref 246,.int (190) 0,.int (0) 0,.ref 253,.int (194) 0,.int (0) 0,.ref 260,.int (198) 0,.int (0) 0,.ref 265,.int (208) 0,.int (0) 0,.ref 272,.int (213) 0,.int (0) 0,.ref 277,.int (215) 0,.int (0) 0,.ref 284],#[]⟩
noncomputable def YC (P:Params):Obj:=⟨.type "tuple",none,.seq #[] 0,#[]⟩
noncomputable def ac5 (P:Params):Obj:=⟨.none,none,.fields #[],#[]⟩
noncomputable def YD (P:Params):Obj:=⟨.type "tuple",none,.seq #[.str "found" 363,.str "left" 364,.str "run" 365] 0,#[]⟩
noncomputable def YE (P:Params):Obj:=⟨.type "tuple",none,.seq #[] 0,#[]⟩
noncomputable def ac6 (P:Params):Obj:=⟨.none,none,.func { name:="states",qualname:="states",params:=L2.ak (tp 22),body:=.stmts (L2.ah (tp 22)),scope:=L2.ae (tp 22),globals:=0,closure:=[],defaults:=.none,kwdefaults:=.none,doc:=.none,pyModule:=.none,annotations:=none,code:=.none,closureTuple:=.none,builtins:=0 },#[]⟩
noncomputable def YF (P:Params):Obj:=⟨.type "code",none,.fields #[.str "states" 360,.str "states" 361,.str "/claim/cut.py" 362,.int (33) 0,.int (0) 0,.int (0) 0,.int (0) 0,.int (3) 0,.ref 61,.bool true,.int (181) 0,.ref 62,.none,.ref 63,.ref 64,.ref 65,.int (366) 0,.int (33) 0,.str "/claim/cut.py" 367],#[]⟩
noncomputable def YG (P:Params):Obj:=⟨.type "function",none,.func { name:="states",qualname:="states",params:=L2.ak (tp 22),body:=.stmts (L2.ah (tp 22)),scope:=L2.ae (tp 22),globals:=3,closure:=[],defaults:=.none,kwdefaults:=.none,doc:=.none,pyModule:=.str "noteworth.steps" 238,annotations:=none,code:=.ref 66,closureTuple:=.none,builtins:=0 },#[]⟩
noncomputable def YH (P:Params):Obj:=⟨.type "tuple",none,.seq #[.int (3) 369] 0,#[]⟩
noncomputable def YI (P:Params):Obj:=⟨.type "tuple",none,.seq #[] 0,#[]⟩
noncomputable def ac7 (P:Params):Obj:=⟨.none,none,.fields #[],#[]⟩
noncomputable def YJ (P:Params):Obj:=⟨.type "tuple",none,.seq #[.str "begin" 373] 0,#[]⟩
noncomputable def YK (P:Params):Obj:=⟨.type "tuple",none,.seq #[] 0,#[]⟩
noncomputable def ac8 (P:Params):Obj:=⟨.none,none,.func { name:="begin_state",qualname:="begin_state",params:=L2.ak (tp 23),body:=.stmts (L2.ah (tp 23)),scope:=L2.ae (tp 23),globals:=0,closure:=[],defaults:=.none,kwdefaults:=.none,doc:=.none,pyModule:=.none,annotations:=none,code:=.none,closureTuple:=.none,builtins:=0 },#[]⟩
noncomputable def YL (P:Params):Obj:=⟨.type "code",none,.fields #[.str "begin_state" 370,.str "begin_state" 371,.str "/claim/cut.py" 372,.int (41) 0,.int (1) 0,.int (0) 0,.int (0) 0,.int (3) 0,.ref 69,.bool true,.int (181) 0,.ref 70,.none,.ref 71,.ref 72,.ref 73,.int (374) 0,.int (41) 0,.str "/claim/cut.py" 375],#[]⟩
noncomputable def YM (P:Params):Obj:=⟨.type "function",none,.func { name:="begin_state",qualname:="begin_state",params:=L2.ak (tp 23),body:=.stmts (L2.ah (tp 23)),scope:=L2.ae (tp 23),globals:=3,closure:=[],defaults:=.ref 68,kwdefaults:=.none,doc:=.none,pyModule:=.str "noteworth.steps" 238,annotations:=none,code:=.ref 74,closureTuple:=.none,builtins:=0 },#[]⟩
noncomputable def YN (P:Params):Obj:=⟨.type "tuple",none,.seq #[] 0,#[]⟩
noncomputable def ac9 (P:Params):Obj:=⟨.none,none,.fields #[],#[]⟩
noncomputable def YO (P:Params):Obj:=⟨.type "tuple",none,.seq #[.str "state" 380,.str "sign" 381,.str "worth" 382] 0,#[]⟩
noncomputable def YQ (P:Params):Obj:=⟨.type "tuple",none,.seq #[] 0,#[]⟩
noncomputable def ada (P:Params):Obj:=⟨.none,none,.func { name:="step",qualname:="step",params:=L2.ak (tp 24),body:=.stmts (L2.ah (tp 24)),scope:=L2.ae (tp 24),globals:=0,closure:=[],defaults:=.none,kwdefaults:=.none,doc:=.none,pyModule:=.none,annotations:=none,code:=.none,closureTuple:=.none,builtins:=0 },#[]⟩
noncomputable def YR (P:Params):Obj:=⟨.type "code",none,.fields #[.str "step" 377,.str "step" 378,.str "/claim/cut.py" 379,.int (45) 0,.int (3) 0,.int (0) 0,.int (0) 0,.int (3) 0,.ref 76,.bool true,.int (181) 0,.ref 77,.none,.ref 78,.ref 79,.ref 80,.int (383) 0,.int (45) 0,.str "/claim/cut.py" 384],#[]⟩
noncomputable def YS (P:Params):Obj:=⟨.type "function",none,.func { name:="step",qualname:="step",params:=L2.ak (tp 24),body:=.stmts (L2.ah (tp 24)),scope:=L2.ae (tp 24),globals:=3,closure:=[],defaults:=.none,kwdefaults:=.none,doc:=.none,pyModule:=.str "noteworth.steps" 238,annotations:=none,code:=.ref 81,closureTuple:=.none,builtins:=0 },#[]⟩
noncomputable def YT (P:Params):Obj:=⟨.type "tuple",none,.seq #[] 0,#[]⟩
noncomputable def adb (P:Params):Obj:=⟨.none,none,.fields #[],#[]⟩
noncomputable def YU (P:Params):Obj:=⟨.type "tuple",none,.seq #[.str "state" 389] 0,#[]⟩
noncomputable def YV (P:Params):Obj:=⟨.type "tuple",none,.seq #[] 0,#[]⟩
noncomputable def ade (P:Params):Obj:=⟨.none,none,.func { name:="ends",qualname:="ends",params:=L2.ak (tp 25),body:=.stmts (L2.ah (tp 25)),scope:=L2.ae (tp 25),globals:=0,closure:=[],defaults:=.none,kwdefaults:=.none,doc:=.none,pyModule:=.none,annotations:=none,code:=.none,closureTuple:=.none,builtins:=0 },#[]⟩
noncomputable def YW (P:Params):Obj:=⟨.type "code",none,.fields #[.str "ends" 386,.str "ends" 387,.str "/claim/cut.py" 388,.int (53) 0,.int (1) 0,.int (0) 0,.int (0) 0,.int (3) 0,.ref 83,.bool true,.int (181) 0,.ref 84,.none,.ref 85,.ref 86,.ref 87,.int (390) 0,.int (53) 0,.str "/claim/cut.py" 391],#[]⟩
noncomputable def YX (P:Params):Obj:=⟨.type "function",none,.func { name:="ends",qualname:="ends",params:=L2.ak (tp 25),body:=.stmts (L2.ah (tp 25)),scope:=L2.ae (tp 25),globals:=3,closure:=[],defaults:=.none,kwdefaults:=.none,doc:=.none,pyModule:=.str "noteworth.steps" 238,annotations:=none,code:=.ref 88,closureTuple:=.none,builtins:=0 },#[]⟩
noncomputable def YY (P:Params):Obj:=⟨.type "tuple",none,.seq #[] 0,#[]⟩
noncomputable def adf (P:Params):Obj:=⟨.none,none,.fields #[],#[]⟩
noncomputable def YZ (P:Params):Obj:=⟨.type "tuple",none,.seq #[.str "state" 396,.str "kind" 397,.str "worth" 398] 0,#[]⟩
noncomputable def Y0 (P:Params):Obj:=⟨.type "tuple",none,.seq #[] 0,#[]⟩
noncomputable def adg (P:Params):Obj:=⟨.none,none,.func { name:="twofold_step",qualname:="twofold_step",params:=L2.ak (tp 26),body:=.stmts (L2.ah (tp 26)),scope:=L2.ae (tp 26),globals:=0,closure:=[],defaults:=.none,kwdefaults:=.none,doc:=.none,pyModule:=.none,annotations:=none,code:=.none,closureTuple:=.none,builtins:=0 },#[]⟩
noncomputable def Y1 (P:Params):Obj:=⟨.type "code",none,.fields #[.str "twofold_step" 393,.str "twofold_step" 394,.str "/claim/cut.py" 395,.int (57) 0,.int (3) 0,.int (0) 0,.int (0) 0,.int (3) 0,.ref 90,.bool true,.int (181) 0,.ref 91,.none,.ref 92,.ref 93,.ref 94,.int (399) 0,.int (57) 0,.str "/claim/cut.py" 400],#[]⟩
noncomputable def Y2 (P:Params):Obj:=⟨.type "function",none,.func { name:="twofold_step",qualname:="twofold_step",params:=L2.ak (tp 26),body:=.stmts (L2.ah (tp 26)),scope:=L2.ae (tp 26),globals:=3,closure:=[],defaults:=.none,kwdefaults:=.none,doc:=.none,pyModule:=.str "noteworth.steps" 238,annotations:=none,code:=.ref 95,closureTuple:=.none,builtins:=0 },#[]⟩
noncomputable def Y3 (P:Params):Obj:=⟨.type "tuple",none,.seq #[] 0,#[]⟩
noncomputable def adh (P:Params):Obj:=⟨.none,none,.fields #[],#[]⟩
noncomputable def Y4 (P:Params):Obj:=⟨.type "tuple",none,.seq #[.str "state" 405,.str "left" 406,.str "count" 407] 0,#[]⟩
noncomputable def K7 (P:Params):Obj:=⟨.type "tuple",none,.seq #[] 0,#[]⟩
noncomputable def SR (P:Params):Obj:=⟨.none,none,.func { name:="closes",qualname:="closes",params:=L2.ak (tp 27),body:=.stmts (L2.ah (tp 27)),scope:=L2.ae (tp 27),globals:=0,closure:=[],defaults:=.none,kwdefaults:=.none,doc:=.none,pyModule:=.none,annotations:=none,code:=.none,closureTuple:=.none,builtins:=0 },#[]⟩
noncomputable def K8 (P:Params):Obj:=⟨.type "code",none,.fields #[.str "closes" 402,.str "closes" 403,.str "/claim/cut.py" 404,.int (63) 0,.int (1) 0,.int (0) 0,.int (0) 0,.int (3) 0,.ref 97,.bool true,.int (181) 0,.ref 98,.none,.ref 99,.ref 100,.ref 101,.int (408) 0,.int (63) 0,.str "/claim/cut.py" 409],#[]⟩
noncomputable def K9 (P:Params):Obj:=⟨.type "function",none,.func { name:="closes",qualname:="closes",params:=L2.ak (tp 27),body:=.stmts (L2.ah (tp 27)),scope:=L2.ae (tp 27),globals:=3,closure:=[],defaults:=.none,kwdefaults:=.none,doc:=.none,pyModule:=.str "noteworth.steps" 238,annotations:=none,code:=.ref 102,closureTuple:=.none,builtins:=0 },#[]⟩
noncomputable def La (P:Params):Obj:=⟨.type "tuple",none,.seq #[] 0,#[]⟩
noncomputable def SS (P:Params):Obj:=⟨.none,none,.fields #[],#[]⟩
noncomputable def Lb (P:Params):Obj:=⟨.type "tuple",none,.seq #[.str "state" 414] 0,#[]⟩
noncomputable def Lc (P:Params):Obj:=⟨.type "tuple",none,.seq #[] 0,#[]⟩
noncomputable def SU (P:Params):Obj:=⟨.none,none,.func { name:="closes_by_great",qualname:="closes_by_great",params:=L2.ak (tp 28),body:=.stmts (L2.ah (tp 28)),scope:=L2.ae (tp 28),globals:=0,closure:=[],defaults:=.none,kwdefaults:=.none,doc:=.none,pyModule:=.none,annotations:=none,code:=.none,closureTuple:=.none,builtins:=0 },#[]⟩
noncomputable def Ld (P:Params):Obj:=⟨.type "code",none,.fields #[.str "closes_by_great" 411,.str "closes_by_great" 412,.str "/claim/cut.py" 413,.int (68) 0,.int (1) 0,.int (0) 0,.int (0) 0,.int (3) 0,.ref 104,.bool true,.int (181) 0,.ref 105,.none,.ref 106,.ref 107,.ref 108,.int (415) 0,.int (68) 0,.str "/claim/cut.py" 416],#[]⟩
noncomputable def Le (P:Params):Obj:=⟨.type "function",none,.func { name:="closes_by_great",qualname:="closes_by_great",params:=L2.ak (tp 28),body:=.stmts (L2.ah (tp 28)),scope:=L2.ae (tp 28),globals:=3,closure:=[],defaults:=.none,kwdefaults:=.none,doc:=.none,pyModule:=.str "noteworth.steps" 238,annotations:=none,code:=.ref 109,closureTuple:=.none,builtins:=0 },#[]⟩
noncomputable def Lf (P:Params):Obj:=⟨.type "tuple",none,.seq #[] 0,#[]⟩
noncomputable def SV (P:Params):Obj:=⟨.none,none,.fields #[],#[]⟩
noncomputable def Lg (P:Params):Obj:=⟨.type "tuple",none,.seq #[.str "state" 421] 0,#[]⟩
noncomputable def Lh (P:Params):Obj:=⟨.type "tuple",none,.seq #[] 0,#[]⟩
noncomputable def SW (P:Params):Obj:=⟨.none,none,.func { name:="closes_by_right_note",qualname:="closes_by_right_note",params:=L2.ak (tp 29),body:=.stmts (L2.ah (tp 29)),scope:=L2.ae (tp 29),globals:=0,closure:=[],defaults:=.none,kwdefaults:=.none,doc:=.none,pyModule:=.none,annotations:=none,code:=.none,closureTuple:=.none,builtins:=0 },#[]⟩
noncomputable def Li (P:Params):Obj:=⟨.type "code",none,.fields #[.str "closes_by_right_note" 418,.str "closes_by_right_note" 419,.str "/claim/cut.py" 420,.int (70) 0,.int (1) 0,.int (0) 0,.int (0) 0,.int (3) 0,.ref 111,.bool true,.int (181) 0,.ref 112,.none,.ref 113,.ref 114,.ref 115,.int (422) 0,.int (70) 0,.str "/claim/cut.py" 423],#[]⟩
noncomputable def Lj (P:Params):Obj:=⟨.type "function",none,.func { name:="closes_by_right_note",qualname:="closes_by_right_note",params:=L2.ak (tp 29),body:=.stmts (L2.ah (tp 29)),scope:=L2.ae (tp 29),globals:=3,closure:=[],defaults:=.none,kwdefaults:=.none,doc:=.none,pyModule:=.str "noteworth.steps" 238,annotations:=none,code:=.ref 116,closureTuple:=.none,builtins:=0 },#[]⟩
noncomputable def Lk (P:Params):Obj:=⟨.type "tuple",none,.seq #[] 0,#[]⟩
noncomputable def SX (P:Params):Obj:=⟨.none,none,.fields #[],#[]⟩
noncomputable def Ll (P:Params):Obj:=⟨.type "tuple",none,.seq #[.str "state" 428,.str "kind" 429,.str "worth" 430] 0,#[]⟩
noncomputable def Lm (P:Params):Obj:=⟨.type "tuple",none,.seq #[] 0,#[]⟩
noncomputable def SY (P:Params):Obj:=⟨.none,none,.func { name:="great_step",qualname:="great_step",params:=L2.ak (tp 30),body:=.stmts (L2.ah (tp 30)),scope:=L2.ae (tp 30),globals:=0,closure:=[],defaults:=.none,kwdefaults:=.none,doc:=.none,pyModule:=.none,annotations:=none,code:=.none,closureTuple:=.none,builtins:=0 },#[]⟩
noncomputable def Ln (P:Params):Obj:=⟨.type "code",none,.fields #[.str "great_step" 425,.str "great_step" 426,.str "/claim/cut.py" 427,.int (72) 0,.int (3) 0,.int (0) 0,.int (0) 0,.int (3) 0,.ref 118,.bool true,.int (181) 0,.ref 119,.none,.ref 120,.ref 121,.ref 122,.int (431) 0,.int (72) 0,.str "/claim/cut.py" 432],#[]⟩
noncomputable def Lo (P:Params):Obj:=⟨.type "function",none,.func { name:="great_step",qualname:="great_step",params:=L2.ak (tp 30),body:=.stmts (L2.ah (tp 30)),scope:=L2.ae (tp 30),globals:=3,closure:=[],defaults:=.none,kwdefaults:=.none,doc:=.none,pyModule:=.str "noteworth.steps" 238,annotations:=none,code:=.ref 123,closureTuple:=.none,builtins:=0 },#[]⟩
noncomputable def Lp (P:Params):Obj:=⟨.type "tuple",none,.seq #[] 0,#[]⟩
noncomputable def S0 (P:Params):Obj:=⟨.none,none,.fields #[],#[]⟩
noncomputable def Lq (P:Params):Obj:=⟨.type "tuple",none,.seq #[.str "state" 437,.str "kind" 438,.str "worth" 439] 0,#[]⟩
noncomputable def Lr (P:Params):Obj:=⟨.type "tuple",none,.seq #[] 0,#[]⟩
noncomputable def S9 (P:Params):Obj:=⟨.none,none,.func { name:="parting_step",qualname:="parting_step",params:=L2.ak (tp 31),body:=.stmts (L2.ah (tp 31)),scope:=L2.ae (tp 31),globals:=0,closure:=[],defaults:=.none,kwdefaults:=.none,doc:=.none,pyModule:=.none,annotations:=none,code:=.none,closureTuple:=.none,builtins:=0 },#[]⟩
noncomputable def Ls (P:Params):Obj:=⟨.type "code",none,.fields #[.str "parting_step" 434,.str "parting_step" 435,.str "/claim/cut.py" 436,.int (80) 0,.int (3) 0,.int (0) 0,.int (0) 0,.int (3) 0,.ref 125,.bool true,.int (181) 0,.ref 126,.none,.ref 127,.ref 128,.ref 129,.int (440) 0,.int (80) 0,.str "/claim/cut.py" 441],#[]⟩
noncomputable def Lu (P:Params):Obj:=⟨.type "function",none,.func { name:="parting_step",qualname:="parting_step",params:=L2.ak (tp 31),body:=.stmts (L2.ah (tp 31)),scope:=L2.ae (tp 31),globals:=3,closure:=[],defaults:=.none,kwdefaults:=.none,doc:=.none,pyModule:=.str "noteworth.steps" 238,annotations:=none,code:=.ref 130,closureTuple:=.none,builtins:=0 },#[]⟩
noncomputable def Lv (P:Params):Obj:=⟨.type "tuple",none,.seq #[] 0,#[]⟩
noncomputable def Ta (P:Params):Obj:=⟨.none,none,.fields #[],#[]⟩
noncomputable def Lx (P:Params):Obj:=⟨.type "tuple",none,.seq #[.str "kind" 446,.str "count" 447,.str "worth" 448] 0,#[]⟩
noncomputable def Ly (P:Params):Obj:=⟨.type "tuple",none,.seq #[] 0,#[]⟩
noncomputable def Tb (P:Params):Obj:=⟨.none,none,.func { name:="told_last",qualname:="told_last",params:=L2.ak (tp 32),body:=.stmts (L2.ah (tp 32)),scope:=L2.ae (tp 32),globals:=0,closure:=[],defaults:=.none,kwdefaults:=.none,doc:=.none,pyModule:=.none,annotations:=none,code:=.none,closureTuple:=.none,builtins:=0 },#[]⟩
noncomputable def Lz (P:Params):Obj:=⟨.type "code",none,.fields #[.str "told_last" 443,.str "told_last" 444,.str "/claim/cut.py" 445,.int (86) 0,.int (3) 0,.int (0) 0,.int (0) 0,.int (3) 0,.ref 132,.bool true,.int (181) 0,.ref 133,.none,.ref 134,.ref 135,.ref 136,.int (449) 0,.int (86) 0,.str "/claim/cut.py" 450],#[]⟩
noncomputable def LA (P:Params):Obj:=⟨.type "function",none,.func { name:="told_last",qualname:="told_last",params:=L2.ak (tp 32),body:=.stmts (L2.ah (tp 32)),scope:=L2.ae (tp 32),globals:=3,closure:=[],defaults:=.none,kwdefaults:=.none,doc:=.none,pyModule:=.str "noteworth.steps" 238,annotations:=none,code:=.ref 137,closureTuple:=.none,builtins:=0 },#[]⟩
noncomputable def LB (P:Params):Obj:=⟨.type "tuple",none,.seq #[] 0,#[]⟩
noncomputable def Tc (P:Params):Obj:=⟨.none,none,.fields #[],#[]⟩
noncomputable def LC (P:Params):Obj:=⟨.type "tuple",none,.seq #[.str "state" 455,.str "kind" 456,.str "worth" 457,.str "count" 458,.str "last" 459,.str "left" 460] 0,#[]⟩
noncomputable def LD (P:Params):Obj:=⟨.type "tuple",none,.seq #[] 0,#[]⟩
noncomputable def Td (P:Params):Obj:=⟨.none,none,.func { name:="small_step",qualname:="small_step",params:=L2.ak (tp 33),body:=.stmts (L2.ah (tp 33)),scope:=L2.ae (tp 33),globals:=0,closure:=[],defaults:=.none,kwdefaults:=.none,doc:=.none,pyModule:=.none,annotations:=none,code:=.none,closureTuple:=.none,builtins:=0 },#[]⟩
noncomputable def LG (P:Params):Obj:=⟨.type "code",none,.fields #[.str "small_step" 452,.str "small_step" 453,.str "/claim/cut.py" 454,.int (92) 0,.int (3) 0,.int (0) 0,.int (0) 0,.int (3) 0,.ref 139,.bool true,.int (181) 0,.ref 140,.none,.ref 141,.ref 142,.ref 143,.int (461) 0,.int (92) 0,.str "/claim/cut.py" 462],#[]⟩
noncomputable def LH (P:Params):Obj:=⟨.type "function",none,.func { name:="small_step",qualname:="small_step",params:=L2.ak (tp 33),body:=.stmts (L2.ah (tp 33)),scope:=L2.ae (tp 33),globals:=3,closure:=[],defaults:=.none,kwdefaults:=.none,doc:=.none,pyModule:=.str "noteworth.steps" 238,annotations:=none,code:=.ref 144,closureTuple:=.none,builtins:=0 },#[]⟩
noncomputable def LI (P:Params):Obj:=⟨.type "tuple",none,.seq #[.str "." 466,.int (0) 467] 0,#[]⟩
noncomputable def LJ (P:Params):Obj:=⟨.type "tuple",none,.seq #[.str "3" 468,.int (0) 469] 0,#[]⟩
noncomputable def LK (P:Params):Obj:=⟨.type "tuple",none,.seq #[.str "2" 470,.int (0) 471] 0,#[]⟩
noncomputable def LL (P:Params):Obj:=⟨.type "tuple",none,.seq #[.ref 146,.ref 147,.ref 148] 0,#[]⟩
noncomputable def LM (P:Params):Obj:=⟨.type "tuple",none,.seq #[.str "R" 473,.int (0) 474] 0,#[]⟩
noncomputable def LN (P:Params):Obj:=⟨.type "tuple",none,.seq #[.str "r" 475,.int (0) 476] 0,#[]⟩
noncomputable def LO (P:Params):Obj:=⟨.type "tuple",none,.seq #[.ref 150,.ref 151] 0,#[]⟩
noncomputable def LQ (P:Params):Obj:=⟨.type "tuple",none,.seq #[] 0,#[]⟩
noncomputable def Te (P:Params):Obj:=⟨.none,none,.fields #[],#[]⟩
noncomputable def LR (P:Params):Obj:=⟨.type "tuple",none,.seq #[.str "state" 481,.str "signs" 482,.str "worth" 483,.str "prices" 484,.str "found" 485,.str "sign" 486,.str "cost" 487,.str "to" 488] 0,#[]⟩
noncomputable def LS (P:Params):Obj:=⟨.type "tuple",none,.seq #[] 0,#[]⟩
noncomputable def Tf (P:Params):Obj:=⟨.none,none,.func { name:="moves",qualname:="moves",params:=L2.ak (tp 37),body:=.stmts (L2.ah (tp 37)),scope:=L2.ae (tp 37),globals:=0,closure:=[],defaults:=.none,kwdefaults:=.none,doc:=.none,pyModule:=.none,annotations:=none,code:=.none,closureTuple:=.none,builtins:=0 },#[]⟩
noncomputable def LU (P:Params):Obj:=⟨.type "code",none,.fields #[.str "moves" 478,.str "moves" 479,.str "/claim/cut.py" 480,.int (104) 0,.int (4) 0,.int (0) 0,.int (0) 0,.int (3) 0,.ref 153,.bool true,.int (181) 0,.ref 154,.none,.ref 155,.ref 156,.ref 157,.int (489) 0,.int (104) 0,.str "/claim/cut.py" 490],#[]⟩
noncomputable def LV (P:Params):Obj:=⟨.type "function",none,.func { name:="moves",qualname:="moves",params:=L2.ak (tp 37),body:=.stmts (L2.ah (tp 37)),scope:=L2.ae (tp 37),globals:=3,closure:=[],defaults:=.none,kwdefaults:=.none,doc:=.none,pyModule:=.str "noteworth.moves" 464,annotations:=none,code:=.ref 158,closureTuple:=.none,builtins:=0 },#[]⟩
noncomputable def LW (P:Params):Obj:=⟨.type "tuple",none,.seq #[] 0,#[]⟩
noncomputable def Tg (P:Params):Obj:=⟨.none,none,.fields #[],#[]⟩
noncomputable def LX (P:Params):Obj:=⟨.type "tuple",none,.seq #[.str "state" 495,.str "prices" 496] 0,#[]⟩
noncomputable def LY (P:Params):Obj:=⟨.type "tuple",none,.seq #[] 0,#[]⟩
noncomputable def Th (P:Params):Obj:=⟨.none,none,.func { name:="parting_moves",qualname:="parting_moves",params:=L2.ak (tp 38),body:=.stmts (L2.ah (tp 38)),scope:=L2.ae (tp 38),globals:=0,closure:=[],defaults:=.none,kwdefaults:=.none,doc:=.none,pyModule:=.none,annotations:=none,code:=.none,closureTuple:=.none,builtins:=0 },#[]⟩
noncomputable def LZ (P:Params):Obj:=⟨.type "code",none,.fields #[.str "parting_moves" 492,.str "parting_moves" 493,.str "/claim/cut.py" 494,.int (112) 0,.int (2) 0,.int (0) 0,.int (0) 0,.int (3) 0,.ref 160,.bool true,.int (181) 0,.ref 161,.none,.ref 162,.ref 163,.ref 164,.int (497) 0,.int (112) 0,.str "/claim/cut.py" 498],#[]⟩
noncomputable def L0 (P:Params):Obj:=⟨.type "function",none,.func { name:="parting_moves",qualname:="parting_moves",params:=L2.ak (tp 38),body:=.stmts (L2.ah (tp 38)),scope:=L2.ae (tp 38),globals:=3,closure:=[],defaults:=.none,kwdefaults:=.none,doc:=.none,pyModule:=.str "noteworth.moves" 464,annotations:=none,code:=.ref 165,closureTuple:=.none,builtins:=0 },#[]⟩
noncomputable def L1 (P:Params):Obj:=⟨.type "tuple",none,.seq #[] 0,#[]⟩
noncomputable def Ti (P:Params):Obj:=⟨.none,none,.fields #[],#[]⟩
noncomputable def Tj (P:Params):Obj:=⟨.none,none,.func { name:="wished_signs",qualname:="wished_signs",params:=L2.ak (tp 39),body:=.stmts (L2.ah (tp 39)),scope:=L2.ae (tp 39),globals:=0,closure:=[],defaults:=.none,kwdefaults:=.none,doc:=.none,pyModule:=.none,annotations:=none,code:=.none,closureTuple:=.none,builtins:=0 },#[]⟩
noncomputable def L3 (P:Params):Obj:=⟨.type "code",none,.fields #[.str "wished_signs" 500,.str "wished_signs" 501,.str "/claim/cut.py" 502,.int (114) 0,.int (1) 0,.int (0) 0,.int (0) 0,.int (3) 0,.ref 167,.bool true,.int (181) 0,.ref 168,.none,.none,.none,.ref 169,.int (503) 0,.int (114) 0,.str "/claim/cut.py" 504],#[]⟩
noncomputable def L4 (P:Params):Obj:=⟨.type "function",none,.func { name:="wished_signs",qualname:="wished_signs",params:=L2.ak (tp 39),body:=.stmts (L2.ah (tp 39)),scope:=L2.ae (tp 39),globals:=3,closure:=[],defaults:=.none,kwdefaults:=.none,doc:=.none,pyModule:=.str "noteworth.moves" 464,annotations:=none,code:=.ref 170,closureTuple:=.none,builtins:=0 },#[]⟩
noncomputable def L5 (P:Params):Obj:=⟨.type "tuple",none,.seq #[] 0,#[]⟩
noncomputable def Tn (P:Params):Obj:=⟨.none,none,.fields #[],#[]⟩
noncomputable def L6 (P:Params):Obj:=⟨.type "tuple",none,.seq #[.str "state" 509,.str "wish" 510,.str "prices" 511,.str "tone" 512,.str "worth" 513] 0,#[]⟩
noncomputable def L7 (P:Params):Obj:=⟨.type "tuple",none,.seq #[] 0,#[]⟩
noncomputable def To (P:Params):Obj:=⟨.none,none,.func { name:="wish_moves",qualname:="wish_moves",params:=L2.ak (tp 40),body:=.stmts (L2.ah (tp 40)),scope:=L2.ae (tp 40),globals:=0,closure:=[],defaults:=.none,kwdefaults:=.none,doc:=.none,pyModule:=.none,annotations:=none,code:=.none,closureTuple:=.none,builtins:=0 },#[]⟩
noncomputable def L8 (P:Params):Obj:=⟨.type "code",none,.fields #[.str "wish_moves" 506,.str "wish_moves" 507,.str "/claim/cut.py" 508,.int (118) 0,.int (3) 0,.int (0) 0,.int (0) 0,.int (3) 0,.ref 172,.bool true,.int (181) 0,.ref 173,.none,.ref 174,.ref 175,.ref 176,.int (514) 0,.int (118) 0,.str "/claim/cut.py" 515],#[]⟩
noncomputable def L9 (P:Params):Obj:=⟨.type "function",none,.func { name:="wish_moves",qualname:="wish_moves",params:=L2.ak (tp 40),body:=.stmts (L2.ah (tp 40)),scope:=L2.ae (tp 40),globals:=3,closure:=[],defaults:=.none,kwdefaults:=.none,doc:=.none,pyModule:=.str "noteworth.moves" 464,annotations:=none,code:=.ref 177,closureTuple:=.none,builtins:=0 },#[]⟩
noncomputable def Ma (P:Params):Obj:=⟨.type "tuple",none,.seq #[] 0,#[]⟩
noncomputable def Tp (P:Params):Obj:=⟨.none,none,.fields #[],#[]⟩
noncomputable def Mb (P:Params):Obj:=⟨.type "tuple",none,.seq #[.str "ways" 524,.str "state" 525,.str "cost" 526,.str "line" 527] 0,#[]⟩
noncomputable def Mc (P:Params):Obj:=⟨.type "tuple",none,.seq #[] 0,#[]⟩
noncomputable def Tq (P:Params):Obj:=⟨.none,none,.func { name:="keep_cheaper",qualname:="keep_cheaper",params:=L2.ak (tp 43),body:=.stmts (L2.ah (tp 43)),scope:=L2.ae (tp 43),globals:=0,closure:=[],defaults:=.none,kwdefaults:=.none,doc:=.none,pyModule:=.none,annotations:=none,code:=.none,closureTuple:=.none,builtins:=0 },#[]⟩
noncomputable def Md (P:Params):Obj:=⟨.type "code",none,.fields #[.str "keep_cheaper" 521,.str "keep_cheaper" 522,.str "/claim/cut.py" 523,.int (123) 0,.int (4) 0,.int (0) 0,.int (0) 0,.int (3) 0,.ref 179,.bool true,.int (181) 0,.ref 180,.none,.ref 181,.ref 182,.ref 183,.int (528) 0,.int (123) 0,.str "/claim/cut.py" 529],#[]⟩
noncomputable def Me (P:Params):Obj:=⟨.type "function",none,.func { name:="keep_cheaper",qualname:="keep_cheaper",params:=L2.ak (tp 43),body:=.stmts (L2.ah (tp 43)),scope:=L2.ae (tp 43),globals:=3,closure:=[],defaults:=.none,kwdefaults:=.none,doc:=.none,pyModule:=.str "noteworth.writer" 517,annotations:=none,code:=.ref 184,closureTuple:=.none,builtins:=0 },#[]⟩
noncomputable def Mf (P:Params):Obj:=⟨.type "tuple",none,.seq #[] 0,#[]⟩
noncomputable def Tr (P:Params):Obj:=⟨.none,none,.fields #[],#[]⟩
noncomputable def Mg (P:Params):Obj:=⟨.type "tuple",none,.seq #[.str "ways" 534,.str "prices" 535,.str "found" 536,.str "again" 537,.str "state" 538,.str "cost" 539,.str "line" 540,.str "sign" 541,.str "more" 542,.str "to" 543] 0,#[]⟩
noncomputable def Mh (P:Params):Obj:=⟨.type "tuple",none,.seq #[] 0,#[]⟩
noncomputable def Ts (P:Params):Obj:=⟨.none,none,.func { name:="with_parting_signs",qualname:="with_parting_signs",params:=L2.ak (tp 44),body:=.stmts (L2.ah (tp 44)),scope:=L2.ae (tp 44),globals:=0,closure:=[],defaults:=.none,kwdefaults:=.none,doc:=.none,pyModule:=.none,annotations:=none,code:=.none,closureTuple:=.none,builtins:=0 },#[]⟩
noncomputable def Mi (P:Params):Obj:=⟨.type "code",none,.fields #[.str "with_parting_signs" 531,.str "with_parting_signs" 532,.str "/claim/cut.py" 533,.int (126) 0,.int (2) 0,.int (0) 0,.int (0) 0,.int (3) 0,.ref 186,.bool true,.int (181) 0,.ref 187,.none,.ref 188,.ref 189,.ref 190,.int (544) 0,.int (126) 0,.str "/claim/cut.py" 545],#[]⟩
noncomputable def Mj (P:Params):Obj:=⟨.type "function",none,.func { name:="with_parting_signs",qualname:="with_parting_signs",params:=L2.ak (tp 44),body:=.stmts (L2.ah (tp 44)),scope:=L2.ae (tp 44),globals:=3,closure:=[],defaults:=.none,kwdefaults:=.none,doc:=.none,pyModule:=.str "noteworth.writer" 517,annotations:=none,code:=.ref 191,closureTuple:=.none,builtins:=0 },#[]⟩
noncomputable def Ml (P:Params):Obj:=⟨.type "tuple",none,.seq #[] 0,#[]⟩
noncomputable def Tt (P:Params):Obj:=⟨.none,none,.fields #[],#[]⟩
noncomputable def Mm (P:Params):Obj:=⟨.type "tuple",none,.seq #[.str "ways" 550,.str "wish" 551,.str "prices" 552,.str "found" 553,.str "state" 554,.str "cost" 555,.str "line" 556,.str "sign" 557,.str "more" 558,.str "to" 559] 0,#[]⟩
noncomputable def Mn (P:Params):Obj:=⟨.type "tuple",none,.seq #[] 0,#[]⟩
noncomputable def Tu (P:Params):Obj:=⟨.none,none,.func { name:="with_wish",qualname:="with_wish",params:=L2.ak (tp 45),body:=.stmts (L2.ah (tp 45)),scope:=L2.ae (tp 45),globals:=0,closure:=[],defaults:=.none,kwdefaults:=.none,doc:=.none,pyModule:=.none,annotations:=none,code:=.none,closureTuple:=.none,builtins:=0 },#[]⟩
noncomputable def Mo (P:Params):Obj:=⟨.type "code",none,.fields #[.str "with_wish" 547,.str "with_wish" 548,.str "/claim/cut.py" 549,.int (134) 0,.int (3) 0,.int (0) 0,.int (0) 0,.int (3) 0,.ref 193,.bool true,.int (181) 0,.ref 194,.none,.ref 195,.ref 196,.ref 197,.int (560) 0,.int (134) 0,.str "/claim/cut.py" 561],#[]⟩
noncomputable def Mp (P:Params):Obj:=⟨.type "function",none,.func { name:="with_wish",qualname:="with_wish",params:=L2.ak (tp 45),body:=.stmts (L2.ah (tp 45)),scope:=L2.ae (tp 45),globals:=3,closure:=[],defaults:=.none,kwdefaults:=.none,doc:=.none,pyModule:=.str "noteworth.writer" 517,annotations:=none,code:=.ref 198,closureTuple:=.none,builtins:=0 },#[]⟩
noncomputable def Mq (P:Params):Obj:=⟨.type "tuple",none,.seq #[] 0,#[]⟩
noncomputable def Tv (P:Params):Obj:=⟨.none,none,.fields #[],#[]⟩
noncomputable def Tw (P:Params):Obj:=⟨.none,none,.func { name:="costs",qualname:="costs",params:=L2.ak (tp 46),body:=.stmts (L2.ah (tp 46)),scope:=L2.ae (tp 46),globals:=0,closure:=[],defaults:=.none,kwdefaults:=.none,doc:=.none,pyModule:=.none,annotations:=none,code:=.none,closureTuple:=.none,builtins:=0 },#[]⟩
noncomputable def Mr (P:Params):Obj:=⟨.type "code",none,.fields #[.str "costs" 563,.str "costs" 564,.str "/claim/cut.py" 565,.int (140) 0,.int (1) 0,.int (0) 0,.int (0) 0,.int (3) 0,.ref 200,.bool true,.int (181) 0,.ref 201,.none,.none,.none,.ref 202,.int (566) 0,.int (140) 0,.str "/claim/cut.py" 567],#[]⟩
noncomputable def Mt (P:Params):Obj:=⟨.type "function",none,.func { name:="costs",qualname:="costs",params:=L2.ak (tp 46),body:=.stmts (L2.ah (tp 46)),scope:=L2.ae (tp 46),globals:=3,closure:=[],defaults:=.none,kwdefaults:=.none,doc:=.none,pyModule:=.str "noteworth.writer" 517,annotations:=none,code:=.ref 203,closureTuple:=.none,builtins:=0 },#[]⟩
noncomputable def Mu (P:Params):Obj:=⟨.type "tuple",none,.seq #[.int (3) 569] 0,#[]⟩
noncomputable def Mw (P:Params):Obj:=⟨.type "tuple",none,.seq #[] 0,#[]⟩
noncomputable def Mx (P:Params):Obj:=⟨.none,none,.fields #[],#[]⟩
noncomputable def Tx (P:Params):Obj:=⟨.none,none,.func { name:="written",qualname:="written",params:=L2.ak (tp 47),body:=.stmts (L2.ah (tp 47)),scope:=L2.ae (tp 47),globals:=0,closure:=[],defaults:=.none,kwdefaults:=.none,doc:=.none,pyModule:=.none,annotations:=none,code:=.none,closureTuple:=.none,builtins:=0 },#[]⟩
noncomputable def zY (P:Params):Obj:=⟨.type "code",none,.fields #[.str "written" 570,.str "written" 571,.str "/claim/cut.py" 572,.int (142) 0,.int (3) 0,.int (0) 0,.int (0) 0,.int (3) 0,.ref 206,.bool true,.int (181) 0,.ref 207,.none,.none,.none,.ref 208,.int (573) 0,.int (142) 0,.str "/claim/cut.py" 574],#[]⟩
noncomputable def My (P:Params):Obj:=⟨.type "function",none,.func { name:="written",qualname:="written",params:=L2.ak (tp 47),body:=.stmts (L2.ah (tp 47)),scope:=L2.ae (tp 47),globals:=3,closure:=[],defaults:=.ref 205,kwdefaults:=.none,doc:=.none,pyModule:=.str "noteworth.writer" 517,annotations:=none,code:=.ref 209,closureTuple:=.none,builtins:=0 },#[]⟩
noncomputable def Mz (P:Params):Obj:=⟨.type "tuple",none,.seq #[] 0,#[]⟩
noncomputable def Tz (P:Params):Obj:=⟨.none,none,.fields #[],#[]⟩
noncomputable def TB (P:Params):Obj:=⟨.none,none,.func { name:="names_states",qualname:="names_states",params:=L2.ak (tp 49),body:=.stmts (L2.ah (tp 49)),scope:=L2.ae (tp 49),globals:=0,closure:=[],defaults:=.none,kwdefaults:=.none,doc:=.none,pyModule:=.none,annotations:=none,code:=.none,closureTuple:=.none,builtins:=0 },#[]⟩
noncomputable def MA (P:Params):Obj:=⟨.type "code",none,.fields #[.str "names_states" 578,.str "names_states" 579,.str "/claim/cut.py" 580,.int (154) 0,.int (2) 0,.int (0) 0,.int (0) 0,.int (3) 0,.ref 211,.bool true,.int (181) 0,.ref 212,.none,.none,.none,.ref 213,.int (581) 0,.int (154) 0,.str "/claim/cut.py" 582],#[]⟩
noncomputable def MB (P:Params):Obj:=⟨.type "function",none,.func { name:="names_states",qualname:="names_states",params:=L2.ak (tp 49),body:=.stmts (L2.ah (tp 49)),scope:=L2.ae (tp 49),globals:=3,closure:=[],defaults:=.none,kwdefaults:=.none,doc:=.none,pyModule:=.str "noteworth.papers" 576,annotations:=none,code:=.ref 214,closureTuple:=.none,builtins:=0 },#[]⟩
noncomputable def MC (P:Params):Obj:=⟨.type "tuple",none,.seq #[] 0,#[]⟩
noncomputable def TC (P:Params):Obj:=⟨.none,none,.fields #[],#[]⟩
noncomputable def MD (P:Params):Obj:=⟨.type "tuple",none,.seq #[.str "numbers" 587,.str "state" 588,.str "most" 589] 0,#[]⟩
noncomputable def ME (P:Params):Obj:=⟨.type "tuple",none,.seq #[] 0,#[]⟩
noncomputable def TF (P:Params):Obj:=⟨.none,none,.func { name:="bounds",qualname:="bounds",params:=L2.ak (tp 50),body:=.stmts (L2.ah (tp 50)),scope:=L2.ae (tp 50),globals:=0,closure:=[],defaults:=.none,kwdefaults:=.none,doc:=.none,pyModule:=.none,annotations:=none,code:=.none,closureTuple:=.none,builtins:=0 },#[]⟩
noncomputable def MF (P:Params):Obj:=⟨.type "code",none,.fields #[.str "bounds" 584,.str "bounds" 585,.str "/claim/cut.py" 586,.int (157) 0,.int (3) 0,.int (0) 0,.int (0) 0,.int (3) 0,.ref 216,.bool true,.int (181) 0,.ref 217,.none,.ref 218,.ref 219,.ref 220,.int (590) 0,.int (157) 0,.str "/claim/cut.py" 591],#[]⟩
noncomputable def MG (P:Params):Obj:=⟨.type "function",none,.func { name:="bounds",qualname:="bounds",params:=L2.ak (tp 50),body:=.stmts (L2.ah (tp 50)),scope:=L2.ae (tp 50),globals:=3,closure:=[],defaults:=.none,kwdefaults:=.none,doc:=.none,pyModule:=.str "noteworth.papers" 576,annotations:=none,code:=.ref 221,closureTuple:=.none,builtins:=0 },#[]⟩
noncomputable def MH (P:Params):Obj:=⟨.type "tuple",none,.seq #[] 0,#[]⟩
noncomputable def TJ (P:Params):Obj:=⟨.none,none,.fields #[],#[]⟩
noncomputable def MI (P:Params):Obj:=⟨.type "tuple",none,.seq #[.str "numbers" 596,.str "prices" 597,.str "state" 598,.str "number" 599,.str "sign" 600,.str "cost" 601,.str "to" 602] 0,#[]⟩
noncomputable def MJ (P:Params):Obj:=⟨.type "tuple",none,.seq #[] 0,#[]⟩
noncomputable def TK (P:Params):Obj:=⟨.none,none,.func { name:="bounds_parting_moves",qualname:="bounds_parting_moves",params:=L2.ak (tp 51),body:=.stmts (L2.ah (tp 51)),scope:=L2.ae (tp 51),globals:=0,closure:=[],defaults:=.none,kwdefaults:=.none,doc:=.none,pyModule:=.none,annotations:=none,code:=.none,closureTuple:=.none,builtins:=0 },#[]⟩
noncomputable def MK (P:Params):Obj:=⟨.type "code",none,.fields #[.str "bounds_parting_moves" 593,.str "bounds_parting_moves" 594,.str "/claim/cut.py" 595,.int (159) 0,.int (2) 0,.int (0) 0,.int (0) 0,.int (3) 0,.ref 223,.bool true,.int (181) 0,.ref 224,.none,.ref 225,.ref 226,.ref 227,.int (603) 0,.int (159) 0,.str "/claim/cut.py" 604],#[]⟩
noncomputable def ML (P:Params):Obj:=⟨.type "function",none,.func { name:="bounds_parting_moves",qualname:="bounds_parting_moves",params:=L2.ak (tp 51),body:=.stmts (L2.ah (tp 51)),scope:=L2.ae (tp 51),globals:=3,closure:=[],defaults:=.none,kwdefaults:=.none,doc:=.none,pyModule:=.str "noteworth.papers" 576,annotations:=none,code:=.ref 228,closureTuple:=.none,builtins:=0 },#[]⟩
noncomputable def MM (P:Params):Obj:=⟨.type "tuple",none,.seq #[] 0,#[]⟩
noncomputable def TL (P:Params):Obj:=⟨.none,none,.fields #[],#[]⟩
noncomputable def MN (P:Params):Obj:=⟨.type "tuple",none,.seq #[.str "numbers" 609,.str "following" 610,.str "wish" 611,.str "prices" 612,.str "state" 613,.str "number" 614,.str "sign" 615,.str "cost" 616,.str "to" 617] 0,#[]⟩
noncomputable def MO (P:Params):Obj:=⟨.type "tuple",none,.seq #[] 0,#[]⟩
noncomputable def TM (P:Params):Obj:=⟨.none,none,.func { name:="bounds_wish_moves",qualname:="bounds_wish_moves",params:=L2.ak (tp 52),body:=.stmts (L2.ah (tp 52)),scope:=L2.ae (tp 52),globals:=0,closure:=[],defaults:=.none,kwdefaults:=.none,doc:=.none,pyModule:=.none,annotations:=none,code:=.none,closureTuple:=.none,builtins:=0 },#[]⟩
noncomputable def MP (P:Params):Obj:=⟨.type "code",none,.fields #[.str "bounds_wish_moves" 606,.str "bounds_wish_moves" 607,.str "/claim/cut.py" 608,.int (165) 0,.int (4) 0,.int (0) 0,.int (0) 0,.int (3) 0,.ref 230,.bool true,.int (181) 0,.ref 231,.none,.ref 232,.ref 233,.ref 234,.int (618) 0,.int (165) 0,.str "/claim/cut.py" 619],#[]⟩
noncomputable def MQ (P:Params):Obj:=⟨.type "function",none,.func { name:="bounds_wish_moves",qualname:="bounds_wish_moves",params:=L2.ak (tp 52),body:=.stmts (L2.ah (tp 52)),scope:=L2.ae (tp 52),globals:=3,closure:=[],defaults:=.none,kwdefaults:=.none,doc:=.none,pyModule:=.str "noteworth.papers" 576,annotations:=none,code:=.ref 235,closureTuple:=.none,builtins:=0 },#[]⟩
noncomputable def MR (P:Params):Obj:=⟨.type "tuple",none,.seq #[] 0,#[]⟩
noncomputable def TN (P:Params):Obj:=⟨.none,none,.fields #[],#[]⟩
noncomputable def TQ (P:Params):Obj:=⟨.none,none,.func { name:="reaches_bound",qualname:="reaches_bound",params:=L2.ak (tp 53),body:=.stmts (L2.ah (tp 53)),scope:=L2.ae (tp 53),globals:=0,closure:=[],defaults:=.none,kwdefaults:=.none,doc:=.none,pyModule:=.none,annotations:=none,code:=.none,closureTuple:=.none,builtins:=0 },#[]⟩
noncomputable def MS (P:Params):Obj:=⟨.type "code",none,.fields #[.str "reaches_bound" 621,.str "reaches_bound" 622,.str "/claim/cut.py" 623,.int (171) 0,.int (2) 0,.int (0) 0,.int (0) 0,.int (3) 0,.ref 237,.bool true,.int (181) 0,.ref 238,.none,.none,.none,.ref 239,.int (624) 0,.int (171) 0,.str "/claim/cut.py" 625],#[]⟩
noncomputable def MT (P:Params):Obj:=⟨.type "function",none,.func { name:="reaches_bound",qualname:="reaches_bound",params:=L2.ak (tp 53),body:=.stmts (L2.ah (tp 53)),scope:=L2.ae (tp 53),globals:=3,closure:=[],defaults:=.none,kwdefaults:=.none,doc:=.none,pyModule:=.str "noteworth.papers" 576,annotations:=none,code:=.ref 240,closureTuple:=.none,builtins:=0 },#[]⟩
noncomputable def MU (P:Params):Obj:=⟨.type "tuple",none,.seq #[.int (3) 627] 0,#[]⟩
noncomputable def MV (P:Params):Obj:=⟨.type "tuple",none,.seq #[] 0,#[]⟩
noncomputable def TR (P:Params):Obj:=⟨.none,none,.fields #[],#[]⟩
noncomputable def TU (P:Params):Obj:=⟨.none,none,.func { name:="holds",qualname:="holds",params:=L2.ak (tp 54),body:=.stmts (L2.ah (tp 54)),scope:=L2.ae (tp 54),globals:=0,closure:=[],defaults:=.none,kwdefaults:=.none,doc:=.none,pyModule:=.none,annotations:=none,code:=.none,closureTuple:=.none,builtins:=0 },#[]⟩
noncomputable def MW (P:Params):Obj:=⟨.type "code",none,.fields #[.str "holds" 628,.str "holds" 629,.str "/claim/cut.py" 630,.int (176) 0,.int (5) 0,.int (0) 0,.int (0) 0,.int (3) 0,.ref 243,.bool true,.int (181) 0,.ref 244,.none,.none,.none,.ref 245,.int (631) 0,.int (176) 0,.str "/claim/cut.py" 632],#[]⟩
noncomputable def MX (P:Params):Obj:=⟨.type "function",none,.func { name:="holds",qualname:="holds",params:=L2.ak (tp 54),body:=.stmts (L2.ah (tp 54)),scope:=L2.ae (tp 54),globals:=3,closure:=[],defaults:=.ref 242,kwdefaults:=.none,doc:=.none,pyModule:=.str "noteworth.papers" 576,annotations:=none,code:=.ref 246,closureTuple:=.none,builtins:=0 },#[]⟩
noncomputable def MY (P:Params):Obj:=⟨.type "tuple",none,.seq #[] 0,#[]⟩
noncomputable def TV (P:Params):Obj:=⟨.none,none,.fields #[],#[]⟩
noncomputable def MZ (P:Params):Obj:=⟨.type "tuple",none,.seq #[.str "_law_script" 639,.str "_law_k" 640] 0,#[]⟩
noncomputable def M0 (P:Params):Obj:=⟨.type "tuple",none,.seq #[] 0,#[]⟩
noncomputable def TX (P:Params):Obj:=⟨.none,none,.func { name:="_law_cell_at",qualname:="_law_cell_at",params:=L2.ak (tp 56),body:=.stmts (L2.ah (tp 56)),scope:=L2.ae (tp 56),globals:=0,closure:=[],defaults:=.none,kwdefaults:=.none,doc:=.none,pyModule:=.none,annotations:=none,code:=.none,closureTuple:=.none,builtins:=0 },#[]⟩
noncomputable def M3 (P:Params):Obj:=⟨.type "code",none,.fields #[.str "_law_cell_at" 636,.str "_law_cell_at" 637,.str "/claim/cut.py" 638,.int (190) 0,.int (2) 0,.int (0) 0,.int (0) 0,.int (3) 0,.ref 248,.bool true,.int (181) 0,.ref 249,.none,.ref 250,.ref 251,.ref 252,.int (641) 0,.int (190) 0,.str "/claim/cut.py" 642],#[]⟩
noncomputable def M4 (P:Params):Obj:=⟨.type "function",none,.func { name:="_law_cell_at",qualname:="_law_cell_at",params:=L2.ak (tp 56),body:=.stmts (L2.ah (tp 56)),scope:=L2.ae (tp 56),globals:=3,closure:=[],defaults:=.none,kwdefaults:=.none,doc:=.none,pyModule:=.str "law_noteworth_k28_papers_told" 634,annotations:=none,code:=.ref 253,closureTuple:=.none,builtins:=0 },#[]⟩
noncomputable def M5 (P:Params):Obj:=⟨.type "tuple",none,.seq #[] 0,#[]⟩
noncomputable def TY (P:Params):Obj:=⟨.none,none,.fields #[],#[]⟩
noncomputable def M6 (P:Params):Obj:=⟨.type "tuple",none,.seq #[.str "_law_seed" 647,.str "_law_k" 648,.str "_law_one" 649,.str "_law_two" 650] 0,#[]⟩
noncomputable def M7 (P:Params):Obj:=⟨.type "tuple",none,.seq #[] 0,#[]⟩
noncomputable def TZ (P:Params):Obj:=⟨.none,none,.func { name:="_law_mixed",qualname:="_law_mixed",params:=L2.ak (tp 57),body:=.stmts (L2.ah (tp 57)),scope:=L2.ae (tp 57),globals:=0,closure:=[],defaults:=.none,kwdefaults:=.none,doc:=.none,pyModule:=.none,annotations:=none,code:=.none,closureTuple:=.none,builtins:=0 },#[]⟩
noncomputable def M8 (P:Params):Obj:=⟨.type "code",none,.fields #[.str "_law_mixed" 644,.str "_law_mixed" 645,.str "/claim/cut.py" 646,.int (194) 0,.int (2) 0,.int (0) 0,.int (0) 0,.int (3) 0,.ref 255,.bool true,.int (181) 0,.ref 256,.none,.ref 257,.ref 258,.ref 259,.int (651) 0,.int (194) 0,.str "/claim/cut.py" 652],#[]⟩
noncomputable def M9 (P:Params):Obj:=⟨.type "function",none,.func { name:="_law_mixed",qualname:="_law_mixed",params:=L2.ak (tp 57),body:=.stmts (L2.ah (tp 57)),scope:=L2.ae (tp 57),globals:=3,closure:=[],defaults:=.none,kwdefaults:=.none,doc:=.none,pyModule:=.str "law_noteworth_k28_papers_told" 634,annotations:=none,code:=.ref 260,closureTuple:=.none,builtins:=0 },#[]⟩
noncomputable def Na (P:Params):Obj:=⟨.type "tuple",none,.seq #[] 0,#[]⟩
noncomputable def T1 (P:Params):Obj:=⟨.none,none,.fields #[],#[]⟩
noncomputable def T2 (P:Params):Obj:=⟨.none,none,.func { name:="_law_numbers",qualname:="_law_numbers",params:=L2.ak (tp 58),body:=.stmts (L2.ah (tp 58)),scope:=L2.ae (tp 58),globals:=0,closure:=[],defaults:=.none,kwdefaults:=.none,doc:=.none,pyModule:=.none,annotations:=none,code:=.none,closureTuple:=.none,builtins:=0 },#[]⟩
noncomputable def Nc (P:Params):Obj:=⟨.type "code",none,.fields #[.str "_law_numbers" 654,.str "_law_numbers" 655,.str "/claim/cut.py" 656,.int (198) 0,.int (3) 0,.int (0) 0,.int (0) 0,.int (3) 0,.ref 262,.bool true,.int (181) 0,.ref 263,.none,.none,.none,.ref 264,.int (657) 0,.int (198) 0,.str "/claim/cut.py" 658],#[]⟩
noncomputable def Nd (P:Params):Obj:=⟨.type "function",none,.func { name:="_law_numbers",qualname:="_law_numbers",params:=L2.ak (tp 58),body:=.stmts (L2.ah (tp 58)),scope:=L2.ae (tp 58),globals:=3,closure:=[],defaults:=.none,kwdefaults:=.none,doc:=.none,pyModule:=.str "law_noteworth_k28_papers_told" 634,annotations:=none,code:=.ref 265,closureTuple:=.none,builtins:=0 },#[]⟩
noncomputable def Nf (P:Params):Obj:=⟨.type "tuple",none,.seq #[] 0,#[]⟩
noncomputable def T3 (P:Params):Obj:=⟨.none,none,.fields #[],#[]⟩
noncomputable def Ng (P:Params):Obj:=⟨.type "tuple",none,.seq #[.str "_law_number" 663,.str "_law_kind" 664] 0,#[]⟩
noncomputable def Nh (P:Params):Obj:=⟨.type "tuple",none,.seq #[] 0,#[]⟩
noncomputable def T4 (P:Params):Obj:=⟨.none,none,.func { name:="_law_sign_by",qualname:="_law_sign_by",params:=L2.ak (tp 59),body:=.stmts (L2.ah (tp 59)),scope:=L2.ae (tp 59),globals:=0,closure:=[],defaults:=.none,kwdefaults:=.none,doc:=.none,pyModule:=.none,annotations:=none,code:=.none,closureTuple:=.none,builtins:=0 },#[]⟩
noncomputable def Ni (P:Params):Obj:=⟨.type "code",none,.fields #[.str "_law_sign_by" 660,.str "_law_sign_by" 661,.str "/claim/cut.py" 662,.int (208) 0,.int (1) 0,.int (0) 0,.int (0) 0,.int (3) 0,.ref 267,.bool true,.int (181) 0,.ref 268,.none,.ref 269,.ref 270,.ref 271,.int (665) 0,.int (208) 0,.str "/claim/cut.py" 666],#[]⟩
noncomputable def Nj (P:Params):Obj:=⟨.type "function",none,.func { name:="_law_sign_by",qualname:="_law_sign_by",params:=L2.ak (tp 59),body:=.stmts (L2.ah (tp 59)),scope:=L2.ae (tp 59),globals:=3,closure:=[],defaults:=.none,kwdefaults:=.none,doc:=.none,pyModule:=.str "law_noteworth_k28_papers_told" 634,annotations:=none,code:=.ref 272,closureTuple:=.none,builtins:=0 },#[]⟩
noncomputable def Nk (P:Params):Obj:=⟨.type "tuple",none,.seq #[] 0,#[]⟩
noncomputable def T5 (P:Params):Obj:=⟨.none,none,.fields #[],#[]⟩
noncomputable def T6 (P:Params):Obj:=⟨.none,none,.func { name:="_law_line",qualname:="_law_line",params:=L2.ak (tp 60),body:=.stmts (L2.ah (tp 60)),scope:=L2.ae (tp 60),globals:=0,closure:=[],defaults:=.none,kwdefaults:=.none,doc:=.none,pyModule:=.none,annotations:=none,code:=.none,closureTuple:=.none,builtins:=0 },#[]⟩
noncomputable def Nl (P:Params):Obj:=⟨.type "code",none,.fields #[.str "_law_line" 668,.str "_law_line" 669,.str "/claim/cut.py" 670,.int (213) 0,.int (3) 0,.int (0) 0,.int (0) 0,.int (3) 0,.ref 274,.bool true,.int (181) 0,.ref 275,.none,.none,.none,.ref 276,.int (671) 0,.int (213) 0,.str "/claim/cut.py" 672],#[]⟩
noncomputable def Nm (P:Params):Obj:=⟨.type "function",none,.func { name:="_law_line",qualname:="_law_line",params:=L2.ak (tp 60),body:=.stmts (L2.ah (tp 60)),scope:=L2.ae (tp 60),globals:=3,closure:=[],defaults:=.none,kwdefaults:=.none,doc:=.none,pyModule:=.str "law_noteworth_k28_papers_told" 634,annotations:=none,code:=.ref 277,closureTuple:=.none,builtins:=0 },#[]⟩
noncomputable def Nn (P:Params):Obj:=⟨.type "tuple",none,.seq #[] 0,#[]⟩
noncomputable def T7 (P:Params):Obj:=⟨.none,none,.fields #[],#[]⟩
noncomputable def Np (P:Params):Obj:=⟨.type "tuple",none,.seq #[.str "_law_cell" 677] 0,#[]⟩
noncomputable def Nq (P:Params):Obj:=⟨.type "tuple",none,.seq #[] 0,#[]⟩
noncomputable def T8 (P:Params):Obj:=⟨.none,none,.func { name:="_law_begin",qualname:="_law_begin",params:=L2.ak (tp 61),body:=.stmts (L2.ah (tp 61)),scope:=L2.ae (tp 61),globals:=0,closure:=[],defaults:=.none,kwdefaults:=.none,doc:=.none,pyModule:=.none,annotations:=none,code:=.none,closureTuple:=.none,builtins:=0 },#[]⟩
noncomputable def Nr (P:Params):Obj:=⟨.type "code",none,.fields #[.str "_law_begin" 674,.str "_law_begin" 675,.str "/claim/cut.py" 676,.int (215) 0,.int (1) 0,.int (0) 0,.int (0) 0,.int (3) 0,.ref 279,.bool true,.int (181) 0,.ref 280,.none,.ref 281,.ref 282,.ref 283,.int (678) 0,.int (215) 0,.str "/claim/cut.py" 679],#[]⟩
noncomputable def Nt (P:Params):Obj:=⟨.type "function",none,.func { name:="_law_begin",qualname:="_law_begin",params:=L2.ak (tp 61),body:=.stmts (L2.ah (tp 61)),scope:=L2.ae (tp 61),globals:=3,closure:=[],defaults:=.none,kwdefaults:=.none,doc:=.none,pyModule:=.str "law_noteworth_k28_papers_told" 634,annotations:=none,code:=.ref 284,closureTuple:=.none,builtins:=0 },#[]⟩
noncomputable def H6 (P:Params):Heap:=⟨⟨[boot_o_0 P,boot_o_1 P,boot_o_2 P,aow P,boot_o_4 P,boot_o_5 P,boot_o_6 P,boot_o_7 P,boot_o_8 P,boot_o_9 P,boot_o_10 P,fB P,alT P,fD P,fE P,fI P,fJ P,fK P,fL P,fM P,gZ P,fN P,fO P,g0 P,fQ P,fR P,fS P,g8 P,fU P,fV P,hG P,fW P,fX P,fY P,fZ P,hI P,gb P,gg P,hU P,gh P,gi P,gj P,gk P,gn P,gp P,fg P,cw P,cx P,cy P,cz P,cA P,cB P,cC P,cD P,cF P,cG P,uY P,kj P,km P,ko P,kq P,YC P,ac5 P,YD P,YE P,ac6 P,YF P,YG P,YH P,YI P,ac7 P,YJ P,YK P,ac8 P,YL P,YM P,YN P,ac9 P,YO P,YQ P,ada P,YR P,YS P,YT P,adb P,YU P,YV P,ade P,YW P,YX P,YY P,adf P,YZ P,Y0 P,adg P,Y1 P,Y2 P,Y3 P,adh P,Y4 P,K7 P,SR P,K8 P,K9 P,La P,SS P,Lb P,Lc P,SU P,Ld P,Le P,Lf P,SV P,Lg P,Lh P,SW P,Li P,Lj P,Lk P,SX P,Ll P,Lm P,SY P,Ln P,Lo P,Lp P,S0 P,Lq P,Lr P,S9 P,Ls P,Lu P,Lv P,Ta P,Lx P,Ly P,Tb P,Lz P,LA P,LB P,Tc P,LC P,LD P,Td P,LG P,LH P,LI P,LJ P,LK P,LL P,LM P,LN P,LO P,LQ P,Te P,LR P,LS P,Tf P,LU P,LV P,LW P,Tg P,LX P,LY P,Th P,LZ P,L0 P,L1 P,Ti P,Tj P,L3 P,L4 P,L5 P,Tn P,L6 P,L7 P,To P,L8 P,L9 P,Ma P,Tp P,Mb P,Mc P,Tq P,Md P,Me P,Mf P,Tr P,Mg P,Mh P,Ts P,Mi P,Mj P,Ml P,Tt P,Mm P,Mn P,Tu P,Mo P,Mp P,Mq P,Tv P,Tw P,Mr P,Mt P,Mu P,Mw P,Mx P,Tx P,zY P,My P,Mz P,Tz P,TB P,MA P,MB P,MC P,TC P,MD P,ME P,TF P,MF P,MG P,MH P,TJ P,MI P,MJ P,TK P,MK P,ML P,MM P,TL P,MN P,MO P,TM P,MP P,MQ P,MR P,TN P,TQ P,MS P,MT P,MU P,MV P,TR P,TU P,MW P,MX P,MY P,TV P,MZ P,M0 P,TX P,M3 P,M4 P,M5 P,TY P,M6 P,M7 P,TZ P,M8 P,M9 P,Na P,T1 P,T2 P,Nc P,Nd P,Nf P,T3 P,Ng P,Nh P,T4 P,Ni P,Nj P,Nk P,T5 P,T6 P,Nl P,Nm P,Nn P,T7 P,Np P,Nq P,T8 P,Nr P,Nt P]⟩,(boot_heap P).life⟩
noncomputable def k6:Nat:=681
noncomputable def n6:Nat:=1098
noncomputable def p6:Pos:=⟨215,0,216,38⟩
noncomputable def s6:List Stmt:=[tp 22,tp 23,tp 24,tp 25,tp 26,tp 27,tp 28,tp 29,tp 30,tp 31,tp 32,tp 33,tp 34,tp 35,tp 36,tp 37,tp 38,tp 39,tp 40,tp 41,tp 42,tp 43,tp 44,tp 45,tp 46,tp 47,tp 48,tp 49,tp 50,tp 51,tp 52,tp 53,tp 54,tp 55,tp 56,tp 57,tp 58,tp 59,tp 60,tp 61]
noncomputable def ajs (P:Params):Obj:=⟨.type "dict",none,.dict #[⟨PyData.keyHash P "__name__",.str "__name__" 165,.str "law_noteworth_k28_papers_told" 634⟩,⟨PyData.keyHash P "__doc__",.str "__doc__" 166,.none⟩,⟨PyData.keyHash P "__package__",.str "__package__" 167,.none⟩,⟨PyData.keyHash P "__loader__",.str "__loader__" 168,.builtin "__main__.__loader__#opaque"⟩,⟨PyData.keyHash P "__spec__",.str "__spec__" 169,.none⟩,⟨PyData.keyHash P "__annotations__",.str "__annotations__" 170,.ref 6⟩,⟨PyData.keyHash P "__builtins__",.str "__builtins__" 171,.ref 4⟩,⟨PyData.keyHash P "__file__",.str "__file__" 173,.str "/claim/cut.py" 172⟩,⟨PyData.keyHash P "__cached__",.str "__cached__" 174,.none⟩,⟨PyData.keyHash P "SMALL_KINDS",.str "SMALL_KINDS" 192,.ref 15⟩,⟨PyData.keyHash P "PARTING_KINDS",.str "PARTING_KINDS" 196,.ref 16⟩,⟨PyData.keyHash P "MEASURE_KINDS",.str "MEASURE_KINDS" 199,.ref 17⟩,⟨PyData.keyHash P "SOUNDING_KINDS",.str "SOUNDING_KINDS" 204,.ref 18⟩,⟨PyData.keyHash P "small",.str "small" 211,.ref 25⟩,⟨PyData.keyHash P "parting",.str "parting" 218,.ref 32⟩,⟨PyData.keyHash P "DARK_KINDS",.str "DARK_KINDS" 223,.ref 33⟩,⟨PyData.keyHash P "sign_price",.str "sign_price" 234,.ref 40⟩,⟨PyData.keyHash P "REST_TONE",.str "REST_TONE" 237,.int (-1) 236⟩,⟨PyData.keyHash P "TWOFOLD_STATES",.str "TWOFOLD_STATES" 243,.ref 41⟩,⟨PyData.keyHash P "TWOFOLD_BEGIN",.str "TWOFOLD_BEGIN" 245,.str "2-" 244⟩,⟨PyData.keyHash P "THREEFOLD_BEGIN",.str "THREEFOLD_BEGIN" 247,.str "3n0-" 246⟩,⟨PyData.keyHash P "SHORTENED_FROM_AHEAD",.str "SHORTENED_FROM_AHEAD" 249,.str "3t0-" 248⟩,⟨PyData.keyHash P "NO_RUN",.str "NO_RUN" 251,.str "0-" 250⟩,⟨PyData.keyHash P "RUNS_GOING_ON",.str "RUNS_GOING_ON" 259,.ref 42⟩,⟨PyData.keyHash P "LEFTS_OF_RUNS",.str "LEFTS_OF_RUNS" 263,.ref 43⟩,⟨PyData.keyHash P "NEXT_COUNTS",.str "NEXT_COUNTS" 273,.ref 44⟩,⟨PyData.keyHash P "TWOFOLD_STEPS",.str "TWOFOLD_STEPS" 334,.ref 45⟩,⟨PyData.keyHash P "GREAT_STEPS",.str "GREAT_STEPS" 359,.ref 56⟩,⟨PyData.keyHash P "states",.str "states" 368,.ref 67⟩,⟨PyData.keyHash P "begin_state",.str "begin_state" 376,.ref 75⟩,⟨PyData.keyHash P "step",.str "step" 385,.ref 82⟩,⟨PyData.keyHash P "ends",.str "ends" 392,.ref 89⟩,⟨PyData.keyHash P "twofold_step",.str "twofold_step" 401,.ref 96⟩,⟨PyData.keyHash P "closes",.str "closes" 410,.ref 103⟩,⟨PyData.keyHash P "closes_by_great",.str "closes_by_great" 417,.ref 110⟩,⟨PyData.keyHash P "closes_by_right_note",.str "closes_by_right_note" 424,.ref 117⟩,⟨PyData.keyHash P "great_step",.str "great_step" 433,.ref 124⟩,⟨PyData.keyHash P "parting_step",.str "parting_step" 442,.ref 131⟩,⟨PyData.keyHash P "told_last",.str "told_last" 451,.ref 138⟩,⟨PyData.keyHash P "small_step",.str "small_step" 463,.ref 145⟩,⟨PyData.keyHash P "PARTING_SIGNS",.str "PARTING_SIGNS" 472,.ref 149⟩,⟨PyData.keyHash P "REST_SIGNS",.str "REST_SIGNS" 477,.ref 152⟩,⟨PyData.keyHash P "moves",.str "moves" 491,.ref 159⟩,⟨PyData.keyHash P "parting_moves",.str "parting_moves" 499,.ref 166⟩,⟨PyData.keyHash P "wished_signs",.str "wished_signs" 505,.ref 171⟩,⟨PyData.keyHash P "wish_moves",.str "wish_moves" 516,.ref 178⟩,⟨PyData.keyHash P "MOST_PARTING_SIGNS",.str "MOST_PARTING_SIGNS" 520,.int (2) 519⟩,⟨PyData.keyHash P "keep_cheaper",.str "keep_cheaper" 530,.ref 185⟩,⟨PyData.keyHash P "with_parting_signs",.str "with_parting_signs" 546,.ref 192⟩,⟨PyData.keyHash P "with_wish",.str "with_wish" 562,.ref 199⟩,⟨PyData.keyHash P "costs",.str "costs" 568,.ref 204⟩,⟨PyData.keyHash P "written",.str "written" 575,.ref 210⟩,⟨PyData.keyHash P "names_states",.str "names_states" 583,.ref 215⟩,⟨PyData.keyHash P "bounds",.str "bounds" 592,.ref 222⟩,⟨PyData.keyHash P "bounds_parting_moves",.str "bounds_parting_moves" 605,.ref 229⟩,⟨PyData.keyHash P "bounds_wish_moves",.str "bounds_wish_moves" 620,.ref 236⟩,⟨PyData.keyHash P "reaches_bound",.str "reaches_bound" 626,.ref 241⟩,⟨PyData.keyHash P "holds",.str "holds" 633,.ref 247⟩,⟨PyData.keyHash P "_law_cell_at",.str "_law_cell_at" 643,.ref 254⟩,⟨PyData.keyHash P "_law_mixed",.str "_law_mixed" 653,.ref 261⟩,⟨PyData.keyHash P "_law_numbers",.str "_law_numbers" 659,.ref 266⟩,⟨PyData.keyHash P "_law_sign_by",.str "_law_sign_by" 667,.ref 273⟩,⟨PyData.keyHash P "_law_line",.str "_law_line" 673,.ref 278⟩,⟨PyData.keyHash P "_law_begin",.str "_law_begin" 680,.ref 285⟩,⟨PyData.keyHash P "_law_base",.str "_law_base" 692,.ref 292⟩,⟨PyData.keyHash P "_law_three",.str "_law_three" 703,.ref 299⟩,⟨PyData.keyHash P "_law_run",.str "_law_run" 718,.ref 306⟩,⟨PyData.keyHash P "_law_read",.str "_law_read" 731,.ref 313⟩,⟨PyData.keyHash P "_law_firmed",.str "_law_firmed" 743,.ref 320⟩,⟨PyData.keyHash P "_law_wishes",.str "_law_wishes" 754,.ref 327⟩,⟨PyData.keyHash P "_law_any_wishes",.str "_law_any_wishes" 768,.ref 334⟩,⟨PyData.keyHash P "_law_prices",.str "_law_prices" 777,.ref 341⟩,⟨PyData.keyHash P "_law_shut",.str "_law_shut" 787,.ref 348⟩,⟨PyData.keyHash P "_law_step_two",.str "_law_step_two" 796,.ref 355⟩,⟨PyData.keyHash P "_law_step_by",.str "_law_step_by" 808,.ref 362⟩,⟨PyData.keyHash P "_law_states",.str "_law_states" 817,.ref 369⟩,⟨PyData.keyHash P "_law_ends",.str "_law_ends" 824,.ref 376⟩,⟨PyData.keyHash P "_law_moves",.str "_law_moves" 839,.ref 383⟩,⟨PyData.keyHash P "_law_carried",.str "_law_carried" 850,.ref 390⟩,⟨PyData.keyHash P "_law_tables",.str "_law_tables" 863,.ref 397⟩,⟨PyData.keyHash P "_law_holds",.str "_law_holds" 879,.ref 404⟩,⟨PyData.keyHash P "_law_whole",.str "_law_whole" 886,.ref 411⟩,⟨PyData.keyHash P "_law_paper",.str "_law_paper" 895,.ref 418⟩,⟨PyData.keyHash P "law",.str "law" 908,.ref 425⟩] 84,#[]⟩
noncomputable def ah1 (P:Params):Obj:=⟨.none,none,.fields #[.int (6) 0,.int (0) 0,.ref 24,.int (8) 0,.int (0) 0,.ref 31,.int (12) 0,.int (0) 0,.ref 39,.int (33) 0,.int (0) 0,.ref 66,.int (41) 0,.int (0) 0,.ref 74,.int (45) 0,.int (0) 0,.ref 81,.int (53) 0,.int (0) 0,.ref 88,.int (57) 0,.int (0) 0,.ref 95,.int (63) 0,.int (0) 0,.ref 102,.int (68) 0,.int (0) 0,.ref 109,.int (70) 0,.int (0) 0,.ref 116,.int (72) 0,.int (0) 0,.ref 123,.int (80) 0,.int (0) 0,.ref 130,.int (86) 0,.int (0) 0,.ref 137,.int (92) 0,.int (0) 0,.ref 144,.int (104) 0,.int (0) 0,.ref 158,.int (112) 0,.int (0) 0,.ref 165,.int (114) 0,.int (0) 0,.ref 170,.int (118) 0,.int (0) 0,.ref 177,.int (123) 0,.int (0) 0,.ref 184,.int (126) 0,.int (0) 0,.ref 191,.int (134) 0,.int (0) 0,.ref 198,.int (140) 0,.int (0) 0,.ref 203,.int (142) 0,.int (0) 0,.ref 209,.int (154) 0,.int (0) 0,.ref 214,.int (157) 0,.int (0) 0,.ref 221,.int (159) 0,.int (0) 0,.ref 228,.int (165) 0,.int (0) 0,.ref 235,.int (171) 0,.int (0) 0,.ref 240,.int (176) 0,.int (0) 0,.ref 246,.int (190) 0,.int (0) 0,.ref 253,.int (194) 0,.int (0) 0,.ref 260,.int (198) 0,.int (0) 0,.ref 265,.int (208) 0,.int (0) 0,.ref 272,.int (213) 0,.int (0) 0,.ref 277,.int (215) 0,.int (0) 0,.ref 284,.int (217) 0,.int (0) 0,.ref 291,.int (235) 0,.int (0) 0,.ref 298,.int (243) 0,.int (0) 0,.ref 305,.int (257) 0,.int (0) 0,.ref 312,.int (270) 0,.int (0) 0,.ref 319,.int (278) 0,.int (0) 0,.ref 326,.int (286) 0,.int (0) 0,.ref 333,.int (294) 0,.int (0) 0,.ref 340,.int (300) 0,.int (0) 0,.ref 347,.int (313) 0,.int (0) 0,.ref 354,.int (325) 0,.int (0) 0,.ref 361,.int (346) 0,.int (0) 0,.ref 368,.int (354) 0,.int (0) 0,.ref 375,.int (358) 0,.int (0) 0,.ref 382,.int (370) 0,.int (0) 0,.ref 389,.int (375) 0,.int (0) 0,.ref 396,.int (386) 0,.int (0) 0,.ref 403,.int (401) 0,.int (0) 0,.ref 410,.int (403) 0,.int (0) 0,.ref 417,.int (415) 0,.int (0) 0,.ref 424],#[]⟩
noncomputable def T9 (P:Params):Obj:=⟨.type "tuple",none,.seq #[] 0,#[]⟩
noncomputable def adi (P:Params):Obj:=⟨.none,none,.fields #[],#[]⟩
noncomputable def Ua (P:Params):Obj:=⟨.type "tuple",none,.seq #[.str "_law_line_here" 684,.str "_law_begin_here" 685,.str "_law_told" 686,.str "_law_now" 687,.str "_law_at" 688,.str "_law_kind" 689] 0,#[]⟩
noncomputable def Ub (P:Params):Obj:=⟨.type "tuple",none,.seq #[] 0,#[]⟩
noncomputable def adj (P:Params):Obj:=⟨.none,none,.func { name:="_law_base",qualname:="_law_base",params:=L2.ak (tp 62),body:=.stmts (L2.ah (tp 62)),scope:=L2.ae (tp 62),globals:=0,closure:=[],defaults:=.none,kwdefaults:=.none,doc:=.none,pyModule:=.none,annotations:=none,code:=.none,closureTuple:=.none,builtins:=0 },#[]⟩
noncomputable def Uc (P:Params):Obj:=⟨.type "code",none,.fields #[.str "_law_base" 681,.str "_law_base" 682,.str "/claim/cut.py" 683,.int (217) 0,.int (2) 0,.int (0) 0,.int (0) 0,.int (3) 0,.ref 286,.bool true,.int (181) 0,.ref 287,.none,.ref 288,.ref 289,.ref 290,.int (690) 0,.int (217) 0,.str "/claim/cut.py" 691],#[]⟩
noncomputable def Ud (P:Params):Obj:=⟨.type "function",none,.func { name:="_law_base",qualname:="_law_base",params:=L2.ak (tp 62),body:=.stmts (L2.ah (tp 62)),scope:=L2.ae (tp 62),globals:=3,closure:=[],defaults:=.none,kwdefaults:=.none,doc:=.none,pyModule:=.str "law_noteworth_k28_papers_told" 634,annotations:=none,code:=.ref 291,closureTuple:=.none,builtins:=0 },#[]⟩
noncomputable def Ue (P:Params):Obj:=⟨.type "tuple",none,.seq #[] 0,#[]⟩
noncomputable def adk (P:Params):Obj:=⟨.none,none,.fields #[],#[]⟩
noncomputable def Ug (P:Params):Obj:=⟨.type "tuple",none,.seq #[.str "_law_line_here" 696,.str "_law_begin_here" 697,.str "_law_told" 698,.str "_law_now" 699,.str "_law_sign" 700] 0,#[]⟩
noncomputable def Uh (P:Params):Obj:=⟨.type "tuple",none,.seq #[] 0,#[]⟩
noncomputable def adl (P:Params):Obj:=⟨.none,none,.func { name:="_law_three",qualname:="_law_three",params:=L2.ak (tp 63),body:=.stmts (L2.ah (tp 63)),scope:=L2.ae (tp 63),globals:=0,closure:=[],defaults:=.none,kwdefaults:=.none,doc:=.none,pyModule:=.none,annotations:=none,code:=.none,closureTuple:=.none,builtins:=0 },#[]⟩
noncomputable def Ui (P:Params):Obj:=⟨.type "code",none,.fields #[.str "_law_three" 693,.str "_law_three" 694,.str "/claim/cut.py" 695,.int (235) 0,.int (2) 0,.int (0) 0,.int (0) 0,.int (3) 0,.ref 293,.bool true,.int (181) 0,.ref 294,.none,.ref 295,.ref 296,.ref 297,.int (701) 0,.int (235) 0,.str "/claim/cut.py" 702],#[]⟩
noncomputable def Uj (P:Params):Obj:=⟨.type "function",none,.func { name:="_law_three",qualname:="_law_three",params:=L2.ak (tp 63),body:=.stmts (L2.ah (tp 63)),scope:=L2.ae (tp 63),globals:=3,closure:=[],defaults:=.none,kwdefaults:=.none,doc:=.none,pyModule:=.str "law_noteworth_k28_papers_told" 634,annotations:=none,code:=.ref 298,closureTuple:=.none,builtins:=0 },#[]⟩
noncomputable def Uk (P:Params):Obj:=⟨.type "tuple",none,.seq #[] 0,#[]⟩
noncomputable def adm (P:Params):Obj:=⟨.none,none,.fields #[],#[]⟩
noncomputable def Ul (P:Params):Obj:=⟨.type "tuple",none,.seq #[.str "_law_line_here" 707,.str "_law_told" 708,.str "_law_low" 709,.str "_law_high" 710,.str "_law_rest" 711,.str "_law_behind" 712,.str "_law_after" 713,.str "_law_left" 714,.str "_law_right" 715] 0,#[]⟩
noncomputable def Um (P:Params):Obj:=⟨.type "tuple",none,.seq #[] 0,#[]⟩
noncomputable def adn (P:Params):Obj:=⟨.none,none,.func { name:="_law_run",qualname:="_law_run",params:=L2.ak (tp 64),body:=.stmts (L2.ah (tp 64)),scope:=L2.ae (tp 64),globals:=0,closure:=[],defaults:=.none,kwdefaults:=.none,doc:=.none,pyModule:=.none,annotations:=none,code:=.none,closureTuple:=.none,builtins:=0 },#[]⟩
noncomputable def Uo (P:Params):Obj:=⟨.type "code",none,.fields #[.str "_law_run" 704,.str "_law_run" 705,.str "/claim/cut.py" 706,.int (243) 0,.int (4) 0,.int (0) 0,.int (0) 0,.int (3) 0,.ref 300,.bool true,.int (181) 0,.ref 301,.none,.ref 302,.ref 303,.ref 304,.int (716) 0,.int (243) 0,.str "/claim/cut.py" 717],#[]⟩
noncomputable def Up (P:Params):Obj:=⟨.type "function",none,.func { name:="_law_run",qualname:="_law_run",params:=L2.ak (tp 64),body:=.stmts (L2.ah (tp 64)),scope:=L2.ae (tp 64),globals:=3,closure:=[],defaults:=.none,kwdefaults:=.none,doc:=.none,pyModule:=.str "law_noteworth_k28_papers_told" 634,annotations:=none,code:=.ref 305,closureTuple:=.none,builtins:=0 },#[]⟩
noncomputable def Uq (P:Params):Obj:=⟨.type "tuple",none,.seq #[] 0,#[]⟩
noncomputable def ado (P:Params):Obj:=⟨.none,none,.fields #[],#[]⟩
noncomputable def Ur (P:Params):Obj:=⟨.type "tuple",none,.seq #[.str "_law_line_here" 722,.str "_law_begin_here" 723,.str "_law_told" 724,.str "_law_three_here" 725,.str "_law_left" 726,.str "_law_low" 727,.str "_law_high" 728] 0,#[]⟩
noncomputable def Us (P:Params):Obj:=⟨.type "tuple",none,.seq #[] 0,#[]⟩
noncomputable def adp (P:Params):Obj:=⟨.none,none,.func { name:="_law_read",qualname:="_law_read",params:=L2.ak (tp 65),body:=.stmts (L2.ah (tp 65)),scope:=L2.ae (tp 65),globals:=0,closure:=[],defaults:=.none,kwdefaults:=.none,doc:=.none,pyModule:=.none,annotations:=none,code:=.none,closureTuple:=.none,builtins:=0 },#[]⟩
noncomputable def Ut (P:Params):Obj:=⟨.type "code",none,.fields #[.str "_law_read" 719,.str "_law_read" 720,.str "/claim/cut.py" 721,.int (257) 0,.int (2) 0,.int (0) 0,.int (0) 0,.int (3) 0,.ref 307,.bool true,.int (181) 0,.ref 308,.none,.ref 309,.ref 310,.ref 311,.int (729) 0,.int (257) 0,.str "/claim/cut.py" 730],#[]⟩
noncomputable def Uu (P:Params):Obj:=⟨.type "function",none,.func { name:="_law_read",qualname:="_law_read",params:=L2.ak (tp 65),body:=.stmts (L2.ah (tp 65)),scope:=L2.ae (tp 65),globals:=3,closure:=[],defaults:=.none,kwdefaults:=.none,doc:=.none,pyModule:=.str "law_noteworth_k28_papers_told" 634,annotations:=none,code:=.ref 312,closureTuple:=.none,builtins:=0 },#[]⟩
noncomputable def Uv (P:Params):Obj:=⟨.type "tuple",none,.seq #[] 0,#[]⟩
noncomputable def adq (P:Params):Obj:=⟨.none,none,.fields #[],#[]⟩
noncomputable def Uw (P:Params):Obj:=⟨.type "tuple",none,.seq #[.str "_law_line_here" 735,.str "_law_begin_here" 736,.str "_law_k" 737,.str "_law_found" 738,.str "_law_low" 739,.str "_law_high" 740] 0,#[]⟩
noncomputable def Ux (P:Params):Obj:=⟨.type "tuple",none,.seq #[] 0,#[]⟩
noncomputable def ads (P:Params):Obj:=⟨.none,none,.func { name:="_law_firmed",qualname:="_law_firmed",params:=L2.ak (tp 66),body:=.stmts (L2.ah (tp 66)),scope:=L2.ae (tp 66),globals:=0,closure:=[],defaults:=.none,kwdefaults:=.none,doc:=.none,pyModule:=.none,annotations:=none,code:=.none,closureTuple:=.none,builtins:=0 },#[]⟩
noncomputable def Uy (P:Params):Obj:=⟨.type "code",none,.fields #[.str "_law_firmed" 732,.str "_law_firmed" 733,.str "/claim/cut.py" 734,.int (270) 0,.int (2) 0,.int (0) 0,.int (0) 0,.int (3) 0,.ref 314,.bool true,.int (181) 0,.ref 315,.none,.ref 316,.ref 317,.ref 318,.int (741) 0,.int (270) 0,.str "/claim/cut.py" 742],#[]⟩
noncomputable def Uz (P:Params):Obj:=⟨.type "function",none,.func { name:="_law_firmed",qualname:="_law_firmed",params:=L2.ak (tp 66),body:=.stmts (L2.ah (tp 66)),scope:=L2.ae (tp 66),globals:=3,closure:=[],defaults:=.none,kwdefaults:=.none,doc:=.none,pyModule:=.str "law_noteworth_k28_papers_told" 634,annotations:=none,code:=.ref 319,closureTuple:=.none,builtins:=0 },#[]⟩
noncomputable def UA (P:Params):Obj:=⟨.type "tuple",none,.seq #[] 0,#[]⟩
noncomputable def adt (P:Params):Obj:=⟨.none,none,.fields #[],#[]⟩
noncomputable def UB (P:Params):Obj:=⟨.type "tuple",none,.seq #[.str "_law_line_here" 747,.str "_law_begin_here" 748,.str "_law_told" 749,.str "_law_sign" 750,.str "_law_worth" 751] 0,#[]⟩
noncomputable def UC (P:Params):Obj:=⟨.type "tuple",none,.seq #[] 0,#[]⟩
noncomputable def adu (P:Params):Obj:=⟨.none,none,.func { name:="_law_wishes",qualname:="_law_wishes",params:=L2.ak (tp 67),body:=.stmts (L2.ah (tp 67)),scope:=L2.ae (tp 67),globals:=0,closure:=[],defaults:=.none,kwdefaults:=.none,doc:=.none,pyModule:=.none,annotations:=none,code:=.none,closureTuple:=.none,builtins:=0 },#[]⟩
noncomputable def UD (P:Params):Obj:=⟨.type "code",none,.fields #[.str "_law_wishes" 744,.str "_law_wishes" 745,.str "/claim/cut.py" 746,.int (278) 0,.int (2) 0,.int (0) 0,.int (0) 0,.int (3) 0,.ref 321,.bool true,.int (181) 0,.ref 322,.none,.ref 323,.ref 324,.ref 325,.int (752) 0,.int (278) 0,.str "/claim/cut.py" 753],#[]⟩
noncomputable def UE (P:Params):Obj:=⟨.type "function",none,.func { name:="_law_wishes",qualname:="_law_wishes",params:=L2.ak (tp 67),body:=.stmts (L2.ah (tp 67)),scope:=L2.ae (tp 67),globals:=3,closure:=[],defaults:=.none,kwdefaults:=.none,doc:=.none,pyModule:=.str "law_noteworth_k28_papers_told" 634,annotations:=none,code:=.ref 326,closureTuple:=.none,builtins:=0 },#[]⟩
noncomputable def UG (P:Params):Obj:=⟨.type "tuple",none,.seq #[] 0,#[]⟩
noncomputable def adv (P:Params):Obj:=⟨.none,none,.fields #[],#[]⟩
noncomputable def UH (P:Params):Obj:=⟨.type "tuple",none,.seq #[.str "_law_script" 758,.str "_law_at" 759,.str "_law_many" 760,.str "_law_told" 761,.str "_law_k" 762,.str "_law_number" 763,.str "_law_worth" 764,.str "_law_tone" 765] 0,#[]⟩
noncomputable def UI (P:Params):Obj:=⟨.type "tuple",none,.seq #[] 0,#[]⟩
noncomputable def adw (P:Params):Obj:=⟨.none,none,.func { name:="_law_any_wishes",qualname:="_law_any_wishes",params:=L2.ak (tp 68),body:=.stmts (L2.ah (tp 68)),scope:=L2.ae (tp 68),globals:=0,closure:=[],defaults:=.none,kwdefaults:=.none,doc:=.none,pyModule:=.none,annotations:=none,code:=.none,closureTuple:=.none,builtins:=0 },#[]⟩
noncomputable def UJ (P:Params):Obj:=⟨.type "code",none,.fields #[.str "_law_any_wishes" 755,.str "_law_any_wishes" 756,.str "/claim/cut.py" 757,.int (286) 0,.int (3) 0,.int (0) 0,.int (0) 0,.int (3) 0,.ref 328,.bool true,.int (181) 0,.ref 329,.none,.ref 330,.ref 331,.ref 332,.int (766) 0,.int (286) 0,.str "/claim/cut.py" 767],#[]⟩
noncomputable def UK (P:Params):Obj:=⟨.type "function",none,.func { name:="_law_any_wishes",qualname:="_law_any_wishes",params:=L2.ak (tp 68),body:=.stmts (L2.ah (tp 68)),scope:=L2.ae (tp 68),globals:=3,closure:=[],defaults:=.none,kwdefaults:=.none,doc:=.none,pyModule:=.str "law_noteworth_k28_papers_told" 634,annotations:=none,code:=.ref 333,closureTuple:=.none,builtins:=0 },#[]⟩
noncomputable def UL (P:Params):Obj:=⟨.type "tuple",none,.seq #[] 0,#[]⟩
noncomputable def adx (P:Params):Obj:=⟨.none,none,.fields #[],#[]⟩
noncomputable def UM (P:Params):Obj:=⟨.type "tuple",none,.seq #[.str "_law_cell" 772,.str "_law_told" 773,.str "_law_k" 774] 0,#[]⟩
noncomputable def UN (P:Params):Obj:=⟨.type "tuple",none,.seq #[] 0,#[]⟩
noncomputable def ady (P:Params):Obj:=⟨.none,none,.func { name:="_law_prices",qualname:="_law_prices",params:=L2.ak (tp 69),body:=.stmts (L2.ah (tp 69)),scope:=L2.ae (tp 69),globals:=0,closure:=[],defaults:=.none,kwdefaults:=.none,doc:=.none,pyModule:=.none,annotations:=none,code:=.none,closureTuple:=.none,builtins:=0 },#[]⟩
noncomputable def UO (P:Params):Obj:=⟨.type "code",none,.fields #[.str "_law_prices" 769,.str "_law_prices" 770,.str "/claim/cut.py" 771,.int (294) 0,.int (1) 0,.int (0) 0,.int (0) 0,.int (3) 0,.ref 335,.bool true,.int (181) 0,.ref 336,.none,.ref 337,.ref 338,.ref 339,.int (775) 0,.int (294) 0,.str "/claim/cut.py" 776],#[]⟩
noncomputable def UP (P:Params):Obj:=⟨.type "function",none,.func { name:="_law_prices",qualname:="_law_prices",params:=L2.ak (tp 69),body:=.stmts (L2.ah (tp 69)),scope:=L2.ae (tp 69),globals:=3,closure:=[],defaults:=.none,kwdefaults:=.none,doc:=.none,pyModule:=.str "law_noteworth_k28_papers_told" 634,annotations:=none,code:=.ref 340,closureTuple:=.none,builtins:=0 },#[]⟩
noncomputable def UQ (P:Params):Obj:=⟨.type "tuple",none,.seq #[] 0,#[]⟩
noncomputable def adz (P:Params):Obj:=⟨.none,none,.fields #[],#[]⟩
noncomputable def UR (P:Params):Obj:=⟨.type "tuple",none,.seq #[.str "_law_state" 781,.str "_law_kind" 782,.str "_law_worth" 783,.str "_law_short" 784] 0,#[]⟩
noncomputable def US (P:Params):Obj:=⟨.type "tuple",none,.seq #[] 0,#[]⟩
noncomputable def adA (P:Params):Obj:=⟨.none,none,.func { name:="_law_shut",qualname:="_law_shut",params:=L2.ak (tp 70),body:=.stmts (L2.ah (tp 70)),scope:=L2.ae (tp 70),globals:=0,closure:=[],defaults:=.none,kwdefaults:=.none,doc:=.none,pyModule:=.none,annotations:=none,code:=.none,closureTuple:=.none,builtins:=0 },#[]⟩
noncomputable def UT (P:Params):Obj:=⟨.type "code",none,.fields #[.str "_law_shut" 778,.str "_law_shut" 779,.str "/claim/cut.py" 780,.int (300) 0,.int (3) 0,.int (0) 0,.int (0) 0,.int (3) 0,.ref 342,.bool true,.int (181) 0,.ref 343,.none,.ref 344,.ref 345,.ref 346,.int (785) 0,.int (300) 0,.str "/claim/cut.py" 786],#[]⟩
noncomputable def UU (P:Params):Obj:=⟨.type "function",none,.func { name:="_law_shut",qualname:="_law_shut",params:=L2.ak (tp 70),body:=.stmts (L2.ah (tp 70)),scope:=L2.ae (tp 70),globals:=3,closure:=[],defaults:=.none,kwdefaults:=.none,doc:=.none,pyModule:=.str "law_noteworth_k28_papers_told" 634,annotations:=none,code:=.ref 347,closureTuple:=.none,builtins:=0 },#[]⟩
noncomputable def UW (P:Params):Obj:=⟨.type "tuple",none,.seq #[] 0,#[]⟩
noncomputable def adB (P:Params):Obj:=⟨.none,none,.fields #[],#[]⟩
noncomputable def UX (P:Params):Obj:=⟨.type "tuple",none,.seq #[.str "_law_state" 791,.str "_law_kind" 792,.str "_law_worth" 793] 0,#[]⟩
noncomputable def UY (P:Params):Obj:=⟨.type "tuple",none,.seq #[] 0,#[]⟩
noncomputable def adC (P:Params):Obj:=⟨.none,none,.func { name:="_law_step_two",qualname:="_law_step_two",params:=L2.ak (tp 71),body:=.stmts (L2.ah (tp 71)),scope:=L2.ae (tp 71),globals:=0,closure:=[],defaults:=.none,kwdefaults:=.none,doc:=.none,pyModule:=.none,annotations:=none,code:=.none,closureTuple:=.none,builtins:=0 },#[]⟩
noncomputable def UZ (P:Params):Obj:=⟨.type "code",none,.fields #[.str "_law_step_two" 788,.str "_law_step_two" 789,.str "/claim/cut.py" 790,.int (313) 0,.int (3) 0,.int (0) 0,.int (0) 0,.int (3) 0,.ref 349,.bool true,.int (181) 0,.ref 350,.none,.ref 351,.ref 352,.ref 353,.int (794) 0,.int (313) 0,.str "/claim/cut.py" 795],#[]⟩
noncomputable def U0 (P:Params):Obj:=⟨.type "function",none,.func { name:="_law_step_two",qualname:="_law_step_two",params:=L2.ak (tp 71),body:=.stmts (L2.ah (tp 71)),scope:=L2.ae (tp 71),globals:=3,closure:=[],defaults:=.none,kwdefaults:=.none,doc:=.none,pyModule:=.str "law_noteworth_k28_papers_told" 634,annotations:=none,code:=.ref 354,closureTuple:=.none,builtins:=0 },#[]⟩
noncomputable def U1 (P:Params):Obj:=⟨.type "tuple",none,.seq #[] 0,#[]⟩
noncomputable def adD (P:Params):Obj:=⟨.none,none,.fields #[],#[]⟩
noncomputable def U2 (P:Params):Obj:=⟨.type "tuple",none,.seq #[.str "_law_state" 800,.str "_law_kind" 801,.str "_law_worth" 802,.str "_law_left" 803,.str "_law_count" 804,.str "_law_shut_here" 805] 0,#[]⟩
noncomputable def U3 (P:Params):Obj:=⟨.type "tuple",none,.seq #[] 0,#[]⟩
noncomputable def adE (P:Params):Obj:=⟨.none,none,.func { name:="_law_step_by",qualname:="_law_step_by",params:=L2.ak (tp 72),body:=.stmts (L2.ah (tp 72)),scope:=L2.ae (tp 72),globals:=0,closure:=[],defaults:=.none,kwdefaults:=.none,doc:=.none,pyModule:=.none,annotations:=none,code:=.none,closureTuple:=.none,builtins:=0 },#[]⟩
noncomputable def U4 (P:Params):Obj:=⟨.type "code",none,.fields #[.str "_law_step_by" 797,.str "_law_step_by" 798,.str "/claim/cut.py" 799,.int (325) 0,.int (3) 0,.int (0) 0,.int (0) 0,.int (3) 0,.ref 356,.bool true,.int (181) 0,.ref 357,.none,.ref 358,.ref 359,.ref 360,.int (806) 0,.int (325) 0,.str "/claim/cut.py" 807],#[]⟩
noncomputable def U5 (P:Params):Obj:=⟨.type "function",none,.func { name:="_law_step_by",qualname:="_law_step_by",params:=L2.ak (tp 72),body:=.stmts (L2.ah (tp 72)),scope:=L2.ae (tp 72),globals:=3,closure:=[],defaults:=.none,kwdefaults:=.none,doc:=.none,pyModule:=.str "law_noteworth_k28_papers_told" 634,annotations:=none,code:=.ref 361,closureTuple:=.none,builtins:=0 },#[]⟩
noncomputable def U6 (P:Params):Obj:=⟨.type "tuple",none,.seq #[] 0,#[]⟩
noncomputable def adF (P:Params):Obj:=⟨.none,none,.fields #[],#[]⟩
noncomputable def U7 (P:Params):Obj:=⟨.type "tuple",none,.seq #[.str "_law_told" 812,.str "_law_left" 813,.str "_law_tail" 814] 0,#[]⟩
noncomputable def U8 (P:Params):Obj:=⟨.type "tuple",none,.seq #[] 0,#[]⟩
noncomputable def adG (P:Params):Obj:=⟨.none,none,.func { name:="_law_states",qualname:="_law_states",params:=L2.ak (tp 73),body:=.stmts (L2.ah (tp 73)),scope:=L2.ae (tp 73),globals:=0,closure:=[],defaults:=.none,kwdefaults:=.none,doc:=.none,pyModule:=.none,annotations:=none,code:=.none,closureTuple:=.none,builtins:=0 },#[]⟩
noncomputable def U9 (P:Params):Obj:=⟨.type "code",none,.fields #[.str "_law_states" 809,.str "_law_states" 810,.str "/claim/cut.py" 811,.int (346) 0,.int (0) 0,.int (0) 0,.int (0) 0,.int (3) 0,.ref 363,.bool true,.int (181) 0,.ref 364,.none,.ref 365,.ref 366,.ref 367,.int (815) 0,.int (346) 0,.str "/claim/cut.py" 816],#[]⟩
noncomputable def Va (P:Params):Obj:=⟨.type "function",none,.func { name:="_law_states",qualname:="_law_states",params:=L2.ak (tp 73),body:=.stmts (L2.ah (tp 73)),scope:=L2.ae (tp 73),globals:=3,closure:=[],defaults:=.none,kwdefaults:=.none,doc:=.none,pyModule:=.str "law_noteworth_k28_papers_told" 634,annotations:=none,code:=.ref 368,closureTuple:=.none,builtins:=0 },#[]⟩
noncomputable def Vb (P:Params):Obj:=⟨.type "tuple",none,.seq #[] 0,#[]⟩
noncomputable def adH (P:Params):Obj:=⟨.none,none,.fields #[],#[]⟩
noncomputable def Vc (P:Params):Obj:=⟨.type "tuple",none,.seq #[.str "_law_state" 821] 0,#[]⟩
noncomputable def Vd (P:Params):Obj:=⟨.type "tuple",none,.seq #[] 0,#[]⟩
noncomputable def adI (P:Params):Obj:=⟨.none,none,.func { name:="_law_ends",qualname:="_law_ends",params:=L2.ak (tp 74),body:=.stmts (L2.ah (tp 74)),scope:=L2.ae (tp 74),globals:=0,closure:=[],defaults:=.none,kwdefaults:=.none,doc:=.none,pyModule:=.none,annotations:=none,code:=.none,closureTuple:=.none,builtins:=0 },#[]⟩
noncomputable def Ve (P:Params):Obj:=⟨.type "code",none,.fields #[.str "_law_ends" 818,.str "_law_ends" 819,.str "/claim/cut.py" 820,.int (354) 0,.int (1) 0,.int (0) 0,.int (0) 0,.int (3) 0,.ref 370,.bool true,.int (181) 0,.ref 371,.none,.ref 372,.ref 373,.ref 374,.int (822) 0,.int (354) 0,.str "/claim/cut.py" 823],#[]⟩
noncomputable def Vf (P:Params):Obj:=⟨.type "function",none,.func { name:="_law_ends",qualname:="_law_ends",params:=L2.ak (tp 74),body:=.stmts (L2.ah (tp 74)),scope:=L2.ae (tp 74),globals:=3,closure:=[],defaults:=.none,kwdefaults:=.none,doc:=.none,pyModule:=.str "law_noteworth_k28_papers_told" 634,annotations:=none,code:=.ref 375,closureTuple:=.none,builtins:=0 },#[]⟩
noncomputable def Vg (P:Params):Obj:=⟨.type "tuple",none,.seq #[] 0,#[]⟩
noncomputable def adJ (P:Params):Obj:=⟨.none,none,.fields #[],#[]⟩
noncomputable def Vh (P:Params):Obj:=⟨.type "tuple",none,.seq #[.str "_law_state" 828,.str "_law_wish" 829,.str "_law_prices_here" 830,.str "_law_told" 831,.str "_law_menu" 832,.str "_law_kind" 833,.str "_law_worth" 834,.str "_law_cost" 835,.str "_law_onto" 836] 0,#[]⟩
noncomputable def Vi (P:Params):Obj:=⟨.type "tuple",none,.seq #[] 0,#[]⟩
noncomputable def adK (P:Params):Obj:=⟨.none,none,.func { name:="_law_moves",qualname:="_law_moves",params:=L2.ak (tp 75),body:=.stmts (L2.ah (tp 75)),scope:=L2.ae (tp 75),globals:=0,closure:=[],defaults:=.none,kwdefaults:=.none,doc:=.none,pyModule:=.none,annotations:=none,code:=.none,closureTuple:=.none,builtins:=0 },#[]⟩
noncomputable def Vj (P:Params):Obj:=⟨.type "code",none,.fields #[.str "_law_moves" 825,.str "_law_moves" 826,.str "/claim/cut.py" 827,.int (358) 0,.int (3) 0,.int (0) 0,.int (0) 0,.int (3) 0,.ref 377,.bool true,.int (181) 0,.ref 378,.none,.ref 379,.ref 380,.ref 381,.int (837) 0,.int (358) 0,.str "/claim/cut.py" 838],#[]⟩
noncomputable def Vk (P:Params):Obj:=⟨.type "function",none,.func { name:="_law_moves",qualname:="_law_moves",params:=L2.ak (tp 75),body:=.stmts (L2.ah (tp 75)),scope:=L2.ae (tp 75),globals:=3,closure:=[],defaults:=.none,kwdefaults:=.none,doc:=.none,pyModule:=.str "law_noteworth_k28_papers_told" 634,annotations:=none,code:=.ref 382,closureTuple:=.none,builtins:=0 },#[]⟩
noncomputable def Vl (P:Params):Obj:=⟨.type "tuple",none,.seq #[] 0,#[]⟩
noncomputable def adL (P:Params):Obj:=⟨.none,none,.fields #[],#[]⟩
noncomputable def Vm (P:Params):Obj:=⟨.type "tuple",none,.seq #[.str "_law_number" 843,.str "_law_moves_here" 844,.str "_law_table" 845,.str "_law_onto" 846,.str "_law_cost" 847] 0,#[]⟩
noncomputable def Vn (P:Params):Obj:=⟨.type "tuple",none,.seq #[] 0,#[]⟩
noncomputable def adM (P:Params):Obj:=⟨.none,none,.func { name:="_law_carried",qualname:="_law_carried",params:=L2.ak (tp 76),body:=.stmts (L2.ah (tp 76)),scope:=L2.ae (tp 76),globals:=0,closure:=[],defaults:=.none,kwdefaults:=.none,doc:=.none,pyModule:=.none,annotations:=none,code:=.none,closureTuple:=.none,builtins:=0 },#[]⟩
noncomputable def Vo (P:Params):Obj:=⟨.type "code",none,.fields #[.str "_law_carried" 840,.str "_law_carried" 841,.str "/claim/cut.py" 842,.int (370) 0,.int (3) 0,.int (0) 0,.int (0) 0,.int (3) 0,.ref 384,.bool true,.int (181) 0,.ref 385,.none,.ref 386,.ref 387,.ref 388,.int (848) 0,.int (370) 0,.str "/claim/cut.py" 849],#[]⟩
noncomputable def Vp (P:Params):Obj:=⟨.type "function",none,.func { name:="_law_carried",qualname:="_law_carried",params:=L2.ak (tp 76),body:=.stmts (L2.ah (tp 76)),scope:=L2.ae (tp 76),globals:=3,closure:=[],defaults:=.none,kwdefaults:=.none,doc:=.none,pyModule:=.str "law_noteworth_k28_papers_told" 634,annotations:=none,code:=.ref 389,closureTuple:=.none,builtins:=0 },#[]⟩
noncomputable def Vq (P:Params):Obj:=⟨.type "tuple",none,.seq #[] 0,#[]⟩
noncomputable def adN (P:Params):Obj:=⟨.none,none,.fields #[],#[]⟩
noncomputable def Vr (P:Params):Obj:=⟨.type "tuple",none,.seq #[.str "_law_paper_here" 854,.str "_law_known" 855,.str "_law_tables_here" 856,.str "_law_row" 857,.str "_law_table" 858,.str "_law_state" 859,.str "_law_number" 860] 0,#[]⟩
noncomputable def Vs (P:Params):Obj:=⟨.type "tuple",none,.seq #[] 0,#[]⟩
noncomputable def adO (P:Params):Obj:=⟨.none,none,.func { name:="_law_tables",qualname:="_law_tables",params:=L2.ak (tp 77),body:=.stmts (L2.ah (tp 77)),scope:=L2.ae (tp 77),globals:=0,closure:=[],defaults:=.none,kwdefaults:=.none,doc:=.none,pyModule:=.none,annotations:=none,code:=.none,closureTuple:=.none,builtins:=0 },#[]⟩
noncomputable def Vt (P:Params):Obj:=⟨.type "code",none,.fields #[.str "_law_tables" 851,.str "_law_tables" 852,.str "/claim/cut.py" 853,.int (375) 0,.int (1) 0,.int (0) 0,.int (0) 0,.int (3) 0,.ref 391,.bool true,.int (181) 0,.ref 392,.none,.ref 393,.ref 394,.ref 395,.int (861) 0,.int (375) 0,.str "/claim/cut.py" 862],#[]⟩
noncomputable def Vu (P:Params):Obj:=⟨.type "function",none,.func { name:="_law_tables",qualname:="_law_tables",params:=L2.ak (tp 77),body:=.stmts (L2.ah (tp 77)),scope:=L2.ae (tp 77),globals:=3,closure:=[],defaults:=.none,kwdefaults:=.none,doc:=.none,pyModule:=.str "law_noteworth_k28_papers_told" 634,annotations:=none,code:=.ref 396,closureTuple:=.none,builtins:=0 },#[]⟩
noncomputable def Vv (P:Params):Obj:=⟨.type "tuple",none,.seq #[] 0,#[]⟩
noncomputable def adP (P:Params):Obj:=⟨.none,none,.fields #[],#[]⟩
noncomputable def Vw (P:Params):Obj:=⟨.type "tuple",none,.seq #[.str "_law_wishes_here" 867,.str "_law_prices_here" 868,.str "_law_bound" 869,.str "_law_paper_here" 870,.str "_law_begin_here" 871,.str "_law_tables_here" 872,.str "_law_first" 873,.str "_law_k" 874,.str "_law_state" 875,.str "_law_number" 876] 0,#[]⟩
noncomputable def Vx (P:Params):Obj:=⟨.type "tuple",none,.seq #[] 0,#[]⟩
noncomputable def adQ (P:Params):Obj:=⟨.none,none,.func { name:="_law_holds",qualname:="_law_holds",params:=L2.ak (tp 78),body:=.stmts (L2.ah (tp 78)),scope:=L2.ae (tp 78),globals:=0,closure:=[],defaults:=.none,kwdefaults:=.none,doc:=.none,pyModule:=.none,annotations:=none,code:=.none,closureTuple:=.none,builtins:=0 },#[]⟩
noncomputable def Vy (P:Params):Obj:=⟨.type "code",none,.fields #[.str "_law_holds" 864,.str "_law_holds" 865,.str "/claim/cut.py" 866,.int (386) 0,.int (5) 0,.int (0) 0,.int (0) 0,.int (3) 0,.ref 398,.bool true,.int (181) 0,.ref 399,.none,.ref 400,.ref 401,.ref 402,.int (877) 0,.int (386) 0,.str "/claim/cut.py" 878],#[]⟩
noncomputable def Vz (P:Params):Obj:=⟨.type "function",none,.func { name:="_law_holds",qualname:="_law_holds",params:=L2.ak (tp 78),body:=.stmts (L2.ah (tp 78)),scope:=L2.ae (tp 78),globals:=3,closure:=[],defaults:=.none,kwdefaults:=.none,doc:=.none,pyModule:=.str "law_noteworth_k28_papers_told" 634,annotations:=none,code:=.ref 403,closureTuple:=.none,builtins:=0 },#[]⟩
noncomputable def VA (P:Params):Obj:=⟨.type "tuple",none,.seq #[] 0,#[]⟩
noncomputable def adR (P:Params):Obj:=⟨.none,none,.fields #[],#[]⟩
noncomputable def VB (P:Params):Obj:=⟨.type "tuple",none,.seq #[.str "_law_found" 883] 0,#[]⟩
noncomputable def VC (P:Params):Obj:=⟨.type "tuple",none,.seq #[] 0,#[]⟩
noncomputable def adS (P:Params):Obj:=⟨.none,none,.func { name:="_law_whole",qualname:="_law_whole",params:=L2.ak (tp 79),body:=.stmts (L2.ah (tp 79)),scope:=L2.ae (tp 79),globals:=0,closure:=[],defaults:=.none,kwdefaults:=.none,doc:=.none,pyModule:=.none,annotations:=none,code:=.none,closureTuple:=.none,builtins:=0 },#[]⟩
noncomputable def VD (P:Params):Obj:=⟨.type "code",none,.fields #[.str "_law_whole" 880,.str "_law_whole" 881,.str "/claim/cut.py" 882,.int (401) 0,.int (1) 0,.int (0) 0,.int (0) 0,.int (3) 0,.ref 405,.bool true,.int (181) 0,.ref 406,.none,.ref 407,.ref 408,.ref 409,.int (884) 0,.int (401) 0,.str "/claim/cut.py" 885],#[]⟩
noncomputable def VE (P:Params):Obj:=⟨.type "function",none,.func { name:="_law_whole",qualname:="_law_whole",params:=L2.ak (tp 79),body:=.stmts (L2.ah (tp 79)),scope:=L2.ae (tp 79),globals:=3,closure:=[],defaults:=.none,kwdefaults:=.none,doc:=.none,pyModule:=.str "law_noteworth_k28_papers_told" 634,annotations:=none,code:=.ref 410,closureTuple:=.none,builtins:=0 },#[]⟩
noncomputable def VF (P:Params):Obj:=⟨.type "tuple",none,.seq #[] 0,#[]⟩
noncomputable def adT (P:Params):Obj:=⟨.none,none,.fields #[],#[]⟩
noncomputable def VG (P:Params):Obj:=⟨.type "tuple",none,.seq #[.str "_law_paper_here" 890,.str "_law_row" 891,.str "_law_pair" 892] 0,#[]⟩
noncomputable def VH (P:Params):Obj:=⟨.type "tuple",none,.seq #[] 0,#[]⟩
noncomputable def adU (P:Params):Obj:=⟨.none,none,.func { name:="_law_paper",qualname:="_law_paper",params:=L2.ak (tp 80),body:=.stmts (L2.ah (tp 80)),scope:=L2.ae (tp 80),globals:=0,closure:=[],defaults:=.none,kwdefaults:=.none,doc:=.none,pyModule:=.none,annotations:=none,code:=.none,closureTuple:=.none,builtins:=0 },#[]⟩
noncomputable def VI (P:Params):Obj:=⟨.type "code",none,.fields #[.str "_law_paper" 887,.str "_law_paper" 888,.str "/claim/cut.py" 889,.int (403) 0,.int (1) 0,.int (0) 0,.int (0) 0,.int (3) 0,.ref 412,.bool true,.int (181) 0,.ref 413,.none,.ref 414,.ref 415,.ref 416,.int (893) 0,.int (403) 0,.str "/claim/cut.py" 894],#[]⟩
noncomputable def VJ (P:Params):Obj:=⟨.type "function",none,.func { name:="_law_paper",qualname:="_law_paper",params:=L2.ak (tp 80),body:=.stmts (L2.ah (tp 80)),scope:=L2.ae (tp 80),globals:=3,closure:=[],defaults:=.none,kwdefaults:=.none,doc:=.none,pyModule:=.str "law_noteworth_k28_papers_told" 634,annotations:=none,code:=.ref 417,closureTuple:=.none,builtins:=0 },#[]⟩
noncomputable def VL (P:Params):Obj:=⟨.type "tuple",none,.seq #[] 0,#[]⟩
noncomputable def adV (P:Params):Obj:=⟨.none,none,.fields #[],#[]⟩
noncomputable def VM (P:Params):Obj:=⟨.type "tuple",none,.seq #[.str "_law_script" 899,.str "_law_begin_here" 900,.str "_law_costs" 901,.str "_law_size" 902,.str "_law_line_here" 903,.str "_law_wishes_here" 904,.str "_law_found" 905] 0,#[]⟩
noncomputable def VN (P:Params):Obj:=⟨.type "tuple",none,.seq #[] 0,#[]⟩
noncomputable def adW (P:Params):Obj:=⟨.none,none,.func { name:="law",qualname:="law",params:=L2.ak (tp 81),body:=.stmts (L2.ah (tp 81)),scope:=L2.ae (tp 81),globals:=0,closure:=[],defaults:=.none,kwdefaults:=.none,doc:=.none,pyModule:=.none,annotations:=none,code:=.none,closureTuple:=.none,builtins:=0 },#[]⟩
noncomputable def VO (P:Params):Obj:=⟨.type "code",none,.fields #[.str "law" 896,.str "law" 897,.str "/claim/cut.py" 898,.int (415) 0,.int (1) 0,.int (0) 0,.int (0) 0,.int (3) 0,.ref 419,.bool true,.int (181) 0,.ref 420,.none,.ref 421,.ref 422,.ref 423,.int (906) 0,.int (415) 0,.str "/claim/cut.py" 907],#[]⟩
noncomputable def VP (P:Params):Obj:=⟨.type "function",none,.func { name:="law",qualname:="law",params:=L2.ak (tp 81),body:=.stmts (L2.ah (tp 81)),scope:=L2.ae (tp 81),globals:=3,closure:=[],defaults:=.none,kwdefaults:=.none,doc:=.none,pyModule:=.str "law_noteworth_k28_papers_told" 634,annotations:=none,code:=.ref 424,closureTuple:=.none,builtins:=0 },#[]⟩
noncomputable def H7 (P:Params):Heap:=⟨⟨[boot_o_0 P,boot_o_1 P,boot_o_2 P,ajs P,boot_o_4 P,boot_o_5 P,boot_o_6 P,boot_o_7 P,boot_o_8 P,boot_o_9 P,boot_o_10 P,fB P,ah1 P,fD P,fE P,fI P,fJ P,fK P,fL P,fM P,gZ P,fN P,fO P,g0 P,fQ P,fR P,fS P,g8 P,fU P,fV P,hG P,fW P,fX P,fY P,fZ P,hI P,gb P,gg P,hU P,gh P,gi P,gj P,gk P,gn P,gp P,fg P,cw P,cx P,cy P,cz P,cA P,cB P,cC P,cD P,cF P,cG P,uY P,kj P,km P,ko P,kq P,YC P,ac5 P,YD P,YE P,ac6 P,YF P,YG P,YH P,YI P,ac7 P,YJ P,YK P,ac8 P,YL P,YM P,YN P,ac9 P,YO P,YQ P,ada P,YR P,YS P,YT P,adb P,YU P,YV P,ade P,YW P,YX P,YY P,adf P,YZ P,Y0 P,adg P,Y1 P,Y2 P,Y3 P,adh P,Y4 P,K7 P,SR P,K8 P,K9 P,La P,SS P,Lb P,Lc P,SU P,Ld P,Le P,Lf P,SV P,Lg P,Lh P,SW P,Li P,Lj P,Lk P,SX P,Ll P,Lm P,SY P,Ln P,Lo P,Lp P,S0 P,Lq P,Lr P,S9 P,Ls P,Lu P,Lv P,Ta P,Lx P,Ly P,Tb P,Lz P,LA P,LB P,Tc P,LC P,LD P,Td P,LG P,LH P,LI P,LJ P,LK P,LL P,LM P,LN P,LO P,LQ P,Te P,LR P,LS P,Tf P,LU P,LV P,LW P,Tg P,LX P,LY P,Th P,LZ P,L0 P,L1 P,Ti P,Tj P,L3 P,L4 P,L5 P,Tn P,L6 P,L7 P,To P,L8 P,L9 P,Ma P,Tp P,Mb P,Mc P,Tq P,Md P,Me P,Mf P,Tr P,Mg P,Mh P,Ts P,Mi P,Mj P,Ml P,Tt P,Mm P,Mn P,Tu P,Mo P,Mp P,Mq P,Tv P,Tw P,Mr P,Mt P,Mu P,Mw P,Mx P,Tx P,zY P,My P,Mz P,Tz P,TB P,MA P,MB P,MC P,TC P,MD P,ME P,TF P,MF P,MG P,MH P,TJ P,MI P,MJ P,TK P,MK P,ML P,MM P,TL P,MN P,MO P,TM P,MP P,MQ P,MR P,TN P,TQ P,MS P,MT P,MU P,MV P,TR P,TU P,MW P,MX P,MY P,TV P,MZ P,M0 P,TX P,M3 P,M4 P,M5 P,TY P,M6 P,M7 P,TZ P,M8 P,M9 P,Na P,T1 P,T2 P,Nc P,Nd P,Nf P,T3 P,Ng P,Nh P,T4 P,Ni P,Nj P,Nk P,T5 P,T6 P,Nl P,Nm P,Nn P,T7 P,Np P,Nq P,T8 P,Nr P,Nt P,T9 P,adi P,Ua P,Ub P,adj P,Uc P,Ud P,Ue P,adk P,Ug P,Uh P,adl P,Ui P,Uj P,Uk P,adm P,Ul P,Um P,adn P,Uo P,Up P,Uq P,ado P,Ur P,Us P,adp P,Ut P,Uu P,Uv P,adq P,Uw P,Ux P,ads P,Uy P,Uz P,UA P,adt P,UB P,UC P,adu P,UD P,UE P,UG P,adv P,UH P,UI P,adw P,UJ P,UK P,UL P,adx P,UM P,UN P,ady P,UO P,UP P,UQ P,adz P,UR P,US P,adA P,UT P,UU P,UW P,adB P,UX P,UY P,adC P,UZ P,U0 P,U1 P,adD P,U2 P,U3 P,adE P,U4 P,U5 P,U6 P,adF P,U7 P,U8 P,adG P,U9 P,Va P,Vb P,adH P,Vc P,Vd P,adI P,Ve P,Vf P,Vg P,adJ P,Vh P,Vi P,adK P,Vj P,Vk P,Vl P,adL P,Vm P,Vn P,adM P,Vo P,Vp P,Vq P,adN P,Vr P,Vs P,adO P,Vt P,Vu P,Vv P,adP P,Vw P,Vx P,adQ P,Vy P,Vz P,VA P,adR P,VB P,VC P,adS P,VD P,VE P,VF P,adT P,VG P,VH P,adU P,VI P,VJ P,VL P,adV P,VM P,VN P,adW P,VO P,VP P]⟩,(boot_heap P).life⟩
noncomputable def k7:Nat:=909
noncomputable def n7:Nat:=669
noncomputable def p7:Pos:=⟨415,0,430,101⟩
noncomputable def s7:List Stmt:=[tp 62,tp 63,tp 64,tp 65,tp 66,tp 67,tp 68,tp 69,tp 70,tp 71,tp 72,tp 73,tp 74,tp 75,tp 76,tp 77,tp 78,tp 79,tp 80,tp 81]
noncomputable def H8 (P:Params):Heap:=⟨⟨[boot_o_0 P,boot_o_1 P,boot_o_2 P,ajs P,boot_o_4 P,boot_o_5 P,boot_o_6 P,boot_o_7 P,boot_o_8 P,boot_o_9 P,boot_o_10 P,fB P,ah1 P,fD P,fE P,fI P,fJ P,fK P,fL P,fM P,gZ P,fN P,fO P,g0 P,fQ P,fR P,fS P,g8 P,fU P,fV P,hG P,fW P,fX P,fY P,fZ P,hI P,gb P,gg P,hU P,gh P,gi P,gj P,gk P,gn P,gp P,fg P,cw P,cx P,cy P,cz P,cA P,cB P,cC P,cD P,cF P,cG P,uY P,kj P,km P,ko P,kq P,YC P,ac5 P,YD P,YE P,ac6 P,YF P,YG P,YH P,YI P,ac7 P,YJ P,YK P,ac8 P,YL P,YM P,YN P,ac9 P,YO P,YQ P,ada P,YR P,YS P,YT P,adb P,YU P,YV P,ade P,YW P,YX P,YY P,adf P,YZ P,Y0 P,adg P,Y1 P,Y2 P,Y3 P,adh P,Y4 P,K7 P,SR P,K8 P,K9 P,La P,SS P,Lb P,Lc P,SU P,Ld P,Le P,Lf P,SV P,Lg P,Lh P,SW P,Li P,Lj P,Lk P,SX P,Ll P,Lm P,SY P,Ln P,Lo P,Lp P,S0 P,Lq P,Lr P,S9 P,Ls P,Lu P,Lv P,Ta P,Lx P,Ly P,Tb P,Lz P,LA P,LB P,Tc P,LC P,LD P,Td P,LG P,LH P,LI P,LJ P,LK P,LL P,LM P,LN P,LO P,LQ P,Te P,LR P,LS P,Tf P,LU P,LV P,LW P,Tg P,LX P,LY P,Th P,LZ P,L0 P,L1 P,Ti P,Tj P,L3 P,L4 P,L5 P,Tn P,L6 P,L7 P,To P,L8 P,L9 P,Ma P,Tp P,Mb P,Mc P,Tq P,Md P,Me P,Mf P,Tr P,Mg P,Mh P,Ts P,Mi P,Mj P,Ml P,Tt P,Mm P,Mn P,Tu P,Mo P,Mp P,Mq P,Tv P,Tw P,Mr P,Mt P,Mu P,Mw P,Mx P,Tx P,zY P,My P,Mz P,Tz P,TB P,MA P,MB P,MC P,TC P,MD P,ME P,TF P,MF P,MG P,MH P,TJ P,MI P,MJ P,TK P,MK P,ML P,MM P,TL P,MN P,MO P,TM P,MP P,MQ P,MR P,TN P,TQ P,MS P,MT P,MU P,MV P,TR P,TU P,MW P,MX P,MY P,TV P,MZ P,M0 P,TX P,M3 P,M4 P,M5 P,TY P,M6 P,M7 P,TZ P,M8 P,M9 P,Na P,T1 P,T2 P,Nc P,Nd P,Nf P,T3 P,Ng P,Nh P,T4 P,Ni P,Nj P,Nk P,T5 P,T6 P,Nl P,Nm P,Nn P,T7 P,Np P,Nq P,T8 P,Nr P,Nt P,T9 P,adi P,Ua P,Ub P,adj P,Uc P,Ud P,Ue P,adk P,Ug P,Uh P,adl P,Ui P,Uj P,Uk P,adm P,Ul P,Um P,adn P,Uo P,Up P,Uq P,ado P,Ur P,Us P,adp P,Ut P,Uu P,Uv P,adq P,Uw P,Ux P,ads P,Uy P,Uz P,UA P,adt P,UB P,UC P,adu P,UD P,UE P,UG P,adv P,UH P,UI P,adw P,UJ P,UK P,UL P,adx P,UM P,UN P,ady P,UO P,UP P,UQ P,adz P,UR P,US P,adA P,UT P,UU P,UW P,adB P,UX P,UY P,adC P,UZ P,U0 P,U1 P,adD P,U2 P,U3 P,adE P,U4 P,U5 P,U6 P,adF P,U7 P,U8 P,adG P,U9 P,Va P,Vb P,adH P,Vc P,Vd P,adI P,Ve P,Vf P,Vg P,adJ P,Vh P,Vi P,adK P,Vj P,Vk P,Vl P,adL P,Vm P,Vn P,adM P,Vo P,Vp P,Vq P,adN P,Vr P,Vs P,adO P,Vt P,Vu P,Vv P,adP P,Vw P,Vx P,adQ P,Vy P,Vz P,VA P,adR P,VB P,VC P,adS P,VD P,VE P,VF P,adT P,VG P,VH P,adU P,VI P,VJ P,VL P,adV P,VM P,VN P,adW P,VO P,VP P]⟩,(boot_heap P).life⟩
noncomputable def k8:Nat:=909
noncomputable def n8:Nat:=2
noncomputable def frg (P:Params):Frag:=(nat_lit 4,boot_o_4 P)::(nat_lit 2,boot_o_2 P)::(nat_lit 3,ajs P)::(nat_lit 15,fI P)::(nat_lit 16,fJ P)::(nat_lit 17,fK P)::(nat_lit 18,fL P)::(nat_lit 19,fM P)::(nat_lit 21,fN P)::(nat_lit 22,fO P)::(nat_lit 24,fQ P)::(nat_lit 25,fR P)::(nat_lit 26,fS P)::(nat_lit 28,fU P)::(nat_lit 29,fV P)::(nat_lit 31,fW P)::(nat_lit 32,fX P)::(nat_lit 33,fY P)::(nat_lit 34,fZ P)::(nat_lit 36,gb P)::(nat_lit 37,gg P)::(nat_lit 39,gh P)::(nat_lit 40,gi P)::(nat_lit 41,gj P)::(nat_lit 42,gk P)::(nat_lit 43,gn P)::(nat_lit 44,gp P)::(nat_lit 45,fg P)::(nat_lit 46,cw P)::(nat_lit 47,cx P)::(nat_lit 48,cy P)::(nat_lit 49,cz P)::(nat_lit 50,cA P)::(nat_lit 51,cB P)::(nat_lit 52,cC P)::(nat_lit 53,cD P)::(nat_lit 54,cF P)::(nat_lit 55,cG P)::(nat_lit 56,uY P)::(nat_lit 57,kj P)::(nat_lit 58,km P)::(nat_lit 59,ko P)::(nat_lit 60,kq P)::(nat_lit 61,YC P)::(nat_lit 63,YD P)::(nat_lit 64,YE P)::(nat_lit 66,YF P)::(nat_lit 67,YG P)::(nat_lit 68,YH P)::(nat_lit 69,YI P)::(nat_lit 71,YJ P)::(nat_lit 72,YK P)::(nat_lit 74,YL P)::(nat_lit 75,YM P)::(nat_lit 76,YN P)::(nat_lit 78,YO P)::(nat_lit 79,YQ P)::(nat_lit 81,YR P)::(nat_lit 82,YS P)::(nat_lit 83,YT P)::(nat_lit 85,YU P)::(nat_lit 86,YV P)::(nat_lit 88,YW P)::(nat_lit 89,YX P)::(nat_lit 90,YY P)::(nat_lit 92,YZ P)::(nat_lit 93,Y0 P)::(nat_lit 95,Y1 P)::(nat_lit 96,Y2 P)::(nat_lit 97,Y3 P)::(nat_lit 99,Y4 P)::(nat_lit 100,K7 P)::(nat_lit 102,K8 P)::(nat_lit 103,K9 P)::(nat_lit 104,La P)::(nat_lit 106,Lb P)::(nat_lit 107,Lc P)::(nat_lit 109,Ld P)::(nat_lit 110,Le P)::(nat_lit 111,Lf P)::(nat_lit 113,Lg P)::(nat_lit 114,Lh P)::(nat_lit 116,Li P)::(nat_lit 117,Lj P)::(nat_lit 118,Lk P)::(nat_lit 120,Ll P)::(nat_lit 121,Lm P)::(nat_lit 123,Ln P)::(nat_lit 124,Lo P)::(nat_lit 125,Lp P)::(nat_lit 127,Lq P)::(nat_lit 128,Lr P)::(nat_lit 130,Ls P)::(nat_lit 131,Lu P)::(nat_lit 132,Lv P)::(nat_lit 134,Lx P)::(nat_lit 135,Ly P)::(nat_lit 137,Lz P)::(nat_lit 138,LA P)::(nat_lit 139,LB P)::(nat_lit 141,LC P)::(nat_lit 142,LD P)::(nat_lit 144,LG P)::(nat_lit 145,LH P)::(nat_lit 146,LI P)::(nat_lit 147,LJ P)::(nat_lit 148,LK P)::(nat_lit 149,LL P)::(nat_lit 150,LM P)::(nat_lit 151,LN P)::(nat_lit 152,LO P)::(nat_lit 153,LQ P)::(nat_lit 155,LR P)::(nat_lit 156,LS P)::(nat_lit 158,LU P)::(nat_lit 159,LV P)::(nat_lit 160,LW P)::(nat_lit 162,LX P)::(nat_lit 163,LY P)::(nat_lit 165,LZ P)::(nat_lit 166,L0 P)::(nat_lit 167,L1 P)::(nat_lit 170,L3 P)::(nat_lit 171,L4 P)::(nat_lit 172,L5 P)::(nat_lit 174,L6 P)::(nat_lit 175,L7 P)::(nat_lit 177,L8 P)::(nat_lit 178,L9 P)::(nat_lit 179,Ma P)::(nat_lit 181,Mb P)::(nat_lit 182,Mc P)::(nat_lit 184,Md P)::(nat_lit 185,Me P)::(nat_lit 186,Mf P)::(nat_lit 188,Mg P)::(nat_lit 189,Mh P)::(nat_lit 191,Mi P)::(nat_lit 192,Mj P)::(nat_lit 193,Ml P)::(nat_lit 195,Mm P)::(nat_lit 196,Mn P)::(nat_lit 198,Mo P)::(nat_lit 199,Mp P)::(nat_lit 200,Mq P)::(nat_lit 203,Mr P)::(nat_lit 204,Mt P)::(nat_lit 205,Mu P)::(nat_lit 206,Mw P)::(nat_lit 209,zY P)::(nat_lit 210,My P)::(nat_lit 211,Mz P)::(nat_lit 214,MA P)::(nat_lit 215,MB P)::(nat_lit 216,MC P)::(nat_lit 218,MD P)::(nat_lit 219,ME P)::(nat_lit 221,MF P)::(nat_lit 222,MG P)::(nat_lit 223,MH P)::(nat_lit 225,MI P)::(nat_lit 226,MJ P)::(nat_lit 228,MK P)::(nat_lit 229,ML P)::(nat_lit 230,MM P)::(nat_lit 232,MN P)::(nat_lit 233,MO P)::(nat_lit 235,MP P)::(nat_lit 236,MQ P)::(nat_lit 237,MR P)::(nat_lit 240,MS P)::(nat_lit 241,MT P)::(nat_lit 242,MU P)::(nat_lit 243,MV P)::(nat_lit 246,MW P)::(nat_lit 247,MX P)::(nat_lit 248,MY P)::(nat_lit 250,MZ P)::(nat_lit 251,M0 P)::(nat_lit 253,M3 P)::(nat_lit 254,M4 P)::(nat_lit 255,M5 P)::(nat_lit 257,M6 P)::(nat_lit 258,M7 P)::(nat_lit 260,M8 P)::(nat_lit 261,M9 P)::(nat_lit 262,Na P)::(nat_lit 265,Nc P)::(nat_lit 266,Nd P)::(nat_lit 267,Nf P)::(nat_lit 269,Ng P)::(nat_lit 270,Nh P)::(nat_lit 272,Ni P)::(nat_lit 273,Nj P)::(nat_lit 274,Nk P)::(nat_lit 277,Nl P)::(nat_lit 278,Nm P)::(nat_lit 279,Nn P)::(nat_lit 281,Np P)::(nat_lit 282,Nq P)::(nat_lit 284,Nr P)::(nat_lit 285,Nt P)::(nat_lit 286,T9 P)::(nat_lit 288,Ua P)::(nat_lit 289,Ub P)::(nat_lit 291,Uc P)::(nat_lit 292,Ud P)::(nat_lit 293,Ue P)::(nat_lit 295,Ug P)::(nat_lit 296,Uh P)::(nat_lit 298,Ui P)::(nat_lit 299,Uj P)::(nat_lit 300,Uk P)::(nat_lit 302,Ul P)::(nat_lit 303,Um P)::(nat_lit 305,Uo P)::(nat_lit 306,Up P)::(nat_lit 307,Uq P)::(nat_lit 309,Ur P)::(nat_lit 310,Us P)::(nat_lit 312,Ut P)::(nat_lit 313,Uu P)::(nat_lit 314,Uv P)::(nat_lit 316,Uw P)::(nat_lit 317,Ux P)::(nat_lit 319,Uy P)::(nat_lit 320,Uz P)::(nat_lit 321,UA P)::(nat_lit 323,UB P)::(nat_lit 324,UC P)::(nat_lit 326,UD P)::(nat_lit 327,UE P)::(nat_lit 328,UG P)::(nat_lit 330,UH P)::(nat_lit 331,UI P)::(nat_lit 333,UJ P)::(nat_lit 334,UK P)::(nat_lit 335,UL P)::(nat_lit 337,UM P)::(nat_lit 338,UN P)::(nat_lit 340,UO P)::(nat_lit 341,UP P)::(nat_lit 342,UQ P)::(nat_lit 344,UR P)::(nat_lit 345,US P)::(nat_lit 347,UT P)::(nat_lit 348,UU P)::(nat_lit 349,UW P)::(nat_lit 351,UX P)::(nat_lit 352,UY P)::(nat_lit 354,UZ P)::(nat_lit 355,U0 P)::(nat_lit 356,U1 P)::(nat_lit 358,U2 P)::(nat_lit 359,U3 P)::(nat_lit 361,U4 P)::(nat_lit 362,U5 P)::(nat_lit 363,U6 P)::(nat_lit 365,U7 P)::(nat_lit 366,U8 P)::(nat_lit 368,U9 P)::(nat_lit 369,Va P)::(nat_lit 370,Vb P)::(nat_lit 372,Vc P)::(nat_lit 373,Vd P)::(nat_lit 375,Ve P)::(nat_lit 376,Vf P)::(nat_lit 377,Vg P)::(nat_lit 379,Vh P)::(nat_lit 380,Vi P)::(nat_lit 382,Vj P)::(nat_lit 383,Vk P)::(nat_lit 384,Vl P)::(nat_lit 386,Vm P)::(nat_lit 387,Vn P)::(nat_lit 389,Vo P)::(nat_lit 390,Vp P)::(nat_lit 391,Vq P)::(nat_lit 393,Vr P)::(nat_lit 394,Vs P)::(nat_lit 396,Vt P)::(nat_lit 397,Vu P)::(nat_lit 398,Vv P)::(nat_lit 400,Vw P)::(nat_lit 401,Vx P)::(nat_lit 403,Vy P)::(nat_lit 404,Vz P)::(nat_lit 405,VA P)::(nat_lit 407,VB P)::(nat_lit 408,VC P)::(nat_lit 410,VD P)::(nat_lit 411,VE P)::(nat_lit 412,VF P)::(nat_lit 414,VG P)::(nat_lit 415,VH P)::(nat_lit 417,VI P)::(nat_lit 418,VJ P)::(nat_lit 419,VL P)::(nat_lit 421,VM P)::(nat_lit 422,VN P)::(nat_lit 424,VO P)::(nat_lit 425,VP P)::[]
noncomputable def adr:List Addr:=[4,2,3,15,16,17,18,19,21,22,24,25,26,28,29,31,32,33,34,36,37,39,40,41,42,43,44,45,46,47,48,49,50,51,52,53,54,55,56,57,58,59,60,61,63,64,66,67,68,69,71,72,74,75,76,78,79,81,82,83,85,86,88,89,90,92,93,95,96,97,99,100,102,103,104,106,107,109,110,111,113,114,116,117,118,120,121,123,124,125,127,128,130,131,132,134,135,137,138,139,141,142,144,145,146,147,148,149,150,151,152,153,155,156,158,159,160,162,163,165,166,167,170,171,172,174,175,177,178,179,181,182,184,185,186,188,189,191,192,193,195,196,198,199,200,203,204,205,206,209,210,211,214,215,216,218,219,221,222,223,225,226,228,229,230,232,233,235,236,237,240,241,242,243,246,247,248,250,251,253,254,255,257,258,260,261,262,265,266,267,269,270,272,273,274,277,278,279,281,282,284,285,286,288,289,291,292,293,295,296,298,299,300,302,303,305,306,307,309,310,312,313,314,316,317,319,320,321,323,324,326,327,328,330,331,333,334,335,337,338,340,341,342,344,345,347,348,349,351,352,354,355,356,358,359,361,362,363,365,366,368,369,370,372,373,375,376,377,379,380,382,383,384,386,387,389,390,391,393,394,396,397,398,400,401,403,404,405,407,408,410,411,412,414,415,417,418,419,421,422,424,425]
noncomputable def env:Env:={ scope:=pr.main.scope,locals:=mainNs,globals:=mainNs,cells:=[],code:=code,frame:=some frame }
noncomputable abbrev cE:Code:=.body pr.main.body env
noncomputable abbrev fr:List Frame:=[topFrame eG]
noncomputable abbrev st (H:Params->Heap) (k:Nat) (w:World) (os:OsState):Shared:=stt H drawn k w os
theorem pre (w os):topGo treeTable pr w m0 ann n1 ⟨boot_heap w.params,Array.mk [],boot_drawn,boot_toks,os⟩ (topStub pr)=some (st H1 k1 w os,⟨denote treeTable cE,cE,p1,fr⟩):=by kernel_rfl
theorem blk (w os):segRun treeTable pr w m0 ann 1 n2 (st H1 k1 w os) (blockOf pr.main.body env cE p1 fr)=some (.next,st H2 k2 w os,cE,p2):=by kernel_rfl
theorem g3 (w:World)(os:OsState):segRun treeTable pr w m0 ann 1 n3 (st H2 k2 w os) (piecesOf s3 env cE p2 fr)=some (.next,st H3 k3 w os,cE,p3):=kC (P:=fun w=>segRun treeTable pr w m0 ann 1 n3 (st H2 k2 w os) (piecesOf s3 env cE p2 fr)=some (.next,st H3 k3 w os,cE,p3)) (fun w b=>by cases b <;> kernel_rfl) w
theorem aox (w:World)(os:OsState):RT pr w m0 ann eG cE ((1+(1+(1+(20+1))))+((1+((3+(0 * 3+0))+(0 * (1+(16+(1+(1+0))))+0)))+(1+3))) (dictSet d4 (.ref alc) ald) (st KQ Qn w os) (st KR HG w os) ():=by
 refine kC (P:=fun w=>RT pr w m0 ann eG cE ((1+(1+(1+(20+1))))+((1+((3+(0 * 3+0))+(0 * (1+(16+(1+(1+0))))+0)))+(1+3))) (dictSet d4 (.ref alc) ald) (st KQ Qn w os) (st KR HG w os) ()) (fun w b=>?_) w;refine iZ (h:=th (w.withFollow rw b).params "s" 1) (s1:=st KQ HG (w.withFollow rw b) os) ?_ (fA (es:=aof (w.withFollow rw b).params) (n:=alb) (fun K H gd lv pos=>⟨pos,1,C' _,by kernel_rfl⟩) (by kernel_rfl) ?_ (fun K H gd lv pos=>⟨pos,3,C' _,by kernel_rfl⟩) ?_ (fun K H gd lv pos=>⟨pos,1,C' _,by kernel_rfl⟩) ?_) (fun K H gd lv pos=>⟨pos,3,C' _,by kernel_rfl⟩)
 ·unfold pyHash pyHashByItsType;dsimp only;refine RT.bind (a:=()) (s1:=st KQ Qn (w.withFollow rw b) os) (fun K H gd lv pos=>⟨pos,1,C' _,by kernel_rfl⟩) ?_;refine RT.bind (a:=some (.builtin "tuple.__hash__")) (s1:=st KQ Qn (w.withFollow rw b) os) (fun K H gd lv pos=>⟨pos,1,C' _,by kernel_rfl⟩) ?_;rw[L' (by decide)];refine RT.bind (a:=some (.builtin "tuple.__hash__")) (s1:=st KQ Qn (w.withFollow rw b) os) (fun K H gd lv pos=>⟨pos,1,C' _,by kernel_rfl⟩) ?_;rw[L' (by decide)];refine RT.bind (a:=some (.int (Builtin.Tuple.tupleHashOf [PyData.keyHash (w.withFollow rw b).params "s",hashInt 1]) (Qn+2))) (s1:=st KQ HG (w.withFollow rw b) os) (fun K H gd lv pos=>⟨pos,20,(by decide:20<=20),by cases b <;> kernel_rfl⟩) ?_;exact b0 _
 ·exact bc
 ·exact bc
 ·exact bc
theorem aoy (w:World)(os:OsState):RT pr w m0 ann eG cE ((1+(1+(1+(20+1))))+((1+((3+(1 * 3+0))+(1 * (1+(16+(1+(1+0))))+0)))+(1+3))) (dictSet d4 (.ref alf) alg) (st KR HG w os) (st KS HH w os) ():=by
 refine kC (P:=fun w=>RT pr w m0 ann eG cE ((1+(1+(1+(20+1))))+((1+((3+(1 * 3+0))+(1 * (1+(16+(1+(1+0))))+0)))+(1+3))) (dictSet d4 (.ref alf) alg) (st KR HG w os) (st KS HH w os) ()) (fun w b=>?_) w;refine iZ (h:=th (w.withFollow rw b).params "d" 1) (s1:=st KR HH (w.withFollow rw b) os) ?_ (fA (es:=aog (w.withFollow rw b).params) (n:=ale) (fun K H gd lv pos=>⟨pos,1,C' _,by kernel_rfl⟩) (by kernel_rfl) ?_ (fun K H gd lv pos=>⟨pos,3,C' _,by kernel_rfl⟩) ?_ (fun K H gd lv pos=>⟨pos,1,C' _,by kernel_rfl⟩) ?_) (fun K H gd lv pos=>⟨pos,3,C' _,by kernel_rfl⟩)
 ·unfold pyHash pyHashByItsType;dsimp only;refine RT.bind (a:=()) (s1:=st KR HG (w.withFollow rw b) os) (fun K H gd lv pos=>⟨pos,1,C' _,by kernel_rfl⟩) ?_;refine RT.bind (a:=some (.builtin "tuple.__hash__")) (s1:=st KR HG (w.withFollow rw b) os) (fun K H gd lv pos=>⟨pos,1,C' _,by kernel_rfl⟩) ?_;rw[L' (by decide)];refine RT.bind (a:=some (.builtin "tuple.__hash__")) (s1:=st KR HG (w.withFollow rw b) os) (fun K H gd lv pos=>⟨pos,1,C' _,by kernel_rfl⟩) ?_;rw[L' (by decide)];refine RT.bind (a:=some (.int (Builtin.Tuple.tupleHashOf [PyData.keyHash (w.withFollow rw b).params "d",hashInt 1]) (HG+2))) (s1:=st KR HH (w.withFollow rw b) os) (fun K H gd lv pos=>⟨pos,20,(by decide:20<=20),by cases b <;> kernel_rfl⟩) ?_;exact b0 _
 ·exact(aq (rfl) bc)
 ·exact(aq ((fun K H gd lv pos=>⟨pos,3,C' _,by kernel_rfl⟩)) bc)
 ·exact(aq ((fun K H gd lv pos=>⟨pos,16,(by decide:16<=16),by cases b <;> kernel_rfl⟩)) bc)
theorem aoz (w:World)(os:OsState):RT pr w m0 ann eG cE ((1+(1+(1+(20+1))))+((1+((3+(2 * 3+0))+(2 * (1+(16+(1+(1+0))))+0)))+(1+3))) (dictSet d4 (.ref ali) alj) (st KS HH w os) (st KU HI w os) ():=by
 refine kC (P:=fun w=>RT pr w m0 ann eG cE ((1+(1+(1+(20+1))))+((1+((3+(2 * 3+0))+(2 * (1+(16+(1+(1+0))))+0)))+(1+3))) (dictSet d4 (.ref ali) alj) (st KS HH w os) (st KU HI w os) ()) (fun w b=>?_) w;refine iZ (h:=th (w.withFollow rw b).params "r" 1) (s1:=st KS HI (w.withFollow rw b) os) ?_ (fA (es:=aoh (w.withFollow rw b).params) (n:=alh) (fun K H gd lv pos=>⟨pos,1,C' _,by kernel_rfl⟩) (by kernel_rfl) ?_ (fun K H gd lv pos=>⟨pos,3,C' _,by kernel_rfl⟩) ?_ (fun K H gd lv pos=>⟨pos,1,C' _,by kernel_rfl⟩) ?_) (fun K H gd lv pos=>⟨pos,3,C' _,by kernel_rfl⟩)
 ·unfold pyHash pyHashByItsType;dsimp only;refine RT.bind (a:=()) (s1:=st KS HH (w.withFollow rw b) os) (fun K H gd lv pos=>⟨pos,1,C' _,by kernel_rfl⟩) ?_;refine RT.bind (a:=some (.builtin "tuple.__hash__")) (s1:=st KS HH (w.withFollow rw b) os) (fun K H gd lv pos=>⟨pos,1,C' _,by kernel_rfl⟩) ?_;rw[L' (by decide)];refine RT.bind (a:=some (.builtin "tuple.__hash__")) (s1:=st KS HH (w.withFollow rw b) os) (fun K H gd lv pos=>⟨pos,1,C' _,by kernel_rfl⟩) ?_;rw[L' (by decide)];refine RT.bind (a:=some (.int (Builtin.Tuple.tupleHashOf [PyData.keyHash (w.withFollow rw b).params "r",hashInt 1]) (HH+2))) (s1:=st KS HI (w.withFollow rw b) os) (fun K H gd lv pos=>⟨pos,20,(by decide:20<=20),by cases b <;> kernel_rfl⟩) ?_;exact b0 _
 ·exact(aq (rfl) (aq (rfl) bc))
 ·exact(aq ((fun K H gd lv pos=>⟨pos,3,C' _,by kernel_rfl⟩)) (aq ((fun K H gd lv pos=>⟨pos,3,C' _,by kernel_rfl⟩)) bc))
 ·exact(aq ((fun K H gd lv pos=>⟨pos,16,(by decide:16<=16),by cases b <;> kernel_rfl⟩)) (aq ((fun K H gd lv pos=>⟨pos,16,(by decide:16<=16),by cases b <;> kernel_rfl⟩)) bc))
theorem aoA (w:World)(os:OsState):RT pr w m0 ann eG cE ((1+(1+(1+(20+1))))+((1+((3+(3 * 3+0))+(3 * (1+(16+(1+(1+0))))+0)))+(1+3))) (dictSet d4 (.ref alm) aln) (st KU HI w os) (st KW HJ w os) ():=by
 refine kC (P:=fun w=>RT pr w m0 ann eG cE ((1+(1+(1+(20+1))))+((1+((3+(3 * 3+0))+(3 * (1+(16+(1+(1+0))))+0)))+(1+3))) (dictSet d4 (.ref alm) aln) (st KU HI w os) (st KW HJ w os) ()) (fun w b=>?_) w;refine iZ (h:=th (w.withFollow rw b).params "D" 2) (s1:=st KU HJ (w.withFollow rw b) os) ?_ (fA (es:=aoi (w.withFollow rw b).params) (n:=alk) (fun K H gd lv pos=>⟨pos,1,C' _,by kernel_rfl⟩) (by kernel_rfl) ?_ (fun K H gd lv pos=>⟨pos,3,C' _,by kernel_rfl⟩) ?_ (fun K H gd lv pos=>⟨pos,1,C' _,by kernel_rfl⟩) ?_) (fun K H gd lv pos=>⟨pos,3,C' _,by kernel_rfl⟩)
 ·unfold pyHash pyHashByItsType;dsimp only;refine RT.bind (a:=()) (s1:=st KU HI (w.withFollow rw b) os) (fun K H gd lv pos=>⟨pos,1,C' _,by kernel_rfl⟩) ?_;refine RT.bind (a:=some (.builtin "tuple.__hash__")) (s1:=st KU HI (w.withFollow rw b) os) (fun K H gd lv pos=>⟨pos,1,C' _,by kernel_rfl⟩) ?_;rw[L' (by decide)];refine RT.bind (a:=some (.builtin "tuple.__hash__")) (s1:=st KU HI (w.withFollow rw b) os) (fun K H gd lv pos=>⟨pos,1,C' _,by kernel_rfl⟩) ?_;rw[L' (by decide)];refine RT.bind (a:=some (.int (Builtin.Tuple.tupleHashOf [PyData.keyHash (w.withFollow rw b).params "D",hashInt 2]) (HI+2))) (s1:=st KU HJ (w.withFollow rw b) os) (fun K H gd lv pos=>⟨pos,20,(by decide:20<=20),by cases b <;> kernel_rfl⟩) ?_;exact b0 _
 ·exact(aq (rfl) (aq (rfl) (aq (rfl) bc)))
 ·exact(aq ((fun K H gd lv pos=>⟨pos,3,C' _,by kernel_rfl⟩)) (aq ((fun K H gd lv pos=>⟨pos,3,C' _,by kernel_rfl⟩)) (aq ((fun K H gd lv pos=>⟨pos,3,C' _,by kernel_rfl⟩)) bc)))
 ·exact(aq ((fun K H gd lv pos=>⟨pos,16,(by decide:16<=16),by cases b <;> kernel_rfl⟩)) (aq ((fun K H gd lv pos=>⟨pos,16,(by decide:16<=16),by cases b <;> kernel_rfl⟩)) (aq ((fun K H gd lv pos=>⟨pos,16,(by decide:16<=16),by cases b <;> kernel_rfl⟩)) bc)))
theorem aoB (w:World)(os:OsState):RT pr w m0 ann eG cE ((1+(1+(1+(20+1))))+((1+((3+(4 * 3+0))+(4 * (1+(16+(1+(1+0))))+0)))+(1+3))) (dictSet d4 (.ref alp) alq) (st KW HJ w os) (st KY HK w os) ():=by
 refine kC (P:=fun w=>RT pr w m0 ann eG cE ((1+(1+(1+(20+1))))+((1+((3+(4 * 3+0))+(4 * (1+(16+(1+(1+0))))+0)))+(1+3))) (dictSet d4 (.ref alp) alq) (st KW HJ w os) (st KY HK w os) ()) (fun w b=>?_) w;refine iZ (h:=th (w.withFollow rw b).params "R" 2) (s1:=st KW HK (w.withFollow rw b) os) ?_ (fA (es:=aoj (w.withFollow rw b).params) (n:=alo) (fun K H gd lv pos=>⟨pos,1,C' _,by kernel_rfl⟩) (by kernel_rfl) ?_ (fun K H gd lv pos=>⟨pos,3,C' _,by kernel_rfl⟩) ?_ (fun K H gd lv pos=>⟨pos,1,C' _,by kernel_rfl⟩) ?_) (fun K H gd lv pos=>⟨pos,3,C' _,by kernel_rfl⟩)
 ·unfold pyHash pyHashByItsType;dsimp only;refine RT.bind (a:=()) (s1:=st KW HJ (w.withFollow rw b) os) (fun K H gd lv pos=>⟨pos,1,C' _,by kernel_rfl⟩) ?_;refine RT.bind (a:=some (.builtin "tuple.__hash__")) (s1:=st KW HJ (w.withFollow rw b) os) (fun K H gd lv pos=>⟨pos,1,C' _,by kernel_rfl⟩) ?_;rw[L' (by decide)];refine RT.bind (a:=some (.builtin "tuple.__hash__")) (s1:=st KW HJ (w.withFollow rw b) os) (fun K H gd lv pos=>⟨pos,1,C' _,by kernel_rfl⟩) ?_;rw[L' (by decide)];refine RT.bind (a:=some (.int (Builtin.Tuple.tupleHashOf [PyData.keyHash (w.withFollow rw b).params "R",hashInt 2]) (HJ+2))) (s1:=st KW HK (w.withFollow rw b) os) (fun K H gd lv pos=>⟨pos,20,(by decide:20<=20),by cases b <;> kernel_rfl⟩) ?_;exact b0 _
 ·exact(aq (rfl) (aq (rfl) (aq (rfl) (aq (rfl) bc))))
 ·exact(aq ((fun K H gd lv pos=>⟨pos,3,C' _,by kernel_rfl⟩)) (aq ((fun K H gd lv pos=>⟨pos,3,C' _,by kernel_rfl⟩)) (aq ((fun K H gd lv pos=>⟨pos,3,C' _,by kernel_rfl⟩)) (aq ((fun K H gd lv pos=>⟨pos,3,C' _,by kernel_rfl⟩)) bc))))
 ·exact(aq ((fun K H gd lv pos=>⟨pos,16,(by decide:16<=16),by cases b <;> kernel_rfl⟩)) (aq ((fun K H gd lv pos=>⟨pos,16,(by decide:16<=16),by cases b <;> kernel_rfl⟩)) (aq ((fun K H gd lv pos=>⟨pos,16,(by decide:16<=16),by cases b <;> kernel_rfl⟩)) (aq ((fun K H gd lv pos=>⟨pos,16,(by decide:16<=16),by cases b <;> kernel_rfl⟩)) bc))))
theorem aoC (w:World)(os:OsState):RT pr w m0 ann eG cE ((1+(1+(1+(20+1))))+((1+((3+(5 * 3+0))+(5 * (1+(16+(1+(1+0))))+0)))+(1+3))) (dictSet d4 (.ref als) alu) (st KY HK w os) (st KZ HL w os) ():=by
 refine kC (P:=fun w=>RT pr w m0 ann eG cE ((1+(1+(1+(20+1))))+((1+((3+(5 * 3+0))+(5 * (1+(16+(1+(1+0))))+0)))+(1+3))) (dictSet d4 (.ref als) alu) (st KY HK w os) (st KZ HL w os) ()) (fun w b=>?_) w;refine iZ (h:=th (w.withFollow rw b).params "G" 2) (s1:=st KY HL (w.withFollow rw b) os) ?_ (fA (es:=aol (w.withFollow rw b).params) (n:=alr) (fun K H gd lv pos=>⟨pos,1,C' _,by kernel_rfl⟩) (by kernel_rfl) ?_ (fun K H gd lv pos=>⟨pos,3,C' _,by kernel_rfl⟩) ?_ (fun K H gd lv pos=>⟨pos,1,C' _,by kernel_rfl⟩) ?_) (fun K H gd lv pos=>⟨pos,3,C' _,by kernel_rfl⟩)
 ·unfold pyHash pyHashByItsType;dsimp only;refine RT.bind (a:=()) (s1:=st KY HK (w.withFollow rw b) os) (fun K H gd lv pos=>⟨pos,1,C' _,by kernel_rfl⟩) ?_;refine RT.bind (a:=some (.builtin "tuple.__hash__")) (s1:=st KY HK (w.withFollow rw b) os) (fun K H gd lv pos=>⟨pos,1,C' _,by kernel_rfl⟩) ?_;rw[L' (by decide)];refine RT.bind (a:=some (.builtin "tuple.__hash__")) (s1:=st KY HK (w.withFollow rw b) os) (fun K H gd lv pos=>⟨pos,1,C' _,by kernel_rfl⟩) ?_;rw[L' (by decide)];refine RT.bind (a:=some (.int (Builtin.Tuple.tupleHashOf [PyData.keyHash (w.withFollow rw b).params "G",hashInt 2]) (HK+2))) (s1:=st KY HL (w.withFollow rw b) os) (fun K H gd lv pos=>⟨pos,20,(by decide:20<=20),by cases b <;> kernel_rfl⟩) ?_;exact b0 _
 ·exact(aq (rfl) (aq (rfl) (aq (rfl) (aq (rfl) (aq (rfl) bc)))))
 ·exact(aq ((fun K H gd lv pos=>⟨pos,3,C' _,by kernel_rfl⟩)) (aq ((fun K H gd lv pos=>⟨pos,3,C' _,by kernel_rfl⟩)) (aq ((fun K H gd lv pos=>⟨pos,3,C' _,by kernel_rfl⟩)) (aq ((fun K H gd lv pos=>⟨pos,3,C' _,by kernel_rfl⟩)) (aq ((fun K H gd lv pos=>⟨pos,3,C' _,by kernel_rfl⟩)) bc)))))
 ·exact(aq ((fun K H gd lv pos=>⟨pos,16,(by decide:16<=16),by cases b <;> kernel_rfl⟩)) (aq ((fun K H gd lv pos=>⟨pos,16,(by decide:16<=16),by cases b <;> kernel_rfl⟩)) (aq ((fun K H gd lv pos=>⟨pos,16,(by decide:16<=16),by cases b <;> kernel_rfl⟩)) (aq ((fun K H gd lv pos=>⟨pos,16,(by decide:16<=16),by cases b <;> kernel_rfl⟩)) (aq ((fun K H gd lv pos=>⟨pos,16,(by decide:16<=16),by cases b <;> kernel_rfl⟩)) bc)))))
theorem aoD (w:World)(os:OsState):RT pr w m0 ann eG cE ((1+(1+(1+(20+1))))+((1+((3+(6 * 3+0))+(6 * (1+(20+(1+(1+0))))+0)))+(1+3))) (dictSet d4 (.ref alw) alx) (st KZ HL w os) (st K0 HM w os) ():=by
 refine kC (P:=fun w=>RT pr w m0 ann eG cE ((1+(1+(1+(20+1))))+((1+((3+(6 * 3+0))+(6 * (1+(20+(1+(1+0))))+0)))+(1+3))) (dictSet d4 (.ref alw) alx) (st KZ HL w os) (st K0 HM w os) ()) (fun w b=>?_) w;refine iZ (h:=th (w.withFollow rw b).params "G" 3) (s1:=st KZ HM (w.withFollow rw b) os) ?_ (fA (es:=aom (w.withFollow rw b).params) (n:=alv) (fun K H gd lv pos=>⟨pos,1,C' _,by kernel_rfl⟩) (by kernel_rfl) ?_ (fun K H gd lv pos=>⟨pos,3,C' _,by kernel_rfl⟩) ?_ (fun K H gd lv pos=>⟨pos,1,C' _,by kernel_rfl⟩) ?_) (fun K H gd lv pos=>⟨pos,3,C' _,by kernel_rfl⟩)
 ·unfold pyHash pyHashByItsType;dsimp only;refine RT.bind (a:=()) (s1:=st KZ HL (w.withFollow rw b) os) (fun K H gd lv pos=>⟨pos,1,C' _,by kernel_rfl⟩) ?_;refine RT.bind (a:=some (.builtin "tuple.__hash__")) (s1:=st KZ HL (w.withFollow rw b) os) (fun K H gd lv pos=>⟨pos,1,C' _,by kernel_rfl⟩) ?_;rw[L' (by decide)];refine RT.bind (a:=some (.builtin "tuple.__hash__")) (s1:=st KZ HL (w.withFollow rw b) os) (fun K H gd lv pos=>⟨pos,1,C' _,by kernel_rfl⟩) ?_;rw[L' (by decide)];refine RT.bind (a:=some (.int (Builtin.Tuple.tupleHashOf [PyData.keyHash (w.withFollow rw b).params "G",hashInt 3]) (HL+2))) (s1:=st KZ HM (w.withFollow rw b) os) (fun K H gd lv pos=>⟨pos,20,(by decide:20<=20),by cases b <;> kernel_rfl⟩) ?_;exact b0 _
 ·exact(aq (rfl) (aq (rfl) (aq (rfl) (aq (rfl) (aq (rfl) (aq (rfl) bc))))))
 ·exact(aq ((fun K H gd lv pos=>⟨pos,3,C' _,by kernel_rfl⟩)) (aq ((fun K H gd lv pos=>⟨pos,3,C' _,by kernel_rfl⟩)) (aq ((fun K H gd lv pos=>⟨pos,3,C' _,by kernel_rfl⟩)) (aq ((fun K H gd lv pos=>⟨pos,3,C' _,by kernel_rfl⟩)) (aq ((fun K H gd lv pos=>⟨pos,3,C' _,by kernel_rfl⟩)) (aq ((fun K H gd lv pos=>⟨pos,3,C' _,by kernel_rfl⟩)) bc))))))
 ·exact(aq ((fun K H gd lv pos=>⟨pos,16,(by decide:16<=20),by cases b <;> kernel_rfl⟩)) (aq ((fun K H gd lv pos=>⟨pos,16,(by decide:16<=20),by cases b <;> kernel_rfl⟩)) (aq ((fun K H gd lv pos=>⟨pos,16,(by decide:16<=20),by cases b <;> kernel_rfl⟩)) (aq ((fun K H gd lv pos=>⟨pos,16,(by decide:16<=20),by cases b <;> kernel_rfl⟩)) (aq ((fun K H gd lv pos=>⟨pos,16,(by decide:16<=20),by cases b <;> kernel_rfl⟩)) (aq ((fun K H gd lv pos=>⟨pos,20,(by decide:20<=20),by cases b <;> kernel_rfl⟩)) bc))))))
theorem aoE (w:World)(os:OsState):RT pr w m0 ann eG cE ((1+(1+(1+(20+1))))+((1+((3+(7 * 3+0))+(7 * (1+(16+(1+(1+0))))+0)))+(1+3))) (dictSet d4 (.ref alz) alA) (st K0 HM w os) (st K1 HN w os) ():=by
 refine kC (P:=fun w=>RT pr w m0 ann eG cE ((1+(1+(1+(20+1))))+((1+((3+(7 * 3+0))+(7 * (1+(16+(1+(1+0))))+0)))+(1+3))) (dictSet d4 (.ref alz) alA) (st K0 HM w os) (st K1 HN w os) ()) (fun w b=>?_) w;refine iZ (h:=th (w.withFollow rw b).params "." 0) (s1:=st K0 HN (w.withFollow rw b) os) ?_ (fA (es:=aon (w.withFollow rw b).params) (n:=aly) (fun K H gd lv pos=>⟨pos,1,C' _,by kernel_rfl⟩) (by kernel_rfl) ?_ (fun K H gd lv pos=>⟨pos,3,C' _,by kernel_rfl⟩) ?_ (fun K H gd lv pos=>⟨pos,1,C' _,by kernel_rfl⟩) ?_) (fun K H gd lv pos=>⟨pos,3,C' _,by kernel_rfl⟩)
 ·unfold pyHash pyHashByItsType;dsimp only;refine RT.bind (a:=()) (s1:=st K0 HM (w.withFollow rw b) os) (fun K H gd lv pos=>⟨pos,1,C' _,by kernel_rfl⟩) ?_;refine RT.bind (a:=some (.builtin "tuple.__hash__")) (s1:=st K0 HM (w.withFollow rw b) os) (fun K H gd lv pos=>⟨pos,1,C' _,by kernel_rfl⟩) ?_;rw[L' (by decide)];refine RT.bind (a:=some (.builtin "tuple.__hash__")) (s1:=st K0 HM (w.withFollow rw b) os) (fun K H gd lv pos=>⟨pos,1,C' _,by kernel_rfl⟩) ?_;rw[L' (by decide)];refine RT.bind (a:=some (.int (Builtin.Tuple.tupleHashOf [PyData.keyHash (w.withFollow rw b).params ".",hashInt 0]) (HM+2))) (s1:=st K0 HN (w.withFollow rw b) os) (fun K H gd lv pos=>⟨pos,20,(by decide:20<=20),by cases b <;> kernel_rfl⟩) ?_;exact b0 _
 ·exact(aq (rfl) (aq (rfl) (aq (rfl) (aq (rfl) (aq (rfl) (aq (rfl) (aq (rfl) bc)))))))
 ·exact(aq ((fun K H gd lv pos=>⟨pos,3,C' _,by kernel_rfl⟩)) (aq ((fun K H gd lv pos=>⟨pos,3,C' _,by kernel_rfl⟩)) (aq ((fun K H gd lv pos=>⟨pos,3,C' _,by kernel_rfl⟩)) (aq ((fun K H gd lv pos=>⟨pos,3,C' _,by kernel_rfl⟩)) (aq ((fun K H gd lv pos=>⟨pos,3,C' _,by kernel_rfl⟩)) (aq ((fun K H gd lv pos=>⟨pos,3,C' _,by kernel_rfl⟩)) (aq ((fun K H gd lv pos=>⟨pos,3,C' _,by kernel_rfl⟩)) bc)))))))
 ·exact(aq ((fun K H gd lv pos=>⟨pos,16,(by decide:16<=16),by cases b <;> kernel_rfl⟩)) (aq ((fun K H gd lv pos=>⟨pos,16,(by decide:16<=16),by cases b <;> kernel_rfl⟩)) (aq ((fun K H gd lv pos=>⟨pos,16,(by decide:16<=16),by cases b <;> kernel_rfl⟩)) (aq ((fun K H gd lv pos=>⟨pos,16,(by decide:16<=16),by cases b <;> kernel_rfl⟩)) (aq ((fun K H gd lv pos=>⟨pos,16,(by decide:16<=16),by cases b <;> kernel_rfl⟩)) (aq ((fun K H gd lv pos=>⟨pos,16,(by decide:16<=16),by cases b <;> kernel_rfl⟩)) (aq ((fun K H gd lv pos=>⟨pos,16,(by decide:16<=16),by cases b <;> kernel_rfl⟩)) bc)))))))
theorem aoF (w:World)(os:OsState):RT pr w m0 ann eG cE ((1+(1+(1+(20+1))))+((1+((3+(8 * 3+0))+(8 * (1+(16+(1+(1+0))))+0)))+(1+3))) (dictSet d4 (.ref alC) alD) (st K1 HN w os) (st K2 HP w os) ():=by
 refine kC (P:=fun w=>RT pr w m0 ann eG cE ((1+(1+(1+(20+1))))+((1+((3+(8 * 3+0))+(8 * (1+(16+(1+(1+0))))+0)))+(1+3))) (dictSet d4 (.ref alC) alD) (st K1 HN w os) (st K2 HP w os) ()) (fun w b=>?_) w;refine iZ (h:=th (w.withFollow rw b).params "2" 0) (s1:=st K1 HP (w.withFollow rw b) os) ?_ (fA (es:=aoo (w.withFollow rw b).params) (n:=alB) (fun K H gd lv pos=>⟨pos,1,C' _,by kernel_rfl⟩) (by kernel_rfl) ?_ (fun K H gd lv pos=>⟨pos,3,C' _,by kernel_rfl⟩) ?_ (fun K H gd lv pos=>⟨pos,1,C' _,by kernel_rfl⟩) ?_) (fun K H gd lv pos=>⟨pos,3,C' _,by kernel_rfl⟩)
 ·unfold pyHash pyHashByItsType;dsimp only;refine RT.bind (a:=()) (s1:=st K1 HN (w.withFollow rw b) os) (fun K H gd lv pos=>⟨pos,1,C' _,by kernel_rfl⟩) ?_;refine RT.bind (a:=some (.builtin "tuple.__hash__")) (s1:=st K1 HN (w.withFollow rw b) os) (fun K H gd lv pos=>⟨pos,1,C' _,by kernel_rfl⟩) ?_;rw[L' (by decide)];refine RT.bind (a:=some (.builtin "tuple.__hash__")) (s1:=st K1 HN (w.withFollow rw b) os) (fun K H gd lv pos=>⟨pos,1,C' _,by kernel_rfl⟩) ?_;rw[L' (by decide)];refine RT.bind (a:=some (.int (Builtin.Tuple.tupleHashOf [PyData.keyHash (w.withFollow rw b).params "2",hashInt 0]) (HN+2))) (s1:=st K1 HP (w.withFollow rw b) os) (fun K H gd lv pos=>⟨pos,20,(by decide:20<=20),by cases b <;> kernel_rfl⟩) ?_;exact b0 _
 ·exact(aq (rfl) (aq (rfl) (aq (rfl) (aq (rfl) (aq (rfl) (aq (rfl) (aq (rfl) (aq (rfl) bc))))))))
 ·exact(aq ((fun K H gd lv pos=>⟨pos,3,C' _,by kernel_rfl⟩)) (aq ((fun K H gd lv pos=>⟨pos,3,C' _,by kernel_rfl⟩)) (aq ((fun K H gd lv pos=>⟨pos,3,C' _,by kernel_rfl⟩)) (aq ((fun K H gd lv pos=>⟨pos,3,C' _,by kernel_rfl⟩)) (aq ((fun K H gd lv pos=>⟨pos,3,C' _,by kernel_rfl⟩)) (aq ((fun K H gd lv pos=>⟨pos,3,C' _,by kernel_rfl⟩)) (aq ((fun K H gd lv pos=>⟨pos,3,C' _,by kernel_rfl⟩)) (aq ((fun K H gd lv pos=>⟨pos,3,C' _,by kernel_rfl⟩)) bc))))))))
 ·exact(aq ((fun K H gd lv pos=>⟨pos,16,(by decide:16<=16),by cases b <;> kernel_rfl⟩)) (aq ((fun K H gd lv pos=>⟨pos,16,(by decide:16<=16),by cases b <;> kernel_rfl⟩)) (aq ((fun K H gd lv pos=>⟨pos,16,(by decide:16<=16),by cases b <;> kernel_rfl⟩)) (aq ((fun K H gd lv pos=>⟨pos,16,(by decide:16<=16),by cases b <;> kernel_rfl⟩)) (aq ((fun K H gd lv pos=>⟨pos,16,(by decide:16<=16),by cases b <;> kernel_rfl⟩)) (aq ((fun K H gd lv pos=>⟨pos,16,(by decide:16<=16),by cases b <;> kernel_rfl⟩)) (aq ((fun K H gd lv pos=>⟨pos,16,(by decide:16<=16),by cases b <;> kernel_rfl⟩)) (aq ((fun K H gd lv pos=>⟨pos,16,(by decide:16<=16),by cases b <;> kernel_rfl⟩)) bc))))))))
theorem aoG (w:World)(os:OsState):RT pr w m0 ann eG cE ((1+(1+(1+(20+1))))+((1+((3+(9 * 3+0))+(9 * (1+(16+(1+(1+0))))+0)))+(1+3))) (dictSet d4 (.ref alF) alG) (st K2 HP w os) (st YB JW w os) ():=by
 refine kC (P:=fun w=>RT pr w m0 ann eG cE ((1+(1+(1+(20+1))))+((1+((3+(9 * 3+0))+(9 * (1+(16+(1+(1+0))))+0)))+(1+3))) (dictSet d4 (.ref alF) alG) (st K2 HP w os) (st YB JW w os) ()) (fun w b=>?_) w;refine iZ (h:=th (w.withFollow rw b).params "3" 0) (s1:=st K2 JW (w.withFollow rw b) os) ?_ (fA (es:=aop (w.withFollow rw b).params) (n:=alE) (fun K H gd lv pos=>⟨pos,1,C' _,by kernel_rfl⟩) (by kernel_rfl) ?_ (fun K H gd lv pos=>⟨pos,3,C' _,by kernel_rfl⟩) ?_ (fun K H gd lv pos=>⟨pos,1,C' _,by kernel_rfl⟩) ?_) (fun K H gd lv pos=>⟨pos,3,C' _,by kernel_rfl⟩)
 ·unfold pyHash pyHashByItsType;dsimp only;refine RT.bind (a:=()) (s1:=st K2 HP (w.withFollow rw b) os) (fun K H gd lv pos=>⟨pos,1,C' _,by kernel_rfl⟩) ?_;refine RT.bind (a:=some (.builtin "tuple.__hash__")) (s1:=st K2 HP (w.withFollow rw b) os) (fun K H gd lv pos=>⟨pos,1,C' _,by kernel_rfl⟩) ?_;rw[L' (by decide)];refine RT.bind (a:=some (.builtin "tuple.__hash__")) (s1:=st K2 HP (w.withFollow rw b) os) (fun K H gd lv pos=>⟨pos,1,C' _,by kernel_rfl⟩) ?_;rw[L' (by decide)];refine RT.bind (a:=some (.int (Builtin.Tuple.tupleHashOf [PyData.keyHash (w.withFollow rw b).params "3",hashInt 0]) (HP+2))) (s1:=st K2 JW (w.withFollow rw b) os) (fun K H gd lv pos=>⟨pos,20,(by decide:20<=20),by cases b <;> kernel_rfl⟩) ?_;exact b0 _
 ·exact(aq (rfl) (aq (rfl) (aq (rfl) (aq (rfl) (aq (rfl) (aq (rfl) (aq (rfl) (aq (rfl) (aq (rfl) bc)))))))))
 ·exact(aq ((fun K H gd lv pos=>⟨pos,3,C' _,by kernel_rfl⟩)) (aq ((fun K H gd lv pos=>⟨pos,3,C' _,by kernel_rfl⟩)) (aq ((fun K H gd lv pos=>⟨pos,3,C' _,by kernel_rfl⟩)) (aq ((fun K H gd lv pos=>⟨pos,3,C' _,by kernel_rfl⟩)) (aq ((fun K H gd lv pos=>⟨pos,3,C' _,by kernel_rfl⟩)) (aq ((fun K H gd lv pos=>⟨pos,3,C' _,by kernel_rfl⟩)) (aq ((fun K H gd lv pos=>⟨pos,3,C' _,by kernel_rfl⟩)) (aq ((fun K H gd lv pos=>⟨pos,3,C' _,by kernel_rfl⟩)) (aq ((fun K H gd lv pos=>⟨pos,3,C' _,by kernel_rfl⟩)) bc)))))))))
 ·exact(aq ((fun K H gd lv pos=>⟨pos,16,(by decide:16<=16),by cases b <;> kernel_rfl⟩)) (aq ((fun K H gd lv pos=>⟨pos,16,(by decide:16<=16),by cases b <;> kernel_rfl⟩)) (aq ((fun K H gd lv pos=>⟨pos,16,(by decide:16<=16),by cases b <;> kernel_rfl⟩)) (aq ((fun K H gd lv pos=>⟨pos,16,(by decide:16<=16),by cases b <;> kernel_rfl⟩)) (aq ((fun K H gd lv pos=>⟨pos,16,(by decide:16<=16),by cases b <;> kernel_rfl⟩)) (aq ((fun K H gd lv pos=>⟨pos,16,(by decide:16<=16),by cases b <;> kernel_rfl⟩)) (aq ((fun K H gd lv pos=>⟨pos,16,(by decide:16<=16),by cases b <;> kernel_rfl⟩)) (aq ((fun K H gd lv pos=>⟨pos,16,(by decide:16<=16),by cases b <;> kernel_rfl⟩)) (aq ((fun K H gd lv pos=>⟨pos,16,(by decide:16<=16),by cases b <;> kernel_rfl⟩)) bc)))))))))
theorem C4 (w:World)(os:OsState):Puts pr w m0 ann eG cE d4 (((1+(1+(1+(20+1))))+((1+((3+(0 * 3+0))+(0 * (1+(16+(1+(1+0))))+0)))+(1+3)))+(((1+(1+(1+(20+1))))+((1+((3+(1 * 3+0))+(1 * (1+(16+(1+(1+0))))+0)))+(1+3)))+(((1+(1+(1+(20+1))))+((1+((3+(2 * 3+0))+(2 * (1+(16+(1+(1+0))))+0)))+(1+3)))+(((1+(1+(1+(20+1))))+((1+((3+(3 * 3+0))+(3 * (1+(16+(1+(1+0))))+0)))+(1+3)))+(((1+(1+(1+(20+1))))+((1+((3+(4 * 3+0))+(4 * (1+(16+(1+(1+0))))+0)))+(1+3)))+(((1+(1+(1+(20+1))))+((1+((3+(5 * 3+0))+(5 * (1+(16+(1+(1+0))))+0)))+(1+3)))+(((1+(1+(1+(20+1))))+((1+((3+(6 * 3+0))+(6 * (1+(20+(1+(1+0))))+0)))+(1+3)))+(((1+(1+(1+(20+1))))+((1+((3+(7 * 3+0))+(7 * (1+(16+(1+(1+0))))+0)))+(1+3)))+(((1+(1+(1+(20+1))))+((1+((3+(8 * 3+0))+(8 * (1+(16+(1+(1+0))))+0)))+(1+3)))+(((1+(1+(1+(20+1))))+((1+((3+(9 * 3+0))+(9 * (1+(16+(1+(1+0))))+0)))+(1+3)))+0)))))))))) (st KQ Qn w os) vs4 (st YB JW w os):=(.cons (aox w os) (.cons (aoy w os) (.cons (aoz w os) (.cons (aoA w os) (.cons (aoB w os) (.cons (aoC w os) (.cons (aoD w os) (.cons (aoE w os) (.cons (aoF w os) (.cons (aoG w os) .nil))))))))))
theorem R4 (w:World)(os:OsState):RTP pr w m0 ann eG cE (1+((1+((1+((60+((((1+(1+(1+(20+1))))+((1+((3+(0 * 3+0))+(0 * (1+(16+(1+(1+0))))+0)))+(1+3)))+(((1+(1+(1+(20+1))))+((1+((3+(1 * 3+0))+(1 * (1+(16+(1+(1+0))))+0)))+(1+3)))+(((1+(1+(1+(20+1))))+((1+((3+(2 * 3+0))+(2 * (1+(16+(1+(1+0))))+0)))+(1+3)))+(((1+(1+(1+(20+1))))+((1+((3+(3 * 3+0))+(3 * (1+(16+(1+(1+0))))+0)))+(1+3)))+(((1+(1+(1+(20+1))))+((1+((3+(4 * 3+0))+(4 * (1+(16+(1+(1+0))))+0)))+(1+3)))+(((1+(1+(1+(20+1))))+((1+((3+(5 * 3+0))+(5 * (1+(16+(1+(1+0))))+0)))+(1+3)))+(((1+(1+(1+(20+1))))+((1+((3+(6 * 3+0))+(6 * (1+(20+(1+(1+0))))+0)))+(1+3)))+(((1+(1+(1+(20+1))))+((1+((3+(7 * 3+0))+(7 * (1+(16+(1+(1+0))))+0)))+(1+3)))+(((1+(1+(1+(20+1))))+((1+((3+(8 * 3+0))+(8 * (1+(16+(1+(1+0))))+0)))+(1+3)))+(((1+(1+(1+(20+1))))+((1+((3+(9 * 3+0))+(9 * (1+(16+(1+(1+0))))+0)))+(1+3)))+0))))))))))+0))+0))+0))+7)) (exec t4 env) (st H3 k3 w os) (st H4 k4 w os) .next p4 :=
 acC (d:=d4) (s1:=⟨(H3 w.params).push { cls:=.type "dict",data:=.dict #[] },#[],drawn,k3,os⟩) (s2:=st KQ Qn w os) (s3:=st YB JW w os) (vs:=vs4) rfl rfl (Nat.le_of_ble_eq_true (by kernel_rfl)) (JL (by kernel_rfl)) (fun K H gd lv pos=>⟨pos,1,C' _,by kernel_rfl⟩) (fun K H gd lv pos=>⟨dp4,60,C' _,by kernel_rfl⟩) (C4 w os) (fun K H gd lv pos=>⟨7,C' _,by kernel_rfl⟩)
theorem g4 (w:World)(os:OsState):segRun treeTable pr w m0 ann 1 1405 (st H3 k3 w os) (pieceOf t4 env cE p3 fr)=some (.next,st H4 k4 w os,cE,p4):=(R4 w os).piece
theorem aoH (w:World)(os:OsState):RT pr w m0 ann eG cE ((1+(1+(1+(20+1))))+((1+((3+(0 * 3+0))+(0 * (1+(16+(1+(1+0))))+0)))+(1+3))) (dictSet d5 (.ref alI) alJ) (st K3 Qo w os) (st K4 HQ w os) ():=by
 refine kC (P:=fun w=>RT pr w m0 ann eG cE ((1+(1+(1+(20+1))))+((1+((3+(0 * 3+0))+(0 * (1+(16+(1+(1+0))))+0)))+(1+3))) (dictSet d5 (.ref alI) alJ) (st K3 Qo w os) (st K4 HQ w os) ()) (fun w b=>?_) w;refine iZ (h:=th (w.withFollow rw b).params "G" 3) (s1:=st K3 HQ (w.withFollow rw b) os) ?_ (fA (es:=aor (w.withFollow rw b).params) (n:=alH) (fun K H gd lv pos=>⟨pos,1,C' _,by kernel_rfl⟩) (by kernel_rfl) ?_ (fun K H gd lv pos=>⟨pos,3,C' _,by kernel_rfl⟩) ?_ (fun K H gd lv pos=>⟨pos,1,C' _,by kernel_rfl⟩) ?_) (fun K H gd lv pos=>⟨pos,3,C' _,by kernel_rfl⟩)
 ·unfold pyHash pyHashByItsType;dsimp only;refine RT.bind (a:=()) (s1:=st K3 Qo (w.withFollow rw b) os) (fun K H gd lv pos=>⟨pos,1,C' _,by kernel_rfl⟩) ?_;refine RT.bind (a:=some (.builtin "tuple.__hash__")) (s1:=st K3 Qo (w.withFollow rw b) os) (fun K H gd lv pos=>⟨pos,1,C' _,by kernel_rfl⟩) ?_;rw[L' (by decide)];refine RT.bind (a:=some (.builtin "tuple.__hash__")) (s1:=st K3 Qo (w.withFollow rw b) os) (fun K H gd lv pos=>⟨pos,1,C' _,by kernel_rfl⟩) ?_;rw[L' (by decide)];refine RT.bind (a:=some (.int (Builtin.Tuple.tupleHashOf [PyData.keyHash (w.withFollow rw b).params "G",hashInt 3]) (Qo+2))) (s1:=st K3 HQ (w.withFollow rw b) os) (fun K H gd lv pos=>⟨pos,20,(by decide:20<=20),by cases b <;> kernel_rfl⟩) ?_;exact b0 _
 ·exact bc
 ·exact bc
 ·exact bc
theorem aoI (w:World)(os:OsState):RT pr w m0 ann eG cE ((1+(1+(1+(20+1))))+((1+((3+(1 * 3+0))+(1 * (1+(20+(1+(1+0))))+0)))+(1+3))) (dictSet d5 (.ref alL) alM) (st K4 HQ w os) (st K5 HR w os) ():=by
 refine kC (P:=fun w=>RT pr w m0 ann eG cE ((1+(1+(1+(20+1))))+((1+((3+(1 * 3+0))+(1 * (1+(20+(1+(1+0))))+0)))+(1+3))) (dictSet d5 (.ref alL) alM) (st K4 HQ w os) (st K5 HR w os) ()) (fun w b=>?_) w;refine iZ (h:=th (w.withFollow rw b).params "G" 2) (s1:=st K4 HR (w.withFollow rw b) os) ?_ (fA (es:=aos (w.withFollow rw b).params) (n:=alK) (fun K H gd lv pos=>⟨pos,1,C' _,by kernel_rfl⟩) (by kernel_rfl) ?_ (fun K H gd lv pos=>⟨pos,3,C' _,by kernel_rfl⟩) ?_ (fun K H gd lv pos=>⟨pos,1,C' _,by kernel_rfl⟩) ?_) (fun K H gd lv pos=>⟨pos,3,C' _,by kernel_rfl⟩)
 ·unfold pyHash pyHashByItsType;dsimp only;refine RT.bind (a:=()) (s1:=st K4 HQ (w.withFollow rw b) os) (fun K H gd lv pos=>⟨pos,1,C' _,by kernel_rfl⟩) ?_;refine RT.bind (a:=some (.builtin "tuple.__hash__")) (s1:=st K4 HQ (w.withFollow rw b) os) (fun K H gd lv pos=>⟨pos,1,C' _,by kernel_rfl⟩) ?_;rw[L' (by decide)];refine RT.bind (a:=some (.builtin "tuple.__hash__")) (s1:=st K4 HQ (w.withFollow rw b) os) (fun K H gd lv pos=>⟨pos,1,C' _,by kernel_rfl⟩) ?_;rw[L' (by decide)];refine RT.bind (a:=some (.int (Builtin.Tuple.tupleHashOf [PyData.keyHash (w.withFollow rw b).params "G",hashInt 2]) (HQ+2))) (s1:=st K4 HR (w.withFollow rw b) os) (fun K H gd lv pos=>⟨pos,20,(by decide:20<=20),by cases b <;> kernel_rfl⟩) ?_;exact b0 _
 ·exact(aq (rfl) bc)
 ·exact(aq ((fun K H gd lv pos=>⟨pos,3,C' _,by kernel_rfl⟩)) bc)
 ·exact(aq ((fun K H gd lv pos=>⟨pos,20,(by decide:20<=20),by cases b <;> kernel_rfl⟩)) bc)
theorem aoJ (w:World)(os:OsState):RT pr w m0 ann eG cE ((1+(1+(1+(20+1))))+((1+((3+(2 * 3+0))+(2 * (1+(16+(1+(1+0))))+0)))+(1+3))) (dictSet d5 (.ref alO) alP) (st K5 HR w os) (st K6 HS w os) ():=by
 refine kC (P:=fun w=>RT pr w m0 ann eG cE ((1+(1+(1+(20+1))))+((1+((3+(2 * 3+0))+(2 * (1+(16+(1+(1+0))))+0)))+(1+3))) (dictSet d5 (.ref alO) alP) (st K5 HR w os) (st K6 HS w os) ()) (fun w b=>?_) w;refine iZ (h:=th (w.withFollow rw b).params "D" 2) (s1:=st K5 HS (w.withFollow rw b) os) ?_ (fA (es:=aot (w.withFollow rw b).params) (n:=alN) (fun K H gd lv pos=>⟨pos,1,C' _,by kernel_rfl⟩) (by kernel_rfl) ?_ (fun K H gd lv pos=>⟨pos,3,C' _,by kernel_rfl⟩) ?_ (fun K H gd lv pos=>⟨pos,1,C' _,by kernel_rfl⟩) ?_) (fun K H gd lv pos=>⟨pos,3,C' _,by kernel_rfl⟩)
 ·unfold pyHash pyHashByItsType;dsimp only;refine RT.bind (a:=()) (s1:=st K5 HR (w.withFollow rw b) os) (fun K H gd lv pos=>⟨pos,1,C' _,by kernel_rfl⟩) ?_;refine RT.bind (a:=some (.builtin "tuple.__hash__")) (s1:=st K5 HR (w.withFollow rw b) os) (fun K H gd lv pos=>⟨pos,1,C' _,by kernel_rfl⟩) ?_;rw[L' (by decide)];refine RT.bind (a:=some (.builtin "tuple.__hash__")) (s1:=st K5 HR (w.withFollow rw b) os) (fun K H gd lv pos=>⟨pos,1,C' _,by kernel_rfl⟩) ?_;rw[L' (by decide)];refine RT.bind (a:=some (.int (Builtin.Tuple.tupleHashOf [PyData.keyHash (w.withFollow rw b).params "D",hashInt 2]) (HR+2))) (s1:=st K5 HS (w.withFollow rw b) os) (fun K H gd lv pos=>⟨pos,20,(by decide:20<=20),by cases b <;> kernel_rfl⟩) ?_;exact b0 _
 ·exact(aq (rfl) (aq (rfl) bc))
 ·exact(aq ((fun K H gd lv pos=>⟨pos,3,C' _,by kernel_rfl⟩)) (aq ((fun K H gd lv pos=>⟨pos,3,C' _,by kernel_rfl⟩)) bc))
 ·exact(aq ((fun K H gd lv pos=>⟨pos,16,(by decide:16<=16),by cases b <;> kernel_rfl⟩)) (aq ((fun K H gd lv pos=>⟨pos,16,(by decide:16<=16),by cases b <;> kernel_rfl⟩)) bc))
theorem aoK (w:World)(os:OsState):RT pr w m0 ann eG cE ((1+(1+(1+(20+1))))+((1+((3+(3 * 3+0))+(3 * (1+(16+(1+(1+0))))+0)))+(1+3))) (dictSet d5 (.ref alR) alS) (st K6 HS w os) (st agw Z9 w os) ():=by
 refine kC (P:=fun w=>RT pr w m0 ann eG cE ((1+(1+(1+(20+1))))+((1+((3+(3 * 3+0))+(3 * (1+(16+(1+(1+0))))+0)))+(1+3))) (dictSet d5 (.ref alR) alS) (st K6 HS w os) (st agw Z9 w os) ()) (fun w b=>?_) w;refine iZ (h:=th (w.withFollow rw b).params "R" 3) (s1:=st K6 Z9 (w.withFollow rw b) os) ?_ (fA (es:=aou (w.withFollow rw b).params) (n:=alQ) (fun K H gd lv pos=>⟨pos,1,C' _,by kernel_rfl⟩) (by kernel_rfl) ?_ (fun K H gd lv pos=>⟨pos,3,C' _,by kernel_rfl⟩) ?_ (fun K H gd lv pos=>⟨pos,1,C' _,by kernel_rfl⟩) ?_) (fun K H gd lv pos=>⟨pos,3,C' _,by kernel_rfl⟩)
 ·unfold pyHash pyHashByItsType;dsimp only;refine RT.bind (a:=()) (s1:=st K6 HS (w.withFollow rw b) os) (fun K H gd lv pos=>⟨pos,1,C' _,by kernel_rfl⟩) ?_;refine RT.bind (a:=some (.builtin "tuple.__hash__")) (s1:=st K6 HS (w.withFollow rw b) os) (fun K H gd lv pos=>⟨pos,1,C' _,by kernel_rfl⟩) ?_;rw[L' (by decide)];refine RT.bind (a:=some (.builtin "tuple.__hash__")) (s1:=st K6 HS (w.withFollow rw b) os) (fun K H gd lv pos=>⟨pos,1,C' _,by kernel_rfl⟩) ?_;rw[L' (by decide)];refine RT.bind (a:=some (.int (Builtin.Tuple.tupleHashOf [PyData.keyHash (w.withFollow rw b).params "R",hashInt 3]) (HS+2))) (s1:=st K6 Z9 (w.withFollow rw b) os) (fun K H gd lv pos=>⟨pos,20,(by decide:20<=20),by cases b <;> kernel_rfl⟩) ?_;exact b0 _
 ·exact(aq (rfl) (aq (rfl) (aq (rfl) bc)))
 ·exact(aq ((fun K H gd lv pos=>⟨pos,3,C' _,by kernel_rfl⟩)) (aq ((fun K H gd lv pos=>⟨pos,3,C' _,by kernel_rfl⟩)) (aq ((fun K H gd lv pos=>⟨pos,3,C' _,by kernel_rfl⟩)) bc)))
 ·exact(aq ((fun K H gd lv pos=>⟨pos,16,(by decide:16<=16),by cases b <;> kernel_rfl⟩)) (aq ((fun K H gd lv pos=>⟨pos,16,(by decide:16<=16),by cases b <;> kernel_rfl⟩)) (aq ((fun K H gd lv pos=>⟨pos,16,(by decide:16<=16),by cases b <;> kernel_rfl⟩)) bc)))
theorem C5 (w:World)(os:OsState):Puts pr w m0 ann eG cE d5 (((1+(1+(1+(20+1))))+((1+((3+(0 * 3+0))+(0 * (1+(16+(1+(1+0))))+0)))+(1+3)))+(((1+(1+(1+(20+1))))+((1+((3+(1 * 3+0))+(1 * (1+(20+(1+(1+0))))+0)))+(1+3)))+(((1+(1+(1+(20+1))))+((1+((3+(2 * 3+0))+(2 * (1+(16+(1+(1+0))))+0)))+(1+3)))+(((1+(1+(1+(20+1))))+((1+((3+(3 * 3+0))+(3 * (1+(16+(1+(1+0))))+0)))+(1+3)))+0)))) (st K3 Qo w os) vs5 (st agw Z9 w os):=(.cons (aoH w os) (.cons (aoI w os) (.cons (aoJ w os) (.cons (aoK w os) .nil))))
theorem R5 (w:World)(os:OsState):RTP pr w m0 ann eG cE (1+((1+((1+((24+((((1+(1+(1+(20+1))))+((1+((3+(0 * 3+0))+(0 * (1+(16+(1+(1+0))))+0)))+(1+3)))+(((1+(1+(1+(20+1))))+((1+((3+(1 * 3+0))+(1 * (1+(20+(1+(1+0))))+0)))+(1+3)))+(((1+(1+(1+(20+1))))+((1+((3+(2 * 3+0))+(2 * (1+(16+(1+(1+0))))+0)))+(1+3)))+(((1+(1+(1+(20+1))))+((1+((3+(3 * 3+0))+(3 * (1+(16+(1+(1+0))))+0)))+(1+3)))+0))))+0))+0))+0))+7)) (exec t5 env) (st H4 k4 w os) (st H5 k5 w os) .next p5 :=
 acC (d:=d5) (s1:=⟨(H4 w.params).push { cls:=.type "dict",data:=.dict #[] },#[],drawn,k4,os⟩) (s2:=st K3 Qo w os) (s3:=st agw Z9 w os) (vs:=vs5) rfl rfl (Nat.le_of_ble_eq_true (by kernel_rfl)) (JL (by kernel_rfl)) (fun K H gd lv pos=>⟨pos,1,C' _,by kernel_rfl⟩) (fun K H gd lv pos=>⟨dp5,24,C' _,by kernel_rfl⟩) (C5 w os) (fun K H gd lv pos=>⟨7,C' _,by kernel_rfl⟩)
theorem g5 (w:World)(os:OsState):segRun treeTable pr w m0 ann 1 299 (st H4 k4 w os) (pieceOf t5 env cE p4 fr)=some (.next,st H5 k5 w os,cE,p5):=(R5 w os).piece
theorem g6 (w:World)(os:OsState):segRun treeTable pr w m0 ann 1 n6 (st H5 k5 w os) (piecesOf s6 env cE p5 fr)=some (.next,st H6 k6 w os,cE,p6):=kC (P:=fun w=>segRun treeTable pr w m0 ann 1 n6 (st H5 k5 w os) (piecesOf s6 env cE p5 fr)=some (.next,st H6 k6 w os,cE,p6)) (fun w b=>by cases b <;> kernel_rfl) w
theorem g7 (w:World)(os:OsState):segRun treeTable pr w m0 ann 1 n7 (st H6 k6 w os) (piecesOf s7 env cE p6 fr)=some (.next,st H7 k7 w os,cE,p7):=kC (P:=fun w=>segRun treeTable pr w m0 ann 1 n7 (st H6 k6 w os) (piecesOf s7 env cE p6 fr)=some (.next,st H7 k7 w os,cE,p7)) (fun w b=>by cases b <;> kernel_rfl) w
theorem fin (w os):topRun treeTable pr w m0 ann n8 (st H7 k7 w os) ⟨doneF .next,cE,p7,fr⟩=some (st H8 k8 w os):=by kernel_rfl
theorem r7 (w:World)(os:OsState):topRun treeTable pr w m0 ann (n7+n8) (st H6 k6 w os) (restOf (s7++[]) env cE p6 fr)=some (st H8 k8 w os):=piece_app (tb:=treeTable) (p:=pr) (w:=w) (n₀:=m0) (ann:=ann) (env:=env) (q:=eG) (n:=n7) (N:=n8) (s:=(st H6 k6 w os)) (s':=(st H7 k7 w os)) (r:=(st H8 k8 w os)) (l:=s7) (rest:=[]) (c:=cE) (pos:=p6) (p':=p7) (g7 w os) (piece_nil (fin w os))
theorem r6 (w:World)(os:OsState):topRun treeTable pr w m0 ann (n6+(n7+n8)) (st H5 k5 w os) (restOf (s6++(s7++[])) env cE p5 fr)=some (st H8 k8 w os):=piece_app (tb:=treeTable) (p:=pr) (w:=w) (n₀:=m0) (ann:=ann) (env:=env) (q:=eG) (n:=n6) (N:=(n7+n8)) (s:=(st H5 k5 w os)) (s':=(st H6 k6 w os)) (r:=(st H8 k8 w os)) (l:=s6) (rest:=(s7++[])) (c:=cE) (pos:=p5) (p':=p6) (g6 w os) (r7 w os)
theorem r5 (w:World)(os:OsState):topRun treeTable pr w m0 ann (299+(n6+(n7+n8))) (st H4 k4 w os) (restOf (t5::(s6++(s7++[]))) env cE p4 fr)=some (st H8 k8 w os):=piece_cons (tb:=treeTable) (p:=pr) (w:=w) (n₀:=m0) (ann:=ann) (env:=env) (q:=eG) (n:=299) (N:=(n6+(n7+n8))) (s:=(st H4 k4 w os)) (s':=(st H5 k5 w os)) (r:=(st H8 k8 w os)) (st:=t5) (rest:=(s6++(s7++[]))) (c:=cE) (pos:=p4) (p':=p5) (g5 w os) (r6 w os)
theorem r4 (w:World)(os:OsState):topRun treeTable pr w m0 ann (1405+(299+(n6+(n7+n8)))) (st H3 k3 w os) (restOf (t4::(t5::(s6++(s7++[])))) env cE p3 fr)=some (st H8 k8 w os):=piece_cons (tb:=treeTable) (p:=pr) (w:=w) (n₀:=m0) (ann:=ann) (env:=env) (q:=eG) (n:=1405) (N:=(299+(n6+(n7+n8)))) (s:=(st H3 k3 w os)) (s':=(st H4 k4 w os)) (r:=(st H8 k8 w os)) (st:=t4) (rest:=(t5::(s6++(s7++[])))) (c:=cE) (pos:=p3) (p':=p4) (g4 w os) (r5 w os)
theorem r3 (w:World)(os:OsState):topRun treeTable pr w m0 ann (n3+(1405+(299+(n6+(n7+n8))))) (st H2 k2 w os) (restOf (s3++(t4::(t5::(s6++(s7++[]))))) env cE p2 fr)=some (st H8 k8 w os):=piece_app (tb:=treeTable) (p:=pr) (w:=w) (n₀:=m0) (ann:=ann) (env:=env) (q:=eG) (n:=n3) (N:=(1405+(299+(n6+(n7+n8))))) (s:=(st H2 k2 w os)) (s':=(st H3 k3 w os)) (r:=(st H8 k8 w os)) (l:=s3) (rest:=(t4::(t5::(s6++(s7++[]))))) (c:=cE) (pos:=p2) (p':=p3) (g3 w os) (r4 w os)
theorem hb:pr.main.body=(s3++(t4::(t5::(s6++(s7++[]))))):=by kernel_rfl
theorem r2 (w:World)(os:OsState):topRun treeTable pr w m0 ann (n2+(n3+(1405+(299+(n6+(n7+n8)))))) (st H1 k1 w os) ⟨denote treeTable cE,cE,p1,fr⟩=some (st H8 k8 w os):=piece_block (tb:=treeTable) (p:=pr) (w:=w) (n₀:=m0) (ann:=ann) (env:=env) (q:=eG) (n:=n2) (N:=(n3+(1405+(299+(n6+(n7+n8)))))) (s:=(st H1 k1 w os)) (s':=(st H2 k2 w os)) (r:=(st H8 k8 w os)) (b:=pr.main.body) (c:=cE) (pos:=p1) (p':=p2) (blk w os) ((congrArg (fun l=>topRun treeTable pr w m0 ann (n3+(1405+(299+(n6+(n7+n8))))) (st H2 k2 w os) (restOf l env cE p2 fr)) hb).trans (r3 w os))
theorem r1 (w:World)(os:OsState):topRun treeTable pr w m0 ann (n1+(n2+(n3+(1405+(299+(n6+(n7+n8))))))) ⟨boot_heap w.params,Array.mk [],boot_drawn,boot_toks,os⟩ (topStub pr)=some (st H8 k8 w os):=go_top (tb:=treeTable) (p:=pr) (w:=w) (n₀:=m0) (ann:=ann) (n:=n1) (N:=n2+(n3+(1405+(299+(n6+(n7+n8)))))) (s:=⟨boot_heap w.params,Array.mk [],boot_drawn,boot_toks,os⟩) (s':=(st H1 k1 w os)) (r:=(st H8 k8 w os)) (t:=topStub pr) (t':=⟨denote treeTable cE,cE,p1,fr⟩) (pre w os) (r2 w os)
noncomputable def view:Program:={ pr with main:={ pr.main with body:=[tp 1,tp 2,tp 3,tp 4,tp 5,tp 6,tp 8,tp 9,tp 10,tp 12,tp 13,tp 14,tp 15,tp 16,tp 17,tp 18,tp 19,tp 20,tp 21,tp 22,tp 24,tp 25,tp 26,tp 27,tp 28,tp 29,tp 30,tp 31,tp 32,tp 33,tp 35,tp 36,tp 37,tp 38,tp 39,tp 40,tp 42,tp 43,tp 44,tp 45,tp 46,tp 49,tp 50,tp 51,tp 52,tp 53,tp 56,tp 57,tp 58,tp 59,tp 60,tp 61,tp 62,tp 63,tp 64,tp 65,tp 66,tp 67,tp 68,tp 69,tp 70,tp 71,tp 72,tp 73,tp 74,tp 75,tp 76,tp 77,tp 78,tp 79,tp 80,tp 81] } }
noncomputable def loose:List PySem.Str:=["NEXT_COUNTS","TWOFOLD_STEPS","GREAT_STEPS","begin_state","written","holds"]
noncomputable def agx:Addr:=207
noncomputable def adX (P:Params):Frag:=(nat_lit 207,Mx P)::frg P
noncomputable def alU:List Addr:=207::adr
theorem fit (P:Params):alU=(adX P).map (·.1):=by kernel_rfl
noncomputable abbrev hook:Hook:=kHook adX alU fit
theorem ah2 (P:Params):(frg P).lookup agx=none:=by kernel_rfl
theorem alV (P:Params)(a:Addr)(o:Obj)(h:(frg P).lookup a=some o):(adX P).lookup a=some o:=by
 unfold adX;rw[List.lookup_cons];cases e:a==(nat_lit 207) with
 |false=>exact h
 |true=>rw[eq_of_beq e]at h;exact absurd ((ah2 P).symm.trans h) (fun z=>nomatch z)
theorem aoL (P:Params)(h:Heap)(X:(frg P).In h):CodeHd h 209 agx:=⟨zY P,_,_,_,_,_,_,_,_,X 209 (zY P) (by kernel_rfl),rfl,rfl,rfl,rfl,rfl,rfl,rfl,rfl,by decide⟩
theorem aoM {P:Params}{h:Heap}{mg:PySem.Str->Option Value}(X:(frg P).In h)(G:h.Ns mainGlobals mg):L2.Qa (frg P) mg (.ref 209) agx:=⟨209,rfl,aoL P,4,boot_o_4 P,mg_of X G (by kernel_rfl),by decide,by kernel_rfl,by kernel_rfl,by kernel_rfl,by kernel_rfl⟩
noncomputable def fuel:Nat:=5308
end Hd
end
namespace mi
open PySem L2
def top (i:Nat):Stmt:=PySem.Challenge.pw_noteworth_k28_papers_told.main.body.getD i (.Pass ⟨0,0,0,0⟩)
abbrev lO:Stmt:=top 61
abbrev jM:Stmt:=top 69
abbrev oO:Stmt:=top 62
abbrev lP:Stmt:=top 63
abbrev uZ:Stmt:=top 64
abbrev oP:Stmt:=top 65
abbrev jN:Stmt:=top 66
abbrev jO:Stmt:=top 67
abbrev gM:Stmt:=top 9
abbrev u0:Stmt:=top 5
abbrev lQ:Stmt:=top 6
abbrev bF:Stmt:=top 29
abbrev oQ:Stmt:=top 27
abbrev cQ:Stmt:=top 28
abbrev gO:Stmt:=top 30
abbrev dY:Stmt:=top 26
abbrev iL:Stmt:=top 32
abbrev gQ:Stmt:=top 33
abbrev dZ:Stmt:=top 31
abbrev zZ:Stmt:=top 24
abbrev u3:Stmt:=top 37
abbrev dz:Stmt:=top 38
abbrev d8:Stmt:=top 43
abbrev bS:Stmt:=top 44
abbrev u4:Stmt:=top 46
abbrev fk:Stmt:=top 23
abbrev d9:Stmt:=top 39
abbrev gR:Stmt:=top 40
abbrev iM:Stmt:=top 45
abbrev z0:Stmt:=top 25
abbrev lR:Stmt:=top 47
abbrev iN:Stmt:=top 56
abbrev lT:Stmt:=top 57
abbrev bO:Stmt:=top 68
abbrev jP:Stmt:=top 73
abbrev jQ:Stmt:=top 77
abbrev iO:Stmt:=top 76
abbrev oR:Stmt:=top 70
abbrev gS:Stmt:=top 71
abbrev iP:Stmt:=top 72
abbrev lU:Stmt:=top 75
abbrev oS:Stmt:=top 74
abbrev lV:Stmt:=top 78
abbrev oT:Stmt:=top 22
abbrev dA:Stmt:=top 53
abbrev oU:Stmt:=top 50
abbrev cg:Stmt:=top 52
abbrev bG:Stmt:=top 51
abbrev ed:Stmt:=top 49
abbrev u5:Stmt:=top 54
abbrev iQ:Stmt:=top 59
abbrev iR:Stmt:=top 58
abbrev oV:Stmt:=top 60
abbrev lW:Stmt:=top 79
abbrev lX:Stmt:=top 80
abbrev JX:Stmt:=top 81
theorem VQ:aH ["_law_cell"] ["_law_cell"] (ae lO):=⟨rfl,rfl,rfl,by lk,rfl,by lk,by lk⟩
theorem oe:aH ["_law_cell","_law_told","_law_k"] ["_law_cell"] (ae jM):=⟨rfl,rfl,rfl,by lk,rfl,by lk,by lk⟩
theorem lY:aH ["_law_line_here","_law_begin_here","_law_told","_law_now","_law_at","_law_kind"] ["_law_line_here","_law_begin_here"] (ae oO):=⟨rfl,rfl,rfl,by lk,rfl,by lk,by lk⟩
theorem mq:aH ["_law_line_here","_law_begin_here","_law_told","_law_now","_law_sign"] ["_law_line_here","_law_begin_here"] (ae lP):=⟨rfl,rfl,rfl,by lk,rfl,by lk,by lk⟩
theorem oW:aH ["_law_line_here","_law_told","_law_low","_law_high","_law_rest","_law_behind","_law_after","_law_left","_law_right"] ["_law_line_here","_law_told","_law_low","_law_high"] (ae uZ):=⟨rfl,rfl,rfl,by lk,rfl,by lk,by lk⟩
theorem iS:aH ["_law_line_here","_law_begin_here","_law_told","_law_three_here","_law_left","_law_low","_law_high"] ["_law_line_here","_law_begin_here"] (ae oP):=⟨rfl,rfl,rfl,by lk,rfl,by lk,by lk⟩
theorem iT:aH ["_law_line_here","_law_begin_here","_law_k","_law_found","_law_low","_law_high"] ["_law_line_here","_law_begin_here"] (ae jN):=⟨rfl,rfl,rfl,by lk,rfl,by lk,by lk⟩
theorem og:aH ["_law_line_here","_law_begin_here","_law_told","_law_sign","_law_worth"] ["_law_line_here","_law_begin_here"] (ae jO):=⟨rfl,rfl,rfl,by lk,rfl,by lk,by lk⟩
theorem kr:aH ["sign","prices","dot","dark","measure"] ["sign","prices"] (ae gM):=⟨rfl,rfl,rfl,by lk,rfl,by lk,by lk⟩
theorem adY:aH ["sign"] ["sign"] (ae u0):=⟨rfl,rfl,rfl,by lk,rfl,by lk,by lk⟩
theorem VR:aH ["sign"] ["sign"] (ae lQ):=⟨rfl,rfl,rfl,by lk,rfl,by lk,by lk⟩
theorem oX:aH ["state"] ["state"] (ae bF):=⟨rfl,rfl,rfl,by lk,rfl,by lk,by lk⟩
theorem JY:aH ["state","left","count"] ["state"] (ae oQ):=⟨rfl,rfl,rfl,by lk,rfl,by lk,by lk⟩
theorem vK:aH ["state"] ["state"] (ae cQ):=⟨rfl,rfl,rfl,by lk,rfl,by lk,by lk⟩
theorem HU:aH ["state","kind","worth"] ["state","kind","worth"] (ae gO):=⟨rfl,rfl,rfl,by lk,rfl,by lk,by lk⟩
theorem Ci:aH ["state","kind","worth"] ["state","kind","worth"] (ae dY):=⟨rfl,rfl,rfl,by lk,rfl,by lk,by lk⟩
theorem Nu:aH ["kind","count","worth"] ["kind","count","worth"] (ae iL):=⟨rfl,rfl,rfl,by lk,rfl,by lk,by lk⟩
theorem ky:aH ["state","kind","worth","count","last","left"] ["state","kind","worth"] (ae gQ):=⟨rfl,rfl,rfl,by lk,rfl,by lk,by lk⟩
theorem Cj:aH ["state","kind","worth"] ["state","kind","worth"] (ae dZ):=⟨rfl,rfl,rfl,by lk,rfl,by lk,by lk⟩
theorem agy:aH ["state","sign","worth"] ["state","sign","worth"] (ae zZ):=⟨rfl,rfl,rfl,by lk,rfl,by lk,by lk⟩
theorem sR:aH ["state","signs","worth","prices","found","sign","cost","to"] ["state","signs","worth","prices"] (ae u3):=⟨rfl,rfl,rfl,by lk,rfl,by lk,by lk⟩
theorem z6:aH ["state","prices"] ["state","prices"] (ae dz):=⟨rfl,rfl,rfl,by lk,rfl,by lk,by lk⟩
theorem Ck:aH ["ways","state","cost","line"] ["ways","state","cost","line"] (ae d8):=⟨rfl,rfl,rfl,by lk,rfl,by lk,by lk⟩
theorem a6:aH ["ways","prices","found","again","state","cost","line","sign","more","to"] ["ways","prices"] (ae bS):=⟨rfl,rfl,rfl,by lk,rfl,by lk,by lk⟩
theorem adZ:aH ["ways"] ["ways"] (ae u4):=⟨rfl,rfl,rfl,by lk,rfl,by lk,by lk⟩
theorem Fy:aH ["begin"] ["begin"] (ae fk):=⟨rfl,rfl,rfl,by lk,rfl,by lk,by lk⟩
theorem Cm:aH ["tone"] ["tone"] (ae d9):=⟨rfl,rfl,rfl,by lk,rfl,by lk,by lk⟩
theorem ow:aH ["state","wish","prices","tone","worth"] ["state","wish","prices"] (ae gR):=⟨rfl,rfl,rfl,by lk,rfl,by lk,by lk⟩
theorem dF:aH ["ways","wish","prices","found","state","cost","line","sign","more","to"] ["ways","wish","prices"] (ae iM):=⟨rfl,rfl,rfl,by lk,rfl,by lk,by lk⟩
theorem agz:aH ["state"] ["state"] (ae z0):=⟨rfl,rfl,rfl,by lk,rfl,by lk,by lk⟩
theorem gq:aH ["wishes","prices","begin","ways","paper","wish","endings","cost","line"] ["wishes","prices","begin"] (ae lR):=⟨rfl,rfl,rfl,by lk,rfl,by lk,by lk⟩
theorem Nv:aH ["_law_script","_law_k"] ["_law_script","_law_k"] (ae iN):=⟨rfl,rfl,rfl,by lk,rfl,by lk,by lk⟩
theorem vL:aH ["_law_seed","_law_k","_law_one","_law_two"] ["_law_seed","_law_k"] (ae lT):=⟨rfl,rfl,rfl,by lk,rfl,by lk,by lk⟩
theorem dB:aH ["_law_script","_law_at","_law_many","_law_told","_law_k","_law_number","_law_worth","_law_tone"] ["_law_script","_law_at","_law_many"] (ae bO):=⟨rfl,rfl,rfl,by lk,rfl,by lk,by lk⟩
theorem oh:aH ["_law_told","_law_left","_law_tail"] [] (ae jP):=⟨rfl,rfl,rfl,by lk,rfl,by lk,by lk⟩
theorem gr:aH ["_law_paper_here","_law_known","_law_tables_here","_law_row","_law_table","_law_state","_law_number"] ["_law_paper_here"] (ae jQ):=⟨rfl,rfl,rfl,by lk,rfl,by lk,by lk⟩
theorem qw:aH ["_law_number","_law_moves_here","_law_table","_law_onto","_law_cost"] ["_law_number","_law_moves_here","_law_table"] (ae iO):=⟨rfl,rfl,rfl,by lk,rfl,by lk,by lk⟩
theorem JZ:aH ["_law_state","_law_kind","_law_worth","_law_short"] ["_law_state","_law_kind","_law_worth"] (ae oR):=⟨rfl,rfl,rfl,by lk,rfl,by lk,by lk⟩
theorem HV:aH ["_law_state","_law_kind","_law_worth"] ["_law_state","_law_kind","_law_worth"] (ae gS):=⟨rfl,rfl,rfl,by lk,rfl,by lk,by lk⟩
theorem lI:aH ["_law_state","_law_kind","_law_worth","_law_left","_law_count","_law_shut_here"] ["_law_state","_law_kind","_law_worth"] (ae iP):=⟨rfl,rfl,rfl,by lk,rfl,by lk,by lk⟩
theorem eI:aH ["_law_state","_law_wish","_law_prices_here","_law_told","_law_menu","_law_kind","_law_worth","_law_cost","_law_onto"] ["_law_state","_law_wish","_law_prices_here"] (ae lU):=⟨rfl,rfl,rfl,by lk,rfl,by lk,by lk⟩
theorem aaa:aH ["_law_state"] ["_law_state"] (ae oS):=⟨rfl,rfl,rfl,by lk,rfl,by lk,by lk⟩
theorem jR:aH ["_law_wishes_here","_law_prices_here","_law_bound","_law_paper_here","_law_begin_here","_law_tables_here","_law_first","_law_k","_law_state","_law_number"] ["_law_wishes_here","_law_prices_here","_law_bound","_law_paper_here","_law_begin_here"] (ae lV):=⟨rfl,rfl,rfl,by lk,rfl,by lk,by lk⟩
theorem u6:aH ["found","left","run"] [] (ae oT):=⟨rfl,rfl,rfl,by lk,rfl,by lk,by lk⟩
theorem oY:aH ["numbers","bound","last"] ["numbers","bound"] (ae dA):=⟨rfl,rfl,rfl,by lk,rfl,by lk,by lk⟩
theorem aab:aH ["numbers","state","most"] ["numbers","state","most"] (ae oU):=⟨rfl,rfl,rfl,by lk,rfl,by lk,by lk⟩
theorem bU:aH ["numbers","following","wish","prices","state","number","sign","cost","to"] ["numbers","following","wish","prices"] (ae cg):=⟨rfl,rfl,rfl,by lk,rfl,by lk,by lk⟩
theorem bD:aH ["numbers","prices","state","number","sign","cost","to"] ["numbers","prices"] (ae bG):=⟨rfl,rfl,rfl,by lk,rfl,by lk,by lk⟩
theorem rC:aH ["pairs","known","named"] ["pairs","known"] (ae ed):=⟨rfl,rfl,rfl,by lk,rfl,by lk,by lk⟩
theorem sS:aH ["wishes","prices","bound","paper","begin","known","lists","at","wish"] ["wishes","prices","bound","paper","begin"] (ae u5):=⟨rfl,rfl,rfl,by lk,rfl,by lk,by lk⟩
theorem xM:aH ["_law_number","_law_kind"] ["_law_number"] (ae iQ):=⟨rfl,rfl,rfl,by lk,rfl,by lk,by lk⟩
theorem i6:aH ["_law_script","_law_at","_law_many","_law_seed","_law_left","_law_row"] ["_law_script","_law_at","_law_many"] (ae iR):=⟨rfl,rfl,rfl,by lk,rfl,by lk,by lk⟩
theorem aac:aH ["_law_script","_law_at","_law_many"] ["_law_script","_law_at","_law_many"] (ae oV):=⟨rfl,rfl,rfl,by lk,rfl,by lk,by lk⟩
theorem VS:aH ["_law_found"] ["_law_found"] (ae lW):=⟨rfl,rfl,rfl,by lk,rfl,by lk,by lk⟩
theorem vM:aH ["_law_paper_here","_law_row","_law_pair"] ["_law_paper_here"] (ae lX):=⟨rfl,rfl,rfl,by lk,rfl,by lk,by lk⟩
theorem sU:aH ["_law_script","_law_begin_here","_law_costs","_law_size","_law_line_here","_law_wishes_here","_law_found"] ["_law_script"] (ae JX):=⟨rfl,rfl,rfl,by lk,rfl,by lk,by lk⟩
theorem vN:(["state","cost","line","ways"]:List Str).Nodup:=by lk
theorem xN:(["kind","tone"]:List Str).Nodup:=by lk
theorem xO:(["state","way","wishes","prices","begin","ways","paper","wish","endings","cost","line"]:List Str).Nodup:=by lk
theorem mr:(["state","number","numbers","bound","last"]:List Str).Nodup:=by lk
theorem vO:(["number","numbers","bound","last"]:List Str).Nodup:=by lk
theorem oi:(["state","number","pairs","known","named"]:List Str).Nodup:=by lk
theorem xP:(["state","pairs","known","named"]:List Str).Nodup:=by lk
theorem Fz:(["pairs","wishes","prices","bound","paper","begin","known","lists","at","wish"]:List Str).Nodup:=by lk
theorem FA:(["state","number","pairs","wishes","prices","bound","paper","begin","known","lists","at","wish"]:List Str).Nodup:=by lk
theorem VT:(["numbers","wishes","prices","bound","paper","begin","known","lists","at","wish"]:List Str).Nodup:=by lk
theorem Cn:(["_law_k","_law_script","_law_at","_law_many","_law_seed","_law_left","_law_row"]:List Str).Nodup:=by lk
theorem Nw:(["_law_number","_law_script","_law_at","_law_many"]:List Str).Nodup:=by lk
def HW:List (Str×Pos):=[("0o",⟨350,26,350,30⟩),("0s",⟨350,32,350,36⟩),("1o",⟨350,38,350,42⟩),("1s",⟨350,44,350,48⟩),("2S",⟨350,50,350,54⟩),("2o",⟨350,56,350,60⟩),("2s",⟨350,62,350,66⟩)]
def dG:List (Int×Pos):=[(1,⟨290,22,290,23⟩),(2,⟨290,25,290,26⟩),(1,⟨290,28,290,29⟩),(3,⟨290,31,290,32⟩),(1,⟨290,34,290,35⟩),(2,⟨290,37,290,38⟩),(2,⟨290,40,290,41⟩)]
set_option genInjectivity false in
set_option genSizeOf false in
structure Adr where
 jS:Addr
 z7:FuncData
 iy:Addr
 vP:FuncData
 mw:Addr
 FC:FuncData
 jT:Addr
 z8:FuncData
 qx:Addr
 Nx:FuncData
 mx:Addr
 FD:FuncData
 iz:Addr
 vQ:FuncData
 iA:Addr
 vR:FuncData
 eJ:Addr
 qy:FuncData
 qz:Addr
 Ny:FuncData
 jU:Addr
 z9:FuncData
 bp:Addr
 eK:FuncData
 my:Addr
 FE:FuncData
 b8:Addr
 i7:FuncData
 eL:Addr
 qA:FuncData
 dk:Addr
 mz:FuncData
 gu:Addr
 sV:FuncData
 eM:Addr
 qB:FuncData
 dm:Addr
 mB:FuncData
 vS:Addr
 VU:FuncData
 qC:Addr
 Nz:FuncData
 cV:Addr
 kS:FuncData
 dn:Addr
 mC:FuncData
 bE:Addr
 gv:FuncData
 qD:Addr
 NA:FuncData
 dQ:Addr
 kz:FuncData
 i8:Addr
 fh:Tok
 dq:Addr
 mD:FuncData
 eN:Addr
 qE:FuncData
 gw:Addr
 sW:FuncData
 vT:Addr
 VW:FuncData
 jV:Addr
 oZ:FuncData
 qF:Addr
 kH:Tok
 gx:Addr
 sX:FuncData
 jW:Addr
 Aa:FuncData
 dr:Addr
 mE:FuncData
 iB:Addr
 vU:FuncData
 iC:Addr
 vV:FuncData
 gy:Addr
 sY:FuncData
 mF:Addr
 FF:FuncData
 eO:Addr
 qG:FuncData
 gz:Addr
 sZ:FuncData
 jX:Addr
 Ab:FuncData
 mG:Addr
 FG:FuncData
 jY:Addr
 Ac:FuncData
 mH:Addr
 FH:FuncData
 cW:Addr
 kT:FuncData
 mI:Addr
 FI:FuncData
 bL:Addr
 hV:FuncData
 bq:Addr
 eP:FuncData
 du:Addr
 mJ:FuncData
 qH:Addr
 EL:FuncData
 xQ:Addr
 o3:Tok
 gA:Addr
 tf:FuncData
 gB:Addr
 tj:FuncData
 mK:Addr
 FJ:FuncData
 jZ:Addr
 Ad:FuncData
 j0:Addr
 Ae:FuncData
 FK:Addr
 ad0:FuncData
 dR:Addr
 cX:Addr
 cY:Addr
 cI:Addr
 eQ:Addr
 oj:Tok
 bH:Addr
 ir:Tok
 fF:Tok
 dc:Tok
 xR:Tok
 cZ:Addr
 c5:Addr
 df:Addr
 cj:Addr
 dg:Addr
 c6:Addr
 cR:Addr
 cS:Addr
 cT:Addr
 eR:Addr
 ef:Addr
 ei:Addr
 dH:Tok
 xS:Addr
structure Txt (K:Frag)(w:World)(mg:Str->Option Value)(t:Adr):Prop where
 o4:jA K "_law_begin" "_law_begin" lO t.jS t.z7
 Af:Binds K t.z7 ["_law_cell"] []
 VX:mg "_law_begin"=some (.ref t.jS)
 mL:jA K "_law_prices" "_law_prices" jM t.iy t.vP
 vW:Binds K t.vP ["_law_cell"] []
 Qp:mg "_law_prices"=some (.ref t.iy)
 tu:jA K "_law_base" "_law_base" oO t.mw t.FC
 FL:Binds K t.FC ["_law_line_here","_law_begin_here"] []
 aad:mg "_law_base"=some (.ref t.mw)
 o5:jA K "_law_three" "_law_three" lP t.jT t.z8
 Ag:Binds K t.z8 ["_law_line_here","_law_begin_here"] []
 VY:mg "_law_three"=some (.ref t.jT)
 xT:jA K "_law_run" "_law_run" uZ t.qx t.Nx
 NB:Binds K t.Nx ["_law_line_here","_law_told","_law_low","_law_high"] []
 ad1:mg "_law_run"=some (.ref t.qx)
 o6:jA K "_law_read" "_law_read" oP t.mx t.FD
 xU:Binds K t.FD ["_law_line_here","_law_begin_here"] []
 J0:mg "_law_read"=some (.ref t.mx)
 mM:jA K "_law_firmed" "_law_firmed" jN t.iz t.vQ
 vX:Binds K t.vQ ["_law_line_here","_law_begin_here"] []
 Qq:mg "_law_firmed"=some (.ref t.iz)
 mN:jA K "_law_wishes" "_law_wishes" jO t.iA t.vR
 vY:Binds K t.vR ["_law_line_here","_law_begin_here"] []
 Qr:mg "_law_wishes"=some (.ref t.iA)
 i9:jA K "sign_price" "sign_price" gM t.eJ t.qy
 qI:Binds K t.qy ["sign","prices"] []
 HX:mg "sign_price"=some (.ref t.eJ)
 xV:jA K "small" "small" u0 t.qz t.Ny
 NC:Binds K t.Ny ["sign"] []
 ad2:mg "small"=some (.ref t.qz)
 o7:jA K "parting" "parting" lQ t.jU t.z9
 Ah:Binds K t.z9 ["sign"] []
 VZ:mg "parting"=some (.ref t.jU)
 b9:jA K "closes_by_right_note" "closes_by_right_note" bF t.bp t.eK
 eS:Binds K t.eK ["state"] []
 o8:mg "closes_by_right_note"=some (.ref t.bp)
 mO:jA K "closes" "closes" oQ t.my t.FE
 tw:Binds K t.FE ["state"] []
 Ai:mg "closes"=some (.ref t.my)
 dJ:jA K "closes_by_great" "closes_by_great" cQ t.b8 t.i7
 ja:Binds K t.i7 ["state"] []
 vZ:mg "closes_by_great"=some (.ref t.b8)
 jb:jA K "great_step" "great_step" gO t.eL t.qA
 qJ:Binds K t.qA ["state","kind","worth"] []
 HY:mg "great_step"=some (.ref t.eL)
 gC:jA K "twofold_step" "twofold_step" dY t.dk t.mz
 mP:Binds K t.mz ["state","kind","worth"] []
 Co:mg "twofold_step"=some (.ref t.dk)
 kI:jA K "told_last" "told_last" iL t.gu t.sV
 tD:Binds K t.sV ["kind","count","worth"] []
 ND:mg "told_last"=some (.ref t.gu)
 jc:jA K "small_step" "small_step" gQ t.eM t.qB
 qK:Binds K t.qB ["state","kind","worth"] []
 HZ:mg "small_step"=some (.ref t.eM)
 gD:jA K "parting_step" "parting_step" dZ t.dm t.mB
 mQ:Binds K t.mB ["state","kind","worth"] []
 Cp:mg "parting_step"=some (.ref t.dm)
 FN:jA K "step" "step" zZ t.vS t.VU
 V0:Binds K t.VU ["state","sign","worth"] []
 agA:mg "step"=some (.ref t.vS)
 u7:jA K "moves" "moves" u3 t.qC t.Nz
 EM:Binds K t.Nz ["state","signs","worth","prices"] []
 Qs:mg "moves"=some (.ref t.qC)
 dC:jA K "parting_moves" "parting_moves" dz t.cV t.kS
 iu:Binds K t.kS ["state","prices"] []
 o9:mg "parting_moves"=some (.ref t.cV)
 ej:jA K "keep_cheaper" "keep_cheaper" d8 t.dn t.mC
 jd:Binds K t.mC ["ways","state","cost","line"] []
 rD:mg "keep_cheaper"=some (.ref t.dn)
 bV:jA K "with_parting_signs" "with_parting_signs" bS t.bE t.gv
 dM:Binds K t.gv ["ways","prices"] []
 jD:mg "with_parting_signs"=some (.ref t.bE)
 u9:jA K "costs" "costs" u4 t.qD t.NA
 EN:Binds K t.NA ["ways"] []
 Qt:mg "costs"=some (.ref t.qD)
 dS:Hw K "begin_state" "begin_state" fk t.dQ t.kz (.ref t.i8)
 tE:Binds K t.kz ["begin"] [.int 3 t.fh]
 kA:Binds K t.kz ["begin"] []
 tG:mg "begin_state"=some (.ref t.dQ)
 gE:jA K "wished_signs" "wished_signs" d9 t.dq t.mD
 mR:Binds K t.mD ["tone"] []
 Cq:mg "wished_signs"=some (.ref t.dq)
 gT:jA K "wish_moves" "wish_moves" gR t.eN t.qE
 lJ:Binds K t.qE ["state","wish","prices"] []
 vp:mg "wish_moves"=some (.ref t.eN)
 kJ:jA K "with_wish" "with_wish" iM t.gw t.sW
 tH:Binds K t.sW ["ways","wish","prices"] []
 NF:mg "with_wish"=some (.ref t.gw)
 Aj:jA K "ends" "ends" z0 t.vT t.VW
 NG:Binds K t.VW ["state"] []
 Y5:mg "ends"=some (.ref t.vT)
 lZ:Hw K "written" "written" lR t.jV t.oZ (.ref t.qF)
 FO:Binds K t.oZ ["wishes","prices","begin"] [.int 3 t.kH]
 Ak:Binds K t.oZ ["wishes","prices","begin"] []
 V1:mg "written"=some (.ref t.jV)
 bN:jA K "_law_cell_at" "_law_cell_at" iN t.gx t.sX
 ck:Binds K t.sX ["_law_script","_law_k"] []
 cL:mg "_law_cell_at"=some (.ref t.gx)
 j1:jA K "_law_mixed" "_law_mixed" lT t.jW t.Aa
 pb:Binds K t.Aa ["_law_seed","_law_k"] []
 v8:mg "_law_mixed"=some (.ref t.jW)
 gF:jA K "_law_any_wishes" "_law_any_wishes" bO t.dr t.mE
 mS:Binds K t.mE ["_law_script","_law_at","_law_many"] []
 Cr:mg "_law_any_wishes"=some (.ref t.dr)
 mT:jA K "_law_states" "_law_states" jP t.iB t.vU
 v9:Binds K t.vU [] []
 Qu:mg "_law_states"=some (.ref t.iB)
 mU:jA K "_law_tables" "_law_tables" jQ t.iC t.vV
 wa:Binds K t.vV ["_law_paper_here"] []
 Qv:mg "_law_tables"=some (.ref t.iC)
 iU:jA K "_law_carried" "_law_carried" iO t.gy t.sY
 om:Binds K t.sY ["_law_number","_law_moves_here","_law_table"] []
 xW:mg "_law_carried"=some (.ref t.gy)
 tI:jA K "_law_shut" "_law_shut" oR t.mF t.FF
 FP:Binds K t.FF ["_law_state","_law_kind","_law_worth"] []
 aae:mg "_law_shut"=some (.ref t.mF)
 je:jA K "_law_step_two" "_law_step_two" gS t.eO t.qG
 qL:Binds K t.qG ["_law_state","_law_kind","_law_worth"] []
 Ia:mg "_law_step_two"=some (.ref t.eO)
 kK:jA K "_law_step_by" "_law_step_by" iP t.gz t.sZ
 tK:Binds K t.sZ ["_law_state","_law_kind","_law_worth"] []
 NH:mg "_law_step_by"=some (.ref t.gz)
 l5:jA K "_law_moves" "_law_moves" lU t.jX t.Ab
 va:Binds K t.Ab ["_law_state","_law_wish","_law_prices_here"] []
 FQ:mg "_law_moves"=some (.ref t.jX)
 tL:jA K "_law_ends" "_law_ends" oS t.mG t.FG
 FR:Binds K t.FG ["_law_state"] []
 aaf:mg "_law_ends"=some (.ref t.mG)
 pd:jA K "_law_holds" "_law_holds" lV t.jY t.Ac
 Al:Binds K t.Ac ["_law_wishes_here","_law_prices_here","_law_bound","_law_paper_here","_law_begin_here"] []
 V2:mg "_law_holds"=some (.ref t.jY)
 tM:jA K "states" "states" oT t.mH t.FH
 FT:Binds K t.FH [] []
 aag:mg "states"=some (.ref t.mH)
 fi:jA K "reaches_bound" "reaches_bound" dA t.cW t.kT
 kU:Binds K t.kT ["numbers","bound"] []
 Am:mg "reaches_bound"=some (.ref t.cW)
 mV:jA K "bounds" "bounds" oU t.mI t.FI
 tN:Binds K t.FI ["numbers","state","most"] []
 An:mg "bounds"=some (.ref t.mI)
 c7:jA K "bounds_wish_moves" "bounds_wish_moves" cg t.bL t.hV
 hX:Binds K t.hV ["numbers","following","wish","prices"] []
 tO:mg "bounds_wish_moves"=some (.ref t.bL)
 cf:jA K "bounds_parting_moves" "bounds_parting_moves" bG t.bq t.eP
 eT:Binds K t.eP ["numbers","prices"] []
 pe:mg "bounds_parting_moves"=some (.ref t.bq)
 gG:jA K "names_states" "names_states" ed t.du t.mJ
 mW:Binds K t.mJ ["pairs","known"] []
 Cs:mg "names_states"=some (.ref t.du)
 qM:Hw K "holds" "holds" u5 t.qH t.EL (.ref t.xQ)
 FU:Binds K t.EL ["wishes","prices","bound","paper","begin"] [.int 3 t.o3]
 NI:Binds K t.EL ["wishes","prices","bound","paper","begin"] []
 Qw:mg "holds"=some (.ref t.qH)
 kL:jA K "_law_sign_by" "_law_sign_by" iQ t.gA t.tf
 tQ:Binds K t.tf ["_law_number"] []
 NJ:mg "_law_sign_by"=some (.ref t.gA)
 kM:jA K "_law_numbers" "_law_numbers" iR t.gB t.tj
 tR:Binds K t.tj ["_law_script","_law_at","_law_many"] []
 NK:mg "_law_numbers"=some (.ref t.gB)
 tS:jA K "_law_line" "_law_line" oV t.mK t.FJ
 FV:Binds K t.FJ ["_law_script","_law_at","_law_many"] []
 aah:mg "_law_line"=some (.ref t.mK)
 pf:jA K "_law_whole" "_law_whole" lW t.jZ t.Ad
 Ao:Binds K t.Ad ["_law_found"] []
 V3:mg "_law_whole"=some (.ref t.jZ)
 ph:jA K "_law_paper" "_law_paper" lX t.j0 t.Ae
 Ap:Binds K t.Ae ["_law_paper_here"] []
 V4:mg "_law_paper"=some (.ref t.j0)
 Y6:jA K "law" "law" JX t.FK t.ad0
 ah3:Binds K t.ad0 ["_law_script"] []
 aoN:mg "law"=some (.ref t.FK)
 NL:mg "all"=none
 agB:mg "bool"=none
 agC:mg "dict"=none
 NM:mg "enumerate"=none
 wb:mg "int"=none
 dU:mg "isinstance"=none
 eU:mg "len"=none
 xX:mg "list"=none
 aju:mg "max"=none
 ad3:mg "min"=none
 mX:mg "range"=none
 ajv:mg "set"=none
 J1:mg "sorted"=none
 ad4:mg "str"=none
 FW:mg "tuple"=none
 ajw:mg "zip"=none
 Ib:mg "SMALL_KINDS"=some (.ref t.dR)
 Ic:∀ H,dh K H t.dR [.str "s",.str "d",.str "r"]
 Ct:mg "PARTING_KINDS"=some (.ref t.cX)
 Cu:∀ H,dh K H t.cX [.str ".",.str "3",.str "2"]
 Cv:mg "MEASURE_KINDS"=some (.ref t.cY)
 Cw:∀ H,dh K H t.cY [.str "3",.str "2"]
 Aq:mg "SOUNDING_KINDS"=some (.ref t.cI)
 pj:∀ H,dh K H t.cI [.str "G",.str "D",.str "s",.str "d"]
 NN:mg "DARK_KINDS"=some (.ref t.eQ)
 NO:∀ H,dh K H t.eQ [.str "D",.str "d"]
 Qx:mg "REST_TONE"=some (.int (-1) t.oj)
 j2:mg "TWOFOLD_STATES"=some (.ref t.bH)
 j3:∀ H,dh K H t.bH [.str "2-",.str "2g",.str "2G"]
 rE:mg "TWOFOLD_BEGIN"=some (.str "2-" t.ir)
 oq:mg "THREEFOLD_BEGIN"=some (.str "3n0-" t.fF)
 eV:mg "SHORTENED_FROM_AHEAD"=some (.str "3t0-" t.dc)
 ad5:mg "NO_RUN"=some (.str "0-" t.xR)
 Cy:mg "RUNS_GOING_ON"=some (.ref t.cZ)
 rF:∀ H,dh K H t.cZ [.str "0s",.str "0o",.str "1s",.str "1o",.str "2s",.str "2S",.str "2o"]
 CA:mg "LEFTS_OF_RUNS"=some (.ref t.c5)
 rG:∀ H,dh K H t.c5 [.str "n",.str "w",.str "h"]
 Ie:mg "NEXT_COUNTS"=some (.ref t.df)
 FX:KD K w t.df [("0",.str "1"),("1",.str "2"),("2",.str "0")]
 CB:mg "TWOFOLD_STEPS"=some (.ref t.cj)
 Ar:KP K w t.cj [(("s",1),.str "2-"),(("d",1),.str "2-"),(("r",1),.str "2-"),(("D",2),.str "2-"),(("R",2),.str "2-"),(("G",2),.str "2g"),(("G",3),.str "2G"),((".",0),.str "2-"),(("2",0),.str "2-"),(("3",0),.str "3n0-")]
 Ig:mg "GREAT_STEPS"=some (.ref t.dg)
 FY:KP K w t.dg [(("G",3),.str "3w0-"),(("G",2),.str "3h0-"),(("D",2),.str "3n0-"),(("R",3),.str "3n0-")]
 CC:mg "PARTING_SIGNS"=some (.ref t.c6)
 CD:∀ H,dh K H t.c6 [.ref t.cR,.ref t.cS,.ref t.cT]
 xY:∀ H,dh K H t.cR [.str ".",.int 0]
 xZ:∀ H,dh K H t.cS [.str "3",.int 0]
 x3:∀ H,dh K H t.cT [.str "2",.int 0]
 NP:mg "REST_SIGNS"=some (.ref t.eR)
 NQ:∀ H,dh K H t.eR [.ref t.ef,.ref t.ei]
 FZ:∀ H,dh K H t.ef [.str "R",.int 0]
 F0:∀ H,dh K H t.ei [.str "r",.int 0]
 tT:mg "MOST_PARTING_SIGNS"=some (.int 2 t.dH)
 lam:Qa K mg t.oZ.code t.xS
def V5:Sp:=fun vs H Q _=>∃ c:Int,vs=[.int c]/\∀ b:Int,(b=3\/b=2)->Q (.int b) H
variable {P:Program} {w:World} {K:Frag} {mg:Str->Option Value} {base:Heap} {t:Adr}
theorem V6 (T:Txt K w mg t):bK P w K mg base ig (0+1) t.jS t.z7 ["_law_cell"] V5:=by
 refine T.o4.ok VQ (fun vs H Q E h=>?_) (fun cdv A outer s H vs Q E hr h=>?_)
 ·obtain⟨_,rfl,_⟩:=h;rfl
 ·obtain⟨c,rfl,q⟩:=h;refine aR (aj (ay (aJ l8 ai (di (lL.or fj) rfl T.wb vF (aa (bf (aL.or (aE (aw hr))) (aJ dv (pv 0) ai) ai (au _)) ao))))) ?_;tm_up;refine .inl (.inr ⟨_,rfl,?_⟩);tm_up;refine q _ ?_
  try dsimp only
  split
  ·exact .inr rfl
  ·exact .inl rfl
def aoO:dN->List V:=fun c=>[fo c.1,fo c.2.1,fo c.2.2]
def Qy:Sp:=fun vs H Q _=>∃ n:Int,vs=[.int n]/\∀(c:dN)(z:Addr)(H':Hp),PrB c->az H H'->H z=none->H' z=some (.tup (aoO c))->Q (.ref z) H'
theorem Qz (T:Txt K w mg t):bK P w K mg base ig (0+1) t.iy t.vP ["_law_cell"] Qy:=by
 refine T.mL.ok oe (fun vs H Q E h=>?_) (fun cdv A outer s H vs Q E hr h=>?_)
 ·obtain⟨_,rfl,_⟩:=h;rfl
 ·obtain⟨n,rfl,q⟩:=h;refine aR (ag (aK (i:=1) oe.nd rfl (Or.inl rfl) (c8 ao)) (ag (bW PassesOwn.never rfl (jG rfl T.mX (aa ai ao)) (aC (i:=2) oe.nd rfl (Or.inl rfl)) (ag (bX (ik plainAttrs_list slot_list_append type_list_append bj (pv 1) (aa (br (bz (ar Jw (aJ dv (pv 0) ai) ai (au _)) bI (aJ (a9.or (aF.or ba)) (aJ dv (pv 0) ai) ai))) ao))) (aj (aK (i:=0) oe.nd rfl (Or.inl rfl) (aJ lH (pv 0) ai))))) (aj (ay (bY (aa (aI aD (pv 1) ai (fun _ _=>rfl)) (aa (aI aD (pv 1) ai (fun _ _=>rfl)) (aa (aI aD (pv 1) ai (fun _ _=>rfl)) ao)))))))) ?_;refine⟨big (by show 0<=1000;omega),fun f hf=>?_⟩;tm_up;refine⟨by decide,by decide,lK (n:=3) (fun i σ H'=>∃(m:Int)(v:Option V)(cs:List (Option Int)),σ=[some (.int m),some (.ref f),v]/\H'=upd H f (.lst (cs.map fo))/\cs.length=i/\∀ o∈cs,∀ n,o=some n->1<=n)
   ⟨n,none,[],rfl,rfl,rfl,fun _ h=>(nomatch h)⟩ ?_ ?_⟩
  ·rintro i σ H' hi ⟨m,v,cs,rfl,rfl,hl,hb⟩;tm_up;refine⟨.inl ⟨rfl,_,aX.of af⟩,?_⟩;refine⟨fun v H2=>(∃ o,v=fo o/\∀ n,o=some n->1<=n)/\H2=upd H f (.lst (cs.map fo)),?_,?_⟩
   ·tm_up;refine aM (fun _=>?_) (fun _=>?_)
    ·exact⟨⟨none,rfl,fun _ z=>(nomatch z)⟩,rfl⟩
    ·tm_up;exact⟨⟨some _,rfl,fun n z=>by cases z;omega⟩,rfl⟩
   ·rintro _ _ ⟨⟨o,rfl,ho⟩,rfl⟩;refine⟨_,_,_,rfl,rfl,af,by rw[O'];exact aS (by omega),?_⟩;tm_up;refine⟨_,_,cs++[o],rfl,by rw[iX,map_append];rfl,by simp[hl],fun x hx=>?_⟩;rcases mem_append.mp hx with z|z
    ·exact hb x z
    ·rw[mem_singleton.mp z];exact ho
  ·rintro σ H' ⟨m,v,cs,rfl,rfl,hl,hb⟩
   match cs,hl,hb with
   |[a,b,c],_,hb =>
    tm_up;refine .inl ⟨f,_,0,_,rfl,rfl,aX.of af,rfl,?_⟩;tm_up;refine .inl ⟨f,_,1,_,rfl,rfl,aX.of af,rfl,?_⟩;tm_up;refine .inl ⟨f,_,2,_,rfl,rfl,aX.of af,rfl,?_⟩;refine⟨by show 3<=sizeLine;decide,fun z hz=>?_⟩;exact q (a,b,c) z _ ⟨hb a (by simp),hb b (by simp),hb c (by simp)⟩ ((az.upd hf).trans (az.upd hz)) ((az.upd hf).free hz) af
theorem ajx {k:Kd}(h:k.meas=true)(m:Int):intText? k.str=some (nm m k)/\k.str.length<=640:=by
 cases k <;> first|(cases h;done)|exact⟨by first|exact(show intText? Kd.three.str=some 3 by lk)|exact(show intText? Kd.two.str=some 2 by lk),by lk⟩
theorem alW {k:Kd}(h:¬ k.meas=true)(m:Int):nm m k=m:=by
 cases k <;> first|rfl|exact absurd rfl h
theorem QA (k:Kd):k.meas=(decide (k=.three)||decide (k=.two)):=by cases k <;> rfl
theorem Y7 (k:Kd):vd k.str ".32" = k.parting:=by cases k <;> decide +kernel
theorem x4 (k:Kd):vd k.str "sdr"=k.small:=by cases k <;> decide +kernel
theorem agD {k:Kd}(h:k.parting=true)(m:Int)(n:Option Kd):bw m k n=0:=by cases k <;> first|(cases h;done)|(unfold bw;rw[L' (by rintro⟨_,z,_⟩;cases z)];rfl)
theorem ad6 {k:Kd}(h:k.small=true)(m:Int)(n:Option Kd):bw m k n=1:=by cases k <;> first|(cases h;done)|(unfold bw;rw[L' (by rintro⟨_,z,_⟩;cases z)];rfl)
theorem aoP (m:Int)(n:Option Kd):bw m .D n=2:=by unfold bw;rw[L' (by rintro⟨_,z,_⟩;cases z)];rfl
theorem agE {k:Kd}{m:Int}{n:Option Kd}(hm:Ms m)(h1:k.parting=false)(h2:k.small=false)(h3:k≠.D)(h4:¬(m=2/\k=.G/\n=some .dot)):bw m k n=m:=by
 unfold bw;rw[L' h4];rcases hm with rfl|rfl <;> cases k <;> first|(cases h1;done)|(cases h2;done)|rfl|exact absurd rfl h3
def aai (K:Frag):Sp:=fun vs H Q _=>∃(l:Addr)(b:Int)(xs:List V)(ss:List Sg),vs=[.ref l,.int b]/\Ms b/\aX K H l xs/\ve K H xs ss/\ss.length<=5000 /\
 ∀(f:Addr)(H':Hp),az H H'->H f=none->H' f=some (.lst ((i0 b (dw ss)).map V.int))->Q (.ref f) H'
theorem aaj (T:Txt K w mg t):bK P w K mg base ig (0+1) t.mw t.FC ["_law_line_here","_law_begin_here"] (aai K):=by
 refine T.tu.ok lY (fun vs H Q E h=>?_) (fun cdv A outer s H vs Q E hr h=>?_)
 ·obtain⟨_,_,_,_,rfl,_⟩:=h;rfl
 ·obtain⟨l,b,xs,ss,rfl,hMs,hS,hg,hn,q⟩:=h;have p62:(2:Int) ^ 62=4611686018427387904:=by decide
  refine aR (ag (aK (i:=2) lY.nd rfl (Or.inl rfl) (c8 ao)) (ag (aK (i:=3) lY.nd rfl (Or.inl rfl) (pv 1)) (ag (bW PassesOwn.never rfl (jG rfl T.mX (aa (aV (aZ.or a5) rfl T.eU eF (aa (pv 0) ao)) ao)) (aC (i:=4) lY.nd rfl (Or.inl rfl)) (ag (aK (i:=5) lY.nd rfl (Or.inl rfl) (aI aD (aI aD (pv 0) (pv 4) (fun _ _=>rfl)) ai (fun _ _=>rfl))) (ag (sA (aO (a8 (PW.pt (ij (ar (aL.or (aE (aw hr))) (pv 5) av (au _)) (eB (ar (aL.or (aE (aw hr))) (pv 5) av (au _)))))) (aj (aK (i:=3) lY.nd rfl (Or.inl rfl) (di (lL.or fj) rfl T.wb vF (aa (pv 5) ao)))) aB)) (aj (aO (ar (bh.or bg) (pv 5) av rfl) (aj (bX (ik plainAttrs_list slot_list_append type_list_append bj (pv 2) (aa ai ao)))) (aj (aO (ar (bh.or bg) (pv 5) av rfl) (aj (bX (ik plainAttrs_list slot_list_append type_list_append bj (pv 2) (aa ai ao)))) (aj (aO (ar (aL.or (aE (aw hr))) (pv 5) av (au _)) (aj (bX (ik plainAttrs_list slot_list_append type_list_append bj (pv 2) (aa ai ao)))) (aj (aO (a8 (PW.pt (bu (ar (aL.or (aE (aw hr))) (pv 3) ai (au _)) (bu (ar (aL.or (aE (aw hr))) (pv 5) av (au _)) (bu (ar rB (aJ (a9.or (aF.or ba)) (pv 4) ai) (aV (aZ.or a5) rfl T.eU eF (aa (pv 0) ao)) (au _)) (bM (ar (aL.or (aE (aw hr))) (aI aD (aI aD (pv 0) (aJ (a9.or (aF.or ba)) (pv 4) ai) (fun _ _=>rfl)) ai (fun _ _=>rfl)) av (au _)))))))) (aj (bX (ik plainAttrs_list slot_list_append type_list_append bj (pv 2) (aa ai ao)))) (aj (bX (ik plainAttrs_list slot_list_append type_list_append bj (pv 2) (aa (pv 3) ao))))))))))))))) (aj (ay (pv 2)))))) ?_;refine⟨big (by show 0<=1000;omega),fun f hf=>?_⟩;tm_up;refine .inl ⟨_,_,rfl,.inl (xB hS hf),?_⟩;rw[cO hg];refine⟨(ss.length:Int),rfl,by rw[p62];omega,by rw[p62];omega,?_⟩;refine lK (n:=((ss.length:Int)).toNat) (fun i σ H'=>∃(m:Int)(v w:Option V)(fs:List Int),σ=[some (.ref l),some (.int b),some (.ref f),some (.int m),v,w]/\Ms m/\H'=upd H f (.lst (fs.map V.int))/\fs++i0 m ((dw ss).drop i)=i0 b (dw ss))
   ⟨b,none,none,[],rfl,hMs,rfl,rfl⟩ ?_ ?_
  ·rintro i σ H' hi ⟨m,v,w,fs,rfl,hm3,rfl,hm⟩;have hil:i<ss.length:=by omega
   have hd:=xE (Fd (f:=Prod.fst) (G' hil));rw[hd]at hm;have hS':aX K (upd H f (.lst (fs.map V.int))) l xs:=xB hS hf;have hg':ve K (upd H f (.lst (fs.map V.int))) xs ss:=hg.same (az.upd hf);have hl:=congrArg List.length hm;simp only [length_append,i0,length_cons,zS,O']at hl;simp only [i0,head_drop]at hm;tm_up;refine Fp hS' hg' (n:=i) (by omega) (G' hil) fun p hp=>?_;generalize hk:(ss[i]).1=k at hm hp;tm_up;refine afV [some (.ref l),some (.int b),some (.ref f),some (.int (nm m k)),some (.int (0+(i:Int))),some (.str k.str)] (upd H f (.lst (fs.map V.int))) ?_ ?_
   ·refine dP k.meas ?_ ?_
    ·tm_up;rw[Yp];refine aM (fun h=>?_) (fun h=>?_)
     ·exact bx (by rw[QA,h];rfl)
     ·tm_up;rw[ahN];exact bx (by rw[QA,P'.mpr h];rfl)
    refine aM (fun h=>?_) (fun h=>?_)
    ·obtain⟨e1,e2⟩:=ajx h m;tm_up;exact .inr ⟨_,_,rfl,e1,e2,rfl,rfl⟩
    ·rw[alW h];exact⟨rfl,rfl⟩
   have hm4:=hm3.nm k;have fin:∀(z:Int),z=bw (nm m k) k (dw ss)[i+1]?->∃(m':Int)(v w:Option V)(fs':List Int),[some (V.ref l),some (V.int b),some (V.ref f),some (V.int (nm m k)),some (V.int (0+(i:Int))),some (V.str k.str)]=[some (.ref l),some (.int b),some (.ref f),some (.int m'),v,w]/\Ms m'/\upd (upd H f (.lst (fs.map V.int))) f (.lst (fs.map V.int++[V.int z]))=upd H f (.lst (fs'.map V.int))/\fs'++i0 m' ((dw ss).drop (i+1))=i0 b (dw ss):=by
    intro z hz;exact⟨nm m k,_,_,fs++[z],rfl,hm4,by rw[iX,map_append];rfl,by rw[List.append_assoc,hz];exact hm⟩
   tm_up;refine aM (fun h=>?_) (fun h=>?_)
   ·have h':k.parting=true:=by rw[<-Y7];exact h
    tm_up;refine⟨.inl ⟨rfl,_,aX.of af⟩,?_⟩;refine⟨_,_,_,rfl,rfl,af,by rw[O'];exact iK (by omega),fin 0 (agD h' ..).symm⟩
   ·have h1:k.parting=false:=by rw[<-Y7];exact P'.mpr h
    tm_up;refine aM (fun h=>?_) (fun h=>?_)
    ·have h':k.small=true:=by rw[<-x4];exact h
     tm_up;refine⟨.inl ⟨rfl,_,aX.of af⟩,?_⟩;refine⟨_,_,_,rfl,rfl,af,by rw[O'];exact iK (by omega),fin 1 (ad6 h' ..).symm⟩
    ·have h2:k.small=false:=by rw[<-x4];exact P'.mpr h
     tm_up;rw[k_D];refine aM (fun h=>?_) (fun h=>?_)
     ·have h':k=.D:=M' h;tm_up;refine⟨.inl ⟨rfl,_,aX.of af⟩,?_⟩;refine⟨_,_,_,rfl,rfl,af,by rw[O'];exact iK (by omega),fin 2 (by rw[h'];exact(aoP ..).symm)⟩
     ·have h3:k≠.D:=fun z=>h (W' z);refine dP (decide (nm m k=2/\k=.G/\(dw ss)[i+1]? = some .dot)) ?_ ?_
      ·tm_up;rw[sv];refine aM (fun h=>?_) (fun h=>?_)
       ·have e1:=M' h;tm_up;rw[k_G];refine aM (fun h=>?_) (fun h=>?_)
        ·have e2:=M' h;tm_up;refine .inl ⟨_,_,rfl,.inl hS',?_⟩;rw[cO hg];tm_up;refine aM (fun h=>?_) (fun h=>?_)
         ·have hlt:i+1<ss.length:=by have:=M' h;omega
          tm_up;refine Fp hS' hg' (n:=i+1) (by omega) (G' hlt) fun p2 hp2=>?_;tm_up;rw[ahM];refine bx ?_;have e3:(dw ss)[i+1]? = some (ss[i+1]).1:=Fd (G' hlt);rw[e3];subst e2;simp[e1]
         ·refine bx ?_;have e3:(dw ss)[i+1]? = none:=List.getElem?_eq_none (by rw[O'];have:¬(0+(i:Int)+1<ss.length):=fun z=>h (W' z);omega);rw[e3];simp
        ·refine bx ?_;have e2:k≠.G:=fun z=>h (W' z);simp[e2]
       ·refine bx ?_;have e1:nm m k≠2:=fun z=>h (W' z);simp[e1]
      ·refine aM (fun h=>?_) (fun h=>?_)
       ·have h':=M' h;tm_up;refine⟨.inl ⟨rfl,_,aX.of af⟩,?_⟩;refine⟨_,_,_,rfl,rfl,af,by rw[O'];exact iK (by omega),fin 3 (by unfold bw;rw[R' h'])⟩
       ·have h':¬(nm m k=2/\k=.G/\(dw ss)[i+1]? = some .dot):=fun z=>h (W' z);tm_up;refine⟨.inl ⟨rfl,_,aX.of af⟩,?_⟩;tm_up;refine⟨_,_,_,rfl,rfl,af,by rw[O'];exact iK (by omega),fin _ (agE hm4 h1 h2 h3 h').symm⟩
  ·rintro σ H' ⟨m,v,w,fs,rfl,_,rfl,hm⟩;have e0:((ss.length:Int)).toNat=ss.length:=by omega
   rw[e0,List.drop_eq_nil_of_le (by rw[O'];exact C' _)]at hm;tm_up;have e:fs=i0 b (dw ss):=by rw[<-hm];simp[i0]
   subst e;exact q f _ (az.upd hf) hf af
def V7 (K:Frag):Sp:=fun vs H Q _=>∃(l:Addr)(b:Int)(xs:List V)(ss:List Sg),vs=[.ref l,.int b]/\aX K H l xs/\ve K H xs ss/\ss.length<=5000 /\
 ∀(f:Addr)(H':Hp),az H H'->H f=none->H' f=some (.lst ((ix b (dw ss)).map V.bl))->Q (.ref f) H'
theorem alY {k:Kd}(h:k.meas=true)(m:Int):intText? k.str=some (nm m k)/\k.str.length<=640:=by
 cases k <;> first|(cases h;done)|exact⟨by first|exact(show intText? Kd.three.str=some 3 by lk)|exact(show intText? Kd.two.str=some 2 by lk),by lk⟩
theorem aoQ {k:Kd}(h:¬ k.meas=true)(m:Int):nm m k=m:=by
 cases k <;> first|rfl|exact absurd rfl h
theorem Y8 (k:Kd):k.meas=(decide (k=.three)||decide (k=.two)):=by cases k <;> rfl
theorem V8 (T:Txt K w mg t):bK P w K mg base ig (0+1) t.jT t.z8 ["_law_line_here","_law_begin_here"] (V7 K):=by
 refine T.o5.ok mq (fun vs H Q E h=>?_) (fun cdv A outer s H vs Q E hr h=>?_)
 ·obtain⟨_,_,_,_,rfl,_⟩:=h;rfl
 ·obtain⟨l,b,xs,ss,rfl,hS,hg,hn,q⟩:=h;refine aR (ag (aK (i:=2) mq.nd rfl (Or.inl rfl) (c8 ao)) (ag (aK (i:=3) mq.nd rfl (Or.inl rfl) (pv 1)) (ag (bW PassesOwn.never rfl (cq (pv 0)) (aC (i:=4) mq.nd rfl (Or.inl rfl)) (ag (sA (aO (a8 (PW.pt (ij (ar (aL.or (aE (aw hr))) (aI aD (pv 4) ai (fun _ _=>rfl)) av (au _)) (eB (ar (aL.or (aE (aw hr))) (aI aD (pv 4) ai (fun _ _=>rfl)) av (au _)))))) (aj (aK (i:=3) mq.nd rfl (Or.inl rfl) (di (lL.or fj) rfl T.wb vF (aa (aI aD (pv 4) ai (fun _ _=>rfl)) ao)))) aB)) (aj (bX (ik plainAttrs_list slot_list_append type_list_append bj (pv 2) (aa (bf (aL.or (aE (aw hr))) (pv 3) ai (au _)) ao)))))) (aj (ay (pv 2)))))) ?_;refine⟨big (by show 0<=1000;omega),fun f hf=>?_⟩;tm_up;refine⟨⟨xs,xB hS hf⟩,dD (K:=K) (xs:=xs) (fun i σ H'=>∃(m:Int)(v:Option V)(fs:List Bool),σ=[some (.ref l),some (.int b),some (.ref f),some (.int m),v]/\H'=upd H f (.lst (fs.map V.bl))/\fs++ix m ((dw ss).drop i)=ix b (dw ss))
   ⟨b,none,[],rfl,rfl,rfl⟩ ?_ ?_ ?_⟩
  ·rintro i σ H' _ ⟨m,v,fs,rfl,rfl,_⟩;exact xB hS hf
  ·rintro i x σ H' hx ⟨m,v,fs,rfl,rfl,hm⟩;obtain⟨s,hs,p,rfl,hp⟩:=gL hg hx;have hd:=xE (Fd (f:=Prod.fst) hs);rw[hd]at hm;have hp':SgT K (upd H f (.lst (fs.map V.bl))) p s.1 s.2:=hp.same (az.upd hf);have hl:=congrArg List.length hm;simp only [length_append,ix,length_cons,Sx,O']at hl;refine afV [some (.ref l),some (.int b),some (.ref f),some (.int (nm m s.1)),some (.ref p)] (upd H f (.lst (fs.map V.bl))) ?_ ?_
   ·refine dP s.1.meas ?_ ?_
    ·tm_up;rw[Yp];refine aM (fun h=>?_) (fun h=>?_)
     ·exact bx (by rw[Y8,h];rfl)
     ·tm_up;rw[ahN];exact bx (by rw[Y8,P'.mpr h];rfl)
    refine aM (fun h=>?_) (fun h=>?_)
    ·obtain⟨e1,e2⟩:=alY h m;tm_up;exact .inr ⟨_,_,rfl,e1,e2,rfl,rfl⟩
    ·rw[aoQ h];exact⟨rfl,rfl⟩
   ·tm_up;refine⟨.inl ⟨rfl,_,aX.of af⟩,?_⟩;tm_up;rw[sv];refine⟨_,_,_,rfl,rfl,af,by rw[O'];exact iK (by omega),?_⟩;exact⟨_,_,fs++[decide (nm m s.1=3)],rfl,by rw[iX,map_append];rfl,by rw[List.append_assoc];exact hm⟩
  ·rintro σ H' ⟨m,v,fs,rfl,rfl,hm⟩;rw[List.drop_eq_nil_of_le (by rw[O',cO hg];exact C' _)]at hm;tm_up;have e:fs=ix b (dw ss):=by rw[<-hm];simp[ix]
   subst e;exact q f _ (az.upd hf) hf af
def aoR (K:Frag)(g:List Kd->List Int->Nat->Nat->Bool×List Int):Sp:=fun vs H Q _=>∃(l f:Addr)(a z:Nat)(xs:List V)(ss:List Sg)(fs:List Int),vs=[.ref l,.ref f,.int (a:Int),.int (z:Int)]/\aX K H l xs/\ve K H xs ss/\l≠f/\H f=some (.lst (fs.map V.int))/\fs.length=ss.length/\a<z/\z<=ss.length /\
 Q (.bl (g (dw ss) fs a z).1) (upd H f (.lst ((g (dw ss) fs a z).2.map V.int)))
theorem F1 (k:Kd):vd k.str "GDR"=k.great:=by cases k <;> decide +kernel
theorem As (o:Option Kd):(o.getD .dot).great=qo o:=by cases o <;> rfl
theorem aoS (o:Option Kd):decide (o.getD .dot=.G)=decide (o=some .G):=by
 cases o with
 |none=>decide
 |some k=>simp
theorem aak {ks:List Kd}{f:List Int}{a z:Nat}{r:Nat}(hr:(z-a) % 3=r)(hr3:r<3) :
  settle ks f a z=if decide (r=2)&&(qo ks[z]? && decide (ks[z-1]? = some .s)) then(true,f.set (z-1) 2) else
   (decide (r=0)||((decide (r=1)&&(lF ks f a||i3 ks z))||(decide (r=2)&&(lF ks f a&&i3 ks z))),
    let g:=if(decide (r=1)&&lF ks f a)||(decide (r=2)&&(lF ks f a&&i3 ks z)) then f.set (a-1) 2 else f
    if(decide (r=1)&&(i3 ks z && !lF ks f a))||(decide (r=2)&&(lF ks f a&&i3 ks z)) then g.set z 2 else g):=by
 unfold settle EF EG;rw[hr];have:r=0\/r=1\/r=2:=by omega
 rcases this with rfl|rfl|rfl <;> cases lF ks f a <;> cases i3 ks z <;> cases qo ks[z]? <;> cases decide (ks[z-1]? = some .s) <;> rfl
theorem ad7 (T:Txt K w mg t):bK P w K mg base ig (0+1) t.qx t.Nx ["_law_line_here","_law_told","_law_low","_law_high"] (aoR K settle):=by
 refine T.xT.ok oW (fun vs H Q E h=>?_) (fun cdv A outer s H vs Q E hr h=>?_)
 ·obtain⟨_,_,_,_,_,_,_,rfl,_⟩:=h;rfl
 ·obtain⟨l,f,a,z,xs,ss,fs,rfl,hS,hg,hlf,hf,hl,haz,hz,q⟩:=h;obtain⟨r,hrr⟩:∃ r:Nat,(z-a) % 3=r:=⟨_,rfl⟩;have hr3:r<3:=by omega
  rw[aak hrr hr3]at q;have hri:((z:Int)-(a:Int)) % 3=(r:Int):=by omega
  have dI:∀ n:Nat,decide (V.int (((z:Int)-(a:Int)) % 3)=V.int (n:Int))=decide (r=n):=fun n=>by
   rw[hri,sv]
   by_cases e:r=n
   ·simp[e]
   ·have:¬((r:Int)=(n:Int)):=by omega
    simp[e,this]
  have d0:decide (V.int (((z:Int)-(a:Int)) % 3)=V.int 0)=decide (r=0):=dI 0;have d1:decide (V.int (((z:Int)-(a:Int)) % 3)=V.int 1)=decide (r=1):=dI 1;have d2:decide (V.int (((z:Int)-(a:Int)) % 3)=V.int 2)=decide (r=2):=dI 2;refine aR (ag (aK (i:=4) oW.nd rfl (Or.inl rfl) (aJ dv (aJ l8 (pv 3) (pv 2)) ai)) (ag (aK (i:=5) oW.nd rfl (Or.inl rfl) (br (bz (ar rB (pv 3) (aV (aZ.or a5) rfl T.eU eF (aa (pv 0) ao)) (au _)) (aI aD (aI aD (pv 0) (pv 3) (fun _ _=>rfl)) ai (fun _ _=>rfl)) av))) (ag (aK (i:=6) oW.nd rfl (Or.inl rfl) (br (bz (ar rB (aJ (a9.or (aF.or ba)) (pv 3) ai) (aV (aZ.or a5) rfl T.eU eF (aa (pv 0) ao)) (au _)) (aI aD (aI aD (pv 0) (aJ (a9.or (aF.or ba)) (pv 3) ai) (fun _ _=>rfl)) ai (fun _ _=>rfl)) av))) (ag (aK (i:=7) oW.nd rfl (Or.inl rfl) (br (jF (bf Jw (pv 2) ai (au _)) (jF (bf (aL.or (aE (aw hr))) (aI aD (aI aD (pv 0) (aJ l8 (pv 2) ai) (fun _ _=>rfl)) ai (fun _ _=>rfl)) av (au _)) (iY (bf (aL.or (aE (aw hr))) (aI aD (pv 1) (aJ l8 (pv 2) ai) (fun _ _=>rfl)) ai (au _))))))) (ag (aK (i:=8) oW.nd rfl (Or.inl rfl) (br (jF (bf (aL.or (aE (aw hr))) (pv 5) av (au _)) (iY (bf (xt.or xu) (pv 6) av rfl))))) (ag (aO (a8 (PW.pt (bu (ar (aL.or (aE (aw hr))) (pv 4) ai (au _)) (bu (ar (bh.or bg) (pv 5) av rfl) (bM (ar (aL.or (aE (aw hr))) (aI aD (aI aD (pv 0) (aJ l8 (pv 3) ai) (fun _ _=>rfl)) ai (fun _ _=>rfl)) av (au _))))))) (ag (sj ai (RW (pv 1) (aJ l8 (pv 3) ai) set_list)) (aj (ay ez))) aB) (ag (sA (aO (a8 (PW.pt (ij (a8 (PW.pt (bu (ar (aL.or (aE (aw hr))) (pv 4) ai (au _)) (bM (bB (pv 7)))))) (eB (a8 (PW.pt (bu (ar (aL.or (aE (aw hr))) (pv 4) ai (au _)) (bu (bB (pv 7)) (bM (bB (pv 8))))))))))) (aj (sj ai (RW (pv 1) (aJ l8 (pv 2) ai) set_list))) aB)) (ag (sA (aO (a8 (PW.pt (ij (a8 (PW.pt (bu (ar (aL.or (aE (aw hr))) (pv 4) ai (au _)) (bu (bB (pv 8)) (bM (eC (bB (pv 7)))))))) (eB (a8 (PW.pt (bu (ar (aL.or (aE (aw hr))) (pv 4) ai (au _)) (bu (bB (pv 7)) (bM (bB (pv 8))))))))))) (aj (sj ai (RW (pv 1) (pv 3) set_list))) aB)) (aj (ay (br (X6 (bf (aL.or (aE (aw hr))) (pv 4) ai (au _)) (X6 (br (jF (bf (aL.or (aE (aw hr))) (pv 4) ai (au _)) (iY (br (X6 (pv 7) (iY (pv 8))))))) (iY (br (jF (bf (aL.or (aE (aw hr))) (pv 4) ai (au _)) (jF (pv 7) (iY (pv 8))))))))))))))))))) ?_;tm_up;refine fG (.str ((dw ss)[z]?.getD .dot).str) ?_ ?_
  ·tm_up;refine .inl ⟨_,_,rfl,.inl hS,?_⟩;rw[cO hg];tm_up;refine aM (fun h=>?_) (fun h=>?_)
   ·have hlt:z<ss.length:=by have:=M' h;omega
    tm_up;refine Fp hS hg (n:=z) rfl (G' hlt) fun p hp=>?_;tm_up;refine bA ?_;rw[getElem?_map,G' hlt];rfl
   ·refine bA ?_;have hge:¬ z<ss.length:=fun c=>h (W' (by omega));rw[List.getElem?_eq_none (by rw[O'];omega)];rfl
  refine fG (.str ((dw ss)[z+1]?.getD .dot).str) ?_ ?_
  ·tm_up;refine .inl ⟨_,_,rfl,.inl hS,?_⟩;rw[cO hg];tm_up;refine aM (fun h=>?_) (fun h=>?_)
   ·have hlt:z+1<ss.length:=by have:=M' h;omega
    tm_up;refine Fp hS hg (n:=z+1) (by omega) (G' hlt) fun p hp=>?_;tm_up;refine bA ?_;rw[getElem?_map,G' hlt];rfl
   ·refine bA ?_;have hge:¬ z+1<ss.length:=fun c=>h (W' (by omega));rw[List.getElem?_eq_none (by rw[O'];omega)];rfl
  refine fG (.bl (lF (dw ss) fs a)) ?_ ?_
  ·tm_up;refine aM (fun h=>?_) (fun h=>?_)
   ·have hp:0<a:=by have:=M' h;omega
    have hlt:a-1<ss.length:=by omega
    have ek:kAt (dw ss) ((a:Int)-1)=some (ss[a-1]).1:=by
     have:(a:Int)-1=((a-1:Nat):Int):=by omega
     rw[this,af9,getElem?_map,G' hlt];rfl
    tm_up;refine Fp hS hg (n:=a-1) (by omega) (G' hlt) fun p hp=>?_;tm_up;rw[k_G];refine aM (fun h2=>?_) (fun h2=>?_)
    ·tm_up;refine an0 (aX.of hf) (n:=a-1) (by omega) (G' (by omega)) ?_;tm_up;rw[sv];refine bA ?_;unfold lF;rw[ek,M' h2,X',G' (by omega)];simp
    ·refine bA ?_;unfold lF;rw[ek];have:(ss[a-1]).1≠.G:=fun c=>h2 (W' c);simp[this]
   ·refine bA ?_;have hp:a=0:=by
     have:¬ 0<a:=fun c=>h (W' (by omega));omega
    subst hp;unfold lF kAt;simp
  refine fG (.bl (i3 (dw ss) z)) ?_ ?_
  ·tm_up;rw[k_G,aoS];refine aM (fun h=>?_) (fun h=>?_)
   ·tm_up;refine bA ?_;unfold i3;rw[h];show V.bl (!vd _ _)=_;rw[F1,As];rfl
   ·refine bA ?_;unfold i3;rw[P'.mpr h];rfl
  generalize hL:lF (dw ss) fs a=L at q;generalize hR:i3 (dw ss) z=R at q;refine dP (decide (r=2)&&(qo (dw ss)[z]? && decide ((dw ss)[z-1]? = some .s))) ?_ ?_
  ·tm_up;rw[d2];refine aM (fun h=>?_) (fun h=>?_)
   ·rw[h];tm_up;refine aM (fun h2=>?_) (fun h2=>?_)
    ·have h2':qo (dw ss)[z]? = true:=by
      have:vd ((dw ss)[z]?.getD .dot).str "GDR"=true:=h2
      rwa [F1,As]at this
     rw[h2'];tm_up;have hlt:z-1<ss.length:=by omega
     refine Fp hS hg (n:=z-1) (by omega) (G' hlt) fun p hp=>?_;tm_up;rw[k_s];refine bx ?_;rw[getElem?_map,G' hlt];simp
    ·have h2':qo (dw ss)[z]? = false:=by
      have:vd ((dw ss)[z]?.getD .dot).str "GDR"=false:=P'.mpr h2
      rwa [F1,As]at this
     rw[h2'];exact bx rfl
   ·exact bx (by rw[P'.mpr h];rfl)
  refine aM (fun h=>?_) (fun h=>?_)
  ·rw[R' h]at q;tm_up;refine⟨_,_,_,_,rfl,rfl,hf,KH (j:=z-1) (by omega) (by rw[O'];omega),?_⟩;rw[KJ];exact q
  ·rw[L' h]at q;dsimp only at q;have hLp:L=true->1<=a/\a-1<ss.length:=fun e=>by
    have:=ZW (hL.trans e)
    rwa [O']at this
   have hRp:R=true->z<ss.length:=fun e=>by
    have:=Sw (hR.trans e)
    rwa [O']at this
   generalize hg1:(if(decide (r=1)&&L||decide (r=2)&&(L&&R))=true then fs.set (a-1) 2 else fs)=g1 at q;have g1l:g1.length=ss.length:=by rw[<-hg1];split <;> simp[hl]
   refine afV [some (.ref l),some (.ref f),some (.int (a:Int)),some (.int (z:Int)),some (.int (((z:Int)-(a:Int)) % 3)),some (.str ((dw ss)[z]?.getD .dot).str),some (.str ((dw ss)[z+1]?.getD .dot).str),some (.bl L),some (.bl R)] (upd H f (.lst (g1.map V.int))) ?_ ?_
   ·refine dP (decide (r=1)&&L||decide (r=2)&&(L&&R)) ?_ ?_
    ·refine dP (decide (r=1)&&L) ?_ ?_
     ·tm_up;rw[d1];refine aM (fun h=>?_) (fun h=>?_)
      ·tm_up;exact bx (by rw[h];rfl)
      ·exact bx (by rw[P'.mpr h];rfl)
     ·refine aM (fun h=>bx (by rw[h];rfl)) (fun h=>?_);rw[P'.mpr h,Bool.false_or];refine dP (decide (r=2)&&(L&&R)) ?_ (bx rfl);tm_up;rw[d2];refine aM (fun h=>?_) (fun h=>?_)
      ·tm_up;refine aM (fun h2=>?_) (fun h2=>?_)
       ·tm_up;exact bx (by rw[h,h2];rfl)
       ·exact bx (by rw[h,P'.mpr h2];rfl)
      ·exact bx (by rw[P'.mpr h];rfl)
    ·refine aM (fun h=>?_) (fun h=>?_)
     ·rw[R' h]at hg1;have hp:=hLp (by cases L <;> simp_all);tm_up;refine⟨_,_,_,_,rfl,rfl,hf,KH (j:=a-1) (by omega) (by rw[O'];omega),?_⟩;rw[KJ,hg1];exact⟨rfl,rfl⟩
     ·rw[L' h]at hg1;subst hg1;rw[acR hf];exact⟨rfl,rfl⟩
   generalize hg2:(if(decide (r=1)&&(R && !L)||decide (r=2)&&(L&&R))=true then g1.set z 2 else g1)=g2 at q;refine afV [some (.ref l),some (.ref f),some (.int (a:Int)),some (.int (z:Int)),some (.int (((z:Int)-(a:Int)) % 3)),some (.str ((dw ss)[z]?.getD .dot).str),some (.str ((dw ss)[z+1]?.getD .dot).str),some (.bl L),some (.bl R)] (upd H f (.lst (g2.map V.int))) ?_ ?_
   ·refine dP (decide (r=1)&&(R && !L)||decide (r=2)&&(L&&R)) ?_ ?_
    ·refine dP (decide (r=1)&&(R && !L)) ?_ ?_
     ·tm_up;rw[d1];refine aM (fun h=>?_) (fun h=>?_)
      ·tm_up;refine aM (fun h2=>?_) (fun h2=>?_)
       ·tm_up;exact bx (by rw[h,h2];rfl)
       ·exact bx (by rw[h,P'.mpr h2];rfl)
      ·exact bx (by rw[P'.mpr h];rfl)
     ·refine aM (fun h=>bx (by rw[h];rfl)) (fun h=>?_);rw[P'.mpr h,Bool.false_or];refine dP (decide (r=2)&&(L&&R)) ?_ (bx rfl);tm_up;rw[d2];refine aM (fun h=>?_) (fun h=>?_)
      ·tm_up;refine aM (fun h2=>?_) (fun h2=>?_)
       ·tm_up;exact bx (by rw[h,h2];rfl)
       ·exact bx (by rw[h,P'.mpr h2];rfl)
      ·exact bx (by rw[P'.mpr h];rfl)
    ·refine aM (fun h=>?_) (fun h=>?_)
     ·rw[R' h]at hg2;have hp:=hRp (by cases R <;> simp_all);tm_up;refine⟨_,_,_,_,rfl,rfl,af,KH (j:=z) rfl (by rw[O'];omega),?_⟩;rw[KJ,hg2,iX];exact⟨rfl,rfl⟩
     ·rw[L' h]at hg2;subst hg2;exact⟨rfl,rfl⟩
   refine fG (.bl (decide (r=0)||(decide (r=1)&&(L||R)||decide (r=2)&&(L&&R)))) ?_ q;tm_up;rw[d0];refine aM (fun h=>bA (by rw[h];rfl)) (fun h=>?_);rw[P'.mpr h,Bool.false_or];refine fG (.bl (decide (r=1)&&(L||R))) ?_ ?_
   ·tm_up;rw[d1];refine aM (fun h=>?_) (fun h=>bA (by rw[P'.mpr h];rfl));refine fG (.bl (L||R)) ?_ (bA (by rw[h];rfl));tm_up;refine aM (fun h=>bA (by rw[h];rfl)) (fun h=>?_);tm_up;exact bA (by rw[P'.mpr h];rfl)
   ·refine⟨_,rfl,?_⟩;refine aM (fun h=>bA (by rw[h];rfl)) (fun h=>?_);rw[P'.mpr h,Bool.false_or];refine fG (.bl (decide (r=2)&&(L&&R))) ?_ (bA rfl);tm_up;rw[d2];refine aM (fun h=>?_) (fun h=>bA (by rw[P'.mpr h];rfl));tm_up;refine aM (fun h2=>?_) (fun h2=>?_)
    ·tm_up;exact bA (by rw[h,h2];rfl)
    ·exact bA (by rw[h,P'.mpr h2];rfl)
def aal (K:Frag):Sp:=fun vs H Q _=>∃(l:Addr)(b:Int)(xs:List V)(ss:List Sg),vs=[.ref l,.int b]/\Ms b/\H l=some (.lst xs)/\ve K H xs ss/\ss.length<=5000 /\
 ∀(p f lo:Addr)(ys:List V)(H':Hp),az H H'->H f=none->H lo=none->f≠lo->H' p=some (.tup [.ref f,.ref lo])->H' f=some (.lst ((kD b (dw ss)).1.map V.int))->H' lo=some (.lst ys)->Prs H' ys (kD b (dw ss)).2->Q (.ref p) H'
theorem J2 (T:Txt K w mg t):bK P w K mg base ig (0+2) t.mx t.FD ["_law_line_here","_law_begin_here"] (aal K):=by
 have ad8:=aaj (P:=P) (base:=base) T;have aam:=V8 (P:=P) (base:=base) T;have agF:=ad7 (P:=P) (base:=base) T;refine T.o6.ok iS (fun vs H Q E h=>?_) (fun cdv A outer s H vs Q E hr h=>?_)
 ·obtain⟨_,_,_,_,rfl,_⟩:=h;rfl
 ·obtain⟨l,b,xs,ss,rfl,hMs,hS,hg,hn,q⟩:=h;refine aR (ag (aK (i:=2) iS.nd rfl (Or.inl rfl) (aA ad8 (hr.mono (by decide)) rfl T.aad T.tu.kp T.FL .nil aQ (aa (pv 0) (aa (pv 1) ao)))) (ag (aK (i:=3) iS.nd rfl (Or.inl rfl) (aA aam (hr.mono (by decide)) rfl T.VY T.o5.kp T.Ag .nil aQ (aa (pv 0) (aa (pv 1) ao)))) (ag (aK (i:=4) iS.nd rfl (Or.inl rfl) (c8 ao)) (ag (aK (i:=5) iS.nd rfl (Or.inl rfl) ai) (ag (ET PassesOwn.never (ar rB (pv 5) (aV (aZ.or a5) rfl T.eU eF (aa (pv 0) ao)) (au _)) (ag (aK (i:=6) iS.nd rfl (Or.inl rfl) (pv 5)) (ag (ET PassesOwn.never (a8 (PW.pt (bu (ar rB (pv 6) (aV (aZ.or a5) rfl T.eU eF (aa (pv 0) ao)) (au _)) (bu (ar (bh.or bg) (aI aD (aI aD (pv 0) (pv 6) (fun _ _=>rfl)) ai (fun _ _=>rfl)) av rfl) (bM (bB (aI aD (pv 3) (pv 6) (fun _ _=>rfl)))))))) (aj (aK (i:=6) iS.nd rfl (Or.inl rfl) (aJ (a9.or (aF.or ba)) (pv 6) ai)))) (ag (sA (aO (a8 (PW.pt (bu (ar Jw (pv 6) (pv 5) (au _)) (bM (eC (bB (aA agF (hr.mono (by decide)) rfl T.ad1 T.xT.kp T.NB .nil aQ (aa (pv 0) (aa (pv 2) (aa (pv 5) (aa (pv 6) ao))))))))))) (aj (bX (ik plainAttrs_list slot_list_append type_list_append bj (pv 4) (aa (bY (aa (pv 5) (aa (pv 6) ao))) ao)))) aB)) (aj (aK (i:=5) iS.nd rfl (Or.inl rfl) (aV (Zu rfl) rfl T.aju aiU (aa (pv 6) (aa (aJ (a9.or (aF.or ba)) (pv 5) ai) ao))))))))) (aj (ay (bY (aa (pv 2) (aa (pv 4) ao)))))))))) ?_;tm_up;refine⟨l,b,xs,ss,rfl,hMs,aX.of hS,hg,hn,fun f H1 s1 n1 h1=>?_⟩;tm_up;refine⟨l,b,xs,ss,rfl,aX.of (s1 _ _ hS),hg.same s1,hn,fun th H2 s2 n2 h2=>?_⟩;refine⟨big (by show 0<=1000;omega),fun lo hlo=>?_⟩;have s3:=s2.trans (az.upd (o:=.lst []) hlo);have alZ:H lo=none:=s1.free (s2.free hlo);have nfl:f≠lo:=aN (s2 _ _ h1) hlo;have ntl:th≠lo:=aN h2 hlo;have ntf:th≠f:=fun e=>by rw[e,h1]at n2;cases n2
  have nlf:l≠f:=aN hS n1;have bl:(i0 b (dw ss)).length=ss.length:=by rw[zS,O']
  have cnt:(E9 b (dw ss)).length<=5001:=by
   have:=sJ (jB b (dw ss)) 0 0;rw[sI,O']at this;exact Nat.le_trans this (by omega)
  tm_up;refine⟨fun mm σ H'=>∃(low:Nat)(v:Option V)(c:RdS)(ys:List V),mm=ss.length-low/\low<=ss.length/\σ=[some (.ref l),some (.int b),some (.ref f),some (.ref th),some (.ref lo),some (.int (low:Int)),v]/\az H H'/\H' f=some (.lst (c.1.map V.int))/\H' lo=some (.lst ys)/\Prs H' ys c.2/\H' th=some (.lst ((ix b (dw ss)).map V.bl))/\c.1.length=ss.length/\c.2.length+(dE low low ((jB b (dw ss)).drop low)).length<=5001/\(dE low low ((jB b (dw ss)).drop low)).foldl (kR (dw ss)) c=kD b (dw ss),
   ⟨_,0,none,(i0 b (dw ss),[]),[],rfl,V' _,rfl,s1.trans s3,s3 _ _ h1,af,.nil,by rw[ax ntl];exact h2,bl,by show 0+(E9 b (dw ss)).length<=5001;omega,rfl⟩,?_⟩
  rintro mm σ H' ⟨low,v,c,ys,rfl,hlow,rfl,s4,hf4,ad9,hys,hth,hcl,al1,F2⟩;have hl4:=s4 _ _ hS;have hg4:=hg.same s4;tm_up;refine .inl ⟨_,_,rfl,.inl (aX.of hl4),?_⟩;rw[cO hg];tm_up;refine aM (fun h=>?_) (fun h=>?_)
  ·have hlt:low<ss.length:=by have:=M' h;omega
   refine⟨fun σ' H''=>∃ m',m'<ss.length-low/\∃(low:Nat)(v:Option V)(c:RdS)(ys:List V),m'=ss.length-low/\low<=ss.length/\σ'=[some (.ref l),some (.int b),some (.ref f),some (.ref th),some (.ref lo),some (.int (low:Int)),v]/\az H H''/\H'' f=some (.lst (c.1.map V.int))/\H'' lo=some (.lst ys)/\Prs H'' ys c.2/\H'' th=some (.lst ((ix b (dw ss)).map V.bl))/\c.1.length=ss.length/\c.2.length+(dE low low ((jB b (dw ss)).drop low)).length<=5001/\(dE low low ((jB b (dw ss)).drop low)).foldl (kR (dw ss)) c=kD b (dw ss),fun _ _ h=>h,?_⟩;generalize hn':lead ((jB b (dw ss)).drop low)=n;have hnle:n<=ss.length-low:=by
    have:=Yq ((jB b (dw ss)).drop low);rw[length_drop,sI,O',hn']at this;exact this
   tm_up;refine⟨fun mm σ H''=>∃ j:Nat,mm=n-j/\j<=n/\σ=[some (.ref l),some (.int b),some (.ref f),some (.ref th),some (.ref lo),some (.int (low:Int)),some (.int ((low+j:Nat):Int))]/\H''=H',⟨n,0,rfl,V' _,rfl,rfl⟩,?_⟩;rintro mm σ H'' ⟨j,rfl,hj,rfl,rfl⟩;have hla:=Ys ((jB b (dw ss)).drop low) j (by rw[hn'];exact hj);rw[hn',aji]at hla;refine dP (decide (j<n)) ?_ ?_
   ·tm_up;refine .inl ⟨_,_,rfl,.inl (aX.of hl4),?_⟩;rw[cO hg];tm_up;refine aM (fun h=>?_) (fun h=>?_)
    ·have hjl:low+j<ss.length:=by have:=M' h;omega
     have hk:(dw ss)[low+j]? = some (ss[low+j]).1:=Fd (G' hjl);obtain⟨tb,ht1,ht2⟩:=Yr hMs (dw ss) (low+j) _ hk;rw[ht2]at hla;tm_up;refine Fp (aX.of hl4) hg4 (n:=low+j) rfl (G' hjl) fun p hp=>?_;tm_up;refine aM (fun h=>?_) (fun h=>?_)
     ·have h':(ss[low+j]).1.small=true:=by rw[<-x4];exact h
      rw[h',Bool.true_and]at hla;tm_up;refine Su (aX.of hth) (n:=low+j) rfl (Fd ht1) ?_;tm_up;refine bx ?_;cases tb with
      |true=>exact(W' (hla.mpr rfl)).symm
      |false=>exact(i' (fun z=>by have:=hla.mp z;cases this)).symm
     ·have h':(ss[low+j]).1.small=false:=by rw[<-x4];exact P'.mpr h
      rw[h',Bool.false_and]at hla;exact bx (i' (fun z=>by have:=hla.mp z;cases this)).symm
    ·have hjl:¬ low+j<ss.length:=fun z=>h (W' (by omega));exact bx (i' (by omega)).symm
   refine aM (fun h=>?_) (fun h=>?_)
   ·have hjn:=M' h;refine⟨fun σ' Hx=>∃ m',m'<n-j/\∃ j:Nat,m'=n-j/\j<=n/\σ'=[some (.ref l),some (.int b),some (.ref f),some (.ref th),some (.ref lo),some (.int (low:Int)),some (.int ((low+j:Nat):Int))]/\Hx=H'',fun _ _ h=>h,?_⟩;tm_up;exact⟨n-(j+1),by omega,j+1,rfl,by omega,rfl,rfl⟩
   ·have hjn:j=n:=by
     have:¬ j<n:=fun z=>h (W' z);omega
    subst hjn;have hrf:=Fe ((jB b (dw ss)).drop low) low low (by rw[hn'];omega) (C' _);rw[hn',List.drop_drop]at hrf;refine⟨fun σ1 H1=>σ1=[some (.ref l),some (.int b),some (.ref f),some (.ref th),some (.ref lo),some (.int (low:Int)),some (.int ((low+j:Nat):Int))]/\∃(c:RdS)(ys:List V),az H H1/\H1 f=some (.lst (c.1.map V.int))/\H1 lo=some (.lst ys)/\Prs H1 ys c.2/\H1 th=some (.lst ((ix b (dw ss)).map V.bl))/\c.1.length=ss.length/\c.2.length+(dE (low+j) (low+j) ((jB b (dw ss)).drop (low+j))).length<=5001/\(dE (low+j) (low+j) ((jB b (dw ss)).drop (low+j))).foldl (kR (dw ss)) c=kD b (dw ss),?_,?_⟩
    ·by_cases hj0:j=0
     ·subst hj0;refine dP false ?_ ?_
      ·tm_up;rw[i' (show ¬((low:Int)<((low+0:Nat):Int)) by omega)];exact bx rfl
      ·exact c9 ⟨rfl,c,ys,s4,hf4,ad9,hys,hth,hcl,al1,F2⟩
     ·have hlt2:low<low+j:=by omega
      rw[R' hlt2,List.singleton_append]at hrf;rw[hrf,List.foldl_cons]at F2;rw[hrf,length_cons]at al1;have s5:az H (upd H'' f (.lst ((settle (dw ss) c.1 low (low+j)).2.map V.int))):=cK s4 n1;have ajz:upd H'' f (.lst ((settle (dw ss) c.1 low (low+j)).2.map V.int)) lo=some (.lst ys):=by rw[ax nfl.symm];exact ad9
      have al3:upd H'' f (.lst ((settle (dw ss) c.1 low (low+j)).2.map V.int)) th=some (.lst ((ix b (dw ss)).map V.bl)):=by rw[ax ntf];exact hth
      have al6:(settle (dw ss) c.1 low (low+j)).2.length=ss.length:=by rw[Fb];exact hcl
      refine⟨fun bb H3=>bb = !(settle (dw ss) c.1 low (low+j)).1/\H3=upd H'' f (.lst ((settle (dw ss) c.1 low (low+j)).2.map V.int)),?_,?_⟩
      ·tm_up;rw[W' (show((low:Int)<((low+j:Nat):Int)) by omega)];refine dj ?_;tm_up;refine⟨l,f,low,low+j,xs,ss,c.1,rfl,aX.of hl4,hg4,nlf,hf4,hcl,hlt2,by omega,?_⟩;tm_up;exact⟨rfl,rfl⟩
      ·rintro bb H3 ⟨rfl,rfl⟩;refine aM (fun h=>?_) (fun h=>?_)
       ·have hst:(settle (dw ss) c.1 low (low+j)).1=false:=by
         cases e:(settle (dw ss) c.1 low (low+j)).1
         ·rfl
         ·rw[e]at h;cases h
        tm_up;refine⟨.inl ⟨rfl,_,aX.of ajz⟩,?_⟩;tm_up;refine⟨by show 2<=sizeLine;decide,fun z hz=>?_⟩;have sz:=az.upd (o:=.tup [.int (low:Int),.int ((low+j:Nat):Int)]) hz;have aao:=sz _ _ ajz;refine⟨_,_,_,rfl,rfl,aao,by rw[cO hys];exact iK (by omega),?_⟩;refine⟨rfl,((settle (dw ss) c.1 low (low+j)).2,c.2++[(low,low+j)]),_,cK (s5.trans sz) alZ,by rw[ax nfl];exact sz _ _ af,af,lE (Sv aao (KG sz (Sv hf4 hys))) (ahS aao ⟨z,rfl,af⟩),
         by rw[ax ntl];exact sz _ _ al3,al6,by simp only [length_append,List.length_singleton];omega,?_⟩
        rw[<-F2];unfold kR;rw[hst];rfl
       ·have hst:(settle (dw ss) c.1 low (low+j)).1=true:=by
         cases e:(settle (dw ss) c.1 low (low+j)).1
         ·rw[e]at h;exact absurd rfl h
         ·rfl
        refine⟨rfl,((settle (dw ss) c.1 low (low+j)).2,c.2),ys,s5,af,ajz,Sv hf4 hys,al3,al6,by show c.2.length+_<=5001;omega,?_⟩;rw[<-F2];unfold kR;rw[hst];rfl
    ·rintro σ1 H1 ⟨rfl,c',ys',s6,hf6,aao,al7,al8,al9,Y9,NR⟩;tm_up;refine⟨_,_,rfl,?_⟩
     by_cases hj0:j=0
     ·subst hj0;have hbl:(jB b (dw ss))[low]? = some false:=by
       have h1:low<(jB b (dw ss)).length:=by rw[sI,O'];exact hlt
       have h2:¬(jB b (dw ss))[low+0]? = some true:=fun z=>Nat.lt_irrefl _ (hla.mpr z);rw[Nat.add_zero,G' h1]at h2;rw[G' h1];cases e:(jB b (dw ss))[low]
       ·rfl
       ·rw[e]at h2;exact absurd rfl h2
      rw[Nat.add_zero,xE hbl]at NR Y9;have er:dE low low (false::(jB b (dw ss)).drop (low+1))=dE (low+1) (low+1) ((jB b (dw ss)).drop (low+1)):=by
       show(if low<low then [(low,low)] else [])++dE (low+1) (low+1) ((jB b (dw ss)).drop (low+1))=_;rw[L' (Nat.lt_irrefl _),nil_append]
      rw[er]at NR Y9;have em:(if(low:Int)+1 > ((low+0:Nat):Int) then(low:Int)+1 else((low+0:Nat):Int))=((low+1:Nat):Int):=by rw[R' (by omega)];rfl
      rw[em];exact⟨ss.length-(low+1),by omega,low+1,_,c',ys',rfl,by omega,rfl,s6,hf6,aao,al7,al8,al9,Y9,NR⟩
     ·have em:(if(low:Int)+1 > ((low+j:Nat):Int) then(low:Int)+1 else((low+j:Nat):Int))=((low+j:Nat):Int):=by
       split <;> omega
      rw[em];exact⟨ss.length-(low+j),by omega,low+j,_,c',ys',rfl,by omega,rfl,s6,hf6,aao,al7,al8,al9,Y9,NR⟩
  ·have hlt:low=ss.length:=by
    have:¬ low<ss.length:=fun z=>h (W' (by omega));omega
   subst hlt;rw[List.drop_eq_nil_of_le (by rw[sI,O'];exact C' _)]at F2;have e:c=kD b (dw ss):=by
    have:dE ss.length ss.length []=[]:=by unfold dE;rw[L' (Nat.lt_irrefl _)]
    rw[this]at F2;exact F2
   subst e;tm_up;refine⟨by show 2<=sizeLine;decide,fun z hz=>?_⟩;have sz:=az.upd (o:=.tup [.ref f,.ref lo]) hz;exact q z f lo ys _ (s4.trans sz) n1 alZ nfl af (sz _ _ hf4) (sz _ _ ad9) (KG sz hys)
def QB (K:Frag):Sp:=fun vs H Q _=>∃(l:Addr)(b:Int)(xs:List V)(ss:List Sg),vs=[.ref l,.int b]/\Ms b/\H l=some (.lst xs)/\ZT H xs ss/\ss.length<=400 /\
 ∀(l2:Addr)(F3:List V)(Ih:List Sg)(H':Hp),az H H'->(l2=l\/H l2=none)->H' l2=some (.lst F3)->ZT H' F3 Ih->Ih.length<=ss.length->(∀ s∈Ih,s∈ss)->(kD b (dw Ih)).2=[]->Q (.ref l2) H'
theorem agG (ks:List Kd)(rs:List (Nat×Nat))(c:RdS)(n:Nat)(h1:∀ p∈rs,p.1<p.2/\p.2<=n)(h2:∀ p∈c.2,p.1<p.2/\p.2<=n):∀ p∈(rs.foldl (kR ks) c).2,p.1<p.2/\p.2<=n:=by
 induction rs generalizing c with
 |nil=>exact h2
 |cons r t ih =>
  refine ih _ (fun p hp=>h1 p (Zb' _ hp)) fun p hp=>?_;unfold kR at hp;dsimp only at hp;split at hp
  ·exact h2 p hp
  ·rcases mem_append.mp hp with z|z
   ·exact h2 p z
   ·have:p=r:=by simpa using z
    rw[this];exact h1 r mem_cons_self
theorem aea (m:Int)(ks:List Kd):∀ p∈(kD m ks).2,p.1<p.2/\p.2<=ks.length:=agG _ _ _ _ (acQ m ks) (fun p hp=>by cases hp)
theorem aap (ks:List Kd)(rs:List (Nat×Nat))(c:RdS)(h2:∀ p∈c.2,(p.2-p.1) % 3≠0):∀ p∈(rs.foldl (kR ks) c).2,(p.2-p.1) % 3≠0:=by
 induction rs generalizing c with
 |nil=>exact h2
 |cons r t ih =>
  refine ih _ fun p hp=>?_;unfold kR at hp;dsimp only at hp;split at hp
  ·exact h2 p hp
  ·rename_i hs
   rcases mem_append.mp hp with z|z
   ·exact h2 p z
   ·have:p=r:=by simpa using z
    rw[this];intro e;apply hs;unfold settle;rw[L' (by omega),L' (by omega)]
theorem aaq (m:Int)(ks:List Kd):∀ p∈(kD m ks).2,(p.2-p.1) % 3≠0:=aap _ _ _ (fun p hp=>by cases hp)
theorem QC (T:Txt K w mg t):bK P w K mg base ig (0+3) t.iz t.vQ ["_law_line_here","_law_begin_here"] (QB K):=by
 have F4:=J2 (P:=P) (base:=base) T;refine T.mM.ok iT (fun vs H Q E h=>?_) (fun cdv A outer s H vs Q E hr h=>?_)
 ·obtain⟨_,_,_,_,rfl,_⟩:=h;rfl
 ·obtain⟨l,b,xs,ss,rfl,hMs,hS,hg,hn,q⟩:=h;have p62:(2:Int) ^ 62=4611686018427387904:=by decide
  refine aR (ag (bW PassesOwn.never rfl (jG rfl T.mX (aa (aJ (a9.or (aF.or ba)) (aV (aZ.or a5) rfl T.eU eF (aa (pv 0) ao)) ai) ao)) (aC (i:=2) iT.nd rfl (Or.inl rfl)) (ag (aK (i:=3) iT.nd rfl (Or.inl rfl) (aI aD (aA F4 (hr.mono (by decide)) rfl T.J0 T.o6.kp T.xU .nil aQ (aa (pv 0) (aa (pv 1) ao))) ai (fun _ _=>rfl))) (ag (aO (ar (Sf (aw hr)) (pv 3) (c8 ao) (au _)) (aj (ay (pv 0))) aB) (ag (sj (aI aD (pv 3) ai (fun _ _=>rfl)) (cU rfl (aG (aC (i:=4) iT.nd rfl (Or.inl rfl)) (aG (aC (i:=5) iT.nd rfl (Or.inl rfl)) bQ)))) (aj (aK (i:=0) iT.nd rfl (Or.inl rfl) (aJ (a9.or (aF.or ba)) (EV (Kq.or (R6.or Sa)) (pv 0) Kl (Km (aJ l8 (pv 5) (aJ dv (aJ l8 (pv 5) (pv 4)) ai)))) (EV (Kq.or (R6.or Sa)) (pv 0) (Km (pv 5)) Kl)))))))) (aj (ay (pv 0)))) ?_;tm_up;refine .inl ⟨_,_,rfl,.inl (aX.of hS),?_⟩;rw[cO hg];tm_up;refine⟨by rw[p62];omega,by rw[p62];omega,?_⟩;refine lK (n:=((ss.length:Int)+1).toNat) (fun i σ H'=>∃(l2:Addr)(F3:List V)(Ih:List Sg)(u v w z:Option V),σ=[some (.ref l2),some (.int b),u,v,w,z]/\az H H'/\(l2=l\/H l2=none)/\H' l2=some (.lst F3)/\ZT H' F3 Ih/\Ih.length+i<=ss.length/\∀ s∈Ih,s∈ss)
   ⟨l,xs,ss,none,none,none,none,rfl,az.refl _,.inl rfl,hS,hg,C' _,fun _ h=>h⟩ ?_ ?_
  ·rintro i σ H' hi ⟨l2,F3,Ih,u,v,w,z,rfl,s2,hl2,h2,g2,ajA,agH⟩;tm_up;refine⟨l2,b,F3,Ih,rfl,hMs,h2,ve.of g2,by omega,fun p f lo ys H3 s3 _ nlo _ hp _ hlo hpr=>?_⟩;tm_up;refine⟨big (by show 0<=1000;omega),fun e he=>?_⟩;have se:=az.upd (o:=.lst []) he;refine⟨_,_,ys,rfl,rfl,aX.of (se _ _ hlo),aX.of af,?_⟩;have s4:=s3.trans se;refine⟨_,rfl,?_⟩;generalize upd H3 e (.lst [])=H4 at se s4;have ad9:=se _ _ hlo;have agI:=KG se hpr;have h24:=s4 _ _ h2;have g24:=g2.same s4;cases hR:(kD b (dw Ih)).2 with
   |nil =>
    rw[hR]at agI;cases agI;refine dj ?_;tm_up;exact q l2 F3 Ih _ (s2.trans s4) hl2 h24 g24 (by omega) agH hR
   |cons r t =>
    have hin:=aea b (dw Ih) r (by rw[hR];exact mem_cons_self);have hmd:=aaq b (dw Ih) r (by rw[hR];exact mem_cons_self);rw[O']at hin;rw[hR]at agI
    match ys,agI with
    |_::_,.cons ⟨pr,e1,aoW⟩ hrest =>
     subst e1;refine c9 ?_;tm_up;refine Su (aX.of ad9) (n:=0) rfl rfl ?_;refine⟨pr,_,rfl,dh.of aoW,rfl,_,_,rfl,_,_,rfl,rfl,?_⟩;tm_up;refine .inl ⟨l2,F3,rfl,aX.of h24,fun c1 hc1=>?_⟩;have em:(r.2:Int)-((r.2:Int)-(r.1:Int)) % 3=((r.2-(r.2-r.1) % 3:Nat):Int):=by omega
     rw[em,ahT];have sc1:=az.upd (o:=.lst (F3.take (r.2-(r.2-r.1) % 3))) hc1;tm_up;refine .inl ⟨l2,F3,rfl,aX.of (sc1 _ _ h24),fun c2 hc2=>?_⟩;rw[aga F3 r.2 (by rw[cO g2];exact hin.2)];have sc2:=az.upd (o:=.lst (F3.drop r.2)) hc2;have hle:(F3.take (r.2-(r.2-r.1) % 3)).length+(F3.drop r.2).length<F3.length:=by
      rw[length_take,length_drop,cO g2];omega
     refine .inr (.inr ⟨c1,c2,_,_,rfl,rfl,sc2 _ _ af,af,?_,fun c3 hc3=>?_⟩)
     ·have:=cO g2;exact big (by omega)
     ·have sc3:=az.upd (o:=.lst (F3.take (r.2-(r.2-r.1) % 3)++F3.drop r.2)) hc3;have s5:=s4.trans ((sc1.trans sc2).trans sc3);refine⟨c3,_,Ih.take (r.2-(r.2-r.1) % 3)++Ih.drop r.2,_,_,_,_,rfl,s2.trans s5,.inr (s2.free (s4.free ((sc1.trans sc2).free hc3))),af,ak2 (acN _ (g2.same s5)) (ahP _ (g2.same s5)),?_,fun s hs=>?_⟩
      ·rw[length_append,length_take,length_drop];omega
      ·rcases mem_append.mp hs with z|z
       ·exact agH s (List.mem_of_mem_take z)
       ·exact agH s (List.mem_of_mem_drop z)
  ·rintro σ H' ⟨l2,F3,Ih,u,v,w,z,rfl,s2,hl2,h2,g2,ajA,agH⟩;have:((ss.length:Int)+1).toNat=ss.length+1:=by omega
   rw[this]at ajA;exact absurd ajA (by omega)
theorem ah5 (k:Kd):vd k.str "Rr"=(decide (k=.R)||decide (k=.r)):=by cases k <;> decide +kernel
def QD (K:Frag):Sp:=fun vs H Q _=>∃(l:Addr)(b:Int)(xs:List V)(ss:List Sg),vs=[.ref l,.int b]/\Ms b/\H l=some (.lst xs)/\ve K H xs ss/\ss.length<=5000 /\
 ∀(f:Addr)(ys:List V)(H':Hp),az H H'->H f=none->H' f=some (.lst ys)->xF H' ys (i4 ss (kD b (dw ss)).1)->Q (.ref f) H'
theorem QE (T:Txt K w mg t):bK P w K mg base ig (0+3) t.iA t.vR ["_law_line_here","_law_begin_here"] (QD K):=by
 have F4:=J2 (P:=P) (base:=base) T;refine T.mN.ok og (fun vs H Q E h=>?_) (fun cdv A outer s H vs Q E hr h=>?_)
 ·obtain⟨_,_,_,_,rfl,_⟩:=h;rfl
 ·obtain⟨l,b,xs,ss,rfl,hMs,hS,hg,hn,q⟩:=h;refine aR (ag (aK (i:=2) og.nd rfl (Or.inl rfl) (c8 ao)) (ag (bW PassesOwn.never rfl (aiZ rfl T.ajw (pv 0) (aI aD (aA F4 (hr.mono (by decide)) rfl T.J0 T.o6.kp T.xU .nil aQ (aa (pv 0) (aa (pv 1) ao))) ai (fun _ _=>rfl))) (cU rfl (aG (aC (i:=3) og.nd rfl (Or.inl rfl)) (aG (aC (i:=4) og.nd rfl (Or.inl rfl)) bQ))) (aj (aO (ar (bh.or bg) (aI aD (pv 3) ai (fun _ _=>rfl)) av rfl) (aj (bX (ik plainAttrs_list slot_list_append type_list_append bj (pv 2) (aa (bY (aa (aI aD (pv 3) ai (fun _ _=>rfl)) (aa (pv 4) ao))) ao)))) (aj (aO (ar (bh.or bg) (aI aD (pv 3) ai (fun _ _=>rfl)) av rfl) (aj (bX (ik plainAttrs_list slot_list_append type_list_append bj (pv 2) (aa (bY (aa (ab2 R0 ai) (aa (pv 4) ao))) ao)))) aB))))) (aj (ay (pv 2))))) ?_;refine⟨big (by show 0<=1000;omega),fun D hD=>?_⟩;have s0:=az.upd (o:=.lst []) hD;tm_up;refine⟨l,b,xs,ss,rfl,hMs,s0 _ _ hS,hg.same s0,hn,fun pp f lo yl H1 s1 nf _ _ hpp h1 _ _=>?_⟩;have hD1:H1 D=some (.lst []):=s1 _ _ af;have s01:=s0.trans s1;tm_up;refine⟨⟨_,aX.of (s01 _ _ hS)⟩,⟨_,aX.of h1⟩,?_⟩;have wl:(kD b (dw ss)).1.length=ss.length:=by rw[ZU,O']
  generalize hW:(kD b (dw ss)).1=W at h1 wl;rw[hW]at q;have nDf:f≠D:=fun e=>by rw[e,af]at nf;cases nf
  refine afU (K:=K) (xs:=xs) (ys:=W.map V.int) (fun i σ H'=>∃(u v:Option V)(zs:List V)(qs:List (Int×Int)),σ=[some (.ref l),some (.int b),some (.ref D),u,v]/\az H H'/\H' D=some (.lst zs)/\H' f=some (.lst (W.map V.int))/\xF H' zs qs/\qs++i4 (ss.drop i) (W.drop i)=i4 ss W)
   (by rw[O',wl];exact cO hg) ⟨none,none,[],[],rfl,s01,hD1,h1,.nil,rfl⟩ ?_ ?_ ?_
  ·rintro i σ H' ⟨u,v,zs,qs,rfl,s2,_,hf2,_⟩;exact⟨aX.of (s2 _ _ hS),aX.of hf2⟩
  ·rintro i x y t σ H' hx hy ⟨u,v,zs,qs,rfl,s2,hDl,hf2,pq,hm⟩ ht;obtain⟨s,hs,p,rfl,hp⟩:=gL hg hx;obtain⟨w,hw,rfl⟩:=acO hy;rw[xE hs,xE hw]at hm;simp only [i4]at hm;have sT:az H' (upd H' t (.tup [.ref p,.int w])):=az.upd ht;have hp2:=hp.same (s2.trans sT);have hD2:=sT _ _ hDl;have V9:=sT _ _ hf2;have pq2:=oM sT pq;refine⟨t,_,rfl,dh.of af,rfl,_,_,rfl,_,_,rfl,rfl,?_⟩;generalize upd H' t (.tup [.ref p,.int w])=H3 at sT hp2 hD2 pq2 V9;have s3:=s2.trans sT;have zl:zs.length<sizeLine:=by
    rw[cO pq];have h1:=congrArg List.length hm;have h2:=zU ss W;simp only [length_append]at h1;exact iK (by omega)
   have fin:∀ n:Int,s.1.parting=false->n=Fo s->∀ z,H3 z=none->∃(u v:Option V)(zs':List V)(qs':List (Int×Int)),[some (V.ref l),some (V.int b),some (V.ref D),some (V.ref p),some (V.int w)]=[some (.ref l),some (.int b),some (.ref D),u,v]/\az H (upd (upd H3 z (.tup [.int n,.int w])) D (.lst (zs++[V.ref z])))/\(upd (upd H3 z (.tup [.int n,.int w])) D (.lst (zs++[V.ref z]))) D=some (.lst zs')/\(upd (upd H3 z (.tup [.int n,.int w])) D (.lst (zs++[V.ref z]))) f=some (.lst (W.map V.int))/\xF (upd (upd H3 z (.tup [.int n,.int w])) D (.lst (zs++[V.ref z]))) zs' qs'/\qs'++i4 (ss.drop (i+1)) (W.drop (i+1))=i4 ss W:=by
    intro n hpt hnn z hz;have sz:=az.upd (o:=.tup [.int n,.int w]) hz;have hD4:=sz _ _ hD2;rw[hpt]at hm;refine⟨_,_,_,qs++[(n,w)],rfl,cK (s3.trans sz) hD,af,by rw[ax nDf];exact sz _ _ V9,lE (Yt hD4 (oM sz pq2)) (Sy hD4 ⟨z,rfl,af⟩),?_⟩;rw[List.append_assoc,hnn];exact hm
   tm_up;refine aM (fun h=>?_) (fun h=>?_)
   ·have h':s.1.kQ=true:=by rw[<-JT];exact h
    tm_up;refine⟨.inl ⟨rfl,_,aX.of hD2⟩,?_⟩;tm_up;refine⟨by show 2<=sizeLine;decide,fun z hz=>?_⟩;have sz:=az.upd (o:=.tup [.int s.2,.int w]) hz;refine⟨_,_,_,rfl,rfl,sz _ _ hD2,zl,fin s.2 ?_ ?_ z hz⟩
    ·revert h';cases s.1 <;> decide
    ·unfold Fo;rw[R' h']
   ·have h':s.1.kQ=false:=by rw[<-JT];exact P'.mpr h
    tm_up;refine aM (fun h2=>?_) (fun h2=>?_)
    ·have h2':(decide (s.1=.R)||decide (s.1=.r))=true:=by rw[<-ah5];exact h2
     tm_up;refine⟨.inl ⟨rfl,_,aX.of hD2⟩,?_⟩;tm_up;refine⟨by show 2<=sizeLine;decide,fun z hz=>?_⟩;have sz:=az.upd (o:=.tup [.int (-1),.int w]) hz;refine⟨_,_,_,rfl,rfl,sz _ _ hD2,zl,fin (-1) ?_ ?_ z hz⟩
     ·revert h2';cases s.1 <;> decide
     ·unfold Fo;rw[h'];rfl
    ·have h2':¬(decide (s.1=.R)||decide (s.1=.r))=true:=by rw[<-ah5];exact h2
     have hpt:s.1.parting=true:=by
      revert h' h2'
      cases s.1 <;> decide
     rw[hpt]at hm;exact⟨_,_,zs,qs,rfl,s3,hD2,V9,pq2,hm⟩
  ·rintro σ H' ⟨u,v,zs,qs,rfl,s2,hDl,hf2,pq,hm⟩;rw[cO hg,List.drop_length]at hm;have e:qs=i4 ss W:=by
    rw[<-hm];simp[i4]
   subst e;tm_up;exact q D zs H' s2 hD hDl pq
def Ii (K:Frag):Sp:=fun vs H Q _=>∃(p z:Addr)(s:Sg)(c:dN),vs=[.ref p,.ref z]/\dh K H p [.str s.1.str,.int s.2]/\H z=some (.tup [fo c.1,fo c.2.1,fo c.2.2])/\Q (fo (costOf c s.1)) H
theorem amb (k:Kd):inV (.str k.str) [.str "D",.str "d"]=(decide (k=.D)||decide (k=.d)):=by cases k <;> decide +kernel
theorem amc (k:Kd):inV (.str k.str) [.str "3",.str "2"]=(decide (k=.three)||decide (k=.two)):=by cases k <;> decide +kernel
theorem Ij (T:Txt K w mg t):bK P w K mg base ig (0+1) t.eJ t.qy ["sign","prices"] (Ii K):=by
 refine T.i9.ok kr (fun vs H Q E h=>?_) (fun cdv A outer s H vs Q E hr h=>?_)
 ·obtain⟨_,_,_,_,rfl,_⟩:=h;rfl
 ·obtain⟨p,z,s,c,rfl,hp,hz,q⟩:=h;refine aR (ag (sj (pv 1) (cU rfl (aG (aC (i:=2) kr.nd rfl (Or.inl rfl)) (aG (aC (i:=3) kr.nd rfl (Or.inl rfl)) (aG (aC (i:=4) kr.nd rfl (Or.inl rfl)) bQ))))) (ag (aO (ar (aL.or (aE (aw hr))) (aI aD (pv 0) ai (fun _ _=>rfl)) av (au _)) (aj (ay (pv 2))) aB) (ag (aO (ar (bh.or bg) (aI aD (pv 0) ai (fun _ _=>rfl)) (bP (v:=.ref t.eQ) rfl T.NN rfl) rfl) (aj (ay (pv 3))) aB) (ag (aO (ar (bh.or bg) (aI aD (pv 0) ai (fun _ _=>rfl)) (bP (v:=.ref t.cY) rfl T.Cv rfl) rfl) (aj (ay (pv 4))) aB) (aj (ay ai)))))) ?_;refine⟨_,rfl,z,_,rfl,dh.of hz,rfl,_,_,rfl,_,_,rfl,_,_,rfl,rfl,?_⟩;tm_up;refine KL hp ?_;tm_up;rw[ahM];refine aM (fun h=>?_) (fun h=>?_)
  ·rw[M' h]at q;exact⟨_,rfl,q⟩
  ·have h1:s.1≠.dot:=fun e=>h (W' e);tm_up;refine KL hp ?_;tm_up;refine .inl ⟨_,_,rfl,.inr (T.NO _),rfl,rfl,_,rfl,?_⟩;rw[amb];refine aM (fun h=>?_) (fun h=>?_)
   ·have e:costOf c s.1=c.2.1:=by revert h;cases s.1 <;> first|(intro h;rfl)|(intro h;exact absurd h (by decide))
    rw[e]at q;exact⟨_,rfl,q⟩
   ·tm_up;refine KL hp ?_;tm_up;refine .inl ⟨_,_,rfl,.inr (T.Cw _),rfl,rfl,_,rfl,?_⟩;rw[amc];refine aM (fun h2=>?_) (fun h2=>?_)
    ·have e:costOf c s.1=c.2.2:=by revert h2;cases s.1 <;> first|(intro h;rfl)|(intro h;exact absurd h (by decide))
     rw[e]at q;exact⟨_,rfl,q⟩
    ·have e:costOf c s.1=some 0:=by
      revert h1 h h2
      cases s.1 <;> first|(intro _ _ _;rfl)|(intro a _ _;exact absurd rfl a)|(intro _ a _;exact absurd rfl a)|(intro _ _ a;exact absurd rfl a)
     rw[e]at q;exact q
def aeb (K:Frag):Sp:=fun vs H Q _=>∃(p:Addr)(s:Sg),vs=[.ref p]/\dh K H p [.str s.1.str,.int s.2]/\Q (.bl s.1.small) H
theorem x5 (k:Kd):inV (.str k.str) [.str "s",.str "d",.str "r"]=k.small:=by cases k <;> decide +kernel
theorem aec (T:Txt K w mg t):bK P w K mg base ig (0+1) t.qz t.Ny ["sign"] (aeb K):=by
 refine T.xV.ok adY (fun vs H Q E h=>?_) (fun cdv A outer s H vs Q E hr h=>?_)
 ·obtain⟨_,_,rfl,_⟩:=h;rfl
 ·obtain⟨p,s,rfl,hp,q⟩:=h;rw[<-x5]at q;refine aR (aj (ay (bf (bh.or bg) (aI aD (pv 0) ai (fun _ _=>rfl)) (bP (v:=.ref t.dR) rfl T.Ib rfl) rfl))) ?_;tm_up;refine KL hp ?_;tm_up;exact .inl ⟨_,_,rfl,.inr (T.Ic _),rfl,rfl,q⟩
def Wa (K:Frag):Sp:=fun vs H Q _=>∃(p:Addr)(s:Sg),vs=[.ref p]/\dh K H p [.str s.1.str,.int s.2]/\Q (.bl s.1.parting) H
theorem agJ (k:Kd):inV (.str k.str) [.str ".",.str "3",.str "2"]=k.parting:=by cases k <;> decide +kernel
theorem Wb (T:Txt K w mg t):bK P w K mg base ig (0+1) t.jU t.z9 ["sign"] (Wa K):=by
 refine T.o7.ok VR (fun vs H Q E h=>?_) (fun cdv A outer s H vs Q E hr h=>?_)
 ·obtain⟨_,_,rfl,_⟩:=h;rfl
 ·obtain⟨p,s,rfl,hp,q⟩:=h;rw[<-agJ]at q;refine aR (aj (ay (bf (bh.or bg) (aI aD (pv 0) ai (fun _ _=>rfl)) (bP (v:=.ref t.cX) rfl T.Ct rfl) rfl))) ?_;tm_up;refine KL hp ?_;tm_up;exact .inl ⟨_,_,rfl,.inr (T.Cu _),rfl,rfl,q⟩
def pk:Sp:=fun vs H Q _=>∃(z:Str),vs=[.str z]/\∀ H',az H H'->Q (.bl (rnZ z)) H'
theorem pA (T:Txt K w mg t):bK P w K mg base ig (0+1) t.bp t.eK ["state"] pk:=by
 refine T.b9.ok oX (fun vs H Q E h=>?_) (fun cdv A outer s H vs Q E hr h=>?_)
 ·obtain⟨_,rfl,_⟩:=h;rfl
 ·obtain⟨z,rfl,q⟩:=h;refine aR (aj (ay (bf (bh.or bg) (pv 0) (bY (aa av (aa av (aa av ao)))) rfl))) ?_;tm_up;refine⟨by show 3<=sizeLine;decide,fun p hp=>?_⟩;exact .inl ⟨p,_,rfl,.inr (dh.of af),rfl,rfl,q _ (az.upd hp)⟩
def aar:Sp:=fun vs H Q _=>∃(z:Str)(l c t:Nat),vs=[.str z]/\z.cps.toList=[51,l,c,t]/\z.length<=4/\Q (.bl (n9 l c)) H
theorem Au (T:Txt K w mg t):bK P w K mg base ig (0+1) t.my t.FE ["state"] aar:=by
 refine T.mO.ok JY (fun vs H Q E h=>?_) (fun cdv A outer s H vs Q E hr h=>?_)
 ·obtain⟨_,_,_,_,rfl,_⟩:=h;rfl
 ·obtain⟨z,l,c,t,rfl,hz,hl,q⟩:=h;have hl':z.length<=sizeLine:=ou (by omega);refine aR (ag (aix (i:=1) (j:=2) rfl JY.nd rfl rfl (by decide) rfl rfl (aa (aI aD (pv 0) ai (fun _ _=>rfl)) (aa (aI aD (pv 0) ai (fun _ _=>rfl)) ao)) rfl) (ag (aO (ar (aL.or (aE (aw hr))) (pv 2) av (au _)) (aj (ay (bf (l9.or (iw (aw hr))) (pv 1) av (au _)))) aB) (aj (ay (br (jF (bf (aL.or (aE (aw hr))) (pv 2) av (au _)) (iY (bf (aL.or (aE (aw hr))) (pv 1) av (au _))))))))) ?_;refine⟨_,rfl,.inr (.inr ⟨_,_,l,rfl,rfl,hl',by rw[hz];rfl,?_⟩)⟩;refine⟨_,rfl,.inr (.inr ⟨_,_,c,rfl,rfl,hl',by rw[hz];rfl,?_⟩)⟩;refine⟨_,_,rfl,?_⟩;tm_up;rw[b7 c 48 (by lk)];unfold n9 at q;refine aM (fun h=>?_) (fun h=>?_)
  ·tm_up;rw[R' h]at q;rw[acT l 104 (by lk)];exact q
  ·rw[L' h]at q;refine fG (.bl (decide (c=49)&&decide (l=104))) ?_ ?_
   ·tm_up;rw[b7 c 49 (by lk)];refine aM (fun h=>?_) (fun h=>?_)
    ·tm_up;rw[b7 l 104 (by lk)];exact bA (by rw[h];rfl)
    ·exact bA (by rw[P'.mpr h];rfl)
   ·exact q
def wc:Sp:=fun vs H Q _=>∃(z:Str),vs=[.str z]/\∀ H',az H H'->Q (.bl (bgZ z)) H'
theorem wd (T:Txt K w mg t):bK P w K mg base ig (0+1) t.b8 t.i7 ["state"] wc:=by
 refine T.dJ.ok vK (fun vs H Q E h=>?_) (fun cdv A outer s H vs Q E hr h=>?_)
 ·obtain⟨_,rfl,_⟩:=h;rfl
 ·obtain⟨z,rfl,q⟩:=h;refine aR (aj (ay (bf (bh.or bg) (pv 0) (bY (aa av (aa av ao))) rfl))) ?_;tm_up;refine⟨by show 2<=sizeLine;decide,fun p hp=>?_⟩;exact .inl ⟨p,_,rfl,.inr (dh.of af),rfl,rfl,q _ (az.upd hp)⟩
def Ik:Sp:=fun vs H Q _=>∃(z k:Str)(n:Int)(l c e:Nat),vs=[.str z,.str k,.int n]/\z.cps.toList=[51,l,c,e]/\z.length<=4/\∀ H',az H H'->Q (grS z k n) H'
theorem Il (T:Txt K w mg t):bK P w K mg base ig (0+2) t.eL t.qA ["state","kind","worth"] Ik:=by
 have qN:=pA (P:=P) (base:=base) T;have tU:=Au (P:=P) (base:=base) T;have x6:=wd (P:=P) (base:=base) T;refine T.jb.ok HU (fun vs H Q E h=>?_) (fun cdv A outer s H vs Q E hr h=>?_)
 ·obtain⟨_,_,_,_,_,_,rfl,_⟩:=h;rfl
 ·obtain⟨z,k,n,l,c,e,rfl,hz,hl,q⟩:=h;refine aR (ag (aO (ar (aL.or (aE (aw hr))) (pv 0) (bP (v:=.str "3t0-") rfl T.eV ⟨_,rfl⟩) (au _)) (aj (ay bI)) aB) (ag (aO (a8 (PW.pt (bu (bB (aA qN (hr.mono (by decide)) rfl T.o8 T.b9.kp T.eS .nil aQ (aa (pv 0) ao))) (bu (ar (aL.or (aE (aw hr))) (pv 1) av (au _)) (bM (ar (aL.or (aE (aw hr))) (pv 2) ai (au _))))))) (aj (ay (bP (v:=.str "3t0-") rfl T.eV ⟨_,rfl⟩))) aB) (ag (aO (a8 (PW.pt (ij (bB (aA tU (hr.mono (by decide)) rfl T.Ai T.mO.kp T.tw .nil aQ (aa (pv 0) ao))) (eB (bB (aA x6 (hr.mono (by decide)) rfl T.vZ T.dJ.kp T.ja .nil aQ (aa (pv 0) ao))))))) (aj (ay (P7 (oI hr) (bP (v:=.ref t.dg) rfl T.Ig rfl) (bY (aa (pv 1) (aa (pv 2) ao)))))) aB) (aj (ay bI))))) ?_;unfold grS at q;tm_up;rw[kE];refine aM (fun h=>?_) (fun h=>?_)
  ·rw[R' h]at q;tm_up;exact q _ (az.refl _)
  rw[L' h]at q;tm_up;refine⟨fun b H'=>b=(rnZ z&&(decide (k = "G")&&decide (n=2)))/\az H H',?_,?_⟩
  ·tm_up;intro H1 S1;tm_up;cases rnZ z with
   |false=>exact c9 ⟨rfl,S1⟩
   |true =>
    refine dj ?_;tm_up;rw[kE];cases decide (k = "G") with
    |false=>exact c9 ⟨rfl,S1⟩
    |true =>
     refine dj ?_;tm_up;rw[intD];exact⟨rfl,S1⟩
  rintro _ H1 ⟨rfl,S1⟩;refine aM (fun h=>?_) (fun h=>?_)
  ·rw[R' h]at q;tm_up;exact q _ S1
  rw[L' h]at q;tm_up;refine⟨fun b H'=>b=(clZ z||bgZ z)/\az H H',?_,?_⟩
  ·tm_up;refine⟨z,l,c,e,rfl,hz,hl,?_⟩;have ec:clZ z=n9 l c:=by unfold clZ;rw[hz];rfl
   rw[<-ec];tm_up;cases clZ z with
   |true=>exact dj ⟨rfl,S1⟩
   |false =>
    refine c9 ?_;tm_up;intro H2 S2;exact⟨_,rfl,rfl,S1.trans S2⟩
  rintro _ H2 ⟨rfl,S2⟩;refine aM (fun h=>?_) (fun h=>?_)
  ·rw[R' h]at q;tm_up;refine⟨_,_,rfl,T.FY,?_⟩;tm_up;refine⟨by show 2<=sizeLine;decide,fun p hp=>?_⟩;exact⟨p,k,n,rfl,af,q _ (S2.trans (az.upd hp))⟩
  rw[L' h]at q;tm_up;exact q _ S2
def CF:Sp:=fun vs H Q _=>∃(z k:Str)(n:Int),vs=[.str z,.str k,.int n]/\∀ H',az H H'->Q (twS z k n) H'
theorem CG (T:Txt K w mg t):bK P w K mg base ig (0+1) t.dk t.mz ["state","kind","worth"] CF:=by
 refine T.gC.ok Ci (fun vs H Q E h=>?_) (fun cdv A outer s H vs Q E hr h=>?_)
 ·obtain⟨_,_,_,rfl,_⟩:=h;rfl
 ·obtain⟨z,k,n,rfl,q⟩:=h;refine aR (ag (aO (a8 (PW.pt (bu (ar (aL.or (aE (aw hr))) (pv 0) av (au _)) (bM (ar (l9.or (iw (aw hr))) (pv 1) av (au _)))))) (aj (ay bI)) aB) (ag (aO (a8 (PW.pt (bu (ar (aL.or (aE (aw hr))) (pv 0) av (au _)) (bM (ar (aL.or (aE (aw hr))) (pv 1) av (au _)))))) (aj (ay bI)) aB) (aj (ay (P7 (oI hr) (bP (v:=.ref t.cj) rfl T.CB rfl) (bY (aa (pv 1) (aa (pv 2) ao)))))))) ?_;refine dP (decide (z = "2G") && !decide (k = ".")) ?_ ?_
  ·tm_up;rw[kE];cases decide (z = "2G") with
   |false=>exact bx rfl
   |true =>
    refine dj ?_;tm_up;rw[kE];exact bx rfl
  unfold twS at q;refine aM (fun h=>?_) (fun h=>?_)
  ·rw[R' h]at q;tm_up;exact q H (az.refl _)
  rw[L' h]at q;refine dP (decide (z = "2g")&&decide (k = ".")) ?_ ?_
  ·tm_up;rw[kE];cases decide (z = "2g") with
   |false=>exact bx rfl
   |true =>
    refine dj ?_;tm_up;rw[kE];exact bx rfl
  refine aM (fun h=>?_) (fun h=>?_)
  ·rw[R' h]at q;tm_up;exact q H (az.refl _)
  rw[L' h]at q;tm_up;refine⟨_,_,rfl,T.Ar,?_⟩;tm_up;refine⟨by show 2<=sizeLine;decide,fun p hp=>?_⟩;exact⟨p,k,n,rfl,af,q _ (az.upd hp)⟩
def NS:Sp:=fun vs H Q _=>∃(k c:Str)(n:Int),vs=[.str k,.str c,.int n]/\Q (tlS k c n) H
theorem NT (T:Txt K w mg t):bK P w K mg base ig (0+1) t.gu t.sV ["kind","count","worth"] NS:=by
 refine T.kI.ok Nu (fun vs H Q E h=>?_) (fun cdv A outer s H vs Q E hr h=>?_)
 ·obtain⟨_,_,_,rfl,_⟩:=h;rfl
 ·obtain⟨k,c,n,rfl,q⟩:=h;refine aR (ag (aO (ar (aL.or (aE (aw hr))) (pv 2) ai (au _)) (aj (ay (br (bz (ar (aL.or (aE (aw hr))) (pv 0) av (au _)) av av)))) aB) (ag (aO (a8 (PW.pt (bu (ar (aL.or (aE (aw hr))) (pv 2) ai (au _)) (bu (ar (aL.or (aE (aw hr))) (pv 0) av (au _)) (bM (ar (aL.or (aE (aw hr))) (pv 1) av (au _))))))) (aj (ay av)) aB) (aj (ay bI)))) ?_;unfold tlS at q;tm_up;rw[intD];refine aM (fun h=>?_) (fun h=>?_)
  ·rw[R' h]at q;refine fG (if decide (k = "s")=true then .str "s" else .str "o") ?_ q;tm_up;rw[kE];refine aM (fun h=>?_) (fun h=>?_)
   ·tm_up;exact bA (by rw[R' h])
   ·tm_up;exact bA (by rw[L' h])
  rw[L' h]at q;refine dP (decide (n=2)&&(decide (k = "s")&&decide (c = "2"))) ?_ ?_
  ·tm_up;rw[intD];cases decide (n=2) with
   |false=>exact bx rfl
   |true =>
    refine dj ?_;tm_up;rw[kE];cases decide (k = "s") with
    |false=>exact bx rfl
    |true =>
     refine dj ?_;tm_up;rw[kE];exact bx rfl
  refine aM (fun h=>?_) (fun h=>?_)
  ·rw[R' h]at q;tm_up;exact q
  rw[L' h]at q;tm_up;exact q
def Im:Sp:=fun vs H Q _=>∃(z k:Str)(n:Int)(l c e:Nat),vs=[.str z,.str k,.int n]/\z.cps.toList=[51,l,c,e]/\(c=48\/c=49\/c=50)/\z.length<=4/\Q (smS z k n) H
theorem Io (T:Txt K w mg t):bK P w K mg base ig (0+2) t.eM t.qB ["state","kind","worth"] Im:=by
 have QG:=NT (P:=P) (base:=base) T;refine T.jc.ok ky (fun vs H Q E h=>?_) (fun cdv A outer s H vs Q E hr h=>?_)
 ·obtain⟨_,_,_,_,_,_,rfl,_⟩:=h;rfl
 ·obtain⟨z,k,n,l,c,e,rfl,hz,hc,hl,q⟩:=h;have hl':z.length<=sizeLine:=ou (by omega);refine aR (ag (aO (ar (aL.or (aE (aw hr))) (aI aD (pv 0) ai (fun _ _=>rfl)) av (au _)) (aj (ay bI)) aB) (ag (aK (i:=3) ky.nd rfl (Or.inl rfl) (aI akM (bP (v:=.ref t.df) rfl T.Ie rfl) (aI aD (pv 0) ai (fun _ _=>rfl)) (fun _ _=>rfl))) (ag (aK (i:=4) ky.nd rfl (Or.inl rfl) (aA QG (hr.mono (by decide)) rfl T.ND T.kI.kp T.tD .nil aQ (aa (pv 1) (aa (pv 3) (aa (pv 2) ao))))) (ag (aO (ar Kj (pv 4) bI (au _)) (aj (ay bI)) aB) (ag (aK (i:=5) ky.nd rfl (Or.inl rfl) (br (bz (ar (aL.or (aE (aw hr))) (aI aD (pv 0) ai (fun _ _=>rfl)) av (au _)) av (aI aD (pv 0) ai (fun _ _=>rfl))))) (aj (ay (Kv (ip EZ (ip (vE (pv 5)) (ip (vE (pv 3)) (ip (vE (pv 4)) Ku)))))))))))) ?_;unfold smS at q;tm_up;refine .inr (.inr ⟨_,_,e,rfl,rfl,hl',by rw[hz];rfl,?_⟩);tm_up;rw[b7 e 83 (by lk)];have e3:z.cps.toList.getD 3 0=e:=by rw[hz];rfl
  have e2:z.cps.toList.getD 2 0=c:=by rw[hz];rfl
  have e1:z.cps.toList.getD 1 0=l:=by rw[hz];rfl
  rw[e3,e2]at q;refine aM (fun h=>?_) (fun h=>?_)
  ·rw[R' h]at q;tm_up;exact q
  rw[L' h]at q;tm_up;refine .inr (.inr ⟨_,_,c,rfl,rfl,hl',by rw[hz];rfl,?_⟩);refine⟨_,_,_,.str (nxC c),rfl,rfl,T.FX,by rcases hc with rfl|rfl|rfl <;> decide +kernel,?_⟩;tm_up;refine⟨k,nxC c,n,rfl,?_⟩;tm_up;have cl:=Yu c;have ll:=Yv z;have l3:("3":Str).length=1:=JR _ (.inr (.inr (.inr (.inl rfl))));have ls:=JR "s" (.inl rfl);have lo:=JR "o" (.inr (.inl rfl));have lS:=JR "S" (.inr (.inr (.inl rfl)));generalize nxC c=cc at q cl;rcases Z1 k cc n with ht|ht|ht|ht <;> rw[ht]at q ⊢
  ·refine⟨rfl,_,rfl,dj ?_⟩;tm_up;exact q
  all_goals
   refine⟨rfl,_,rfl,c9 ?_⟩;refine fG (.str (lfZ z)) ?_ ?_
   ·tm_up;refine .inr (.inr ⟨_,_,l,rfl,rfl,hl',by rw[hz];rfl,?_⟩);tm_up;rw[b7 l 116 (by lk)];unfold lfZ chr;rw[e1];refine aM (fun h=>?_) (fun h=>?_)
    ·tm_up;exact bA (by rw[R' h])
    ·tm_up;refine .inr (.inr ⟨_,_,l,rfl,rfl,hl',by rw[hz];rfl,?_⟩);exact bA (by rw[L' h])
   refine⟨?_,_,rfl,.inl ⟨_,rfl,?_,?_,_,rfl,.inl ⟨_,rfl,?_,?_,_,rfl,.inl ⟨_,rfl,?_,?_,?_,?_⟩⟩⟩⟩
   all_goals first
    |exact ou (by omega)
    |exact ou (by simp only [PySem.Str.empty_append,sM];omega)
    |(rw[PySem.Str.empty_append];exact q)
def CH:Sp:=fun vs H Q _=>∃(z k:Str)(n:Int)(l c e:Nat),vs=[.str z,.str k,.int n]/\z.cps.toList=[51,l,c,e]/\z.length<=4/\Q (ptS z k n) H
theorem CI (T:Txt K w mg t):bK P w K mg base ig (0+2) t.dm t.mB ["state","kind","worth"] CH:=by
 have tU:=Au (P:=P) (base:=base) T;refine T.gD.ok Cj (fun vs H Q E h=>?_) (fun cdv A outer s H vs Q E hr h=>?_)
 ·obtain⟨_,_,_,_,_,_,rfl,_⟩:=h;rfl
 ·obtain⟨z,k,n,l,c,e,rfl,hz,hl,q⟩:=h;refine aR (ag (aO (a8 (PW.pt (ij (ar (l9.or (iw (aw hr))) (pv 2) ai (au _)) (eB (eC (bB (aA tU (hr.mono (by decide)) rfl T.Ai T.mO.kp T.tw .nil aQ (aa (pv 0) ao)))))))) (aj (ay bI)) aB) (ag (aO (ar (aL.or (aE (aw hr))) (pv 1) av (au _)) (aj (ay (bP (v:=.str "2-") rfl T.rE ⟨_,rfl⟩))) aB) (aj (ay (bP (v:=.str "3n0-") rfl T.oq ⟨_,rfl⟩))))) ?_;refine dP (!decide (n=0) || !clZ z) ?_ ?_
  ·tm_up;rw[intD];cases hn:decide (n=0) with
   |false=>exact bx rfl
   |true =>
    refine c9 ?_;tm_up;refine⟨z,l,c,e,rfl,hz,hl,?_⟩;have ec:clZ z=n9 l c:=by unfold clZ;rw[hz];rfl
    rw[<-ec];exact⟨_,rfl,rfl,rfl⟩
  unfold ptS at q;refine aM (fun h=>?_) (fun h=>?_)
  ·rw[R' h]at q;tm_up;exact q
  rw[L' h]at q;tm_up;rw[kE];refine aM (fun h=>?_) (fun h=>?_)
  ·rw[R' h]at q;tm_up;exact q
  rw[L' h]at q;tm_up;exact q
def agK (K:Frag):Sp:=fun vs H Q _=>∃(z:Str)(p:Addr)(g:Sg)(n:Int),vs=[.str z,.ref p,.int n]/\z∈ST/\dh K H p [.str g.1.str,.int g.2]/\∀ H',az H H'->Q (stS z g.1 n) H'
theorem agL (T:Txt K w mg t):bK P w K mg base ig (0+3) t.vS t.VU ["state","sign","worth"] (agK K):=by
 have agM:=aec (P:=P) (base:=base) T;have aas:=Wb (P:=P) (base:=base) T;have NU:=Il (P:=P) (base:=base) T;have F5:=CG (P:=P) (base:=base) T;have NV:=Io (P:=P) (base:=base) T;have F6:=CI (P:=P) (base:=base) T;refine T.FN.ok agy (fun vs H Q E h=>?_) (fun cdv A outer s H vs Q E hr h=>?_)
 ·obtain⟨_,_,_,_,rfl,_⟩:=h;rfl
 ·obtain⟨z,p,g,n,rfl,hz,hp,q⟩:=h;have hl:=EH hz;refine aR (ag (aO (ar (bh.or bg) (pv 0) (bP (v:=.ref t.bH) rfl T.j2 rfl) rfl) (aj (ay (aA F5 (hr.mono (by decide)) rfl T.Co T.gC.kp T.mP .nil aQ (aa (pv 0) (aa (aI aD (pv 1) ai (fun _ _=>rfl)) (aa (pv 2) ao)))))) aB) (ag (aO (bB (aA agM (hr.mono (by decide)) rfl T.ad2 T.xV.kp T.NC .nil aQ (aa (pv 1) ao))) (aj (ay (aA NV (hr.mono (by decide)) rfl T.HZ T.jc.kp T.qK .nil aQ (aa (pv 0) (aa (aI aD (pv 1) ai (fun _ _=>rfl)) (aa (pv 2) ao)))))) aB) (ag (aO (bB (aA aas (hr.mono (by decide)) rfl T.VZ T.o7.kp T.Ah .nil aQ (aa (pv 1) ao))) (aj (ay (aA F6 (hr.mono (by decide)) rfl T.Cp T.gD.kp T.mQ .nil aQ (aa (pv 0) (aa (aI aD (pv 1) ai (fun _ _=>rfl)) (aa (pv 2) ao)))))) aB) (aj (ay (aA NU (hr.mono (by decide)) rfl T.HY T.jb.kp T.qJ .nil aQ (aa (pv 0) (aa (aI aD (pv 1) ai (fun _ _=>rfl)) (aa (pv 2) ao))))))))) ?_;unfold stS at q;tm_up;refine .inl ⟨_,_,rfl,.inr (T.j3 _),rfl,rfl,?_⟩;rw[ahU hz];tm_up;refine aM (fun h=>?_) (fun h=>?_)
  ·have h:vH z=true:=h;rw[R' h]at q;refine⟨_,rfl,_,rfl,KL hp ⟨_,rfl,z,g.1.str,n,rfl,q⟩⟩
  have h:¬ vH z=true:=h;obtain⟨l,c,e,h3⟩:=xG hz h;rw[L' h]at q;refine⟨_,rfl,p,g,rfl,hp,_,rfl,?_⟩;refine aM (fun h=>?_) (fun h=>?_)
  ·rw[R' h]at q;exact⟨_,rfl,_,rfl,KL hp ⟨_,rfl,z,g.1.str,n,l,c,e,rfl,h3,ak5 hz h3,hl,q H (az.refl _)⟩⟩
  rw[L' h]at q;refine⟨_,rfl,p,g,rfl,hp,_,rfl,?_⟩;refine aM (fun h=>?_) (fun h=>?_)
  ·rw[R' h]at q;exact⟨_,rfl,_,rfl,KL hp ⟨_,rfl,z,g.1.str,n,l,c,e,rfl,h3,hl,q H (az.refl _)⟩⟩
  rw[L' h]at q;exact⟨_,rfl,_,rfl,KL hp ⟨_,rfl,z,g.1.str,n,l,c,e,rfl,h3,hl,q⟩⟩
def aed (K:Frag):Sp:=fun vs H Q _=>∃(z:Str)(sg:Addr)(n:Int)(pz:Addr)(ys:List V)(ss:List Sg)(c:dN),vs=[.str z,.ref sg,.int n,.ref pz]/\z∈ST/\0<=n/\n<=9/\dh K H sg ys/\Paired (vm K H) ys ss/\ss.length<=10/\H pz=some (.tup [fo c.1,fo c.2.1,fo c.2.2]) /\
 ∀(l:Addr)(xs:List V)(H':Hp),az H H'->H l=none->H' l=some (.lst xs)->Paired (KO K H') xs (a7 c z n ss)->Q (.ref l) H'
theorem QH (T:Txt K w mg t):bK P w K mg base ig (0+4) t.qC t.Nz ["state","signs","worth","prices"] (aed K):=by
 have NW:=Ij (P:=P) (base:=base) T;have ajB:=agL (P:=P) (base:=base) T;refine T.u7.ok sR (fun vs H Q E h=>?_) (fun cdv A outer s H vs Q E hr h=>?_)
 ·obtain⟨_,_,_,_,_,_,_,rfl,_⟩:=h;rfl
 ·obtain⟨z,sg,n,pz,ys,ss,c,rfl,hz,h0,h9,hsg,hss,hl,hpz,q⟩:=h;refine aR (ag (aK (i:=4) sR.nd rfl (Or.inl rfl) (c8 ao)) (ag (bW PassesOwn.never rfl (Kh (pv 1)) (aC (i:=5) sR.nd rfl (Or.inl rfl)) (ag (aK (i:=6) sR.nd rfl (Or.inl rfl) (aA NW (hr.mono (by decide)) rfl T.HX T.i9.kp T.qI .nil aQ (aa (pv 5) (aa (pv 3) ao)))) (ag (aK (i:=7) sR.nd rfl (Or.inl rfl) (aA ajB (hr.mono (by decide)) rfl T.agA T.FN.kp T.V0 .nil aQ (aa (pv 0) (aa (pv 5) (aa (pv 2) ao))))) (aj (aO (a8 (PW.pt (bu (ar uS (pv 6) bI (au _)) (bM (ar uS (pv 7) bI (au _)))))) (aj (bX (ik plainAttrs_list slot_list_append type_list_append bj (pv 4) (aa (bY (aa (pv 5) (aa (pv 6) (aa (pv 7) ao)))) ao)))) aB))))) (aj (ay (pv 4))))) ?_;refine⟨big (by show 0<=1000;omega),fun f hf=>?_⟩;have s0:=az.upd (o:=.lst []) hf;tm_up;refine⟨⟨ys,s0.tup hsg⟩,Ki (K:=K) (xs:=ys) (fun i σ H'=>∃(u v w:Option V)(xs:List V),σ=[some (.str z),some (.ref sg),some (.int n),some (.ref pz),some (.ref f),u,v,w]/\az H H'/\H' f=some (.lst xs)/\Paired (KO K H') xs (a7 c z n (ss.take i))/\i<=ss.length)
   ⟨none,none,none,[],rfl,s0,af,.nil,V' _⟩ ?_ ?_ ?_⟩
  ·rintro i σ H' _ ⟨u,v,w,xs,rfl,s1,_⟩;exact s1.tup hsg
  ·rintro i x σ H' hx ⟨u,v,w,xs,rfl,s1,hf1,p1,il⟩;obtain⟨s,hs,p,rfl,hp⟩:=gL hss hx;have x8:i<ss.length:=(F'.mp hs).1;have hp1:=s1.tup hp;have xl:xs.length<=10:=by
    rw[cO p1];exact Nat.le_trans (Z2 _ _ _ _) (by rw[length_take];omega)
   have ht:=SA (c:=c) (z:=z) (n:=n) hs;unfold KN at ht;tm_up;refine⟨p,pz,s,c,rfl,hp1,s1 _ _ hpz,?_⟩;tm_up;refine⟨z,p,s,n,rfl,hz,hp1,fun H2 s2=>?_⟩;have sF:=s1.trans s2;have pF:=bC (fun _ _ q=>KO.kn s2.kn q) p1;have hfF:=s2 _ _ hf1;rcases acU hz s.1 h0 h9 with ⟨e1,e2⟩|⟨y,hy,e1,e2⟩
   ·rw[e2]at ht;have ht:a7 c z n (ss.take (i+1))=a7 c z n (ss.take i):=by
     rw[ht];cases costOf c s.1 <;> exact append_nil _
    rw[e1];refine⟨fun b H3=>H3=H2/\b=false,?_,?_⟩
    ·cases costOf c s.1 with
     |none =>
      tm_up;exact⟨rfl,_,rfl,c9 ⟨rfl,rfl⟩⟩
     |some m =>
      tm_up;refine⟨rfl,_,rfl,dj ?_⟩;tm_up;exact⟨rfl,_,rfl,rfl,rfl⟩
    ·rintro _ _ ⟨rfl,rfl⟩;exact c9 ⟨_,_,_,xs,rfl,sF,hfF,by rw[ht];exact pF,x8⟩
   ·rw[e2]at ht;rw[e1];cases ec:costOf c s.1 with
    |none =>
     rw[ec]at ht;have ht:a7 c z n (ss.take (i+1))=a7 c z n (ss.take i):=by rw[ht];exact append_nil _
     refine⟨fun b H3=>H3=H2/\b=false,?_,?_⟩
     ·tm_up;exact⟨rfl,_,rfl,c9 ⟨rfl,rfl⟩⟩
     ·rintro _ _ ⟨rfl,rfl⟩;exact c9 ⟨_,_,_,xs,rfl,sF,hfF,by rw[ht];exact pF,x8⟩
    |some m =>
     rw[ec]at ht;refine⟨fun b H3=>H3=H2/\b=true,?_,?_⟩
     ·tm_up;refine⟨rfl,_,rfl,dj ?_⟩;tm_up;exact⟨rfl,_,rfl,rfl,rfl⟩
     ·rintro _ _ ⟨rfl,rfl⟩;refine dj ?_;tm_up;refine⟨.inl ⟨rfl,_,aX.of hfF⟩,?_⟩;tm_up;refine⟨by show 3<=sizeLine;decide,fun tp htp=>?_⟩;have sT:=az.upd (o:=.tup [.ref p,.int m,.str y]) htp;have hfT:=sT _ _ hfF;refine⟨f,xs,_,rfl,rfl,hfT,aS (by omega),?_⟩;refine⟨_,_,_,_,rfl,cK (sF.trans sT) hf,af,?_,x8⟩;rw[ht];exact bC (fun _ _ q=>KO.write hfT q) (lE (bC (fun _ _ q=>KO.kn sT.kn q) pF) ⟨tp,p,rfl,af,(s2.trans sT).tup hp1⟩)
  ·rintro σ H' ⟨u,v,w,xs,rfl,s1,hf1,p1,_⟩;rw[cO hss,take_length]at p1;tm_up;exact q f xs H' s1 hf hf1 p1
def Av (K:Frag):Sp:=fun vs H Q _=>∃(z:Str)(pz:Addr)(c:dN),vs=[.str z,.ref pz]/\z∈ST/\H pz=some (.tup [fo c.1,fo c.2.1,fo c.2.2]) /\
 ∀(l:Addr)(xs:List V)(H':Hp),az H H'->H l=none->H' l=some (.lst xs)->Paired (KO K H') xs (a7 c z 0 gX)->Q (.ref l) H'
theorem pB (T:Txt K w mg t):bK P w K mg base ig (0+5) t.cV t.kS ["state","prices"] (Av K):=by
 have NX:=QH (P:=P) (base:=base) T;refine T.dC.ok z6 (fun vs H Q E h=>?_) (fun cdv A outer s H vs Q E hr h=>?_)
 ·obtain⟨_,_,_,rfl,_⟩:=h;rfl
 ·obtain⟨z,pz,c,rfl,hz,hpz,q⟩:=h;refine aR (aj (ay (aA NX (hr.mono (by decide)) rfl T.Qs T.u7.kp T.EM .nil aQ (aa (pv 0) (aa (bP (v:=.ref t.c6) rfl T.CC rfl) (aa ai (aa (pv 1) ao))))))) ?_;tm_up;exact⟨z,_,0,pz,_,gX,c,rfl,hz,by decide,by decide,T.CD _,.cons ⟨_,rfl,T.xY _⟩ (.cons ⟨_,rfl,T.xZ _⟩ (.cons ⟨_,rfl,T.x3 _⟩ .nil)),by decide,hpz,q⟩
def CJ (K:Frag):Sp:=fun vs H Q _=>∃(A:Addr->Prop)(d l:Addr)(z:Str)(c:Int)(kvs:List (Key×V)) (ws:List Wy) (ys:List V) (ln:List Sg),vs=[.ref d,.str z,.int c,.ref l]/\H d=some (.dK kvs)/\kvs.length<=900/\Paired (iJ K A H) kvs ws/\A l/\H l=some (.lst ys)/\Paired (vm K H) ys ln /\
 ∀(kvs':List (Key×V)) (H':Hp),(∀ b o,b≠d->H b=some o->H' b=some o)->H' d=some (.dK kvs')->Paired (iJ K A H') kvs' (gW ws z c ln)->Q .non H'
theorem rH (T:Txt K w mg t):bK P w K mg base ig (0+1) t.dn t.mC ["ways","state","cost","line"] (CJ K):=by
 refine T.ej.ok Ck (fun vs H Q E h=>?_) (fun cdv A outer s H vs Q E hr h=>?_)
 ·obtain⟨_,_,_,_,_,_,_,_,_,rfl,_⟩:=h;rfl
 ·obtain⟨A',d,l,z,c,kvs,ws,ys,ln,rfl,hd,hk,hws,hA,hl,hln,q⟩:=h;refine aR (aj (aO (a8 (PW.pt (ij (RV (JI (oI hr) (pv 1) (pv 0))) (eB (ar rB (pv 2) (aI aD (ED (oI hr) (pv 0) (pv 1) (fun _ _=>rfl)) ai (fun _ _=>rfl)) (au _)))))) (aj (Yj (oI hr) (pv 0) (pv 1) (bY (aa (pv 2) (aa (pv 3) ao))) rfl)) aB)) ?_;have fin:∀ tp,H tp=none->acV ws z c ln=gW ws z c ln->Q .non (upd (upd H tp (.tup [.int c,.ref l])) d (.dK (putK kvs (Sum.inr z) (.ref tp)))):=fun tp htp hu=>by
   have sT:=az.upd (o:=.tup [.int c,.ref l]) htp;have hd2:=sT _ _ hd;have kn:=Kn.put (u:=.dK (putK kvs (Sum.inr z) (.ref tp))) hd2 rfl;refine q _ _ (fun b o hb e=>by rw[ax hb];exact sT _ _ e) af ?_;have:=iJ.put (iJ.xI sT.kn hws) (z:=z) (v:=.ref tp) (c:=c) (ln:=ln) ⟨rfl,tp,l,ys,rfl,hA,af,sT _ _ hl,vm.xI sT.kn hln⟩;rw[hu]at this;exact iJ.xI kn this
  rcases iJ.val hws z with ⟨e1,e2⟩|⟨⟨k,ol⟩,v,e1,e2,e3⟩
  ·refine dP true ?_ (dj ?_)
   ·refine⟨_,rfl,_,rfl,d,_,rfl,ot.k (k:=Sum.inr z) hd,?_⟩;rw[e2];exact⟨_,rfl,dj ⟨rfl,rfl⟩⟩
   ·tm_up;refine⟨by show 2<=sizeLine;decide,fun tp htp=>?_⟩;refine⟨_,rfl,_,rfl,d,_,rfl,Si.k (k:=Sum.inr z) ((az.upd htp) _ _ hd) (aS (by omega)),?_⟩;exact fin tp htp (by unfold acV gW;rw[e1])
  ·obtain⟨_,tq,lq,yq,rfl,_,hq,_⟩:=e3;refine dP (decide (c<k)) ?_ ?_
   ·refine⟨_,rfl,_,rfl,d,_,rfl,ot.k (k:=Sum.inr z) hd,?_⟩;rw[e2];refine⟨_,rfl,c9 ?_⟩;tm_up;have g:=ot.k (k:=Sum.inr z) hd;rw[e2]at g;refine⟨d,_,rfl,g,?_⟩;tm_up;exact⟨rfl,rfl⟩
   refine aM (fun h=>?_) (fun h=>?_)
   ·tm_up;refine⟨by show 2<=sizeLine;decide,fun tp htp=>?_⟩;refine⟨_,rfl,_,rfl,d,_,rfl,Si.k (k:=Sum.inr z) ((az.upd htp) _ _ hd) (aS (by omega)),?_⟩;exact fin tp htp (by
     unfold acV gW;rw[e1];exact(R' (M' h)).symm)
   ·refine q kvs H (fun _ _ _ e=>e) hd ?_;unfold gW;rw[e1];show Paired _ _ (if c<k then _ else _);rw[L' (fun z=>h (W' z))];exact hws
def rQ (K:Frag):Sp:=fun vs H Q _=>∃(A:Addr->Prop)(d pz:Addr)(c:dN)(kvs:List (Key×V)) (ws:List Wy) (B:Nat),vs=[.ref d,.ref pz]/\H d=some (.dK kvs)/\Paired (iJ K A H) kvs ws/\fq B ws/\B<=100000/\(∀ l,H l=none->A l)/\H pz=some (.tup [fo c.1,fo c.2.1,fo c.2.2]) /\
 ∀(f:Addr)(kvs':List (Key×V)) (H':Hp),az H H'->H f=none->H' f=some (.dK kvs')->Paired (iJ K A H') kvs' (withPart c ws)->Q (.ref f) H'
theorem rR (T:Txt K w mg t):bK P w K mg base ig (0+6) t.bE t.gv ["ways","prices"] (rQ K):=by
 have kW:=pB (P:=P) (base:=base) T;have mY:=rH (P:=P) (base:=base) T;refine T.bV.ok a6 (fun vs H Q E h=>?_) (fun cdv A outer s H vs Q E hr h=>?_)
 ·obtain⟨_,_,_,_,_,_,_,rfl,_⟩:=h;rfl
 ·obtain⟨A',d,pz,c,kvs,ws,B,rfl,hd,hws,wok,hB,hA,hpz,q⟩:=h;have wl:=wok.len;refine aR (ag (aK (i:=2) a6.nd rfl (Or.inl rfl) (di Sl rfl T.agC afS (aa (pv 0) ao))) (ag (bW PassesOwn.never rfl (jG rfl T.mX (aa (bP (v:=.int 2) rfl T.tT ⟨_,rfl⟩) ao)) (aC (i:=3) a6.nd rfl (Or.inl rfl)) (aj (bW PassesOwn.never rfl (cq (di Sk rfl T.xX xA (aa (pv 2) ao))) (aC (i:=4) a6.nd rfl (Or.inl rfl)) (ag (sj (ED (oI hr) (pv 2) (pv 4) (fun _ _=>rfl)) (cU rfl (aG (aC (i:=5) a6.nd rfl (Or.inl rfl)) (aG (aC (i:=6) a6.nd rfl (Or.inl rfl)) bQ)))) (aj (bW PassesOwn.never rfl (cq (aA kW (hr.mono (by decide)) rfl T.o9 T.dC.kp T.iu .nil aQ (aa (pv 4) (aa (pv 1) ao)))) (cU rfl (aG (aC (i:=7) a6.nd rfl (Or.inl rfl)) (aG (aC (i:=8) a6.nd rfl (Or.inl rfl)) (aG (aC (i:=9) a6.nd rfl (Or.inl rfl)) bQ)))) (aj (bX (aA mY (hr.mono (by decide)) rfl T.rD T.ej.kp T.jd .nil aQ (aa (pv 2) (aa (pv 9) (aa (aJ (a9.or (aF.or ba)) (pv 5) (pv 8)) (aa (aJ (a9.or (aF.or ba)) (pv 6) (c8 (aa (pv 7) ao))) ao))))))))))))) (aj (ay (pv 2))))) ?_;tm_up;refine⟨d,kvs,rfl,.inl hd,fun f hf=>?_⟩;have s0:=az.upd (o:=.dK kvs) hf;tm_up;refine⟨by decide,by decide,lK (n:=2) (fun i σ H'=>∃(v1 v2 v3 v4 v5 v6 v7:Option V)(kvs:List (Key×V)),σ=[some (.ref d),some (.ref pz),some (.ref f),v1,v2,v3,v4,v5,v6,v7]/\az H H'/\H' f=some (.dK kvs)/\Paired (iJ K A' H') kvs (Ce c ws i)/\i<=2)
   ⟨none,none,none,none,none,none,none,kvs,rfl,s0,af,iJ.xI s0.kn hws,by decide⟩ ?_ ?_⟩
  ·rintro i σ H' hi ⟨v1,v2,v3,v4,v5,v6,v7,QI,rfl,s1,hf1,w1,il⟩;have aok:=EI (c:=c) wok i;generalize hac:Ce c ws i=ac at w1 aok;have acl:=aok.len;refine⟨_,rfl,rfl,f,QI,rfl,.inl hf1,fun l1 hl1=>?_⟩;rw[ajq w1];have s2:=az.upd (o:=.lst ((ac.map (·.1)).map V.str)) hl1;have h2:=af (H:=H') (a:=l1) (o:=.lst ((ac.map (·.1)).map V.str));have nl:H l1=none:=s1.free hl1;generalize upd H' l1 (.lst ((ac.map (·.1)).map V.str))=H2 at s2 h2;refine⟨l1,rfl,⟨_,aX.of h2⟩,dD (K:=K) (xs:=(ac.map (·.1)).map V.str) (fun j σ H'=>∃(v2 v3 v4 v5 v6 v7:Option V)(kvs:List (Key×V)),σ=[some (.ref d),some (.ref pz),some (.ref f),some (.int (0+(i:Int))),v2,v3,v4,v5,v6,v7]/\az H H'/\H' l1=some (.lst ((ac.map (·.1)).map V.str))/\H' f=some (.dK kvs)/\Paired (iJ K A' H') kvs (kF c ((ac.map (·.1)).take j) ac)/\j<=ac.length)
    ⟨v2,v3,v4,v5,v6,v7,QI,rfl,s1.trans s2,h2,s2 _ _ hf1,iJ.xI s2.kn w1,V' _⟩ ?_ ?_ ?_⟩
   ·rintro j σ H' _ ⟨v2,v3,v4,v5,v6,v7,kvs,rfl,_,h3,_⟩;exact aX.of h3
   ·rintro j x σ H3 hx ⟨v2,v3,v4,v5,v6,v7,ajC,rfl,s3,h3,V9,w3,jl⟩;obtain⟨z,hz0,rfl⟩:=xH hx;have jl2:j<ac.length:=by have:=(F'.mp hz0).1;rwa [O']at this
    have hzm:z∈ac.map (·.1):=Z' hz0;have hz:z∈ST:=by
     obtain⟨w,hw,rfl⟩:=mem_map.mp hzm;exact aok.st w hw
    have cok:=Fj (c:=c) (zs:=(ac.map (·.1)).take j) (acc:=ac) (fun y hy=>by
     obtain⟨w,hw,rfl⟩:=mem_map.mp (List.mem_of_mem_take hy);exact aok.st w hw) aok
    have hck:=Fl c ((ac.map (·.1)).take j) ac hzm;have hnx:kF c ((ac.map (·.1)).take (j+1)) ac=dW c (kF c ((ac.map (·.1)).take j) ac) z:=by rw[take_succ,hz0];exact SE c _ z ac
    have arx:((ac.map (·.1)).take j).length<=28:=by rw[length_take,O'];omega
    generalize kF c ((ac.map (·.1)).take j) ac=cu at w3 cok hck hnx;obtain⟨⟨k0,ql⟩,hq0⟩:=Z3 hck;have qll:ql.length<=B+28 * i+28:=Nat.le_trans (cok.ln _ (xJ hq0)) (by omega);rcases iJ.val w3 z with ⟨e1,_⟩|⟨q1,v,e1,e2,e3⟩
    ·rw[e1]at hq0;cases hq0
    rw[hq0]at e1;obtain rfl:(k0,ql)=q1:=Za' e1;obtain⟨_,tq,lq,yq,rfl,_,htq,hlq,pq⟩:=e3;have g:=ot.k (k:=Sum.inr z) V9;rw[e2]at g;refine⟨_,rfl,_,rfl,f,_,rfl,g,?_⟩;refine⟨tq,_,rfl,dh.of htq,rfl,_,_,rfl,_,_,rfl,rfl,?_⟩;refine⟨_,rfl,_,rfl,z,pz,c,rfl,hz,s3 _ _ hpz,fun l3 xs3 H4 s4 n4 h4 p4=>?_⟩;have hst:dW c cu z=eA k0 ql (a7 c z 0 gX) cu:=by unfold dW;rw[hq0]
    have aee:∀ m∈a7 c z 0 gX,m.2.2∈ST:=fun m hm=>Fi hz hm;generalize a7 c z 0 gX=ms at p4 hst aee;refine⟨l3,rfl,⟨_,aX.of h4⟩,dD (K:=K) (xs:=xs3) (fun k σ H'=>∃(v5 v6 v7:Option V)(kvs:List (Key×V)),σ=[some (.ref d),some (.ref pz),some (.ref f),some (.int (0+(i:Int))),some (.str z),some (.int k0),some (.ref lq),v5,v6,v7]/\az H H'/\H' l1=some (.lst ((ac.map (·.1)).map V.str))/\H' l3=some (.lst xs3)/\Paired (KO K H') xs3 ms/\H' lq=some (.lst yq)/\Paired (vm K H') yq ql/\H' f=some (.dK kvs)/\Paired (iJ K A' H') kvs (eA k0 ql (ms.take k) cu)/\k<=ms.length)
     ⟨v5,v6,v7,ajC,rfl,s3.trans s4,s4 _ _ h3,h4,p4,s4 _ _ hlq,vm.xI s4.kn pq,s4 _ _ V9,iJ.xI s4.kn w3,V' _⟩ ?_ ?_ ?_⟩
    ·rintro k σ H' _ ⟨v5,v6,v7,kvs,rfl,_,_,h5,_⟩;exact aX.of h5
    ·rintro k y σ H5 hy ⟨v5,v6,v7,F7,rfl,s5,hl5,hm5,p5,hq5,pq5,hf5,w5,kl⟩;obtain⟨m,hm,p,qq,rfl,hp,hqq⟩:=gL p5 hy;have kl2:k<ms.length:=(F'.mp hm).1;refine⟨p,_,rfl,dh.of hp,rfl,_,_,rfl,_,_,rfl,_,_,rfl,rfl,?_⟩;tm_up;refine⟨by show 1<=sizeLine;decide,fun a1 ha1=>?_⟩;have s6:=az.upd (o:=.lst [.ref qq]) ha1;have hq6:=s6 _ _ hq5;refine .inr (.inr ⟨lq,a1,yq,[.ref qq],rfl,rfl,hq6,af,?_,fun a2 ha2=>?_⟩)
     ·rw[cO pq5];exact Nat.le_trans (show ql.length+1<=1000000 by omega) (by decide)
     have s7:=s6.trans (az.upd (o:=.lst (yq++[.ref qq])) ha2);have h7:=af (H:=upd H5 a1 (.lst [.ref qq])) (a:=a2) (o:=.lst (yq++[.ref qq]));generalize upd (upd H5 a1 (.lst [.ref qq])) a2 (.lst (yq++[.ref qq]))=H7 at s7 h7;have w7:=iJ.xI s7.kn w5;have sok:=sN (B:=B+28 * i+28+1) (k:=k0) (ln:=ql) (ms:=ms.take k) (acc:=cu) (by omega) (fun x hx=>aee x (List.mem_of_mem_take hx)) (cok.mono (by omega));refine⟨A',f,a2,_,_,F7,_,_,ql++[m.1],rfl,s7 _ _ hf5,by rw[cO w5];have:=sok.len;omega,w7,hA _ ((s5.trans s6).free ha2),h7,lE (vm.xI s7.kn pq5) ⟨qq,rfl,s7.tup hqq⟩,fun ajF H8 fr8 h8 w8=>?_⟩;have kn:=Kn.of (s7 _ _ hf5) fr8;refine⟨_,_,_,ajF,rfl,fun b o e=>fr8 b o (aN e hf) (s7 _ _ (s5 b o e)),kn _ _ (s7 _ _ hl5) rfl,kn _ _ (s7 _ _ hm5) rfl,bC (fun _ _ q=>KO.kn (s7.kn.trans kn) q) p5,kn _ _ (s7 _ _ hq5) rfl,vm.xI (s7.kn.trans kn) pq5,h8,?_,kl2⟩;have est:eA k0 ql (ms.take (k+1)) cu=gW (eA k0 ql (ms.take k) cu) m.2.2 (k0+m.2.1) (ql++[m.1]):=by
      rw[take_succ,hm];unfold eA;rw[List.foldl_append];rfl
     rw[est];exact w8
    ·rintro σ H5 ⟨v5,v6,v7,F7,rfl,s5,hl5,hm5,p5,hq5,pq5,hf5,w5,_⟩;rw[cO p5,take_length,<-hst]at w5;exact⟨_,_,_,_,_,_,F7,rfl,s5,hl5,hf5,by rw[hnx];exact w5,jl2⟩
   ·rintro σ H3 ⟨v2,v3,v4,v5,v6,v7,ajC,rfl,s3,h3,V9,w3,jl⟩;rw[O',O',<-O' (f:=Prod.fst),take_length]at w3;refine⟨_,_,_,_,_,_,_,ajC,rfl,s3,V9,?_,hi⟩;show Paired _ _ (kF c ((Ce c ws i).map (·.1)) (Ce c ws i));rw[hac];exact w3
  ·rintro σ H' ⟨v1,v2,v3,v4,v5,v6,v7,QI,rfl,s1,hf1,w1,il⟩;tm_up;exact q f QI H' s1 hf hf1 w1
def aeh (K:Frag):Sp:=fun vs H Q _=>∃(A:Addr->Prop)(d:Addr)(kvs:List (Key×V)) (ws:List Wy),vs=[.ref d]/\H d=some (.dK kvs)/\Paired (iJ K A H) kvs ws/\ws.length<=900 /\
 ∀(l:Addr)(xs:List V)(H':Hp),az H H'->H l=none->H' l=some (.lst xs)->Paired (Qi H') xs (cN ws)->Q (.ref l) H'
theorem aei (T:Txt K w mg t):bK P w K mg base ig (0+1) t.qD t.NA ["ways"] (aeh K):=by
 refine T.u9.ok adZ (fun vs H Q E h=>?_) (fun cdv A outer s H vs Q E hr h=>?_)
 ·obtain⟨_,_,_,_,rfl,_⟩:=h;rfl
 ·obtain⟨A',d,kvs,ws,rfl,hd,hws,hl,q⟩:=h;refine aR (aj (ay (af4 (nY (cn:=["state","cost","line"]) rfl (bZ.of rfl) (mh (pv 0)) (fun _=>(cU rfl (aG (aC (i:=0) vN rfl (Or.inl rfl)) (aG (cU rfl (aG (aC (i:=1) vN rfl (Or.inl rfl)) (aG (aC (i:=2) vN rfl (Or.inl rfl)) bQ))) bQ)))) (fun _=>md) (fun _=>(bY (aa (pv 0) (aa (pv 1) ao)))))))) ?_;refine⟨_,rfl,d,kvs,rfl,hd,fun o D b hD=>?_⟩;have kn0:=Kn.put (u:=.fe o (.dK kvs)) hd rfl;have QJ:∀ b u,b≠d->H b=some u->upd H d (.fe o (.dK kvs)) b=some u:=fun b u hb e=>by rw[ax hb];exact e
  have hd1:=af (H:=H) (a:=d) (o:=.fe o (.dK kvs));have w1:=iJ.xI kn0 hws;have nDd:D≠d:=fun e=>by rw[e,hd1]at hD;cases hD
  have hD0:H D=none:=by rw[ax nDd]at hD;exact hD
  generalize upd H d (.fe o (.dK kvs))=H1 at QJ hd1 w1 hD;have s1:=az.upd (o:=.lst []) hD;refine vG (fun i ys σ H'=>∃(v1 v2 v3:Option V),σ=[v1,v2,v3,some (.ref d)]/\az H1 H'/\H' D=some (.lst ys)/\Paired (Qi H') ys (cN (ws.take i))/\i<=ws.length)
   ⟨none,none,none,rfl,s1,af,.nil,V' _⟩ ?_ ?_ ?_
  ·rintro i ys σ H' ⟨v1,v2,v3,rfl,s2,_⟩;exact s2 _ _ hd1
  ·rintro i ys kv tt σ H2 hkv ⟨v1,v2,v3,rfl,s2,hD2,p2,il⟩ htt N hN;obtain⟨⟨z,k0,ql⟩,hw,hk1,tq,lq,yq,hk2,_,htq,hlq,pq⟩:=gL w1 hkv;have hk1:kv.1=Sum.inr z:=hk1;have x8:i<ws.length:=(F'.mp hw).1;rw[hk1,hk2];have st:=az.upd (o:=.tup [kV (Sum.inr z),.ref tq]) htt;have h3:=af (H:=H2) (a:=tt) (o:=.tup [kV (Sum.inr z),.ref tq]);generalize upd H2 tt (.tup [kV (Sum.inr z),.ref tq])=H3 at st h3;refine⟨tt,_,rfl,dh.of h3,rfl,_,_,rfl,_,_,rfl,tq,_,rfl,dh.of (st _ _ (s2 _ _ htq)),rfl,_,_,rfl,_,_,rfl,rfl,rfl,?_⟩;tm_up;refine⟨by show 2<=sizeLine;decide,fun tp htp=>?_⟩;have sT:=st.trans (az.upd (o:=.tup [.str z,.int k0]) htp);have hDT:=sT _ _ hD2;have yl:ys.length<=900:=by rw[cO p2];unfold cN;rw[O',length_take];omega
   refine⟨hDT,aS (by omega),hN _ _ _ ⟨_,_,_,rfl,cK (s2.trans sT) hD,af,?_,x8⟩⟩;unfold cN;rw[take_succ,hw,map_append];exact bC (fun _ _ q=>Qi.write hDT q) (lE (bC (fun _ _ q=>Qi.kn sT.kn q) p2) ⟨tp,rfl,af⟩)
  ·rintro ys σ H5 ⟨v1,v2,v3,rfl,s5,hD5,p5,_⟩;rw[cO hws,take_length]at p5;have we:=s5 _ _ hd1;refine⟨d,o,kvs,we,fun o' v' e=>?_,?_⟩
   ·have e:H d=some (.fe o' v'):=e;rw[hd]at e;cases e
   have kn:=Kn.put (u:=.dK kvs) we rfl;refine q D ys _ (fun b u e=>?_) hD0 (by rw[ax nDd];exact hD5) (bC (fun _ _ q=>Qi.kn kn q) p5)
   by_cases hb:b=d
   ·subst hb;rw[hd]at e;cases e;exact af
   ·rw[ax hb];exact s5 _ _ (QJ b u hb e)
def F8:Sp:=fun vs H Q _=>∃(b:Int),vs=[.int b]/\Q (.str (if b=3 then "3n0-" else "2-")) H
theorem tV (T:Txt K w mg t):bK P w K mg base ig (0+1) t.dQ t.kz ["begin"] F8:=by
 refine T.dS.ok Fy (fun vs H Q E h=>?_) (fun cdv A outer s H vs Q E hr h=>?_)
 ·obtain⟨_,rfl,_⟩:=h;rfl
 ·obtain⟨b,rfl,q⟩:=h;refine aR (ag (aO (ar (aL.or (aE (aw hr))) (pv 0) ai (au _)) (aj (ay (bP (v:=.str "3n0-") rfl T.oq ⟨_,rfl⟩))) aB) (aj (ay (bP (v:=.str "2-") rfl T.rE ⟨_,rfl⟩)))) ?_;tm_up;rw[sv];refine aM (fun h=>?_) (fun h=>?_)
  ·rw[R' (M' h)]at q;exact q
  ·rw[L' (fun z=>h (W' z))]at q;exact q
def sKs:List Kd:=[.G,.D,.s,.d]
def CK (K:Frag):Sp:=fun vs H Q _=>∃(n:Int),vs=[.int n]/\∀(sg:Addr)(ys:List V)(H':Hp),az H H'->dh K H' sg ys->Paired (vm K H') ys (dX n)->Q (.ref sg) H'
theorem CL (T:Txt K w mg t):bK P w K mg base ig (0+1) t.dq t.mD ["tone"] (CK K):=by
 refine T.gE.ok Cm (fun vs H Q E h=>?_) (fun cdv A outer s H vs Q E hr h=>?_)
 ·obtain⟨_,rfl,_⟩:=h;rfl
 ·obtain⟨n,rfl,q⟩:=h;unfold dX at q;refine aR (ag (aO (ar (aL.or (aE (aw hr))) (pv 0) (bP (v:=.int (-1)) rfl T.Qx ⟨_,rfl⟩) (au _)) (aj (ay (bP (v:=.ref t.eR) rfl T.NP rfl))) aB) (aj (ay (di Hv rfl T.FW E2 (aa (nY (cn:=["kind"]) rfl (bZ.of rfl) (Kh (bP (v:=.ref t.cI) rfl T.Aq rfl)) (fun _=>(aC (i:=0) xN rfl (Or.inl rfl))) (fun _=>md) (fun _=>(bY (aa (pv 0) (aa (pv 1) ao))))) ao))))) ?_;tm_up;rw[intD];refine aM (fun h=>?_) (fun h=>?_)
  ·rw[R' (M' h)]at q;exact q _ _ H (az.refl _) (T.NQ _) (.cons ⟨_,rfl,T.FZ _⟩ (.cons ⟨_,rfl,T.F0 _⟩ .nil))
  rw[L' (fun e=>h (W' e))]at q;refine⟨_,rfl,⟨_,T.pj _⟩,fun D b hD=>?_⟩;refine acE (K:=K) (xs:=sKs.map fun k=>V.str k.str) (fun i ys σ H'=>∃(v:Option V),σ=[v,some (.int n)]/\az H H'/\H' D=some (.lst ys)/\Paired (vm K H') ys ((sKs.take i).map fun k=>(k,n))/\i<=4) ⟨none,rfl,az.upd hD,af,.nil,by decide⟩ ?_ ?_ ?_
  ·rintro i ys σ H' ⟨v,rfl,s1,_⟩;exact T.pj _
  ·rintro i ys x σ H' hx ⟨v,rfl,s1,hD1,p1,il⟩ N hN;rw[getElem?_map]at hx;obtain⟨k,hk,rfl⟩:=Option.map_eq_some_iff.mp hx;have x8:i<4:=(F'.mp hk).1;refine fH ?_;tm_up;refine⟨by show 2<=sizeLine;decide,fun tp htp=>?_⟩;have sT:=az.upd (o:=.tup [.str k.str,.int n]) htp;have yl:ys.length<=4:=by rw[cO p1,O',length_take];omega
   refine⟨sT _ _ hD1,aS (by omega),hN _ _ _ ⟨_,rfl,cK (s1.trans sT) hD,af,?_,x8⟩⟩;rw[take_succ,hk,map_append];exact bC (fun _ _ q=>vm.write (sT _ _ hD1) q) (lE (vm.xI sT.kn p1) ⟨tp,rfl,dh.of af⟩)
  ·rintro ys σ H' ⟨v,rfl,s1,hD1,p1,_⟩;have p1:Paired (vm K H') ys [(.G,n),(.D,n),(.s,n),(.d,n)]:=p1;refine⟨D,ys,rfl,.inl ⟨aX.of hD1,fun l hl=>?_⟩⟩;have sT:=az.upd (o:=.tup ys) hl;exact q l ys _ (s1.trans sT) (dh.of af) (vm.xI sT.kn p1)
def Ip (K:Frag):Sp:=fun vs H Q _=>∃(z:Str)(wp pz:Addr)(n m:Int)(c:dN),vs=[.str z,.ref wp,.ref pz]/\z∈ST/\H wp=some (.tup [.int n,.int m])/\0<=m/\m<=9/\H pz=some (.tup [fo c.1,fo c.2.1,fo c.2.2]) /\
 ∀(l:Addr)(xs:List V)(H':Hp),az H H'->H l=none->H' l=some (.lst xs)->Paired (KO K H') xs (a7 c z m (dX n))->Q (.ref l) H'
theorem Wc (n:Int):(dX n).length<=10:=by
 unfold dX;split <;> (show _<=10;simp)
theorem vq (T:Txt K w mg t):bK P w K mg base ig (0+5) t.eN t.qE ["state","wish","prices"] (Ip K):=by
 have NX:=QH (P:=P) (base:=base) T;have F9:=CL (P:=P) (base:=base) T;refine T.gT.ok ow (fun vs H Q E h=>?_) (fun cdv A outer s H vs Q E hr h=>?_)
 ·obtain⟨_,_,_,_,_,_,rfl,_⟩:=h;rfl
 ·obtain⟨z,wp,pz,n,m,c,rfl,hz,hw,h0,h9,hpz,q⟩:=h;refine aR (ag (sj (pv 1) (cU rfl (aG (aC (i:=3) ow.nd rfl (Or.inl rfl)) (aG (aC (i:=4) ow.nd rfl (Or.inl rfl)) bQ)))) (aj (ay (aA NX (hr.mono (by decide)) rfl T.Qs T.u7.kp T.EM .nil aQ (aa (pv 0) (aa (aA F9 (hr.mono (by decide)) rfl T.Cq T.gE.kp T.mR .nil aQ (aa (pv 3) ao)) (aa (pv 4) (aa (pv 2) ao)))))))) ?_;refine⟨_,rfl,wp,_,rfl,dh.of hw,rfl,_,_,rfl,_,_,rfl,rfl,?_⟩;tm_up;refine fun sg ys H1 s1 hsg hss=>?_;tm_up;exact⟨z,sg,m,pz,ys,_,c,rfl,hz,h0,h9,hsg,hss,Wc n,s1 _ _ hpz,fun l xs H' s2 n2 h2 p2=>q l xs H' (s1.trans s2) (s1.free n2) h2 p2⟩
def NY (K:Frag):Sp:=fun vs H Q _=>∃(A:Addr->Prop)(d wp pz:Addr)(n m:Int)(c:dN)(kvs:List (Key×V)) (ws:List Wy) (B:Nat),vs=[.ref d,.ref wp,.ref pz]/\H d=some (.dK kvs)/\Paired (iJ K A H) kvs ws/\fq B ws/\B<=100000/\(∀ l,H l=none->A l)/\H wp=some (.tup [.int n,.int m])/\0<=m/\m<=9/\H pz=some (.tup [fo c.1,fo c.2.1,fo c.2.2]) /\
 ∀(f:Addr)(kvs':List (Key×V)) (H':Hp),az H H'->H f=none->H' f=some (.dK kvs')->Paired (iJ K A H') kvs' (oN c ws (n,m))->Q (.ref f) H'
theorem NZ (T:Txt K w mg t):bK P w K mg base ig (0+6) t.gw t.sW ["ways","wish","prices"] (NY K):=by
 have qO:=vq (P:=P) (base:=base) T;have mY:=rH (P:=P) (base:=base) T;refine T.kJ.ok dF (fun vs H Q E h=>?_) (fun cdv A outer s H vs Q E hr h=>?_)
 ·obtain⟨_,_,_,_,_,_,_,_,_,_,rfl,_⟩:=h;rfl
 ·obtain⟨A',d,wp,pz,n,m,c,kvs,ws,B,rfl,hd,hws,wok,hB,hA,Za,h0,h9,hpz,q⟩:=h;have wl:=wok.len;refine aR (ag (aK (i:=3) dF.nd rfl (Or.inl rfl) P5) (ag (uT (bW PassesOwn.never rfl (mh (pv 0)) (cU rfl (aG (aC (i:=4) dF.nd rfl (Or.inl rfl)) (aG (cU rfl (aG (aC (i:=5) dF.nd rfl (Or.inl rfl)) (aG (aC (i:=6) dF.nd rfl (Or.inl rfl)) bQ))) bQ))) (aj (bW PassesOwn.never rfl (cq (aA qO (hr.mono (by decide)) rfl T.vp T.gT.kp T.lJ .nil aQ (aa (pv 4) (aa (pv 1) (aa (pv 2) ao))))) (cU rfl (aG (aC (i:=7) dF.nd rfl (Or.inl rfl)) (aG (aC (i:=8) dF.nd rfl (Or.inl rfl)) (aG (aC (i:=9) dF.nd rfl (Or.inl rfl)) bQ)))) (aj (bX (aA mY (hr.mono (by decide)) rfl T.rD T.ej.kp T.jd .nil aQ (aa (pv 3) (aa (pv 9) (aa (aJ (a9.or (aF.or ba)) (pv 5) (pv 8)) (aa (aJ (a9.or (aF.or ba)) (pv 6) (c8 (aa (pv 7) ao))) ao))))))))))) (aj (ay (pv 3))))) ?_;refine fun f hf=>?_;have s0:=az.upd (o:=.dK []) hf;have hd0:=s0 _ _ hd;refine⟨_,rfl,d,kvs,rfl,hd0,fun o=>?_⟩;have nfd:f≠d:=aN hd hf |>.symm
  have kn0:=Kn.put (u:=.fe o (.dK kvs)) hd0 rfl;have QJ:∀ b u,b≠d->H b=some u->upd (upd H f (.dK [])) d (.fe o (.dK kvs)) b=some u:=fun b u hb e=>by rw[ax hb];exact s0 _ _ e
  have hd1:=af (H:=upd H f (.dK [])) (a:=d) (o:=.fe o (.dK kvs));have hf1:upd (upd H f (.dK [])) d (.fe o (.dK kvs)) f=some (.dK []):=by rw[ax nfd];exact af
  have w1:=iJ.xI (s0.kn.trans kn0) hws;generalize upd (upd H f (.dK [])) d (.fe o (.dK kvs))=H1 at QJ hd1 hf1 w1;refine uU (fun i σ H'=>∃(v1 v2 v3 v4 v5 v6:Option V)(kvs':List (Key×V)),σ=[some (.ref d),some (.ref wp),some (.ref pz),some (.ref f),v1,v2,v3,v4,v5,v6]/\(∀ b u,b≠d->H b=some u->H' b=some u)/\H' d=some (.fe o (.dK kvs))/\H' f=some (.dK kvs')/\Paired (iJ K A' H') kvs ws/\Paired (iJ K A' H') kvs' (iq c (n,m) (ws.take i) [])/\i<=ws.length)
   ⟨none,none,none,none,none,none,[],rfl,QJ,hd1,hf1,w1,.nil,V' _⟩ ?_ ?_ ?_
  ·rintro i σ H' ⟨v1,v2,v3,v4,v5,v6,kvs',rfl,_,h2,_⟩;exact h2
  ·rintro i kv tt σ H2 hkv ⟨v1,v2,v3,v4,v5,v6,ao7,rfl,sx2,hd2,hf2,w2,f2,il⟩ htt;obtain⟨⟨z,k0,ql⟩,hw,hk1,tq,lq,yq,hk2,_,htq,hlq,pq⟩:=gL w2 hkv;have hk1:kv.1=Sum.inr z:=hk1;have x8:i<ws.length:=(F'.mp hw).1;have hwm:(z,k0,ql)∈ws:=Z' hw;have hz:z∈ST:=wok.st _ hwm;have qll:ql.length<=B:=wok.ln _ hwm;have hnx:iq c (n,m) (ws.take (i+1)) []=eA k0 ql (a7 c z m (dX n)) (iq c (n,m) (ws.take i) []):=by rw[take_succ,hw];exact HA c (n,m) _ _ []
   have fok:=sO (B:=B) (c:=c) (q:=(n,m)) h0 h9 (ws:=ws.take i) (acc:=[]) (fun x hx=>wok.st x (List.mem_of_mem_take hx)) (fun x hx=>wok.ln x (List.mem_of_mem_take hx)) (fq.nil _);generalize iq c (n,m) (ws.take i) []=cu at f2 fok hnx;rw[hk1,hk2];have st:=az.upd (o:=.tup [kV (Sum.inr z),.ref tq]) htt;have h3:=af (H:=H2) (a:=tt) (o:=.tup [kV (Sum.inr z),.ref tq]);generalize upd H2 tt (.tup [kV (Sum.inr z),.ref tq])=H3 at st h3;have sx3:∀ b u,b≠d->H b=some u->H3 b=some u:=fun b u hb e=>st _ _ (sx2 b u hb e);refine⟨tt,_,rfl,dh.of h3,rfl,_,_,rfl,_,_,rfl,tq,_,rfl,dh.of (st _ _ htq),rfl,_,_,rfl,_,_,rfl,rfl,rfl,?_⟩;have ao8:=sx3 wp _ (fun e=>by rw[e,hd]at Za;cases Za) Za;have ao9:=sx3 pz _ (fun e=>by rw[e,hd]at hpz;cases hpz) hpz;refine⟨_,rfl,_,rfl,_,rfl,z,wp,pz,n,m,c,rfl,hz,ao8,h0,h9,ao9,fun l4 xs4 H4 s4 n4 h4 p4=>?_⟩;have aee:∀ x∈a7 c z m (dX n),x.2.2∈ST:=fun x hx=>Fg hz h0 h9 hx;generalize a7 c z m (dX n)=ms at p4 hnx aee;have s34:=st.trans s4;refine⟨l4,rfl,⟨_,aX.of h4⟩,dD (K:=K) (xs:=xs4) (fun k σ H'=>∃(v4 v5 v6:Option V)(kvs':List (Key×V)),σ=[some (.ref d),some (.ref wp),some (.ref pz),some (.ref f),some (.str z),some (.int k0),some (.ref lq),v4,v5,v6]/\(∀ b u,b≠d->H b=some u->H' b=some u)/\H' d=some (.fe o (.dK kvs))/\H' l4=some (.lst xs4)/\Paired (KO K H') xs4 ms/\H' lq=some (.lst yq)/\Paired (vm K H') yq ql/\H' f=some (.dK kvs')/\Paired (iJ K A' H') kvs ws/\Paired (iJ K A' H') kvs' (eA k0 ql (ms.take k) cu)/\k<=ms.length)
    ⟨v4,v5,v6,ao7,rfl,fun b u hb e=>s34 _ _ (sx2 b u hb e),s34 _ _ hd2,h4,p4,s34 _ _ hlq,vm.xI s34.kn pq,s34 _ _ hf2,iJ.xI s34.kn w2,iJ.xI s34.kn f2,V' _⟩ ?_ ?_ ?_⟩
   ·rintro k σ H' _ ⟨v5,v6,v7,kvs',rfl,_,_,h5,_⟩;exact aX.of h5
   ·rintro k y σ H5 hy ⟨v4,v5,v6,F7,rfl,x9,we,hm5,p5,hq5,pq5,hf5,w5,f5,kl⟩;obtain⟨mm,hm,p,qq,rfl,hp,hqq⟩:=gL p5 hy;have kl2:k<ms.length:=(F'.mp hm).1;refine⟨p,_,rfl,dh.of hp,rfl,_,_,rfl,_,_,rfl,_,_,rfl,rfl,?_⟩;tm_up;refine⟨by show 1<=sizeLine;decide,fun a1 ha1=>?_⟩;have s6:=az.upd (o:=.lst [.ref qq]) ha1;have hq6:=s6 _ _ hq5;refine .inr (.inr ⟨lq,a1,yq,[.ref qq],rfl,rfl,hq6,af,?_,fun a2 ha2=>?_⟩)
    ·rw[cO pq5];exact Nat.le_trans (show ql.length+1<=1000000 by omega) (by decide)
    have amf:∀{x:Addr},upd H5 a1 (.lst [.ref qq]) x=none->H x=none:=fun {x} hx=>by
     cases e:H x with
     |none=>rfl
     |some u =>
      by_cases hb:x=d
      ·rw[hb,s6 _ _ we]at hx;cases hx
      ·rw[s6 _ _ (x9 x u hb e)]at hx;cases hx
    have s7:=s6.trans (az.upd (o:=.lst (yq++[.ref qq])) ha2);have h7:=af (H:=upd H5 a1 (.lst [.ref qq])) (a:=a2) (o:=.lst (yq++[.ref qq]));generalize upd (upd H5 a1 (.lst [.ref qq])) a2 (.lst (yq++[.ref qq]))=H7 at s7 h7;have f7:=iJ.xI s7.kn f5;have sok:=sN (B:=B+1) (k:=k0) (ln:=ql) (ms:=ms.take k) (acc:=cu) (by omega) (fun x hx=>aee x (List.mem_of_mem_take hx)) fok;refine⟨A',f,a2,_,_,F7,_,_,ql++[mm.1],rfl,s7 _ _ hf5,by rw[cO f5];have:=sok.len;omega,f7,hA _ (amf ha2),h7,lE (vm.xI s7.kn pq5) ⟨qq,rfl,s7.tup hqq⟩,fun ajF H8 fr8 h8 w8=>?_⟩;have kn:=s7.kn.trans (Kn.of (s7 _ _ hf5) fr8);refine⟨_,_,_,ajF,rfl,fun b u hb e=>fr8 b u (aN e hf) (s7 _ _ (x9 b u hb e)),fr8 d _ nfd.symm (s7 _ _ we),kn _ _ hm5 rfl,bC (fun _ _ q=>KO.kn kn q) p5,kn _ _ hq5 rfl,vm.xI kn pq5,h8,iJ.xI kn w5,?_,kl2⟩;have est:eA k0 ql (ms.take (k+1)) cu=gW (eA k0 ql (ms.take k) cu) mm.2.2 (k0+mm.2.1) (ql++[mm.1]):=by
     rw[take_succ,hm];unfold eA;rw[List.foldl_append];rfl
    rw[est];exact w8
   ·rintro σ H5 ⟨v4,v5,v6,F7,rfl,x9,we,hm5,p5,hq5,pq5,hf5,w5,f5,_⟩;rw[cO p5,take_length,<-hnx]at f5;exact⟨_,_,_,_,_,_,F7,rfl,x9,we,hf5,w5,f5,x8⟩
  ·rintro σ H5 ⟨v1,v2,v3,v4,v5,v6,F7,rfl,x9,we,hf5,w5,f5,_⟩;rw[cO hws,take_length]at f5;refine⟨d,o,kvs,we,fun o' v' e=>?_,?_⟩
   ·have e:H d=some (.fe o' v'):=e;rw[hd]at e;cases e
   have kn:=Kn.put (u:=.dK kvs) we rfl;refine⟨_,rfl,?_⟩;refine q f F7 _ (fun b u e=>?_) hf (by rw[ax nfd];exact hf5) (iJ.xI kn f5)
   by_cases hb:b=d
   ·subst hb;rw[hd]at e;cases e;exact af
   ·rw[ax hb];exact x9 b u hb e
def agQ:Sp:=fun vs H Q _=>∃(z:Str),vs=[.str z]/\z∈ST/\Q (.bl (iI z)) H
theorem Zb (T:Txt K w mg t):bK P w K mg base ig (0+2) t.vT t.VW ["state"] agQ:=by
 have tU:=Au (P:=P) (base:=base) T;refine T.Aj.ok agz (fun vs H Q E h=>?_) (fun cdv A outer s H vs Q E hr h=>?_)
 ·obtain⟨_,rfl,_⟩:=h;rfl
 ·obtain⟨z,rfl,hz,q⟩:=h;refine aR (ag (aO (ar (bh.or bg) (pv 0) (bP (v:=.ref t.bH) rfl T.j2 rfl) rfl) (aj (ay (bf (l9.or (iw (aw hr))) (pv 0) av (au _)))) aB) (aj (ay (aA tU (hr.mono (by decide)) rfl T.Ai T.mO.kp T.tw .nil aQ (aa (pv 0) ao))))) ?_;refine⟨_,rfl,.inl ⟨_,_,rfl,.inr (T.j3 _),rfl,rfl,_,rfl,?_⟩⟩;show(if(inV (.str z) [.str "2-",.str "2g",.str "2G"])=true then _ else _);rw[ahU hz];unfold iI at q;refine aM (fun h=>?_) (fun h=>?_)
  ·rw[R' h]at q;tm_up;rw[Sz];exact q
  ·rw[L' h]at q;obtain⟨l,c,t,e⟩:=xG hz h;rw[e]at q;tm_up;exact⟨_,_,_,_,rfl,e,EH hz,q⟩
def apa:Str:=(Str.ofString "written" ++ Str.ofString ".<locals>.")++Str.ofString "<lambda>"
def Ga (T:Addr)(lp:Pos)(H:Hp):Prop:=Ym T lp apa H\/acI T lp H
theorem Ga.same {T:Addr}{lp:Pos}{H H':Hp}(s:az H H')(h:Ga T lp H):Ga T lp H':=by
 rcases h with ⟨ps,c,h1,h2,h3,h4⟩|⟨ps,h1,h2,h3⟩
 ·exact .inl ⟨ps,c,s _ _ h1,h2,h3,s _ _ h4⟩
 ·exact .inr ⟨ps,s _ _ h1,h2,h3⟩
def Gb (T:Addr)(H H':Hp):Prop:=∀ b o,H b=some o->b≠T->H' b=some o
theorem _root_.L2.az.toT {T:Addr}{H H':Hp}(s:az H H'):Gb T H H':=fun b o e _=>s b o e
theorem Gb.trans {T:Addr}{H H1 H2:Hp}(a:Gb T H H1)(b:Gb T H1 H2):Gb T H H2:=fun c o e n=>b c o (a c o e n) n
def Wd (K:Frag)(T:Addr)(lp:Pos):Sp:=fun vs H Q _=>∃(wl pz:Addr)(b:Int)(c:dN)(ys:List V)(qs:List (Int×Int)),vs=[.ref wl,.ref pz,.int b]/\aX K H wl ys/\xF H ys qs/\qs.length<=70/\Wsh qs/\H pz=some (.tup [fo c.1,fo c.2.1,fo c.2.2])/\Ga T lp H /\
 (Fm c b qs=[]->∀(r pp:Addr)(xs:List V)(H':Hp),az H H'->H' r=some (.tup [.non,.non,.ref pp])->H' pp=some (.lst xs)->Paired (HB pp H') xs (ml c b qs qs.length)->Q (.ref r) H') /\
 (∀ w∈Fm c b qs,(∀ w'∈Fm c b qs,w.2.1<=w'.2.1)->∀(r l pp:Addr)(ys xs:List V)(H':Hp),Gb T H H'->Ga T lp H'->H' r=some (.tup [.ref l,.int w.2.1,.ref pp])->H' l=some (.lst ys)->ve K H' ys w.2.2->H' pp=some (.lst xs)->Paired (HB pp H') xs (ml c b qs qs.length)->Q (.ref r) H')
theorem We (T:Txt K w mg t):bK P w K mg base ig (0+7) t.jV t.oZ ["wishes","prices","begin"] (Wd K t.xS ⟨151,34,151,52⟩):=by
 have kN:=rR (P:=P) (base:=base) T;have Zc:=aei (P:=P) (base:=base) T;have ox:=tV (P:=P) (base:=base) T;have QK:=NZ (P:=P) (base:=base) T;have Wf:=Zb (P:=P) (base:=base) T;refine T.lZ.okL gq (fun vs H Q E h=>?_) (fun cdv A outer s H vs Q E hcd hr h=>?_)
 ·obtain⟨_,_,_,_,_,_,rfl,_⟩:=h;rfl
 ·obtain⟨wl,pz,b,c,ys,qs,rfl,hS,hqs,hql,hW,hpz,apb,q1,q2⟩:=h;subst hcd;refine aR (ag (aK (i:=3) gq.nd rfl (Or.inl rfl) (aA kN (hr.mono (by decide)) rfl T.jD T.bV.kp T.dM .nil aQ (aa (af2 (acw (aA ox (hr.mono (by decide)) rfl T.tG T.dS.kp T.kA .nil aQ (aa (pv 2) ao)) (bY (aa ai (aa (c8 ao) ao))) af1) rfl rfl (List.cons_ne_nil _ _) (by decide)) (aa (pv 1) ao)))) (ag (aK (i:=4) gq.nd rfl (Or.inl rfl) (c8 (aa (aA Zc (hr.mono (by decide)) rfl T.Qt T.u9.kp T.EN .nil aQ (aa (pv 3) ao)) ao))) (ag (bW PassesOwn.never rfl (cq (pv 0)) (aC (i:=5) gq.nd rfl (Or.inl rfl)) (ag (aK (i:=3) gq.nd rfl (Or.inl rfl) (aA kN (hr.mono (by decide)) rfl T.jD T.bV.kp T.dM .nil aQ (aa (aA QK (hr.mono (by decide)) rfl T.NF T.kJ.kp T.tH .nil aQ (aa (pv 3) (aa (pv 5) (aa (pv 1) ao)))) (aa (pv 1) ao)))) (aj (bX (ik plainAttrs_list slot_list_append type_list_append bj (pv 4) (aa (aA Zc (hr.mono (by decide)) rfl T.Qt T.u9.kp T.EN .nil aQ (aa (pv 3) ao)) ao)))))) (ag (uT (qk (i:=6) gq.nd rfl rfl (cn:=["state","way"]) rfl (bZ.of rfl) (mh (pv 3)) (fun _=>(cU rfl (aG (aC (i:=0) xO rfl (Or.inl rfl)) (aG (aC (i:=1) xO rfl (Or.inl rfl)) bQ)))) (fun _=>(ack (bB (aA Wf (hr.mono (by decide)) rfl T.Y5 T.Aj.kp T.NG .nil aQ (aa (pv 0) ao))))) (fun _=>(pv 1)))) (ag (aO (ar (Sf (aw hr)) (pv 6) (c8 ao) (au _)) (aj (ay (bY (aa bI (aa bI (aa (pv 4) ao)))))) aB) (ag (sj (ZK (P:=t.xS) hr rfl T.ad3 T.lam (aa (pv 6) ao) rfl (fun _ _ _ _ _ _=>rfl)) (cU rfl (aG (aC (i:=7) gq.nd rfl (Or.inl rfl)) (aG (aC (i:=8) gq.nd rfl (Or.inl rfl)) bQ)))) (aj (ay (bY (aa (pv 8) (aa (pv 7) (aa (pv 4) ao)))))))))))) ?_;refine fun d0 hd0=>?_;tm_up;refine⟨big (by show 0<=1000;omega),fun l0 hl0=>?_⟩;refine⟨by show 2<=sizeLine;decide,fun t0 ht0=>?_⟩;have sa:=az.upd (o:=.dK []) hd0;have sb:=az.upd (o:=.lst []) hl0;have sc:=az.upd (o:=.tup [.int 0,.ref l0]) ht0;have hdc:=sc _ _ (sb _ _ (af (H:=H) (a:=d0) (o:=.dK [])));have hlc:=sc _ _ (af (H:=upd H d0 (.dK [])) (a:=l0) (o:=.lst []));have htc:=af (H:=upd (upd H d0 (.dK [])) l0 (.lst [])) (a:=t0) (o:=.tup [.int 0,.ref l0]);have sC:=(sa.trans sb).trans sc;generalize upd (upd (upd H d0 (.dK [])) l0 (.lst [])) t0 (.tup [.int 0,.ref l0])=HC at hdc hlc htc sC;refine⟨hdc,[(Sum.inr (HE b),.ref t0)],rfl,by show 1<=15;decide,?_⟩;have knD:=Kn.put (u:=.dK [((Sum.inr (HE b):Key),V.ref t0)]) hdc rfl;have sD:=cK (o:=.dK [((Sum.inr (HE b):Key),V.ref t0)]) sC hd0;have hdD:=af (H:=HC) (a:=d0) (o:=.dK [((Sum.inr (HE b):Key),V.ref t0)]);have wD:Paired (iJ K (fun _=>True) (upd HC d0 (.dK [((Sum.inr (HE b):Key),V.ref t0)]))) [((Sum.inr (HE b):Key),V.ref t0)] [(HE b,0,[])]:=.cons ⟨rfl,t0,l0,[],rfl,trivial,knD _ _ htc rfl,knD _ _ hlc rfl,.nil⟩ .nil;show BW (air 1) ab7 _ (upd HC d0 (.dK [((Sum.inr (HE b):Key),V.ref t0)])) _;generalize upd HC d0 (.dK [((Sum.inr (HE b):Key),V.ref t0)])=HD at sD hdD wD;refine⟨_,rfl,fun _=>True,d0,pz,c,_,_,0,rfl,hdD,wD,⟨by simp,fun w hw=>by rw[mem_singleton.mp hw];exact SH b,fun w hw=>by rw[mem_singleton.mp hw];exact C' _⟩,by decide,fun _ _=>trivial,sD _ _ hpz,fun f1 QI H1 s1 n1 h1 w1=>?_⟩;have w1:Paired (iJ K (fun _=>True) H1) QI (gY c b (qs.take 0)):=w1;have ok0:=kG (c:=c) (b:=b) hW 0;have S1:=sD.trans s1;tm_up;refine⟨_,f1,QI,_,rfl,h1,w1,by have:=ok0.len;omega,fun l2 F3 H2 s2 n2 h2 p2=>?_⟩;refine⟨by show 1<=sizeLine;decide,fun pp hpp=>?_⟩;have s3:=az.upd (o:=.lst [.ref l2]) hpp;have S3:=(S1.trans s2).trans s3;have npp:H pp=none:=(S1.trans s2).free hpp;have h3:=af (H:=H2) (a:=pp) (o:=.lst [.ref l2]);have p3:Paired (HB pp (upd H2 pp (.lst [.ref l2]))) [.ref l2] (ml c b qs 0):=.cons ⟨l2,F3,rfl,(fun e=>by rw[e,hpp]at h2;cases h2),s3 _ _ h2,bC (fun _ _ q=>Qi.kn s3.kn q) p2⟩ .nil;have w3:=iJ.xI s3.kn (bC (fun _ _ q=>iJ.away hpp q) (iJ.xI s2.kn w1));have V9:=(s2.trans s3) _ _ h1;generalize upd H2 pp (.lst [.ref l2])=H3 at s3 S3 h3 p3 w3 V9;refine⟨_,rfl,wl,rfl,⟨_,S3.seq hS⟩,dD (K:=K) (xs:=ys) (fun i σ H'=>∃(v:Option V)(dd:Addr)(kvs:List (Key×V)) (xs:List V),σ=[some (.ref wl),some (.ref pz),some (.int b),some (.ref dd),some (.ref pp),v,none,none,none]/\az H H'/\H dd=none/\H' dd=some (.dK kvs)/\Paired (iJ K (· ≠ pp) H') kvs (gY c b (qs.take i))/\H' pp=some (.lst xs)/\Paired (HB pp H') xs (ml c b qs i)/\i<=qs.length)
   ⟨none,f1,QI,_,rfl,S3,sD.free n1,V9,w3,h3,p3,V' _⟩ ?_ ?_ ?_⟩
  ·rintro i σ H' _ ⟨v,dd,kvs,xs,rfl,s4,_⟩;exact s4.seq hS
  ·rintro i x σ H4 hx ⟨v,dd,kvs,xs,rfl,s4,nd,hd4,w4,hp4,p4,il⟩;obtain⟨⟨n,m⟩,hq,wp,rfl,Za⟩:=gL hqs hx;have x8:i<qs.length:=(F'.mp hq).1;have hm:=hW _ (Z' hq);have ok4:=kG (c:=c) (b:=b) hW i;have ok5:=kG (c:=c) (b:=b) hW (i+1);have hnx:gY c b (qs.take (i+1))=withPart c (oN c (gY c b (qs.take i)) (n,m)):=by rw[take_succ,hq];exact qp c b _ _
   have hA4:∀ l,H4 l=none->l≠pp:=fun l hl e=>by rw[e,hp4]at hl;cases hl
   refine⟨_,rfl,_,rfl,_,rfl,(· ≠ pp),dd,wp,pz,n,m,c,kvs,_,_,rfl,hd4,w4,ok4,by omega,hA4,s4 _ _ Za,hm.1,hm.2,s4 _ _ hpz,fun f5 F7 H5 s5 n5 h5 w5=>?_⟩;refine⟨_,rfl,(· ≠ pp),f5,pz,c,F7,_,_,rfl,h5,w5,sP hm.1 hm.2 ok4,by omega,fun l hl=>hA4 l (s5.free hl),s5 _ _ (s4 _ _ hpz),fun f6 amh H6 s6 n6 h6 w6=>?_⟩;rw[<-hnx]at w6;have S6:=(s4.trans s5).trans s6;have hp6:=s6 _ _ (s5 _ _ hp4);tm_up;refine⟨.inl ⟨rfl,_,aX.of hp6⟩,?_⟩;tm_up;refine⟨_,f6,amh,_,rfl,h6,w6,by have:=ok5.len;omega,fun l7 xs7 H7 s7 n7 h7 p7=>?_⟩;have hp7:=s7 _ _ hp6;have S7:=S6.trans s7;refine⟨pp,xs,_,rfl,rfl,hp7,aS (by rw[cO p4];unfold ml;rw[O',length_range];omega),?_⟩;have knP:∀{b o},H7 b=some o->b≠pp->upd H7 pp (.lst (xs++[.ref l7])) b=some o:=fun e ne=>by rw[ax ne];exact e
   refine⟨_,f6,amh,_,rfl,cK S7 npp,(s4.trans s5).free n6,?_,?_,af,?_,x8⟩
   ·rw[ax (fun e=>by rw[e,hp6]at h6;cases h6)];exact s7 _ _ h6
   ·exact bC (fun _ _ q=>iJ.write hp7 (fun z=>z rfl) q) (iJ.xI s7.kn w6)
   ·rw[Z4];exact bC (fun _ _ q=>HB.write hp7 q) (lE (bC (fun _ _ q=>HB.kn ((s5.trans s6).trans s7).kn q) p4) ⟨l7,xs7,rfl,(fun e=>by rw[e,hp6]at n7;cases n7),h7,p7⟩)
  ·rintro σ H4 ⟨v,dd,kvs,xs,rfl,s4,nd,hd4,w4,hp4,p4,il⟩;rw[cO hqs,take_length]at w4;rw[cO hqs]at p4;have ok4:=kG (c:=c) (b:=b) hW qs.length;rw[take_length]at ok4;unfold Fm at q1 q2;generalize gY c b qs=ws at w4 ok4 q1 q2;have wl4:=ok4.len;refine⟨_,rfl,dd,kvs,rfl,hd4,fun o D b' hD=>?_⟩;have kn5:=Kn.put (u:=.fe o (.dK kvs)) hd4 rfl;have x9:∀ b u,b≠dd->H4 b=some u->upd H4 dd (.fe o (.dK kvs)) b=some u:=fun b u hb e=>by rw[ax hb];exact e
   have we:=af (H:=H4) (a:=dd) (o:=.fe o (.dK kvs));have w5:=iJ.xI kn5 w4;have nDd:D≠dd:=fun e=>by rw[e,we]at hD;cases hD
   generalize upd H4 dd (.fe o (.dK kvs))=H5 at x9 we w5 hD;refine vG (fun i zs σ H'=>∃(v1 v2 v3:Option V),σ=[v1,v2,some (.ref wl),some (.ref pz),some (.int b),some (.ref dd),some (.ref pp),v3,none,none,none]/\az H5 H'/\H' D=some (.lst zs)/\Paired (EnK K H5) zs ((ws.take i).filter fun w=>iI w.1)/\i<=ws.length)
    ⟨none,none,v,rfl,az.upd hD,af,.nil,V' _⟩ ?_ ?_ ?_
   ·rintro i zs σ H' ⟨v1,v2,v3,rfl,s6,_⟩;exact s6 _ _ we
   ·rintro i zs kv tt σ H6 hkv ⟨v1,v2,v3,rfl,s6,hD6,p6,il6⟩ htt N hN;obtain⟨⟨z,k0,ln⟩,hw,hk1,tq,lq,yq,hk2,_,htq,hlq,pq⟩:=gL w5 hkv;have hk1:kv.1=Sum.inr z:=hk1;have x8:i<ws.length:=(F'.mp hw).1;have hz:z∈ST:=ok4.st _ (Z' hw);rw[hk1,hk2];have st:=az.upd (o:=.tup [kV (Sum.inr z),.ref tq]) htt;have h7:=af (H:=H6) (a:=tt) (o:=.tup [kV (Sum.inr z),.ref tq]);generalize upd H6 tt (.tup [kV (Sum.inr z),.ref tq])=H7 at st h7;have et:=ac0 hw;have zl:zs.length<=28:=by
     rw[cO p6];exact Nat.le_trans (List.length_filter_le _ _) (by rw[length_take];omega)
    refine⟨tt,_,rfl,dh.of h7,rfl,_,_,rfl,_,_,rfl,rfl,?_⟩;refine⟨_,rfl,z,rfl,hz,_,rfl,?_⟩;refine aM (fun h=>?_) (fun h=>?_)
    ·rw[R' h]at et;refine⟨_,rfl,st _ _ hD6,aS (by omega),hN _ _ _ ⟨_,_,_,rfl,cK (s6.trans st) hD,af,?_,x8⟩⟩;rw[et];exact lE p6 ⟨tq,lq,yq,rfl,htq,hlq,pq⟩
    ·rw[L' h,append_nil]at et;exact hN _ _ _ ⟨_,_,_,rfl,s6.trans st,st _ _ hD6,by rw[et];exact p6,x8⟩
   ·rintro zs σ H6 ⟨v1,v2,v3,rfl,s6,hD6,p6,_⟩;rw[cO w4,take_length]at p6;have hd6:=s6 _ _ we;refine⟨dd,o,kvs,hd6,fun o' v' e=>?_,?_⟩
    ·have e:H dd=some (.fe o' v'):=e;rw[nd]at e;cases e
    have s7:az H (upd H6 dd (.dK kvs)):=fun b u e=>by
     rw[ax (aN e nd)];exact s6 _ _ (x9 b u (aN e nd) (s4 b u e))
    have hD7:upd H6 dd (.dK kvs) D=some (.lst zs):=by rw[ax nDd];exact hD6
    have kn7:Kn H6 (upd H6 dd (.dK kvs)):=Kn.put hd6 rfl;have ami:Kn H4 (upd H6 dd (.dK kvs)):=(Kn.of hd4 (fun b u hb e=>s6 _ _ (x9 b u hb e))).trans kn7;have p7:=bC (fun _ _ q=>EnK.kn (s6.kn.trans kn7) q) p6;have hp7:=ami _ _ hp4 rfl;have pp7:=bC (fun _ _ q=>HB.kn ami q) p4;generalize upd H6 dd (.dK kvs)=H7 at s7 hD7 p7 hp7 pp7;have zl:zs.length<=28:=by
     rw[cO p7];exact Nat.le_trans (List.length_filter_le _ _) wl4
    tm_up;refine⟨big (by show 0<=1000;omega),fun e0 he0=>?_⟩;have s8:=az.upd (o:=.lst []) he0;refine⟨D,e0,zs,rfl,rfl,aX.of (s8 _ _ hD7),aX.of af,_,rfl,?_⟩;have hD8:=s8 _ _ hD7;have hp8:=s8 _ _ hp7;have p8:=bC (fun _ _ q=>EnK.kn s8.kn q) p7;have pp8:=bC (fun _ _ q=>HB.kn s8.kn q) pp7;have s78:=s7.trans s8;generalize upd H7 e0 (.lst [])=H8 at s8 hD8 hp8 p8 pp8 s78;generalize hE:ws.filter (fun w=>iI w.1)=es at p8 q1 q2;refine aM (fun h=>?_) (fun h=>?_)
    ·have hz:zs=[]:=List.isEmpty_iff.mp h;subst hz;cases p8;tm_up;refine⟨by show 3<=sizeLine;decide,fun r hr0=>?_⟩;have s9:=az.upd (o:=.tup [.non,.non,.ref pp]) hr0;exact q1 rfl r pp xs _ (s78.trans s9) af (s9 _ _ hp8) (bC (fun _ _ q=>HB.kn s9.kn q) pp8)
    ·have hz:zs≠[]:=fun z=>h (by rw[z];rfl);have el:=cO p8;have zp:0<zs.length:=List.length_pos_iff.mpr hz;have amj:Ga t.xS _ H8:=apb.same s78;obtain⟨ps8,hT8⟩:∃ ps,H8 t.xS=some (.EA ps):=by
      rcases amj with ⟨ps,_,h1,_⟩|⟨ps,h1,_⟩ <;> exact⟨ps,h1⟩
     have nT:∀{b u},H8 b=some u->(∀ ps,u≠.EA ps)->b≠t.xS:=fun {b u} e n z=>by
      rw[z,hT8]at e;exact n _ (Za' e).symm
     refine⟨_,rfl,D,zs,fun i=>(es[i]?.map fun w=>w.2.1).getD 0,rfl,hD8,zp,amj,fun i y hy=>?_,fun i y H9 hy best keep free apf=>?_⟩
     ·obtain⟨w,hw,tq,lq,yq,rfl,h1,_⟩:=gL p8 hy;refine⟨tq,[.ref lq],rfl,?_⟩;dsimp only;rw[hw];exact h1
     ·obtain⟨w,hw,tq,lq,yq,rfl,h1,h2,h3⟩:=gL p8 hy;have h19:=keep _ _ h1 (nT h1 (fun _ z=>nomatch z));have h29:=keep _ _ h2 (nT h2 (fun _ z=>nomatch z));have hp9:=keep _ _ hp8 (nT hp8 (fun _ z=>nomatch z));have kt:∀{p:Addr} {xs:List V},dh K H8 p xs->dh K H9 p xs:=fun {p xs} h=>by
       rcases h with (h|⟨u,h⟩)|h
       ·exact .inl (.inl (keep _ _ h (nT h (fun _ z=>nomatch z))))
       ·exact .inl (.inr ⟨u,keep _ _ h (nT h (fun _ z=>nomatch z))⟩)
       ·exact .inr h
      have h39:ve K H9 yq w.2.2:=bC (fun _ _ ⟨p,e,q⟩=>⟨p,e,⟨kt q⟩⟩) h3;have pp9:Paired (HB pp H9) xs (ml c b qs qs.length):=bC (fun _ _ ⟨l,zs',e,n,a1,a2⟩=>⟨l,zs',e,n,keep _ _ a1 (nT a1 (fun _ z=>nomatch z)),bC (fun _ _ ⟨p,e,a3⟩=>⟨p,e,keep _ _ a3 (nT a3 (fun _ z=>nomatch z))⟩) a2⟩) pp8;refine⟨tq,_,rfl,dh.of h19,rfl,_,_,rfl,_,_,rfl,rfl,?_⟩;tm_up;refine⟨by show 3<=sizeLine;decide,fun r hr0=>?_⟩;have Wg:=az.upd (o:=.tup [.ref lq,.int w.2.1,.ref pp]) hr0;refine q2 w (Z' hw) (fun w' hw'=>?_) r lq pp yq xs _ (fun b u e n=>Wg _ _ (keep b u (s78 _ _ e) n)) (Ga.same Wg (Or.inl apf)) af (Wg _ _ h29) (h39.same Wg) (Wg _ _ hp9) (bC (fun _ _ q=>HB.kn Wg.kn q) pp9);obtain⟨j,hj⟩:=List.mem_iff_getElem?.mp hw';have hjl:j<zs.length:=by rw[el];exact(F'.mp hj).1
      have:=(best j hjl).1;dsimp only at this;rw[hw,hj]at this;exact this
def mZ (ns:List Int)(k:Nat):Int:=ns.getD k 0
def N1 (K:Frag):Sp:=fun vs H Q _=>∃(a:Addr)(ns:List Int)(k:Nat),vs=[.ref a,.int (k:Int)]/\aX K H a (ns.map V.int)/\ns.length<=63/\Q (.int (mZ ns k)) H
theorem qP (T:Txt K w mg t):bK P w K mg base ig (0+1) t.gx t.sX ["_law_script","_law_k"] (N1 K):=by
 refine T.bN.ok Nv (fun vs H Q E h=>?_) (fun cdv A outer s H vs Q E hr h=>?_)
 ·obtain⟨a,ns,k,rfl,_⟩:=h;rfl
 ·obtain⟨a,ns,k,rfl,hS,hl,q⟩:=h;refine aR (ag (aO (ar rB (pv 1) (aV (Zv rfl) rfl T.ad3 aiT (aa ai (aa (aV (aZ.or a5) rfl T.eU eF (aa (pv 0) ao)) ao))) (au _)) (aj (ay (aI aD (pv 0) (pv 1) (fun _ _=>rfl)))) aB) (aj (ay ai))) ?_;refine⟨_,rfl,_,rfl,.inl ⟨_,_,rfl,.inl hS,_,_,rfl,_,_,rfl,rfl,_,rfl,?_⟩⟩;rw[O'];refine aM (fun h=>?_) (fun h=>?_)
  ·have hk:k<ns.length:=by
    have:=M' h;split at this <;> omega
   have e:(ns.map V.int)[k]? = some (V.int (mZ ns k)):=by
    rw[getElem?_map,G' hk];unfold mZ;rw[X',G' hk];rfl
   exact⟨_,rfl,_,rfl,.inl ⟨_,_,_,_,rfl,rfl,hS,xq e,q⟩⟩
  ·have hk:ns.length<=k:=by
    have h':¬((k:Int)<if(ns.length:Int)<63 then(ns.length:Int) else 63):=fun z=>h (W' z);split at h' <;> omega
   have e:mZ ns k=0:=by
    unfold mZ;rw[X',List.getElem?_eq_none hk];rfl
   rw[e]at q;exact q
def Wh:Sp:=fun vs H Q _=>∃ seed k:Int,vs=[.int seed,.int k]/\∀ r:Int,0<=r->r<65521->Q (.int r) H
theorem wg (T:Txt K w mg t):bK P w K mg base ig (0+1) t.jW t.Aa ["_law_seed","_law_k"] Wh:=by
 refine T.j1.ok vL (fun vs H Q E h=>?_) (fun cdv A outer s H vs Q E hr h=>?_)
 ·obtain⟨_,_,rfl,_⟩:=h;rfl
 ·obtain⟨seed,k,rfl,q⟩:=h;refine aR (ag (aK (i:=2) vL.nd rfl (Or.inl rfl) (aJ dv (aJ (a9.or (aF.or ba)) (aJ (a9.or (aF.or ba)) (aJ (vC.or vD) (aJ dv (pv 0) ai) ai) (aJ (vC.or vD) (pv 1) ai)) ai) ai)) (ag (aK (i:=3) vL.nd rfl (Or.inl rfl) (aJ dv (aJ (a9.or (aF.or ba)) (aJ (a9.or (aF.or ba)) (aJ (vC.or vD) (pv 2) (pv 2)) (aJ (vC.or vD) (pv 1) ai)) (aJ dv (aJ lH (pv 0) ai) ai)) ai)) (aj (ay (aJ dv (aJ (a9.or (aF.or ba)) (aJ lH (aJ (vC.or vD) (pv 3) (pv 3)) ai) (pv 3)) ai))))) ?_;have p2:(2:Int) ^ 64=18446744073709551616:=by decide
  refine⟨_,rfl,_,_,rfl,rfl,(by decide:(0:Int)<1000003),.inl ⟨_,_,rfl,rfl,.inr ⟨by decide,by decide⟩,_,rfl,.inl ⟨_,_,rfl,rfl,.inr ⟨by decide,by decide⟩,.inl ⟨_,_,rfl,rfl,.inl ⟨_,_,rfl,rfl,_,_,rfl,rfl,(by decide:(0:Int)<1000033),?_⟩⟩⟩⟩⟩;generalize hone:(seed % 1000003 * 48271+k * 30011+17) % 1000033=one;have b1:0<=one/\one<1000033:=by omega
  refine⟨_,rfl,_,rfl,.inl ⟨_,_,rfl,rfl,.inl ⟨by rw[p2];omega,by rw[p2];omega⟩,_,rfl,.inl ⟨_,_,rfl,rfl,.inr ⟨by decide,by decide⟩,.inl ⟨_,_,rfl,rfl,_,rfl,_,_,rfl,rfl,⟨by decide,by decide⟩,_,_,rfl,rfl,(by decide:(0:Int)<997),.inl ⟨_,_,rfl,rfl,_,_,rfl,rfl,(by decide:(0:Int)<999983),?_⟩⟩⟩⟩⟩;generalize arK:(one * one+k * 613+seed / 1000003 % 997) % 999983=two;have b2:0<=two/\two<999983:=by omega
  refine⟨_,rfl,_,rfl,.inl ⟨_,_,rfl,rfl,.inl ⟨by rw[p2];omega,by rw[p2];omega⟩,_,_,rfl,rfl,⟨by decide,by decide⟩,_,rfl,.inl ⟨_,_,rfl,rfl,_,_,rfl,rfl,(by decide:(0:Int)<65521),?_⟩⟩⟩;exact q _ (by omega) (by omega)
def CM (K:Frag):Sp:=fun vs H Q _=>∃(a:Addr)(ns:List Int)(k m:Nat),vs=[.ref a,.int (k:Int),.int (m:Int)]/\aX K H a (ns.map V.int)/\ns.length<=63/\m<=60 /\
 ∀(f:Addr)(ys:List V)(qs:List (Int×Int)) (H':Hp),az H H'->H f=none->H' f=some (.lst ys)->xF H' ys qs->Wsh qs->agf qs->qs.length=m->Q (.ref f) H'
theorem CN (T:Txt K w mg t):bK P w K mg base ig (0+2) t.dr t.mE ["_law_script","_law_at","_law_many"] (CM K):=by
 have pC:=wg (P:=P) (base:=base) T;have cm:=qP (P:=P) (base:=base) T;refine T.gF.ok dB (fun vs H Q E h=>?_) (fun cdv A outer s H vs Q E hr h=>?_)
 ·obtain⟨_,_,_,_,rfl,_⟩:=h;rfl
 ·obtain⟨a,ns,k,m,rfl,hS,hl,hm,q⟩:=h;obtain⟨m6,m7⟩:∃ v:List (Int×Pos),v=dG:=⟨_,rfl⟩;have hbody:ah bO=(ah bO).take 1++setIn ((ah bO).getD 1 (.Pass ⟨0,0,0,0⟩)) 1 (af5 (m6.map fun c=>Expr.Constant (.int c.1) 0 c.2) 7)::(ah bO).drop 2:=by subst m7;rfl
  rw[hbody];refine aR (ag (aK (i:=3) dB.nd rfl (Or.inl rfl) (c8 ao)) (ag (bW PassesOwn.never rfl (jG rfl T.mX (aa (pv 2) ao)) (aC (i:=4) dB.nd rfl (Or.inl rfl)) (ag (aK (i:=5) dB.nd rfl (Or.inl rfl) (aA pC (hr.mono (by decide)) rfl T.v8 T.j1.kp T.pb .nil aQ (aa (aJ (a9.or (aF.or ba)) (aA cm (hr.mono (by decide)) rfl T.cL T.bN.kp T.ck .nil aQ (aa (pv 0) (aa (pv 1) ao))) (aJ (vC.or vD) ai (aA cm (hr.mono (by decide)) rfl T.cL T.bN.kp T.ck .nil aQ (aa (pv 0) (aa (aJ (a9.or (aF.or ba)) (aJ (a9.or (aF.or ba)) (pv 1) ai) (pv 4)) ao))))) (aa (pv 4) ao)))) (ag (aK (i:=6) dB.nd rfl (Or.inl rfl) (aI aD (c8 (ahK (aa (aJ (a9.or (aF.or ba)) ai (aJ dv (aJ lH (pv 5) ai) ai)) ao) m6)) (aJ dv (pv 5) ai) (fun _ _=>rfl))) (ag (aK (i:=7) dB.nd rfl (Or.inl rfl) (br (bz (ar (aL.or (aE (aw hr))) (aJ dv (aJ lH (pv 5) ai) ai) ai (au _)) (ab2 R0 ai) (aJ l8 (aJ dv (aJ lH (pv 5) ai) ai) ai)))) (aj (bX (ik plainAttrs_list slot_list_append type_list_append bj (pv 3) (aa (bY (aa (pv 7) (aa (pv 6) ao))) ao)))))))) (aj (ay (pv 3))))) ?_;subst m7;refine⟨big (by show 0<=1000;omega),fun f hf=>?_⟩;have s0:=az.upd (o:=.lst []) hf;tm_up;refine⟨by omega,by omega,lK (n:=((m:Int)).toNat) (fun i σ H'=>∃(v1 v2 v3 v4:Option V)(zs:List V)(qs:List (Int×Int)),σ=[some (.ref a),some (.int (k:Int)),some (.int (m:Int)),some (.ref f),v1,v2,v3,v4]/\az H H'/\H' f=some (.lst zs)/\xF H' zs qs/\Wsh qs/\agf qs/\qs.length=i)
   ⟨none,none,none,none,[],[],rfl,s0,af,.nil,fun _ h=>(nomatch h),fun _ h=>(nomatch h),rfl⟩ ?_ ?_⟩
  ·rintro i σ H' hi ⟨v1,v2,v3,v4,zs,qs,rfl,s1,hf1,p1,w1,wt1,ql⟩;have hS1:=s1.seq hS;tm_up;refine⟨a,ns,k,rfl,hS1,hl,?_⟩;tm_up;refine⟨a,ns,k+1+i,?_,hS1,hl,?_⟩
   ·show [V.ref a,V.int ((k:Int)+1+(0+(i:Int)))]=[V.ref a,V.int ((k+1+i:Nat):Int)];have e:(k:Int)+1+(0+(i:Int))=((k+1+i:Nat):Int):=by omega
    rw[e]
   refine .inl ⟨_,_,rfl,rfl,.inl ⟨by decide,by decide⟩,?_⟩;tm_up;refine⟨_,_,rfl,fun r h0 h1=>?_⟩;tm_up;refine⟨by show 8<=sizeLine;decide,fun lp hlp=>?_⟩;have sl:=az.upd (o:=.lst ((dG.map fun c=>V.int c.1)++[V.int (1+r / 8 % 9)])) hlp;have amk:=af (H:=H') (a:=lp) (o:=.lst ((dG.map fun c=>V.int c.1)++[V.int (1+r / 8 % 9)]));generalize upd H' lp (.lst ((dG.map fun c=>V.int c.1)++[V.int (1+r / 8 % 9)]))=H2 at sl amk;tm_up;obtain⟨wo,hwo,wo1,wo9⟩:∃ wo:Int,((dG.map fun c=>V.int c.1)++[V.int (1+r / 8 % 9)])[(r % 8).toNat]? = some (.int wo)/\1<=wo/\wo<=9:=by
    have:r % 8=0\/r % 8=1\/r % 8=2\/r % 8=3\/r % 8=4\/r % 8=5\/r % 8=6\/r % 8=7:=by omega
    rcases this with e|e|e|e|e|e|e|e <;> rw[e]
    ·exact⟨1,rfl,by decide,by decide⟩
    ·exact⟨2,rfl,by decide,by decide⟩
    ·exact⟨1,rfl,by decide,by decide⟩
    ·exact⟨3,rfl,by decide,by decide⟩
    ·exact⟨1,rfl,by decide,by decide⟩
    ·exact⟨2,rfl,by decide,by decide⟩
    ·exact⟨2,rfl,by decide,by decide⟩
    ·exact⟨_,rfl,by omega,by omega⟩
   refine Su (aX.of amk) (n:=(r % 8).toNat) (by omega) hwo ?_;refine⟨fun v H3=>(∃ tn:Int,v=.int tn/\(tn = -1\/(0<=tn/\tn<=99)))/\H3=H2,?_,?_⟩
   ·tm_up;rw[intD];refine aM (fun _=>?_) (fun _=>?_)
    ·exact⟨_,rfl,⟨_,rfl,.inl rfl⟩,rfl⟩
    ·tm_up;exact⟨⟨_,rfl,by omega⟩,rfl⟩
   ·rintro _ _ ⟨⟨tn,rfl,htn⟩,rfl⟩;have hf2:=sl _ _ hf1;tm_up;refine⟨.inl ⟨rfl,_,aX.of hf2⟩,?_⟩;tm_up;refine⟨by show 2<=sizeLine;decide,fun tp htp=>?_⟩;have sT:=sl.trans (az.upd (o:=.tup [.int tn,.int wo]) htp);have V9:=sT _ _ hf1;refine⟨f,zs,_,rfl,rfl,V9,aS (by rw[cO p1];omega),?_⟩;refine⟨_,_,_,_,_,qs++[(tn,wo)],rfl,cK (s1.trans sT) hf,af,lE (Yt V9 (oM sT p1)) (Sy V9 ⟨tp,rfl,af⟩),fun q hq=>?_,fun q hq=>?_,by simp[ql]⟩
    ·rcases mem_append.mp hq with z|z
     ·exact w1 q z
     ·rw[mem_singleton.mp z];exact⟨by show 0<=wo;omega,wo9⟩
    ·rcases mem_append.mp hq with z|z
     ·exact wt1 q z
     ·rw[mem_singleton.mp z];exact htn
  ·rintro σ H' ⟨v1,v2,v3,v4,zs,qs,rfl,s1,hf1,p1,w1,wt1,ql⟩;tm_up;exact q f zs qs H' s1 hf hf1 p1 w1 wt1 (by omega)
def QL:Sp:=fun vs H Q _=>vs=[]/\∀(f:Addr)(H':Hp),az H H'->H f=none->H' f=some (.lst (ST.map V.str))->Q (.ref f) H'
theorem aek {l r:Str}(hl:l.length<=1)(hr:r.length<=2):("3":Str).length+l.length<=sizeLine/\("3" ++ l:Str).length+r.length<=sizeLine:=by
 have e1:("3":Str).length=1:=by lk
 have e2:∀ a b:Str,(a++b).length=a.length+b.length:=fun a b=>by
  show(a.cps++b.cps).size=_;rw[Array.size_append];rfl
 refine⟨ou (by rw[e1];omega),ou (by rw[e2,e1];omega)⟩
theorem QM (T:Txt K w mg t):bK P w K mg base ig (0+1) t.iB t.vU [] QL:=by
 refine T.mT.ok oh (fun vs H Q E h=>?_) (fun cdv A outer s H vs Q E hr h=>?_)
 ·obtain⟨rfl,_⟩:=h;rfl
 ·obtain⟨rfl,q⟩:=h;refine aR (ag (aK (i:=0) oh.nd rfl (Or.inl rfl) (c8 (aa av (aa av (aa av ao))))) (ag (bW PassesOwn.never rfl (aiS av) (aC (i:=1) oh.nd rfl (Or.inl rfl)) (ag (bX (ik plainAttrs_list slot_list_append type_list_append bj (pv 0) (aa (aJ (a9.or (aF.or ba)) (aJ (a9.or (aF.or ba)) av (pv 1)) av) ao))) (aj (bW PassesOwn.never rfl (cq (c8 (ahA HW))) (aC (i:=2) oh.nd rfl (Or.inl rfl)) (aj (aO (ar (l9.or (iw (aw hr))) (pv 1) av (au _)) (aj (bX (ik plainAttrs_list slot_list_append type_list_append bj (pv 0) (aa (aJ (a9.or (aF.or ba)) (aJ (a9.or (aF.or ba)) av (pv 1)) (pv 2)) ao)))) aB)))))) (aj (ay (aV BZ rfl T.J1 JD (aa (pv 0) ao)))))) ?_;refine⟨by show 3<=sizeLine;decide,fun f hf=>?_⟩;refine⟨_,rfl,agb (z:=Str.ofString "nwht") (fun i σ H'=>∃ v w,σ=[some (.ref f),v,w]/\∃ g,az H g/\g f=none/\H'=upd g f (.lst ((Hz i).map V.str))) ⟨none,none,rfl,H,az.refl _,hf,rfl⟩ ?_ ?_⟩
  ·rintro i c σ H' hc ⟨v,w,rfl,g,sg,gf,rfl⟩;have hl:=an4 hc;generalize (⟨#[c]⟩:Str)=l at hl;have hi:=ak4 hl;have hal:=Qf (i:=i) (by omega);have hll:l.length<=1:=ajl hl;obtain⟨z1,z2⟩:=aek (l:=l) (r:="0-") hll (by lk);tm_up;refine⟨.inl ⟨rfl,_,aX.of af⟩,?_⟩;refine⟨_,rfl,.inr (.inl ⟨_,_,rfl,rfl,z1,.inr (.inl ⟨_,_,rfl,rfl,z2,?_⟩)⟩)⟩;refine⟨_,_,_,rfl,rfl,af,aS (by rw[O'];omega),?_⟩;rw[iX];refine⟨by show 7<=sizeLine;decide,fun m hm=>?_⟩;have mf:m≠f:=fun z=>by rw[z,af]at hm;cases hm
   have gm:g m=none:=by rw[ax mf]at hm;exact hm
   refine⟨_,rfl,⟨_,aX.of af⟩,dD (K:=K) (xs:=QN.map V.str) (fun j σ H'=>∃ w,σ=[some (.ref f),some (.str l),w]/\∃ G,az H G/\G f=none/\G m=some (.lst (QN.map V.str))/\H'=upd G f (.lst ((Hz i++g3 l "0-" :: (if l = "t" then [] else(QN.take j).map (g3 l))).map V.str)))
    ⟨w,rfl,upd g m (.lst (QN.map V.str)),sg.trans (az.upd gm),by rw[ax (Ne.symm mf)];exact gf,af,?_⟩ ?_ ?_ ?_⟩
   ·funext b
    by_cases h1:b=f
    ·subst h1;rw[af,ax (Ne.symm mf),af]
     congr 2
     rw[map_append]
     by_cases hlt:l = "t"
     ·simp[hlt,g3]
     ·simp[hlt,g3]
    ·by_cases h2:b=m
     ·subst h2;rw[af,ax h1,af];rfl
     ·rw[ax h2,ax h1,ax h1,ax h2]
   ·rintro j σ H' _ ⟨w,rfl,G,_,Gf,Gm,rfl⟩;exact aX.of (by rw[ax mf];exact Gm)
   ·rintro j x σ H' hy ⟨w,rfl,G,SG,Gf,Gm,rfl⟩;obtain⟨r,hr',rfl⟩:=xH hy;have hrl:=ajm hr';have hj:j<7:=(F'.mp hr').1;obtain⟨z1,z2⟩:=aek (l:=l) (r:=r) hll hrl;tm_up;rw[Sz];refine aM (fun h=>?_) (fun h=>?_)
    ·have hlt:l ≠ "t":=M' h;tm_up;refine⟨.inl ⟨rfl,_,aX.of af⟩,?_⟩;refine⟨_,rfl,.inr (.inl ⟨_,_,rfl,rfl,z1,_,rfl,.inr (.inl ⟨_,_,rfl,rfl,z2,?_⟩)⟩)⟩;refine⟨_,_,_,rfl,rfl,af,aS (by rw[O',length_append,length_cons,L' hlt,O',length_take];omega),?_⟩;refine⟨_,rfl,G,SG,Gf,Gm,?_⟩;rw[iX,L' hlt,L' hlt,List.take_add_one,hr']
     congr 2
     simp[g3]
    ·have hlt:l = "t":=by
      by_cases e:l = "t"
      ·exact e
      ·exact absurd (W' e) h
     refine⟨_,rfl,G,SG,Gf,Gm,?_⟩;rw[R' hlt,R' hlt]
   ·rintro σ H' ⟨w,rfl,G,SG,Gf,Gm,rfl⟩;refine⟨_,_,rfl,G,SG,Gf,?_⟩;rw[Z0 hl];rfl
  ·rintro σ H' ⟨v,w,rfl,g,sg,gf,rfl⟩;refine⟨_,rfl,_,_,ST,rfl,aX.of af,?_,ZZ,JQ,fun k hk=>?_⟩
   ·show(Hz 4).length<64;have:=Qf (i:=4) (by omega);omega
   ·have sm:=sg.trans (az.upd (o:=.lst ((Hz 4).map V.str)) gf);exact q k _ (sm.trans (az.upd hk)) (sm.free hk) af
theorem hZ {a b:TS}{D:Ends}{σ:St}{H:Hp}(h:∀ N:St->Hp->Prop,(∀ σ H,b D σ H->N σ H)->a { D with nx:=N } σ H):afF a b D σ H:=h (b D) fun _ _ z=>z
theorem B4 {a b:TS}{D:Ends}{σ:St}{H:Hp}{rt:VK}{bk ct:St->Hp->Prop}(h:afF a b D σ H):Ends.nx { nx:=afF a b D,rt:=rt,bk:=bk,ct:=ct } σ H:=h
def RwK (H:Hp)(y:V)(t:Nb):Prop:=∃ l zs,y=.ref l/\H l=some (.lst zs)/\Paired (Qi H) zs t
theorem RwK.same {H H':Hp}(s:az H H'){y:V}{t:Nb}(h:RwK H y t):RwK H' y t:=by
 obtain⟨l,zs,e,h1,h2⟩:=h;exact⟨l,zs,e,s _ _ h1,bC (fun _ _ ⟨p,e,h⟩=>⟨p,e,s _ _ h⟩) h2⟩
def TbK (H0:Hp)(A:Addr->Prop)(H:Hp)(y:V)(t:Nb):Prop:=∃ d,y=.ref d/\A d/\H0 d=none/\H d=some (.dK (lN t))
def QO (K:Frag):Sp:=fun vs H Q _=>∃(pp:Addr)(xs:List V)(ts:List Nb),vs=[.ref pp]/\H pp=some (.lst xs)/\Paired (RwK H) xs ts/\ts.length<=900/\(∀ t∈ts,t.length<=900) /\
 (ts.all Fx=true->∀(l:Addr)(ys:List V)(H':Hp),az H H'->H l=none->H' l=some (.lst ys)->Paired (TbK H (fun _=>True) H') ys ts->Q (.ref l) H') /\
 (ts.all Fx=false->∀ H',az H H'->Q .non H')
theorem agS {t:Nb}{j:Nat}{p:Str×Int}(h:t[j]? = some p)(hn:((t.take j).map (·.1)).Nodup)(hs:∀ x∈t.take j,x.1∈ST)(hz:p.1∈ST)(hg:gN (t.take j) p.1=none):((t.take (j+1)).map (·.1)).Nodup/\∀ x∈t.take (j+1),x.1∈ST:=by
 have e:t.take (j+1)=t.take j++[p]:=by rw[take_succ,h];rfl
 rw[e];refine⟨?_,fun x hx=>?_⟩
 ·rw[map_append];refine List.nodup_append.mpr ⟨hn,by simp,fun a ha b hb e=>?_⟩;have hb:=mem_singleton.mp hb;exact EK.mp hg (by have e':p.1=a:=(e.trans hb).symm;rw[e'];exact ha)
 ·rcases mem_append.mp hx with hx|hx
  ·exact hs x hx
  ·rw[mem_singleton.mp hx];exact hz
theorem ajH {t:Nb}{j:Nat}{p:Str×Int}(h:t[j]? = some p)(hb:p.1 ∉ ST\/gN (t.take j) p.1≠none):Fx t=false:=by
 rw[P'];intro e;unfold Fx at e;rw[Bool.and_eq_true,decide_eq_true_iff]at e;rcases hb with hb|hb
 ·exact hb (M' (all_eq_true.mp e.2 p (Z' h)))
 ·refine hb (EK.mpr fun hm=>?_);have e1:t.take (j+1)=t.take j++[p]:=by rw[take_succ,h];rfl
  have e2:(t.map (·.1))=((t.take (j+1)).map (·.1))++((t.drop (j+1)).map (·.1)):=by rw[<-map_append,List.take_append_drop]
  rw[e2,e1,map_append]at e;have:=(List.nodup_append.mp (List.nodup_append.mp e.1).1).2.2;exact this p.1 hm p.1 (mem_singleton.mpr rfl) rfl
theorem Zd {t:Nb}(hn:(t.map (·.1)).Nodup)(hs:∀ x∈t,x.1∈ST):Fx t=true:=by
 unfold Fx;rw[Bool.and_eq_true,decide_eq_true_iff];exact⟨hn,all_eq_true.mpr fun x hx=>W' (hs x hx)⟩
theorem QP (T:Txt K w mg t):bK P w K mg base ig (0+2) t.iC t.vV ["_law_paper_here"] (QO K):=by
 have Wi:=QM (P:=P) (base:=base) T;refine T.mU.ok gr (fun vs H Q E h=>?_) (fun cdv A outer s H vs Q E hr h=>?_)
 ·obtain⟨_,_,_,rfl,_⟩:=h;rfl
 ·obtain⟨pp,xs,ts,rfl,hp,hxs,tl,tls,q1,q2⟩:=h;refine aR (ag (aK (i:=1) gr.nd rfl (Or.inl rfl) (PN Wi (hr.mono (by decide)) rfl T.Qu T.mT.kp T.v9 .nil aQ)) (ag (aK (i:=2) gr.nd rfl (Or.inl rfl) (c8 ao)) (ag (bW PassesOwn.never rfl (cq (pv 0)) (aC (i:=3) gr.nd rfl (Or.inl rfl)) (ag (aK (i:=4) gr.nd rfl (Or.inl rfl) P5) (ag (bW PassesOwn.never rfl (cq (pv 3)) (cU rfl (aG (aC (i:=5) gr.nd rfl (Or.inl rfl)) (aG (aC (i:=6) gr.nd rfl (Or.inl rfl)) bQ))) (ag (aO (a8 (PW.pt (ij (ar (xt.or xu) (pv 5) (pv 1) rfl) (eB (RV (acv (oI hr) (pv 5) (pv 4))))))) (aj (ay bI)) aB) (aj (Yj (oI hr) (pv 4) (pv 5) (pv 6) rfl)))) (aj (bX (ik plainAttrs_list slot_list_append type_list_append bj (pv 2) (aa (pv 4) ao))))))) (aj (ay (pv 2)))))) ?_;tm_up;refine⟨rfl,fun kn H0 s0 n0 k0=>?_⟩;refine⟨big (by show 0<=1000;omega),fun l hl=>?_⟩;have s1:=s0.trans (az.upd (o:=.lst []) hl);have k1:=az.upd (o:=.lst []) hl _ _ k0;have nl:H l=none:=s0.free hl;have nlk:kn≠l:=aN k0 hl;have l1:=af (H:=H0) (a:=l) (o:=.lst []);show Ends.nx _ _ (upd H0 l (.lst []));generalize upd H0 l (.lst [])=H1 at s1 k1 l1;refine⟨_,rfl,pp,rfl,⟨_,aX.of (s1 _ _ hp)⟩,dD (K:=K) (xs:=xs) (fun i σ H'=>∃(v1 v2 v3 v4:Option V)(ys:List V),σ=[some (.ref pp),some (.ref kn),some (.ref l),v1,v2,v3,v4]/\az H H'/\H' kn=some (.lst (ST.map V.str))/\H' l=some (.lst ys)/\Paired (TbK H (fun _=>True) H') ys (ts.take i)/\(ts.take i).all Fx=true/\i<=ts.length)
   ⟨none,none,none,none,[],rfl,s1,k1,l1,.nil,rfl,V' _⟩ ?_ ?_ ?_⟩
  ·rintro i σ H' _ ⟨v1,v2,v3,v4,ys,rfl,s,_⟩;exact aX.of (s _ _ hp)
  ·rintro i x σ H2 hx ⟨v1,v2,v3,v4,ys,rfl,s2,k2,l2,p2,al,il⟩;obtain⟨t',ht,r,zs,rfl,hr,hzs⟩:=gL hxs hx;have x8:i<ts.length:=(F'.mp ht).1;have tl':=tls _ (Z' ht);tm_up;refine fun d hd=>?_;have nd:H d=none:=s2.free hd;have s3:=az.upd (o:=.dK []) hd;have k3:=s3 _ _ k2;have l3:=s3 _ _ l2;have p3:Paired (TbK H (· ≠ d) (upd H2 d (.dK []))) ys (ts.take i):=bC (fun _ _ ⟨d',e,_,n,h⟩=>⟨d',e,aN h hd,n,s3 _ _ h⟩) p2;have d3:=af (H:=H2) (a:=d) (o:=.dK []);have S3:=s2.trans s3;show Ends.nx _ _ (upd H2 d (.dK []));generalize upd H2 d (.dK [])=H3 at S3 k3 l3 p3 d3;refine B4 ?_;refine⟨_,rfl,r,rfl,⟨_,aX.of (S3 _ _ hr)⟩,dD (K:=K) (xs:=zs) (fun j σ H'=>∃(v3 v4:Option V),σ=[some (.ref pp),some (.ref kn),some (.ref l),some (.ref r),some (.ref d),v3,v4]/\az H H'/\H' kn=some (.lst (ST.map V.str))/\H' l=some (.lst ys)/\Paired (TbK H (· ≠ d) H') ys (ts.take i)/\H' d=some (.dK (lN (t'.take j)))/\((t'.take j).map (·.1)).Nodup/\(∀ x∈t'.take j,x.1∈ST)/\j<=t'.length)
    ⟨v3,v4,rfl,S3,k3,l3,p3,d3,by simp,by simp,V' _⟩ ?_ ?_ ?_⟩
   ·rintro j σ H' _ ⟨v3,v4,rfl,s,_⟩;exact aX.of (s _ _ hr)
   ·rintro j y σ H4 hy ⟨v3,v4,rfl,s4,k4,l4,p4,d4,nd4,st4,jl⟩;obtain⟨⟨z,n⟩,hz,p,rfl,hpz⟩:=gL hzs hy;have jl2:j<t'.length:=(F'.mp hz).1;have g:ot H4 d (.str z) (rP (lN (t'.take j)) (Sum.inr z)):=ot.k (k:=Sum.inr z) d4;rw[uW]at g;refine⟨p,_,rfl,dh.of (s4 _ _ hpz),rfl,_,_,rfl,_,_,rfl,rfl,?_⟩;refine dP (!decide (z∈ST)||(gN (t'.take j) z).isSome) ?_ ?_
    ·refine⟨_,rfl,_,rfl,.inl ⟨kn,_,rfl,.inl (aX.of k4),rfl,rfl,_,rfl,?_⟩⟩;show(if(!inV (.str z) (ST.map V.str))=true then _ else _);rw[ac4];refine aM (fun h=>bx (by rw[h];rfl)) (fun h=>?_);have h':(!decide (z∈ST))=false:=P'.mpr h;refine⟨_,rfl,_,rfl,d,_,rfl,g,?_⟩;refine⟨_,rfl,bx ?_⟩;rw[h',Option.isSome_map];rfl
    ·refine aM (fun h=>?_) (fun h=>?_)
     ·tm_up;refine q2 (qv ht (ajH hz ?_)) H4 s4;rw[Bool.or_eq_true]at h;rcases h with h|h
      ·exact .inl (fun e=>by rw[W' e]at h;cases h)
      ·exact .inr (fun e=>by rw[e]at h;cases h)
     ·have h:=P'.mpr h;rw[Bool.or_eq_false_iff]at h;have hzS:z∈ST:=by
       by_cases e:z∈ST
       ·exact e
       ·rw[i' e]at h;cases h.1
      have hg:gN (t'.take j) z=none:=by
       cases e:gN (t'.take j) z with
       |none=>rfl
       |some _=>rw[e]at h;cases h.2
      tm_up;refine⟨d,_,rfl,Si.k (k:=Sum.inr z) d4 (aS (by rw[uX,length_take];omega)),?_⟩;rw[YA hg];have et:t'.take (j+1)=t'.take j++[(z,n)]:=by rw[take_succ,hz];rfl
      rw[<-et];obtain⟨nd5,Zt⟩:=agS hz nd4 st4 hzS hg;refine⟨_,_,rfl,cK s4 nd,by rw[ax (fun z=>by rw[z,d4]at k4;cases k4)];exact k4,by rw[ax (fun z=>by rw[z,d4]at l4;cases l4)];exact l4,bC (fun _ _ ⟨d',e,a,n,h⟩=>⟨d',e,a,n,by rw[ax a];exact h⟩) p4,af,nd5,Zt,jl2⟩
   ·rintro σ H4 ⟨v3,v4,rfl,s4,k4,l4,p4,d4,nd4,st4,jl⟩;rw[cO hzs,take_length]at d4 nd4 st4;tm_up;refine⟨.inl ⟨rfl,_,aX.of l4⟩,?_⟩;tm_up;refine⟨l,ys,_,rfl,rfl,l4,aS (by rw[cO p4,length_take];omega),?_⟩;refine⟨_,_,_,_,_,rfl,cK s4 nl,by rw[ax nlk];exact k4,af,?_,qu ht al (Zd nd4 st4),x8⟩;have et:ts.take (i+1)=ts.take i++[t']:=by rw[take_succ,ht];rfl
    rw[et];exact lE (bC (fun _ _ ⟨d',e,a,n,h⟩=>⟨d',e,trivial,n,by rw[ax (fun z=>by rw[z,l4]at h;cases h)];exact h⟩) p4) ⟨d,rfl,trivial,nd,by rw[ax (fun z=>by rw[z,l4]at d4;cases d4)];exact d4⟩
  ·rintro σ H' ⟨v1,v2,v3,v4,ys,rfl,s,k,l2,p2,al,_⟩;rw[cO hxs,take_length]at p2 al;tm_up;exact q1 al l ys H' s nl l2 p2
def OcK (H:Hp)(y:V)(m:Str×Int):Prop:=∃ p,y=.ref p/\H p=some (.tup [.str m.1,.int m.2])
def caB (u:Nb)(n:Int)(ms:List (Str×Int)):Bool:=ms.all fun m=>zX u m.1 (n+m.2)
def N2 (K:Frag):Sp:=fun vs H Q _=>∃(l d:Addr)(n:Int)(xs:List V)(ms:List (Str×Int)) (u:Nb),vs=[.int n,.ref l,.ref d]/\H l=some (.lst xs)/\Paired (OcK H) xs ms/\Rd H d (.dK (lN u))/\Q (.bl (caB u n ms)) H
theorem N3 (T:Txt K w mg t):bK P w K mg base ig (0+1) t.gy t.sY ["_law_number","_law_moves_here","_law_table"] (N2 K):=by
 refine T.iU.ok qw (fun vs H Q E h=>?_) (fun cdv A outer s H vs Q E hr h=>?_)
 ·obtain⟨_,_,_,_,_,_,rfl,_⟩:=h;rfl
 ·obtain⟨l,d,n,xs,ms,u,rfl,hl,hms,hd,q⟩:=h;refine aR (ag (bW PassesOwn.never rfl (cq (pv 1)) (cU rfl (aG (aC (i:=3) qw.nd rfl (Or.inl rfl)) (aG (aC (i:=4) qw.nd rfl (Or.inl rfl)) bQ))) (aj (aO (a8 (PW.pt (ij (RV (JI (oI hr) (pv 3) (pv 2))) (eB (ar Jw (ED (oI hr) (pv 2) (pv 3) (fun _ _=>rfl)) (aJ (a9.or (aF.or ba)) (pv 0) (pv 4)) (au _)))))) (aj (ay ez)) aB))) (aj (ay ez))) ?_;refine⟨_,rfl,l,rfl,⟨_,aX.of hl⟩,dD (K:=K) (xs:=xs) (fun k σ H'=>∃(v4 v5:Option V),σ=[some (.int n),some (.ref l),some (.ref d),v4,v5]/\H'=H/\((ms.take k).all fun m=>zX u m.1 (n+m.2))=true/\k<=ms.length)
   ⟨none,none,rfl,rfl,rfl,V' _⟩ ?_ ?_ ?_⟩
  ·rintro k σ H' _ ⟨v4,v5,rfl,rfl,_⟩;exact aX.of hl
  ·rintro k y σ H5 hy ⟨v4,v5,rfl,rfl,RU,kl⟩;obtain⟨mm,hm,p,rfl,hp⟩:=gL hms hy;have kl2:k<ms.length:=(F'.mp hm).1;have g:ot H5 d (.str mm.1) (rP (lN u) (Sum.inr mm.1)):=.inl ⟨_,Sum.inr mm.1,hd,rfl,rfl⟩;rw[uW]at g;refine⟨p,_,rfl,dh.of hp,rfl,_,_,rfl,_,_,rfl,rfl,?_⟩;refine dP (!zX u mm.1 (n+mm.2)) ?_ ?_
   ·refine⟨_,rfl,_,rfl,d,_,rfl,g,?_⟩;unfold zX;cases e:gN u mm.1 with
    |none=>exact⟨_,rfl,dj (bx rfl)⟩
    |some x =>
     rw[e]at g;refine⟨_,rfl,c9 ?_⟩;refine⟨_,rfl,_,rfl,d,_,rfl,g,?_⟩;tm_up;refine bx ?_;show decide (n+mm.2<x) = !decide (x<=n+mm.2);rw[Bool.eq_iff_iff];simp
   ·cases e:zX u mm.1 (n+mm.2) with
    |true=>exact c9 ⟨_,_,rfl,rfl,qu hm RU e,kl2⟩
    |false =>
     refine dj ?_;tm_up;have:caB u n ms=false:=qv (f:=fun m:Str×Int=>zX u m.1 (n+m.2)) hm e;rw[this]at q;exact q
  ·rintro σ H5 ⟨v4,v5,rfl,rfl,al,_⟩;rw[cO hms,take_length]at al;tm_up;rw[show caB u n ms=true from al]at q;exact q
def aau:Sp:=fun vs H Q _=>∃(z:Str)(k:Kd)(n:Int)(l c e:Nat),vs=[.str z,.str k.str,.int n]/\z.cps.toList=[51,l,c,e]/\z.length<=4/\Q (.str (shS z k.str n)) H
theorem aav (T:Txt K w mg t):bK P w K mg base ig (0+1) t.mF t.FF ["_law_state","_law_kind","_law_worth"] aau:=by
 refine T.tI.ok JZ (fun vs H Q E h=>?_) (fun cdv A outer s H vs Q E hr h=>?_)
 ·obtain⟨_,_,_,_,_,_,rfl,_⟩:=h;rfl
 ·obtain⟨z,k,n,l,c,e,rfl,hz,hl,q⟩:=h;have hl':z.length<=sizeLine:=ou (by omega);refine aR (ag (aK (i:=3) JZ.nd rfl (Or.inl rfl) (br (jF (bf (aL.or (aE (aw hr))) (pv 1) av (au _)) (iY (bf (aL.or (aE (aw hr))) (pv 2) ai (au _)))))) (ag (aO (ar (aL.or (aE (aw hr))) (aI aD (pv 0) ai (fun _ _=>rfl)) av (au _)) (aj (ay (br (bz (a8 (PW.pt (ij (ar (aL.or (aE (aw hr))) (aI aD (pv 0) ai (fun _ _=>rfl)) av (au _)) (eB (a8 (PW.pt (bu (ar (aL.or (aE (aw hr))) (aI aD (pv 0) ai (fun _ _=>rfl)) av (au _)) (bM (ar (bh.or bg) (pv 1) av rfl))))))))) av av)))) aB) (ag (aO (ar (aL.or (aE (aw hr))) (aI aD (pv 0) ai (fun _ _=>rfl)) av (au _)) (ag (aO (a8 (PW.pt (bu (ar (aL.or (aE (aw hr))) (aI aD (pv 0) ai (fun _ _=>rfl)) av (au _)) (bM (bB (pv 3)))))) (aj (ay av)) aB) (aj (ay (br (bz (ar (aL.or (aE (aw hr))) (aI aD (pv 0) ai (fun _ _=>rfl)) av (au _)) av av))))) aB) (ag (aO (a8 (PW.pt (ij (ar (bh.or bg) (pv 1) av rfl) (eB (ar (aL.or (aE (aw hr))) (aI aD (pv 0) ai (fun _ _=>rfl)) av (au _)))))) (aj (ay av)) aB) (ag (aO (ar (aL.or (aE (aw hr))) (aI aD (pv 0) ai (fun _ _=>rfl)) av (au _)) (aj (ay (br (bz (ar (aL.or (aE (aw hr))) (aI aD (pv 0) ai (fun _ _=>rfl)) av (au _)) av av)))) aB) (aj (ay (br (bz (a8 (PW.pt (bu (ar (aL.or (aE (aw hr))) (aI aD (pv 0) ai (fun _ _=>rfl)) av (au _)) (bM (bB (pv 3)))))) av av))))))))) ?_;have e3:z.cps.toList.getD 3 0=e:=by rw[hz];rfl
  have e2:z.cps.toList.getD 2 0=c:=by rw[hz];rfl
  have e1:z.cps.toList.getD 1 0=l:=by rw[hz];rfl
  unfold shS at q;rw[e1,e2,e3]at q;dsimp only at q;refine fG (.bl (decide (k.str = "G")&&decide (n=2))) ?_ ?_
  ·tm_up;rw[kE];cases decide (k.str = "G") with
   |false=>exact bA rfl
   |true =>
    refine dj ?_;tm_up;rw[intD];exact bA rfl
  tm_up;refine .inr (.inr ⟨_,_,c,rfl,rfl,hl',by rw[hz];rfl,?_⟩);tm_up;rw[b7 c 48 (by lk)];refine aM (fun h=>?_) (fun h=>?_)
  ·rw[R' h]at q;refine fG (.str (if(decide (l=104)||(decide (l=116)&&vd k.str "GDR"))=true then "" else "g")) ?_ q;refine dP (decide (l=104)||(decide (l=116)&&vd k.str "GDR")) ?_ ?_
   ·tm_up;refine .inr (.inr ⟨_,_,l,rfl,rfl,hl',by rw[hz];rfl,?_⟩);tm_up;rw[b7 l 104 (by lk)];cases decide (l=104) with
    |true=>exact bx rfl
    |false =>
     refine c9 ?_;refine dP (decide (l=116)&&vd k.str "GDR") ?_ (bx rfl);tm_up;refine .inr (.inr ⟨_,_,l,rfl,rfl,hl',by rw[hz];rfl,?_⟩);tm_up;rw[b7 l 116 (by lk)];cases decide (l=116) with
     |false=>exact bx rfl
     |true =>
      refine dj ?_;tm_up;exact bx rfl
   refine aM (fun h=>?_) (fun h=>?_)
   ·tm_up;exact bA (by rw[R' h] <;> rfl)
   ·tm_up;exact bA (by rw[L' h])
  rw[L' h]at q;tm_up;refine .inr (.inr ⟨_,_,c,rfl,rfl,hl',by rw[hz];rfl,?_⟩);tm_up;rw[b7 c 49 (by lk)];refine aM (fun h=>?_) (fun h=>?_)
  ·rw[R' h]at q;refine dP (decide (l=110)&&(decide (k.str = "G")&&decide (n=2))) ?_ ?_
   ·tm_up;refine .inr (.inr ⟨_,_,l,rfl,rfl,hl',by rw[hz];rfl,?_⟩);tm_up;rw[b7 l 110 (by lk)];cases decide (l=110) with
    |false=>exact bx rfl
    |true =>
     refine dj ?_;tm_up;exact bx rfl
   refine aM (fun h=>?_) (fun h=>?_)
   ·rw[R' h]at q;tm_up;exact q
   rw[L' h]at q;refine fG (.str (if decide (l=104)=true then "g" else "")) ?_ q;tm_up;refine .inr (.inr ⟨_,_,l,rfl,rfl,hl',by rw[hz];rfl,?_⟩);tm_up;rw[b7 l 104 (by lk)];refine aM (fun h=>?_) (fun h=>?_)
   ·tm_up;exact bA (by rw[R' h])
   ·tm_up;exact bA (by rw[L' h] <;> rfl)
  rw[L' h]at q;refine dP (vd k.str ".32" || decide (e=115)) ?_ ?_
  ·tm_up;refine aM (fun h=>?_) (fun h=>?_)
   ·have h:vd k.str ".32" = true:=h;exact bx (by rw[h];rfl)
   ·have h:¬ vd k.str ".32" = true:=h;tm_up;refine .inr (.inr ⟨_,_,e,rfl,rfl,hl',by rw[hz];rfl,?_⟩);tm_up;rw[b7 e 115 (by lk)];exact bx (by rw[P'.mpr h];rfl)
  refine aM (fun h=>?_) (fun h=>?_)
  ·rw[R' h]at q;tm_up;exact q
  rw[L' h]at q;tm_up;refine .inr (.inr ⟨_,_,e,rfl,rfl,hl',by rw[hz];rfl,?_⟩);tm_up;rw[b7 e 83 (by lk)];refine aM (fun h=>?_) (fun h=>?_)
  ·rw[R' h]at q;refine fG (.str (if decide (l=104)=true then "" else "g")) ?_ q;tm_up;refine .inr (.inr ⟨_,_,l,rfl,rfl,hl',by rw[hz];rfl,?_⟩);tm_up;rw[b7 l 104 (by lk)];refine aM (fun h=>?_) (fun h=>?_)
   ·tm_up;exact bA (by rw[R' h] <;> rfl)
   ·tm_up;exact bA (by rw[L' h])
  rw[L' h]at q;refine fG (.str (if(decide (l=104)&&(decide (k.str = "G")&&decide (n=2)))=true then "t" else "")) ?_ q;refine dP (decide (l=104)&&(decide (k.str = "G")&&decide (n=2))) ?_ ?_
  ·tm_up;refine .inr (.inr ⟨_,_,l,rfl,rfl,hl',by rw[hz];rfl,?_⟩);tm_up;rw[b7 l 104 (by lk)];cases decide (l=104) with
   |false=>exact bx rfl
   |true =>
    refine dj ?_;tm_up;exact bx rfl
  refine aM (fun h=>?_) (fun h=>?_)
  ·tm_up;exact bA (by rw[R' h])
  ·tm_up;exact bA (by rw[L' h] <;> rfl)
def Iq:Sp:=fun vs H Q _=>∃(z:Str)(k:Kd)(n:Int),vs=[.str z,.str k.str,.int n]/\Q (l2S z k.str n) H
theorem Ir (T:Txt K w mg t):bK P w K mg base ig (0+1) t.eO t.qG ["_law_state","_law_kind","_law_worth"] Iq:=by
 refine T.je.ok HV (fun vs H Q E h=>?_) (fun cdv A outer s H vs Q E hr h=>?_)
 ·obtain⟨_,_,_,rfl,_⟩:=h;rfl
 ·obtain⟨z,k,n,rfl,q⟩:=h;refine aR (ag (aO (a8 (PW.pt (ij (ar (aL.or (aE (aw hr))) (pv 0) av (au _)) (eB (ar (aL.or (aE (aw hr))) (pv 1) av (au _)))))) (aj (ay (br (bz (a8 (PW.pt (bu (ar (aL.or (aE (aw hr))) (pv 1) av (au _)) (bu (ar (aL.or (aE (aw hr))) (pv 2) ai (au _)) (bM (ar (l9.or (iw (aw hr))) (pv 0) av (au _))))))) av bI)))) aB) (ag (aO (ar (bh.or bg) (pv 1) av rfl) (aj (ay (br (bz (ar (l9.or (iw (aw hr))) (pv 2) ai (au _)) bI (br (bz (ar (aL.or (aE (aw hr))) (pv 1) av (au _)) av av)))))) aB) (ag (aO (ar (bh.or bg) (pv 1) av rfl) (aj (ay (br (bz (ar (aL.or (aE (aw hr))) (pv 2) ai (au _)) av bI)))) aB) (ag (aO (a8 (PW.pt (bu (ar (aL.or (aE (aw hr))) (pv 1) av (au _)) (bM (ar (aL.or (aE (aw hr))) (pv 2) ai (au _)))))) (aj (ay av)) aB) (ag (aO (ar (l9.or (iw (aw hr))) (pv 2) ai (au _)) (aj (ay bI)) aB) (aj (ay (br (bz (ar (aL.or (aE (aw hr))) (pv 1) av (au _)) av av))))))))) ?_;unfold l2S at q;refine dP (decide (z = "2G")||decide (k.str = ".")) ?_ ?_
  ·tm_up;rw[kE];cases decide (z = "2G") with
   |true=>exact bx rfl
   |false =>
    refine c9 ?_;tm_up;rw[kE];exact bx rfl
  refine aM (fun h=>?_) (fun h=>?_)
  ·rw[R' h]at q;refine fG (if(decide (k.str = ".")&&(decide (n=0) && !decide (z = "2g")))=true then .str "2-" else .non) ?_ q;refine dP (decide (k.str = ".")&&(decide (n=0) && !decide (z = "2g"))) ?_ ?_
   ·tm_up;rw[kE];cases decide (k.str = ".") with
    |false=>exact bx rfl
    |true =>
     refine dj ?_;tm_up;rw[intD];cases decide (n=0) with
     |false=>exact bx rfl
     |true =>
      refine dj ?_;tm_up;rw[kE];exact bx rfl
   refine aM (fun h=>?_) (fun h=>?_)
   ·tm_up;exact bA (by rw[R' h])
   ·tm_up;exact bA (by rw[L' h])
  rw[L' h]at q;tm_up;refine aM (fun h=>?_) (fun h=>?_)
  ·have h:vd k.str "32"=true:=h;rw[R' h]at q;refine fG (if(!decide (n=0))=true then .non else if decide (k.str = "3")=true then .str "3n0-" else .str "2-") ?_ q;tm_up;rw[intD];refine aM (fun h=>?_) (fun h=>?_)
   ·tm_up;exact bA (by rw[R' h])
   refine fG (if decide (k.str = "3")=true then .str "3n0-" else .str "2-") ?_ (bA (by rw[L' h]));tm_up;rw[kE];refine aM (fun h=>?_) (fun h=>?_)
   ·tm_up;exact bA (by rw[R' h])
   ·tm_up;exact bA (by rw[L' h])
  have h:¬ vd k.str "32"=true:=h;rw[L' h]at q;tm_up;refine aM (fun h=>?_) (fun h=>?_)
  ·have h:vd k.str "sdr"=true:=h;rw[R' h]at q;refine fG (if decide (n=1)=true then .str "2-" else .non) ?_ q;tm_up;rw[intD];refine aM (fun h=>?_) (fun h=>?_)
   ·tm_up;exact bA (by rw[R' h])
   ·tm_up;exact bA (by rw[L' h])
  have h:¬ vd k.str "sdr"=true:=h;rw[L' h]at q;tm_up;refine dP (decide (k.str = "G")&&decide (n=3)) ?_ ?_
  ·tm_up;rw[kE];cases decide (k.str = "G") with
   |false=>exact bx rfl
   |true =>
    refine dj ?_;tm_up;rw[intD];exact bx rfl
  refine aM (fun h=>?_) (fun h=>?_)
  ·rw[R' h]at q;tm_up;exact q
  rw[L' h]at q;tm_up;rw[intD];refine aM (fun h=>?_) (fun h=>?_)
  ·rw[R' h]at q;tm_up;exact q
  rw[L' h]at q;refine fG (if decide (k.str = "G")=true then .str "2g" else .str "2-") ?_ q;tm_up;rw[kE];refine aM (fun h=>?_) (fun h=>?_)
  ·tm_up;exact bA (by rw[R' h])
  ·tm_up;exact bA (by rw[L' h])
def N4:Sp:=fun vs H Q _=>∃(z:Str)(k:Kd)(n:Int),vs=[.str z,.str k.str,.int n]/\z∈ST/\Q (lbS z k.str n) H
theorem N5 (T:Txt K w mg t):bK P w K mg base ig (0+2) t.gz t.sZ ["_law_state","_law_kind","_law_worth"] N4:=by
 have aem:=aav (P:=P) (base:=base) T;have N6:=Ir (P:=P) (base:=base) T;refine T.kK.ok lI (fun vs H Q E h=>?_) (fun cdv A outer s H vs Q E hr h=>?_)
 ·obtain⟨_,_,_,rfl,_⟩:=h;rfl
 ·obtain⟨z,k,n,rfl,hS,q⟩:=h;have hl:=EH hS;have hl':z.length<=sizeLine:=ou (by omega);obtain⟨d0,r0,h0⟩:=acS hS;refine aR (ag (aO (ar (aL.or (aE (aw hr))) (aI aD (pv 0) ai (fun _ _=>rfl)) av (au _)) (aj (ay (aA N6 (hr.mono (by decide)) rfl T.Ia T.je.kp T.qL .nil aQ (aa (pv 0) (aa (pv 1) (aa (pv 2) ao)))))) aB) (ag (aO (a8 (PW.pt (bu (ar (bh.or bg) (pv 1) av rfl) (bM (ar (aL.or (aE (aw hr))) (aI aD (pv 0) ai (fun _ _=>rfl)) av (au _)))))) (aj (ay bI)) aB) (ag (aO (ar (bh.or bg) (pv 1) av rfl) (ag (aK (i:=3) lI.nd rfl (Or.inl rfl) (br (bz (ar (aL.or (aE (aw hr))) (aI aD (pv 0) ai (fun _ _=>rfl)) av (au _)) av (aI aD (pv 0) ai (fun _ _=>rfl))))) (ag (aK (i:=4) lI.nd rfl (Or.inl rfl) (aJ dv (aJ (a9.or (aF.or ba)) (di (lL.or fj) rfl T.wb vF (aa (aI aD (pv 0) ai (fun _ _=>rfl)) ao)) ai) ai)) (ag (aO (a8 (PW.pt (bu (ar (aL.or (aE (aw hr))) (pv 2) ai (au _)) (bu (ar (aL.or (aE (aw hr))) (pv 1) av (au _)) (bM (ar (aL.or (aE (aw hr))) (pv 4) ai (au _))))))) (aj (ay (aJ (a9.or (aF.or ba)) (aJ (a9.or (aF.or ba)) av (pv 3)) av))) aB) (aj (ay (br (bz (ar (aL.or (aE (aw hr))) (pv 2) ai (au _)) (aJ (a9.or (aF.or ba)) (aJ (a9.or (aF.or ba)) (aJ (a9.or (aF.or ba)) av (pv 3)) (di Kk rfl T.ad4 acq (aa (pv 4) ao))) (br (bz (ar (aL.or (aE (aw hr))) (pv 1) av (au _)) av av))) bI))))))) aB) (ag (aK (i:=5) lI.nd rfl (Or.inl rfl) (aA aem (hr.mono (by decide)) rfl T.aae T.tI.kp T.FP .nil aQ (aa (pv 0) (aa (pv 1) (aa (pv 2) ao))))) (ag (aO (ar (aL.or (aE (aw hr))) (pv 5) av (au _)) (aj (ay bI)) aB) (ag (aO (ar (bh.or bg) (pv 1) av rfl) (aj (ay (br (bz (ar (l9.or (iw (aw hr))) (pv 2) ai (au _)) bI (br (bz (ar (aL.or (aE (aw hr))) (pv 1) av (au _)) av av)))))) aB) (ag (aO (a8 (PW.pt (ij (ar (aL.or (aE (aw hr))) (pv 1) av (au _)) (eB (ar (aL.or (aE (aw hr))) (pv 1) av (au _)))))) (aj (ay (br (bz (ar (aL.or (aE (aw hr))) (pv 2) (aJ (a9.or (aF.or ba)) (di (lL.or fj) rfl T.wb vF (aa (bf (aL.or (aE (aw hr))) (pv 1) av (au _)) ao)) ai) (au _)) av bI)))) aB) (ag (aO (ar (aL.or (aE (aw hr))) (pv 5) av (au _)) (aj (ay av)) aB) (aj (ay (br (bz (ar (aL.or (aE (aw hr))) (pv 2) ai (au _)) av (br (bz (ar (aL.or (aE (aw hr))) (pv 2) ai (au _)) av bI)))))))))))))) ?_;unfold lbS at q;tm_up;refine .inr (.inr ⟨_,_,d0,rfl,rfl,hl',by rw[h0];exact xq (j:=0) rfl,?_⟩);tm_up;rw[b7 d0 50 (by lk)];have et:decide (d0=50)=vH z:=by unfold vH;rw[h0];by_cases h:d0=50 <;> simp[h]
  rw[et];refine aM (fun h=>?_) (fun h=>?_)
  ·rw[R' h]at q;tm_up;exact⟨z,k,n,rfl,q⟩
  rw[L' h]at q;obtain⟨l,c,e,hz⟩:=xG hS h;have hc:=ak5 hS hz;have e3:z.cps.toList.getD 3 0=e:=by rw[hz];rfl
  have e2:z.cps.toList.getD 2 0=c:=by rw[hz];rfl
  have e1:z.cps.toList.getD 1 0=l:=by rw[hz];rfl
  rw[e2,e3]at q;refine dP (vd k.str "sdr" && decide (e=83)) ?_ ?_
  ·tm_up;refine aM (fun h=>?_) (fun h=>?_)
   ·have h:vd k.str "sdr"=true:=h;tm_up;refine .inr (.inr ⟨_,_,e,rfl,rfl,hl',by rw[hz];rfl,?_⟩);tm_up;rw[b7 e 83 (by lk)];exact bx (by rw[h] <;> rfl)
   ·have h:¬ vd k.str "sdr"=true:=h;exact bx (by rw[P'.mpr h] <;> rfl)
  refine aM (fun h=>?_) (fun h=>?_)
  ·rw[R' h]at q;tm_up;exact q
  rw[L' h]at q;tm_up;refine aM (fun h=>?_) (fun h=>?_)
  ·have h:vd k.str "sdr"=true:=h;rw[R' h]at q;refine fG (.str (lfZ z)) ?_ ?_
   ·tm_up;refine .inr (.inr ⟨_,_,l,rfl,rfl,hl',by rw[hz];rfl,?_⟩);tm_up;rw[b7 l 116 (by lk)];unfold lfZ chr;rw[e1];refine aM (fun h=>?_) (fun h=>?_)
    ·tm_up;exact bA (by rw[R' h])
    ·tm_up;refine .inr (.inr ⟨_,_,l,rfl,rfl,hl',by rw[hz];rfl,?_⟩);exact bA (by rw[L' h])
   tm_up;obtain⟨m,hm,hm2,hm3,hm4⟩:∃ m:Int,intText? ⟨#[c]⟩=some m/\decide ((m+1) % 3=2)=decide (nxC c = "2")/\(toString ((m+1) % 3):Str)=nxC c/\((m+1) % 3).natAbs.log2<1920:=by
    rcases hc with rfl|rfl|rfl
    ·exact⟨0,by lk,by lk,by lk,by lk⟩
    ·exact⟨1,by lk,by lk,by lk,by lk⟩
    ·exact⟨2,by lk,by lk,by lk,by lk⟩
   refine .inr (.inr ⟨_,_,c,rfl,rfl,hl',by rw[hz];rfl,?_⟩);refine .inr ⟨_,m,rfl,hm,by show 1<=640;decide,?_⟩;tm_up;generalize (m+1) % 3=cv at hm2 hm3 hm4;refine dP (decide (n=2)&&(decide (k.str = "s")&&decide (nxC c = "2"))) ?_ ?_
   ·tm_up;rw[intD];cases decide (n=2) with
    |false=>exact bx rfl
    |true =>
     refine dj ?_;tm_up;rw[kE];cases decide (k.str = "s") with
     |false=>exact bx rfl
     |true =>
      refine dj ?_;tm_up;rw[intD,hm2];exact bx rfl
   have ll:=Yv z;have l3:("3":Str).length=1:=JR _ (.inr (.inr (.inr (.inl rfl))));refine aM (fun h=>?_) (fun h=>?_)
   ·rw[R' h]at q;tm_up;have l2:("2S":Str).length=2:=by lk
    refine .inr (.inl ⟨_,_,rfl,rfl,ou (by omega),.inr (.inl ⟨_,_,rfl,rfl,ou (by rw[sM];omega),q⟩)⟩)
   rw[L' h]at q;refine fG (if decide (n=1)=true then .str ("3" ++ lfZ z++nxC c++(if decide (k.str = "s")=true then "s" else "o")) else .non) ?_ q;tm_up;rw[intD];refine aM (fun h=>?_) (fun h=>?_)
   ·tm_up;refine .inr (.inl ⟨_,_,rfl,rfl,ou (by omega),?_⟩);tm_up;refine⟨hm4,?_⟩;have cl:=Yu c;rw[hm3];refine .inr (.inl ⟨_,_,rfl,rfl,ou (by rw[sM];omega),?_⟩);have hs:(if decide (k.str = "s")=true then("s":Str) else "o").length=1:=by split <;> decide +kernel
    refine fG (.str (if decide (k.str = "s")=true then "s" else "o")) ?_ ?_
    ·tm_up;rw[kE];refine aM (fun h=>?_) (fun h=>?_)
     ·tm_up;exact bA (by rw[R' h])
     ·tm_up;exact bA (by rw[L' h])
    refine .inr (.inl ⟨_,_,rfl,rfl,ou (by rw[sM,sM];omega),?_⟩);exact bA (by rw[R' h];cases decide (k.str = "s") <;> rfl)
   ·tm_up;exact bA (by rw[L' h])
  have h:¬ vd k.str "sdr"=true:=h;rw[L' h]at q;tm_up;refine⟨z,k,n,l,c,e,rfl,hz,hl,?_⟩;tm_up;rw[kE];refine aM (fun h=>?_) (fun h=>?_)
  ·rw[R' h]at q;tm_up;exact q
  rw[L' h]at q;tm_up;refine aM (fun h=>?_) (fun h=>?_)
  ·have h:vd k.str ".32" = true:=h;rw[R' h]at q;refine fG (if(!decide (n=0))=true then .non else if decide (k.str = "2")=true then .str "2-" else .str "3n0-") ?_ q;tm_up;rw[intD];refine aM (fun h=>?_) (fun h=>?_)
   ·tm_up;exact bA (by rw[R' h])
   refine fG (if decide (k.str = "2")=true then .str "2-" else .str "3n0-") ?_ (bA (by rw[L' h]));tm_up;rw[kE];refine aM (fun h=>?_) (fun h=>?_)
   ·tm_up;exact bA (by rw[R' h])
   ·tm_up;exact bA (by rw[L' h])
  have h:¬ vd k.str ".32" = true:=h;rw[L' h]at q;refine dP (decide (k.str = "D")||decide (k.str = "R")) ?_ ?_
  ·tm_up;rw[kE];cases decide (k.str = "D") with
   |true=>exact bx rfl
   |false =>
    refine c9 ?_;tm_up;rw[kE];exact bx rfl
  refine aM (fun h=>?_) (fun h=>?_)
  ·rw[R' h]at q;refine fG (if decide (n=(if decide (k.str = "R")=true then 1 else 0)+2)=true then .str "3n0-" else .non) ?_ q;tm_up;refine .inl (.inr ⟨_,rfl,?_⟩);tm_up;rw[kE,intD];refine aM (fun h=>?_) (fun h=>?_)
   ·tm_up;exact bA (by rw[R' h])
   ·tm_up;exact bA (by rw[L' h])
  rw[L' h]at q;tm_up;rw[kE];refine aM (fun h=>?_) (fun h=>?_)
  ·rw[R' h]at q;tm_up;exact q
  rw[L' h]at q;refine fG (if decide (n=3)=true then .str "3w0-" else if decide (n=2)=true then .str "3h0-" else .non) ?_ q;tm_up;rw[intD];refine aM (fun h=>?_) (fun h=>?_)
  ·tm_up;exact bA (by rw[R' h])
  refine fG (if decide (n=2)=true then .str "3h0-" else .non) ?_ (bA (by rw[L' h]));tm_up;rw[intD];refine aM (fun h=>?_) (fun h=>?_)
  ·tm_up;exact bA (by rw[R' h])
  ·tm_up;exact bA (by rw[L' h])
def lwK:Option (Int×Int)->List Kd
 |none=>[.dot,.three,.two]
 |some q=>if q.1<0 then [.R,.r] else [.G,.s,.D,.d]
def lwN:Option (Int×Int)->Int
 |none=>0
 |some q=>q.2
def vf (c:dN)(z:Str)(n:Int)(k:Kd):Option (Str×Int):=match costOf c k,stQ z k n with
 |some x,some y=>some (y,x)
 |_,_=>none
def lmL (c:dN)(z:Str)(w:Option (Int×Int)):List (Str×Int):=(lwK w).filterMap (vf c z (lwN w))
def QR (c:dN)(n:Int)(H:Hp)(y:V)(k:Kd):Prop:=∃ p,y=.ref p/\H p=some (.tup [.str k.str,.int n,fo (costOf c k)])
theorem QR.same {c:dN}{n:Int}{H H':Hp}(s:az H H'){y:V}{k:Kd}(h:QR c n H y k):QR c n H' y k:=by
 obtain⟨p,e,h⟩:=h;exact⟨p,e,s _ _ h⟩
def WhV (H:Hp)(v:V)(w:Option (Int×Int)):Prop:=match w with
 |none=>v=.non
 |some q=>∃ p,v=.ref p/\H p=some (.tup [.int q.1,.int q.2])/\0<=q.2/\q.2<=9
def Wj (K:Frag):Sp:=fun vs H Q _=>∃(z:Str)(v:V)(pz:Addr)(w:Option (Int×Int)) (c:dN),vs=[.str z,v,.ref pz]/\z∈ST/\WhV H v w/\H pz=some (.tup [fo c.1,fo c.2.1,fo c.2.2]) /\
 ∀(l:Addr)(xs:List V)(H':Hp),az H H'->H l=none->H' l=some (.lst xs)->Paired (OcK H') xs (lmL c z w)->Q (.ref l) H'
theorem Wk (T:Txt K w mg t):bK P w K mg base ig (0+3) t.jX t.Ab ["_law_state","_law_wish","_law_prices_here"] (Wj K):=by
 have QS:=N5 (P:=P) (base:=base) T;refine T.l5.ok eI (fun vs H Q E h=>?_) (fun cdv A outer s H vs Q E hr h=>?_)
 ·obtain⟨_,_,_,_,_,rfl,_⟩:=h;rfl
 ·obtain⟨z,v,pz,w',c,rfl,hz,hw,hpz,q⟩:=h;refine aR (ag (aK (i:=3) eI.nd rfl (Or.inl rfl) (c8 ao)) (ag (aK (i:=4) eI.nd rfl (Or.inl rfl) (c8 (aa (bY (aa av (aa ai (aa (aI aD (pv 2) ai (fun _ _=>rfl)) ao)))) (aa (bY (aa av (aa ai (aa (aI aD (pv 2) ai (fun _ _=>rfl)) ao)))) (aa (bY (aa av (aa ai (aa (aI aD (pv 2) ai (fun _ _=>rfl)) ao)))) ao))))) (ag (sA (aO (a8 (PW.pt (bu (ar uS (pv 1) bI (au _)) (bM (ar rB (aI aD (pv 1) ai (fun _ _=>rfl)) ai (au _)))))) (aj (aK (i:=4) eI.nd rfl (Or.inl rfl) (c8 (aa (bY (aa av (aa (aI aD (pv 1) ai (fun _ _=>rfl)) (aa ai ao)))) (aa (bY (aa av (aa (aI aD (pv 1) ai (fun _ _=>rfl)) (aa ai ao)))) ao))))) aB)) (ag (sA (aO (a8 (PW.pt (bu (ar uS (pv 1) bI (au _)) (bM (ar ahp (aI aD (pv 1) ai (fun _ _=>rfl)) ai (au _)))))) (aj (aK (i:=4) eI.nd rfl (Or.inl rfl) (c8 (aa (bY (aa av (aa (aI aD (pv 1) ai (fun _ _=>rfl)) (aa ai ao)))) (aa (bY (aa av (aa (aI aD (pv 1) ai (fun _ _=>rfl)) (aa ai ao)))) (aa (bY (aa av (aa (aI aD (pv 1) ai (fun _ _=>rfl)) (aa (aI aD (pv 2) ai (fun _ _=>rfl)) ao)))) (aa (bY (aa av (aa (aI aD (pv 1) ai (fun _ _=>rfl)) (aa (aI aD (pv 2) ai (fun _ _=>rfl)) ao)))) ao))))))) aB)) (ag (bW PassesOwn.never rfl (cq (pv 4)) (cU rfl (aG (aC (i:=5) eI.nd rfl (Or.inl rfl)) (aG (aC (i:=6) eI.nd rfl (Or.inl rfl)) (aG (aC (i:=7) eI.nd rfl (Or.inl rfl)) bQ)))) (ag (aK (i:=8) eI.nd rfl (Or.inl rfl) (aA QS (hr.mono (by decide)) rfl T.NH T.kK.kp T.tK .nil aQ (aa (pv 0) (aa (pv 5) (aa (pv 6) ao))))) (aj (aO (a8 (PW.pt (bu (ar uS (pv 7) bI (au _)) (bM (ar uS (pv 8) bI (au _)))))) (aj (bX (ik plainAttrs_list slot_list_append type_list_append bj (pv 3) (aa (bY (aa (pv 8) (aa (pv 7) ao))) ao)))) aB)))) (aj (ay (pv 3)))))))) ?_;refine⟨big (by show 0<=1000;omega),fun f hf=>?_⟩;have s0:=az.upd (o:=.lst []) hf;have aml:=s0 _ _ hpz;have hf0:=af (H:=H) (a:=f) (o:=.lst []);show Ends.nx _ _ (upd H f (.lst []));generalize upd H f (.lst [])=H0 at s0 aml hf0;refine B4 ?_;refine hZ fun N hN=>?_
  suffices hN':∀(mn:Addr)(ys:List V)(H':Hp),az H H'->H' f=some (.lst [])->H' mn=some (.lst ys)->mn≠f->Paired (QR c 0 H') ys [.dot,.three,.two]->N [some (.str z),some v,some (.ref pz),some (.ref f),some (.ref mn),none,none,none,none] H' by
   tm_up;refine .inr (.inl ⟨pz,_,0,_,rfl,rfl,dh.of aml,rfl,?_⟩);tm_up;refine⟨by show 3<=sizeLine;decide,fun a1 g1=>?_⟩;have s1:=az.upd (o:=.tup [.str (Str.ofString "."),.int 0,fo c.1]) g1;have m1:QR c 0 (upd H0 a1 (.tup [.str (Str.ofString "."),.int 0,fo c.1])) (.ref a1) .dot:=⟨a1,rfl,af⟩;show BW _ _ _ (upd H0 a1 (.tup [.str (Str.ofString "."),.int 0,fo c.1])) _;generalize upd H0 a1 (.tup [.str (Str.ofString "."),.int 0,fo c.1])=H1 at s1 m1;have S1:=s0.trans s1;have api:=S1 _ _ hpz;tm_up;refine .inr (.inl ⟨pz,_,2,_,rfl,rfl,dh.of api,rfl,?_⟩);tm_up;refine⟨by show 3<=sizeLine;decide,fun a2 g2=>?_⟩;have s2:=az.upd (o:=.tup [.str (Str.ofString "3"),.int 0,fo c.2.2]) g2;have m2:QR c 0 (upd H1 a2 (.tup [.str (Str.ofString "3"),.int 0,fo c.2.2])) (.ref a2) .three:=⟨a2,rfl,af⟩;show BW _ _ _ (upd H1 a2 (.tup [.str (Str.ofString "3"),.int 0,fo c.2.2])) _;generalize upd H1 a2 (.tup [.str (Str.ofString "3"),.int 0,fo c.2.2])=H2 at s2 m2;have S2:=S1.trans s2;have apj:=S2 _ _ hpz;tm_up;refine .inr (.inl ⟨pz,_,2,_,rfl,rfl,dh.of apj,rfl,?_⟩);tm_up;refine⟨by show 3<=sizeLine;decide,fun a3 g3=>?_⟩;have s3:=az.upd (o:=.tup [.str (Str.ofString "2"),.int 0,fo c.2.2]) g3;have m3:QR c 0 (upd H2 a3 (.tup [.str (Str.ofString "2"),.int 0,fo c.2.2])) (.ref a3) .two:=⟨a3,rfl,af⟩;tm_up;refine⟨by show 3<=sizeLine;decide,fun mn gm=>?_⟩;have sm:=az.upd (o:=.lst [.ref a1,.ref a2,.ref a3]) gm;have SM:=S2.trans (s3.trans sm);have fm:=sm _ _ (s3 _ _ (s2 _ _ (s1 _ _ hf0)));exact hN' mn _ _ SM fm af (fun e=>by rw[e,s3 _ _ (s2 _ _ (s1 _ _ hf0))]at gm;cases gm) (.cons (m1.same (s2.trans (s3.trans sm))) (.cons (m2.same (s3.trans sm)) (.cons (m3.same sm) .nil)))
  intro mn ys H1 s1 f1 h1 nmf p1;refine hN _ _ ?_;clear hN N;refine⟨fun σ H'=>∃(mn:Addr)(ys:List V),σ=[some (.str z),some v,some (.ref pz),some (.ref f),some (.ref mn),none,none,none,none]/\az H H'/\H' f=some (.lst [])/\H' mn=some (.lst ys)/\mn≠f/\((∀ q,w'=some q->q.1<0)->Paired (QR c (lwN w') H') ys (lwK w')),?_,?_⟩
  ·cases w' with
   |none =>
    have hv:v=.non:=hw;subst hv;refine dP false ?_ (c9 ⟨mn,ys,rfl,s1,f1,h1,nmf,fun _=>p1⟩);tm_up;exact⟨rfl,_,rfl,c9 (bx rfl)⟩
   |some qq =>
    obtain⟨p,rfl,hp,h0,h9⟩:=hw;have hp1:=s1 _ _ hp;refine dP (decide (qq.1<0)) ?_ ?_
    ·tm_up;refine⟨rfl,_,rfl,dj ?_⟩;tm_up;exact⟨rfl,rfl⟩
    ·refine aM (fun h=>?_) (fun h=>⟨mn,ys,rfl,s1,f1,h1,nmf,fun k=>absurd (k qq rfl) (fun z=>h (W' z))⟩);have h:qq.1<0:=M' h;have hz1:=s1 _ _ hpz;tm_up;tm_up;refine⟨by show 3<=sizeLine;decide,fun a1 g1=>?_⟩;have e1:=az.upd (o:=.tup [.str (Str.ofString "R"),.int qq.2,.int 0]) g1;have m1:QR c qq.2 (upd H1 a1 (.tup [.str (Str.ofString "R"),.int qq.2,.int 0])) (.ref a1) .R:=⟨a1,rfl,af⟩;show BW _ _ _ (upd H1 a1 (.tup [.str (Str.ofString "R"),.int qq.2,.int 0])) _;generalize upd H1 a1 (.tup [.str (Str.ofString "R"),.int qq.2,.int 0])=G1 at e1 m1;have hp2:=e1 _ _ hp1;have hz2:=e1 _ _ hz1;tm_up;tm_up;refine⟨by show 3<=sizeLine;decide,fun a2 g2=>?_⟩;have e2:=az.upd (o:=.tup [.str (Str.ofString "r"),.int qq.2,.int 0]) g2;have m2:QR c qq.2 (upd G1 a2 (.tup [.str (Str.ofString "r"),.int qq.2,.int 0])) (.ref a2) .r:=⟨a2,rfl,af⟩;show ab7 _ (upd G1 a2 (.tup [.str (Str.ofString "r"),.int qq.2,.int 0])) _;generalize upd G1 a2 (.tup [.str (Str.ofString "r"),.int qq.2,.int 0])=G2 at e2 m2;have hp3:=e2 _ _ hp2;have hz3:=e2 _ _ hz2;tm_up;refine⟨by show 2<=sizeLine;decide,fun mm gm=>?_⟩;have em:=az.upd (o:=.lst [.ref a1,.ref a2]) gm;have ff:=((e1.trans e2).trans em) _ _ f1;refine⟨mm,_,rfl,s1.trans ((e1.trans e2).trans em),ff,af,(fun e=>by rw[e,(e1.trans e2) _ _ f1]at gm;cases gm),fun _=>?_⟩;show Paired (QR c qq.2 _) _ (if qq.1<0 then _ else _);rw[R' h];exact(.cons (m1.same (e2.trans em)) (.cons (m2.same em) .nil))
  rintro σ H2 ⟨mn,ys,rfl,s1,f1,h1,nmf,p1⟩;refine B4 ?_;refine⟨fun σ H'=>∃(mn:Addr)(ys:List V),σ=[some (.str z),some v,some (.ref pz),some (.ref f),some (.ref mn),none,none,none,none]/\az H H'/\H' f=some (.lst [])/\H' mn=some (.lst ys)/\mn≠f/\Paired (QR c (lwN w') H') ys (lwK w'),?_,?_⟩
  ·cases w' with
   |none =>
    have hv:v=.non:=hw;subst hv;refine dP false ?_ (c9 ⟨mn,ys,rfl,s1,f1,h1,nmf,p1 (fun _ e=>nomatch e)⟩);tm_up;exact⟨rfl,_,rfl,c9 (bx rfl)⟩
   |some qq =>
    obtain⟨p,rfl,hp,h0,h9⟩:=hw;have hp1:=s1 _ _ hp;refine dP (decide (0<=qq.1)) ?_ ?_
    ·tm_up;refine⟨rfl,_,rfl,dj ?_⟩;tm_up;exact⟨rfl,rfl⟩
    ·refine aM (fun h=>?_) (fun h=>⟨mn,ys,rfl,s1,f1,h1,nmf,p1 fun k e=>by cases e;have:¬ 0<=qq.1:=fun z=>h (W' z);omega⟩);have h:¬ qq.1<0:=by have:=M' h;omega
     clear h1 nmf p1;generalize H2=H1 at s1 f1 hp1;have hz1:=s1 _ _ hpz;tm_up;tm_up;refine⟨by show 3<=sizeLine;decide,fun a1 g1=>?_⟩;have e1:=az.upd (o:=.tup [.str (Str.ofString "G"),.int qq.2,.int 0]) g1;have m1:QR c qq.2 (upd H1 a1 (.tup [.str (Str.ofString "G"),.int qq.2,.int 0])) (.ref a1) .G:=⟨a1,rfl,af⟩;show BW _ _ _ (upd H1 a1 (.tup [.str (Str.ofString "G"),.int qq.2,.int 0])) _;generalize upd H1 a1 (.tup [.str (Str.ofString "G"),.int qq.2,.int 0])=G1 at e1 m1;have hp2:=e1 _ _ hp1;have hz2:=e1 _ _ hz1;tm_up;tm_up;refine⟨by show 3<=sizeLine;decide,fun a2 g2=>?_⟩;have e2:=az.upd (o:=.tup [.str (Str.ofString "s"),.int qq.2,.int 0]) g2;have m2:QR c qq.2 (upd G1 a2 (.tup [.str (Str.ofString "s"),.int qq.2,.int 0])) (.ref a2) .s:=⟨a2,rfl,af⟩;show BW _ _ _ (upd G1 a2 (.tup [.str (Str.ofString "s"),.int qq.2,.int 0])) _;generalize upd G1 a2 (.tup [.str (Str.ofString "s"),.int qq.2,.int 0])=G2 at e2 m2;have hp3:=e2 _ _ hp2;have hz3:=e2 _ _ hz2;tm_up;tm_up;refine .inr (.inl ⟨pz,_,1,_,rfl,rfl,dh.of hz3,rfl,?_⟩);tm_up;refine⟨by show 3<=sizeLine;decide,fun a3 g3=>?_⟩;have e3:=az.upd (o:=.tup [.str (Str.ofString "D"),.int qq.2,fo c.2.1]) g3;have m3:QR c qq.2 (upd G2 a3 (.tup [.str (Str.ofString "D"),.int qq.2,fo c.2.1])) (.ref a3) .D:=⟨a3,rfl,af⟩;show BW _ _ _ (upd G2 a3 (.tup [.str (Str.ofString "D"),.int qq.2,fo c.2.1])) _;generalize upd G2 a3 (.tup [.str (Str.ofString "D"),.int qq.2,fo c.2.1])=G3 at e3 m3;have hp4:=e3 _ _ hp3;have hz4:=e3 _ _ hz3;tm_up;tm_up;refine .inr (.inl ⟨pz,_,1,_,rfl,rfl,dh.of hz4,rfl,?_⟩);tm_up;refine⟨by show 3<=sizeLine;decide,fun a4 g4=>?_⟩;have e4:=az.upd (o:=.tup [.str (Str.ofString "d"),.int qq.2,fo c.2.1]) g4;have m4:QR c qq.2 (upd G3 a4 (.tup [.str (Str.ofString "d"),.int qq.2,fo c.2.1])) (.ref a4) .d:=⟨a4,rfl,af⟩;show ab7 _ (upd G3 a4 (.tup [.str (Str.ofString "d"),.int qq.2,fo c.2.1])) _;generalize upd G3 a4 (.tup [.str (Str.ofString "d"),.int qq.2,fo c.2.1])=G4 at e4 m4;have hp5:=e4 _ _ hp4;have hz5:=e4 _ _ hz4;tm_up;refine⟨by show 4<=sizeLine;decide,fun mm gm=>?_⟩;have em:=az.upd (o:=.lst [.ref a1,.ref a2,.ref a3,.ref a4]) gm;have ff:=((((e1.trans e2).trans e3).trans e4).trans em) _ _ f1;refine⟨mm,_,rfl,s1.trans ((((e1.trans e2).trans e3).trans e4).trans em),ff,af,(fun e=>by rw[e,(((e1.trans e2).trans e3).trans e4) _ _ f1]at gm;cases gm),?_⟩;show Paired (QR c qq.2 _) _ (if qq.1<0 then _ else _);rw[L' h];exact(.cons (m1.same (((e2.trans e3).trans e4).trans em)) (.cons (m2.same ((e3.trans e4).trans em)) (.cons (m3.same (e4.trans em)) (.cons (m4.same em) .nil))))
  rintro σ H3 ⟨mn,ys,rfl,s1,f1,h1,nmf,p1⟩;refine B4 ?_;have hn:0<=lwN w'/\lwN w'<=9:=by
   cases w' with
   |none=>exact⟨by decide,by decide⟩
   |some qq=>obtain⟨p,_,_,h0,h9⟩:=hw;exact⟨h0,h9⟩
  have kl:(lwK w').length<=4:=by
   cases w' with
   |none=>decide
   |some qq=>unfold lwK;dsimp only;split <;> decide
  have q:∀(xs:List V)(H':Hp),az H H'->H' f=some (.lst xs)->Paired (OcK H') xs ((lwK w').filterMap (vf c z (lwN w')))->Q (.ref f) H':=fun xs H' s=>q f xs H' s hf;clear hw;generalize lwN w'=n at hn q p1;generalize lwK w'=ks at kl q p1;refine⟨_,rfl,mn,rfl,⟨_,aX.of h1⟩,dD (K:=K) (xs:=ys) (fun i σ H'=>∃(v1 v2 v3 v4:Option V)(xs:List V),σ=[some (.str z),some v,some (.ref pz),some (.ref f),some (.ref mn),v1,v2,v3,v4]/\az H H'/\(∀ b o,b≠f->H3 b=some o->H' b=some o)/\H' f=some (.lst xs)/\Paired (OcK H') xs ((ks.take i).filterMap (vf c z n))/\i<=ks.length)
   ⟨none,none,none,none,[],rfl,s1,fun _ _ _ e=>e,f1,.nil,V' _⟩ ?_ ?_ ?_⟩
  ·rintro i σ H' _ ⟨v1,v2,v3,v4,xs,rfl,_,fr,_⟩;exact aX.of (fr _ _ nmf h1)
  ·rintro i x σ H' hx ⟨v1,v2,v3,v4,xs,rfl,s4,fr,f4,p4,il⟩;obtain⟨k,hk,p,rfl,hp⟩:=gL p1 hx;have x8:i<ks.length:=(F'.mp hk).1;have hp4:=fr _ _ (fun e=>by rw[e,f1]at hp;cases hp) hp;have xl:xs.length<=4:=by
    rw[cO p4];exact Nat.le_trans (List.length_filterMap_le ..) (by rw[length_take];omega)
   have ht:(ks.take (i+1)).filterMap (vf c z n)=(ks.take i).filterMap (vf c z n)++(match vf c z n k with|some m=>[m]|none=>[]):=by
    rw[take_succ,hk,List.filterMap_append]
    congr 1
    show List.filterMap (vf c z n) [k]=_;rw[List.filterMap_cons];cases vf c z n k <;> rfl
   unfold vf at ht;have e22:=ajo hz k hn.1 hn.2;refine⟨p,_,rfl,dh.of hp4,rfl,_,_,rfl,_,_,rfl,_,_,rfl,rfl,?_⟩;tm_up;refine⟨z,k,n,rfl,hz,?_⟩;rw[<-e22];rcases acU hz k hn.1 hn.2 with ⟨e1,e2⟩|⟨y,hy,e1,e2⟩
   ·rw[e2]at ht;have ht:(ks.take (i+1)).filterMap (vf c z n)=(ks.take i).filterMap (vf c z n):=by
     refine ht.trans ?_;cases costOf c k <;> exact append_nil _
    rw[e1];refine⟨fun b H3=>H3=H'/\b=false,?_,?_⟩
    ·cases costOf c k with
     |none =>
      tm_up;exact⟨rfl,_,rfl,c9 ⟨rfl,rfl⟩⟩
     |some m =>
      tm_up;refine⟨rfl,_,rfl,dj ?_⟩;tm_up;exact⟨rfl,_,rfl,rfl,rfl⟩
    ·rintro _ _ ⟨rfl,rfl⟩;exact c9 ⟨_,_,_,_,xs,rfl,s4,fr,f4,by rw[ht];exact p4,x8⟩
   ·rw[e2]at ht;rw[e1];cases ec:costOf c k with
    |none =>
     rw[ec]at ht;have ht:(ks.take (i+1)).filterMap (vf c z n)=(ks.take i).filterMap (vf c z n):=ht.trans (append_nil _);refine⟨fun b H3=>H3=H'/\b=false,?_,?_⟩
     ·tm_up;exact⟨rfl,_,rfl,c9 ⟨rfl,rfl⟩⟩
     ·rintro _ _ ⟨rfl,rfl⟩;exact c9 ⟨_,_,_,_,xs,rfl,s4,fr,f4,by rw[ht];exact p4,x8⟩
    |some m =>
     rw[ec]at ht;refine⟨fun b H3=>H3=H'/\b=true,?_,?_⟩
     ·tm_up;refine⟨rfl,_,rfl,dj ?_⟩;tm_up;exact⟨rfl,_,rfl,rfl,rfl⟩
     ·rintro _ _ ⟨rfl,rfl⟩;refine dj ?_;tm_up;refine⟨.inl ⟨rfl,_,aX.of f4⟩,?_⟩;tm_up;refine⟨by show 2<=sizeLine;decide,fun tp htp=>?_⟩;have sT:=az.upd (o:=.tup [.str y,.int m]) htp;have fT:=sT _ _ f4;refine⟨f,xs,_,rfl,rfl,fT,aS (by omega),?_⟩;refine⟨_,_,_,_,_,rfl,cK (s4.trans sT) hf,fun b o hb e=>by rw[ax hb];exact sT _ _ (fr b o hb e),af,?_,x8⟩;have ht:(ks.take (i+1)).filterMap (vf c z n)=(ks.take i).filterMap (vf c z n)++[(y,m)]:=ht;rw[ht];exact lE (bC (fun _ _ ⟨p,e,h⟩=>⟨p,e,by rw[ax (fun z=>by rw[z,f4]at h;cases h)];exact sT _ _ h⟩) p4) ⟨tp,rfl,by rw[ax (fun z=>by rw[z,f4]at htp;cases htp)];exact af⟩
  ·rintro σ H' ⟨v1,v2,v3,v4,xs,rfl,s4,fr,f4,p4,_⟩;rw[cO p1,take_length]at p4;tm_up;exact q xs H' s4 f4 p4
def aaw:Sp:=fun vs H Q _=>∃(z:Str),vs=[.str z]/\z∈ST/\Q (.bl (iI z)) H
theorem aax (T:Txt K w mg t):bK P w K mg base ig (0+1) t.mG t.FG ["_law_state"] aaw:=by
 refine T.tL.ok aaa (fun vs H Q E h=>?_) (fun cdv A outer s H vs Q E hr h=>?_)
 ·obtain⟨_,rfl,_⟩:=h;rfl
 ·obtain⟨z,rfl,hz,q⟩:=h;have hl':z.length<=sizeLine:=ou (by have:=EH hz;omega);obtain⟨c0,t0,e0⟩:=acS hz;refine aR (ag (aO (ar (aL.or (aE (aw hr))) (aI aD (pv 0) ai (fun _ _=>rfl)) av (au _)) (aj (ay (bf (l9.or (iw (aw hr))) (pv 0) av (au _)))) aB) (aj (ay (br (X6 (br (jF (bf (aL.or (aE (aw hr))) (aI aD (pv 0) ai (fun _ _=>rfl)) av (au _)) (iY (bf (l9.or (iw (aw hr))) (aI aD (pv 0) ai (fun _ _=>rfl)) av (au _))))) (iY (br (jF (bf (aL.or (aE (aw hr))) (aI aD (pv 0) ai (fun _ _=>rfl)) av (au _)) (iY (bf (aL.or (aE (aw hr))) (aI aD (pv 0) ai (fun _ _=>rfl)) av (au _))))))))))) ?_;refine⟨_,rfl,.inr (.inr ⟨_,_,c0,rfl,rfl,hl',by rw[e0];exact xq (j:=0) rfl,?_⟩)⟩;tm_up;rw[b7 c0 50 (by lk),show decide (c0=50)=vH z by unfold vH;rw[e0];by_cases h:c0=50 <;> simp[h]];unfold iI at q;refine aM (fun h=>?_) (fun h=>?_)
  ·rw[R' h]at q;tm_up;rw[Sz];exact q
  ·rw[L' h]at q;obtain⟨l,c,t,e⟩:=xG hz h;rw[e]at q;have i1:∀{Q:VK},Q (.str ⟨#[l]⟩) H->rIx K (.str z) (.int 1) H Q:=fun q=>.inr (.inr ⟨_,_,l,rfl,rfl,hl',by rw[e];rfl,q⟩);have i2:∀{Q:VK},Q (.str ⟨#[c]⟩) H->rIx K (.str z) (.int 2) H Q:=fun q=>.inr (.inr ⟨_,_,c,rfl,rfl,hl',by rw[e];rfl,q⟩);refine fG (.bl ((decide (c=48)&&decide (l≠104))||(decide (c=49)&&decide (l=104)))) ?_ ?_
   ·refine fG (.bl (decide (c=48)&&decide (l≠104))) ?_ ?_
    ·refine⟨_,rfl,i2 ?_⟩;tm_up;rw[b7 c 48 (by lk)];refine aM (fun h=>?_) (fun h=>?_)
     ·refine⟨_,rfl,i1 ?_⟩;tm_up;rw[acT l 104 (by lk)];exact bA (by rw[h];rfl)
     ·exact bA (by rw[P'.mpr h];rfl)
    ·refine⟨_,rfl,?_⟩;refine aM (fun h=>?_) (fun h=>?_)
     ·exact bA (by rw[h];rfl)
     ·refine fG (.bl (decide (c=49)&&decide (l=104))) ?_ ?_
      ·refine⟨_,rfl,i2 ?_⟩;tm_up;rw[b7 c 49 (by lk)];refine aM (fun h=>?_) (fun h=>?_)
       ·refine⟨_,rfl,i1 ?_⟩;tm_up;rw[b7 l 104 (by lk)];exact bA (by rw[h];rfl)
       ·exact bA (by rw[P'.mpr h];rfl)
      ·exact bA (by rw[P'.mpr h];rfl)
   ·have:((decide (c=48)&&decide (l≠104))||(decide (c=49)&&decide (l=104)))=n9 l c:=by
     unfold n9
     by_cases h1:c=48
     ·subst h1;simp
     ·simp[h1]
    rw[this];exact q
def PD (b:Int):Str:=if b=2 then "2-" else "3n0-"
def boB (o:Option Int)(n:Int):Bool:=match o with
 |none=>true
 |some m=>decide (n<m)
def rwB (c:dN)(o:Option Int)(qs:List (Int×Int))(ts:List Nb)(k:Nat)(p:Str×Int):Bool :=
 caB (ts.getD k []) p.2 (lmL c p.1 none)&&(if k<qs.length then caB (ts.getD (k+1) []) p.2 (lmL c p.1 (some (qs.getD k (0,0)))) else !(iI p.1&&boB o p.2))
def tbB (c:dN)(o:Option Int)(qs:List (Int×Int))(ts:List Nb)(k:Nat):Bool:=(ts.getD k []).all (rwB c o qs ts k)
def lhB (c:dN)(b:Int)(o:Option Int)(qs:List (Int×Int))(ts:List Nb):Bool :=
 ts.all Fx&&(decide (ts.length=qs.length+1)&&(zX (ts.headD []) (PD b) 0&&(List.range ts.length).all (tbB c o qs ts)))
def Wl (K:Frag):Sp:=fun vs H Q _=>∃(wl pz pp:Addr)(b:Int)(c:dN)(o:Option Int)(ws xs:List V)(qs:List (Int×Int)) (ts:List Nb),vs=[.ref wl,.ref pz,fo o,.ref pp,.int b]/\H wl=some (.lst ws)/\xF H ws qs/\Wsh qs/\qs.length<=800/\H pz=some (.tup [fo c.1,fo c.2.1,fo c.2.2])/\H pp=some (.lst xs)/\Paired (RwK H) xs ts/\ts.length<=900/\(∀ t∈ts,t.length<=900) /\
 ∀ H',az H H'->Q (.bl (lhB c b o qs ts)) H'
theorem Wm (T:Txt K w mg t):bK P w K mg base ig (0+4) t.jY t.Ac ["_law_wishes_here","_law_prices_here","_law_bound","_law_paper_here","_law_begin_here"] (Wl K):=by
 have Wn:=QP (P:=P) (base:=base) T;have B5:=N3 (P:=P) (base:=base) T;have J3:=Wk (P:=P) (base:=base) T;have aeo:=aax (P:=P) (base:=base) T;refine T.pd.ok jR (fun vs H Q E h=>?_) (fun cdv A outer s H vs Q E hr h=>?_)
 ·obtain⟨_,_,_,_,_,_,_,_,_,_,rfl,_⟩:=h;rfl
 ·obtain⟨wl,pz,pp,b,c,o,ws,xs,qs,ts,rfl,hwl,hqs,hW,ql,hpz,hpp,hxs,tl,tls,q⟩:=h;refine aR (ag (aK (i:=5) jR.nd rfl (Or.inl rfl) (aA Wn (hr.mono (by decide)) rfl T.Qv T.mU.kp T.wa .nil aQ (aa (pv 3) ao))) (ag (aK (i:=6) jR.nd rfl (Or.inl rfl) (br (bz (ar (aL.or (aE (aw hr))) (pv 4) ai (au _)) av av))) (ag (aO (a8 (PW.pt (ij (ar Kj (pv 5) bI (au _)) (ij (ar (l9.or (iw (aw hr))) (aV (aZ.or a5) rfl T.eU eF (aa (pv 5) ao)) (aJ (a9.or (aF.or ba)) (aV (aZ.or a5) rfl T.eU eF (aa (pv 0) ao)) ai) (au _)) (eB (ar Jw (acx (oI hr) (aI aD (pv 5) ai (fun _ _=>rfl)) (pv 6) ai ⟨rfl,rfl,rfl,rfl⟩) ai (au _))))))) (aj (ay ez)) aB) (ag (bW PassesOwn.never rfl (jG rfl T.mX (aa (aV (aZ.or a5) rfl T.eU eF (aa (pv 5) ao)) ao)) (aC (i:=7) jR.nd rfl (Or.inl rfl)) (aj (uT (bW PassesOwn.never rfl (mh (aI aD (pv 5) (pv 7) (fun _ _=>rfl))) (cU rfl (aG (aC (i:=8) jR.nd rfl (Or.inl rfl)) (aG (aC (i:=9) jR.nd rfl (Or.inl rfl)) bQ))) (ag (aO (eC (bB (aA B5 (hr.mono (by decide)) rfl T.xW T.iU.kp T.om .nil aQ (aa (pv 9) (aa (aA J3 (hr.mono (by decide)) rfl T.FQ T.l5.kp T.va .nil aQ (aa (pv 8) (aa bI (aa (pv 1) ao)))) (aa (aI aD (pv 5) (pv 7) (fun _ _=>rfl)) ao)))))) (aj (ay ez)) aB) (aj (aO (ar rB (pv 7) (aV (aZ.or a5) rfl T.eU eF (aa (pv 0) ao)) (au _)) (aj (aO (eC (bB (aA B5 (hr.mono (by decide)) rfl T.xW T.iU.kp T.om .nil aQ (aa (pv 9) (aa (aA J3 (hr.mono (by decide)) rfl T.FQ T.l5.kp T.va .nil aQ (aa (pv 8) (aa (aI aD (pv 0) (pv 7) (fun _ _=>rfl)) (aa (pv 1) ao)))) (aa (aI aD (pv 5) (aJ (a9.or (aF.or ba)) (pv 7) ai) (fun _ _=>rfl)) ao)))))) (aj (ay ez)) aB)) (aj (aO (a8 (PW.pt (bu (bB (aA aeo (hr.mono (by decide)) rfl T.aaf T.tL.kp T.FR .nil aQ (aa (pv 8) ao))) (bM (a8 (PW.pt (ij (ar Kj (pv 2) bI (au _)) (eB (ar rB (pv 9) (pv 2) (au _)))))))))) (aj (ay ez)) aB))))))))) (aj (ay ez)))))) ?_;refine hZ fun N hN=>?_;tm_up;refine⟨pp,xs,ts,rfl,hpp,hxs,tl,tls,fun al l ys H1 s1 n1 h1 p1=>hN _ _ ?_,fun al H1 s1=>hN _ _ ?_⟩
  ·clear hN N;refine hZ fun N hN=>?_;refine fG (.str (PD b)) ?_ (hN _ _ ?_)
   ·tm_up;rw[intD];unfold PD;refine aM (fun h=>?_) (fun h=>?_)
    ·tm_up;exact bA (by rw[R' (M' h)])
    ·tm_up;exact bA (by rw[L' (fun z=>h (W' z))])
   clear hN N;have yl:ys.length=ts.length:=cO p1;have wl2:ws.length=qs.length:=cO hqs;refine hZ fun N hN=>?_;refine dP (!decide (ts.length=qs.length+1) || !zX (ts.headD []) (PD b) 0) ?_ ?_
   ·tm_up;refine⟨rfl,_,rfl,c9 ?_⟩;tm_up;refine .inl ⟨l,ys,rfl,.inl (aX.of h1),?_⟩;tm_up;refine .inl ⟨wl,ws,rfl,.inl (aX.of (s1 _ _ hwl)),?_⟩;tm_up;rw[intD];have el:decide ((ys.length:Int)=(ws.length:Int)+1)=decide (ts.length=qs.length+1):=by
     rw[yl,wl2,Bool.eq_iff_iff,decide_eq_true_iff,decide_eq_true_iff];omega
    rw[el];refine aM (fun h=>bx (by rw[h];rfl)) (fun h=>?_);have h':(!decide (ts.length=qs.length+1))=false:=P'.mpr h;rw[h',Bool.false_or];have hl:ts.length=qs.length+1:=by
     by_cases e:ts.length=qs.length+1
     ·exact e
     ·exact absurd (by rw[i' e];rfl) h
    obtain⟨t0,tr,rfl⟩:∃ a r,ts=a::r:=by
     cases ts with
     |nil=>simp at hl
     |cons a r=>exact⟨a,r,rfl⟩
    obtain⟨y0,yr,rfl⟩:∃ a r,ys=a::r:=by
     cases ys with
     |nil=>simp at yl
     |cons a r=>exact⟨a,r,rfl⟩
    obtain⟨_,ht0,d,rfl,_,_,hd⟩:=gL p1 (i:=0) rfl;cases ht0;have g:ot H1 d (.str (PD b)) (rP (lN t0) (Sum.inr (PD b))):=ot.k (k:=Sum.inr (PD b)) hd;rw[uW]at g;tm_up;refine Su (aX.of h1) (n:=0) rfl rfl ⟨d,rfl,.inl ⟨_,.inl hd⟩,?_⟩;tm_up;refine⟨_,g,?_⟩;have e0:(t0::tr).headD []=t0:=rfl;rw[e0];unfold zX;cases gN t0 (PD b) with
    |none =>
     tm_up;exact⟨rfl,rfl⟩
    |some n =>
     tm_up;refine bx ?_;show decide (0<n) = !decide (n<=0);rw[Bool.eq_iff_iff];simp
   ·refine aM (fun h=>?_) (fun h=>?_)
    ·tm_up;have e:lhB c b o qs ts=false:=by
      unfold lhB;rw[al];rcases Bool.or_eq_true _ _ ▸ h with h|h
      ·have:decide (ts.length=qs.length+1)=false:=by
        cases e:decide (ts.length=qs.length+1) with
        |false=>rfl
        |true=>rw[e]at h;cases h
       rw[this];rfl
      ·have:zX (ts.headD []) (PD b) 0=false:=by
        cases e:zX (ts.headD []) (PD b) 0 with
        |false=>rfl
        |true=>rw[e]at h;cases h
       rw[this,Bool.false_and,Bool.and_false];rfl
     rw[<-e];exact q H1 s1
    refine hN _ _ ?_;clear hN N;have h:=P'.mpr h;rw[Bool.or_eq_false_iff]at h;have hl:decide (ts.length=qs.length+1)=true:=by
     cases e:decide (ts.length=qs.length+1) with
     |true=>rfl
     |false=>rw[e]at h;cases h.1
    have hb:zX (ts.headD []) (PD b) 0=true:=by
     cases e:zX (ts.headD []) (PD b) 0 with
     |true=>rfl
     |false=>rw[e]at h;cases h.2
    have el:lhB c b o qs ts=(List.range ts.length).all (tbB c o qs ts):=by
     unfold lhB;rw[al,hl,hb];rfl
    rw[el]at q;have hl:=M' hl;clear el hb h;tm_up;refine .inl ⟨l,ys,rfl,.inl (aX.of h1),?_⟩;tm_up;have yb:ys.length<=900:=by omega
    refine⟨by omega,by omega,lK (n:=ys.length) (fun i σ H'=>∃(v1 v2 v3:Option V),σ=[some (.ref wl),some (.ref pz),some (fo o),some (.ref pp),some (.int b),some (.ref l),some (.str (PD b)),v1,v2,v3]/\az H1 H'/\(List.range i).all (tbB c o qs ts)=true/\i<=ts.length)
     ⟨none,none,none,rfl,az.refl _,rfl,V' _⟩ ?_ ?_⟩
    ·rintro i σ H2 hi ⟨v1,v2,v3,rfl,s2,al2,il⟩;obtain⟨y,hy⟩:∃ y,ys[i]? = some y:=⟨_,G' hi⟩;obtain⟨t',ht,d,rfl,_,nd,hd⟩:=gL p1 hy;have hd2:=s2 _ _ hd;have hst:∀ p∈t',p.1∈ST:=fun p hp=>by
      have:=all_eq_true.mp al _ (Z' ht);unfold Fx at this;rw[Bool.and_eq_true]at this;exact M' (all_eq_true.mp this.2 p hp)
     have eg:ts.getD i []=t':=by rw[X',ht];rfl
     refine⟨_,rfl,_,rfl,Su (aX.of (s2 _ _ h1)) (n:=i) (by omega) hy ?_⟩;refine⟨d,_,rfl,hd2,fun oo=>?_⟩;have thw:∀(H3:Hp)(R:Hp->Prop),(∀ b u,b≠d->H2 b=some u->H3 b=some u)->H3 d=some (.fe oo (.dK (lN t')))->(∀ H',az H1 H'->R H')->∃ d o kvs,H3 d=some (.fe o (.dK kvs))/\(∀ o v,H d≠some (.fe o v))/\R (upd H3 d (.dK kvs)):=fun H3 R sx h3 k=>by
      refine⟨d,oo,_,h3,fun o' v' e=>(by rw[nd]at e;cases e),k _ (s2.trans fun b u e=>?_)⟩
      by_cases hb:b=d
      ·subst hb;rw[hd2]at e;cases e;exact af
      ·rw[ax hb];exact sx b u hb e
     have QJ:∀ b u,b≠d->H2 b=some u->upd H2 d (.fe oo (.dK (lN t'))) b=some u:=fun b u hb e=>by rw[ax hb];exact e
     have d0:=af (H:=H2) (a:=d) (o:=.fe oo (.dK (lN t')));generalize upd H2 d (.fe oo (.dK (lN t')))=H3 at QJ d0;have nld:l≠d:=fun e=>by rw[e,hd]at h1;cases h1
     have npd:pz≠d:=aN hpz nd;have nwd:wl≠d:=aN hwl nd;refine uU (fun j σ H'=>∃(v2 v3:Option V),σ=[some (.ref wl),some (.ref pz),some (fo o),some (.ref pp),some (.int b),some (.ref l),some (.str (PD b)),some (.int (0+(i:Int))),v2,v3]/\(∀ b u,b≠d->H2 b=some u->H' b=some u)/\H' d=some (.fe oo (.dK (lN t')))/\(t'.take j).all (rwB c o qs ts i)=true/\j<=t'.length)
      ⟨v2,v3,rfl,QJ,d0,rfl,V' _⟩ ?_ ?_ ?_
     ·rintro j σ H' ⟨v2,v3,rfl,_,h,_⟩;exact h
     ·rintro j kv tt σ H4 hkv ⟨v2,v3,rfl,sx4,d4,al4,jl⟩ htt;obtain⟨⟨z,n⟩,hw,rfl⟩:=EJ hkv;have jl2:j<t'.length:=(F'.mp hw).1;have hz:z∈ST:=hst _ (Z' hw);have st:=az.upd (o:=.tup [kV (Sum.inr z),.int n]) htt;have h5:=af (H:=H4) (a:=tt) (o:=.tup [kV (Sum.inr z),.int n]);show _;generalize upd H4 tt (.tup [kV (Sum.inr z),.int n])=H5 at st h5;have x9:∀ b u,b≠d->H2 b=some u->H5 b=some u:=fun b u hb e=>st _ _ (sx4 b u hb e);have d5:=st _ _ d4;have no:rwB c o qs ts i (z,n)=false->∀(H6:Hp),(∀ b u,b≠d->H2 b=some u->H6 b=some u)->H6 d=some (.fe oo (.dK (lN t')))->∃ d o kvs,H6 d=some (.fe o (.dK kvs))/\(∀ o v,H d≠some (.fe o v))/\Q (.bl false) (upd H6 d (.dK kvs)):=fun e H6 sx h6=>by
       have e1:tbB c o qs ts i=false:=by
        unfold tbB;rw[eg];exact qv hw e
       have e2:(List.range ts.length).all (tbB c o qs ts)=false:=qv (i:=i) (x:=i) (by rw[List.getElem?_range (by omega)]) e1;rw[e2]at q;exact thw H6 _ sx h6 fun H' s=>q H' (s1.trans s)
      refine⟨tt,_,rfl,dh.of h5,rfl,_,_,rfl,_,_,rfl,rfl,?_⟩;refine hZ fun N hN=>?_;tm_up;refine⟨z,.non,pz,none,c,rfl,hz,rfl,x9 _ _ npd (s2 _ _ (s1 _ _ hpz)),fun l3 xs3 H6 s6 n6 h6 p6=>?_⟩;tm_up;refine Su (aX.of (s6 _ _ (x9 _ _ nld (s2 _ _ h1)))) (n:=i) (by omega) hy ?_;tm_up;refine⟨l3,d,n,xs3,_,t',rfl,h6,p6,.inr ⟨oo,s6 _ _ d5⟩,?_⟩;tm_up;have sx6:∀ b u,b≠d->H2 b=some u->H6 b=some u:=fun b u hb e=>s6 _ _ (x9 b u hb e);have d6:=s6 _ _ d5;have er:rwB c o qs ts i (z,n)=(caB t' n (lmL c z none)&&(if i<qs.length then caB (ts.getD (i+1) []) n (lmL c z (some (qs.getD i (0,0)))) else !(iI z&&boB o n))):=by
       unfold rwB;rw[eg]
      rw[er]at no;have yes:rwB c o qs ts i (z,n)=true->(t'.take (j+1)).all (rwB c o qs ts i)=true:=fun e=>qu hw al4 e;rw[er]at yes;clear er;generalize caB t' n (lmL c z none)=cb at no yes;cases cb with
      |false =>
       refine dj ?_;tm_up;exact no rfl _ sx6 d6
      |true =>
       rw[Bool.true_and]at no yes;refine c9 (hN _ _ ?_);clear hN N h6 p6;tm_up;refine .inl ⟨wl,ws,rfl,.inl (aX.of (sx6 _ _ nwd (s2 _ _ (s1 _ _ hwl)))),?_⟩;tm_up;have ek:decide ((0+(i:Int))<(ws.length:Int))=decide (i<qs.length):=by
        rw[wl2,Bool.eq_iff_iff,decide_eq_true_iff,decide_eq_true_iff];omega
       rw[ek];refine aM (fun h=>?_) (fun h=>?_)
       ·have h:=M' h;rw[R' h]at no yes;obtain⟨x,hx⟩:∃ x,ws[i]? = some x:=⟨_,G' (by omega)⟩;obtain⟨qq,hq,wp,rfl,Za⟩:=gL hqs hx;have eq:qs.getD i (0,0)=qq:=by rw[X',hq];rfl
        rw[eq]at no yes;obtain⟨y7,hy7⟩:∃ y,ys[i+1]? = some y:=⟨_,G' (by omega)⟩;obtain⟨u',hu,d',rfl,_,nd',hd'⟩:=gL p1 hy7;have eu:ts.getD (i+1) []=u':=by rw[X',hu];rfl
        rw[eu]at no yes;have hWq:=hW _ (Z' hq);tm_up;refine Su (aX.of (sx6 _ _ nwd (s2 _ _ (s1 _ _ hwl)))) (n:=i) (by omega) hx ?_;tm_up;refine⟨z,_,pz,some qq,c,rfl,hz,⟨wp,rfl,sx6 _ _ (aN Za nd) (s2 _ _ (s1 _ _ Za)),hWq.1,hWq.2⟩,sx6 _ _ npd (s2 _ _ (s1 _ _ hpz)),fun l7 xs7 H7 s7 n7 h7 p7=>?_⟩;tm_up;refine Su (aX.of (s7 _ _ (sx6 _ _ nld (s2 _ _ h1)))) (n:=i+1) (by omega) hy7 ?_;tm_up;have d7:=s7 _ _ d6;refine⟨l7,d',n,xs7,_,u',rfl,h7,p7,?_,?_⟩
        ·by_cases e:d'=d
         ·rw[e]at hd' ⊢;rw[hd]at hd';have:lN u'=lN t':=(HO.dK.inj (Za' hd')).symm;rw[this];exact .inr ⟨oo,d7⟩
         ·exact .inl (s7 _ _ (sx6 _ _ e (s2 _ _ hd')))
        tm_up;generalize caB u' n (lmL c z (some qq))=cb at no yes;cases cb with
        |false =>
         refine dj ?_;tm_up;exact no rfl _ (fun b u hb e=>s7 _ _ (sx6 b u hb e)) d7
        |true=>exact c9 ⟨_,_,rfl,fun b u hb e=>s7 _ _ (sx6 b u hb e),d7,yes rfl,jl2⟩
       ·have h:¬ i<qs.length:=fun z=>h (W' z);rw[L' h]at no yes;refine dP (iI z&&boB o n) ?_ ?_
        ·tm_up;refine⟨hz,_,rfl,?_⟩;cases iI z with
         |false=>exact c9 (bx rfl)
         |true =>
          refine dj ?_;refine dP (boB o n) ?_ (bx rfl);cases o with
          |none =>
           tm_up;exact⟨rfl,_,rfl,dj (bx rfl)⟩
          |some m =>
           tm_up;refine⟨rfl,_,rfl,c9 ?_⟩;tm_up;exact bx rfl
        ·cases e:iI z&&boB o n with
         |true =>
          rw[e]at no;refine dj ?_;tm_up;exact no rfl _ sx6 d6
         |false =>
          rw[e]at yes;exact c9 ⟨_,_,rfl,sx6,d6,yes rfl,jl2⟩
     ·rintro σ H4 ⟨v2,v3,rfl,sx4,d4,al4,jl⟩;rw[uX,take_length]at al4;refine thw _ _ sx4 d4 fun H' s=>⟨_,_,_,rfl,s,?_,by omega⟩;rw[List.range_succ,List.all_append,al2];show(true&&(tbB c o qs ts i&&true))=true;unfold tbB;rw[eg,al4];rfl
    ·rintro σ H2 ⟨v1,v2,v3,rfl,s2,al2,il⟩;rw[yl]at al2;tm_up;rw[al2]at q;exact q H2 (s1.trans s2)
  ·clear hN N;refine hZ fun N hN=>?_;refine fG (.str (PD b)) ?_ (hN _ _ ?_)
   ·tm_up;rw[intD];unfold PD;refine aM (fun h=>?_) (fun h=>?_)
    ·tm_up;exact bA (by rw[R' (M' h)])
    ·tm_up;exact bA (by rw[L' (fun z=>h (W' z))])
   clear hN N;refine hZ fun N hN=>?_;refine dP true ?_ (dj ?_)
   ·tm_up;exact⟨rfl,_,rfl,dj (bx rfl)⟩
   ·tm_up;have e:lhB c b o qs ts=false:=by unfold lhB;rw[al];rfl
    rw[<-e];exact q H1 s1
def aay:Sp:=fun vs H Q _=>vs=[]/\∀(f:Addr)(H':Hp),az H H'->H f=none->H' f=some (.lst (ST.map V.str))->Q (.ref f) H'
theorem aeq {l r:Str}(hl:l.length<=1)(hr:r.length<=2):(Str.empty ++ "3":Str).length<=sizeLine/\(Str.empty ++ "3" ++ l:Str).length<=sizeLine/\(f3 l r).length<=sizeLine:=by
 have e1:(Str.empty ++ "3":Str).length=1:=by lk
 have e2:∀ a b:Str,(a++b).length=a.length+b.length:=fun a b=>by
  show(a.cps++b.cps).size=_;rw[Array.size_append];rfl
 refine⟨ou (by rw[e1];decide),ou (by rw[e2,e1];omega),ou (by unfold f3;rw[e2,e2,e1];omega)⟩
theorem aaz (T:Txt K w mg t):bK P w K mg base ig (0+1) t.mH t.FH [] aay:=by
 refine T.tM.ok u6 (fun vs H Q E h=>?_) (fun cdv A outer s H vs Q E hr h=>?_)
 ·obtain⟨rfl,_⟩:=h;rfl
 ·obtain⟨rfl,q⟩:=h;refine aR (ag (aK (i:=0) u6.nd rfl (Or.inl rfl) (di xw rfl T.xX xA (aa (bP (v:=.ref t.bH) rfl T.j2 rfl) ao))) (ag (bX (ik plainAttrs_list slot_list_append type_list_append bj (pv 0) (aa (bP (v:=.str "3t0-") rfl T.eV ⟨_,rfl⟩) ao))) (ag (bW PassesOwn.never rfl (Kh (bP (v:=.ref t.c5) rfl T.CA rfl)) (aC (i:=1) u6.nd rfl (Or.inl rfl)) (ag (bX (ik plainAttrs_list slot_list_append type_list_append bj (pv 0) (aa (Kv (ip EZ (ip (vE (pv 1)) (ip (vE (bP (v:=.str "0-") rfl T.ad5 ⟨_,rfl⟩)) Ku)))) ao))) (aj (bW PassesOwn.never rfl (Kh (bP (v:=.ref t.cZ) rfl T.Cy rfl)) (aC (i:=2) u6.nd rfl (Or.inl rfl)) (aj (bX (ik plainAttrs_list slot_list_append type_list_append bj (pv 0) (aa (Kv (ip EZ (ip (vE (pv 1)) (ip (vE (pv 2)) Ku)))) ao)))))))) (aj (ay (aV BZ rfl T.J1 JD (aa (pv 0) ao))))))) ?_;refine⟨_,_,rfl,.inr (T.j3 _),fun f hf=>?_⟩;tm_up;refine⟨.inl ⟨rfl,_,aX.of af⟩,?_⟩;refine⟨_,_,_,rfl,rfl,af,aS (by decide),?_⟩;rw[iX];refine⟨_,rfl,⟨_,T.rG _⟩,Ki (K:=K) (xs:=LF.map V.str) (fun i σ H'=>∃ v w,σ=[some (.ref f),v,w]/\H'=upd H f (.lst ((Hy i).map V.str))) ⟨none,none,rfl,rfl⟩ ?_ ?_ ?_⟩
  ·rintro i σ H' _ ⟨v,w,rfl,rfl⟩;exact T.rG _
  ·rintro i x σ H' hx ⟨v,w,rfl,rfl⟩;obtain⟨l,hl,rfl⟩:=xH hx;have hi:=ak3 hl;have hal:=Qe (i:=i) (by omega);have hll:=ajj hl;obtain⟨z1,z2,z3⟩:=aeq (l:=l) (r:="0-") hll (by lk);tm_up;refine⟨.inl ⟨rfl,_,aX.of af⟩,?_⟩;refine⟨z1,_,rfl,.inl ⟨_,rfl,ou (by omega),z2,.inl ⟨_,rfl,ou (by lk),z3,z3,?_⟩⟩⟩;refine⟨_,_,_,rfl,rfl,af,aS (by rw[O'];omega),?_⟩;rw[iX];refine⟨_,rfl,⟨_,T.rF _⟩,Ki (K:=K) (xs:=RN.map V.str) (fun j σ H'=>∃ w,σ=[some (.ref f),some (.str l),w]/\H'=upd H f (.lst ((Hy i++f3 l "0-" :: (RN.take j).map (f3 l)).map V.str))) ⟨w,rfl,?_⟩ ?_ ?_ ?_⟩
   ·rw[map_append];rfl
   ·rintro j σ H' _ ⟨w,rfl,rfl⟩;exact T.rF _
   ·rintro j x σ H' hy ⟨w,rfl,rfl⟩;obtain⟨r,hr',rfl⟩:=xH hy;have hrl:=ajk hr';have hj:j<7:=(F'.mp hr').1;obtain⟨z1,z2,z3⟩:=aeq (l:=l) (r:=r) hll hrl;tm_up;refine⟨.inl ⟨rfl,_,aX.of af⟩,?_⟩;refine⟨z1,_,rfl,.inl ⟨_,rfl,ou (by omega),z2,_,rfl,.inl ⟨_,rfl,ou (by omega),z3,z3,?_⟩⟩⟩;refine⟨_,_,_,rfl,rfl,af,aS (by rw[O',length_append,length_cons,O',length_take];omega),?_⟩;refine⟨_,rfl,?_⟩;rw[iX,List.take_add_one,hr']
    congr 2
    simp[f3]
   ·rintro σ H' ⟨w,rfl,rfl⟩;refine⟨_,_,rfl,?_⟩;rw[ZY hl];rfl
  ·rintro σ H' ⟨v,w,rfl,rfl⟩;refine⟨_,rfl,_,_,ST,rfl,aX.of af,?_,ZX,JQ,fun g hg=>?_⟩
   ·show(Hy 3).length<64;have:=Qe (i:=3) (by omega);omega
   ·have sm:=az.upd (o:=.lst ((Hy 3).map V.str)) hf;exact q g _ (sm.trans (az.upd hg)) (sm.free hg) af
def Aw (K:Frag):Sp:=fun vs H Q _=>∃(d:Addr)(o:Option Int)(t:Nb),vs=[.ref d,fo o]/\H d=some (.dK (lN t))/\(∀ p∈t,p.1∈ST)/\t.length<=900/\∀ H',az H H'->Q (.bl (rcB t o)) H'
theorem aer {t:Nb}{i:Nat}{p:Str×Int}(h:t[i]? = some p):jC (t.take (i+1))=jC (t.take i)++(if iI p.1=true then [p.2] else []):=by
 unfold jC;rw[take_succ,h,List.filter_append,map_append]
 congr 1
 show List.map _ (List.filter _ [p])=_;rw[List.filter_cons];split <;> rfl
theorem aes (t:Nb):(jC t).length<=t.length:=by unfold jC;rw[O'];exact List.length_filter_le ..
theorem Ax (T:Txt K w mg t):bK P w K mg base ig (0+3) t.cW t.kT ["numbers","bound"] (Aw K):=by
 have Wf:=Zb (P:=P) (base:=base) T;refine T.fi.ok oY (fun vs H Q E h=>?_) (fun cdv A outer s H vs Q E hr h=>?_)
 ·obtain⟨_,_,_,rfl,_⟩:=h;rfl
 ·obtain⟨d,bo,t',rfl,hd,hst,tl,q⟩:=h;refine aR (ag (uT (qk (i:=2) oY.nd rfl rfl (cn:=["state","number"]) rfl (bZ.of rfl) (mh (pv 0)) (fun _=>(cU rfl (aG (aC (i:=0) mr rfl (Or.inl rfl)) (aG (aC (i:=1) mr rfl (Or.inl rfl)) bQ)))) (fun _=>(ack (bB (aA Wf (hr.mono (by decide)) rfl T.Y5 T.Aj.kp T.NG .nil aQ (aa (pv 0) ao))))) (fun _=>(pv 1)))) (ag (aO (ar Kj (pv 1) bI (au _)) (aj (ay (bf (Sf (aw hr)) (pv 2) (c8 ao) (au _)))) aB) (aj (ay (aV xC rfl T.NL Kx (aa (nY (cn:=["number"]) rfl (bZ.of rfl) (cq (pv 2)) (fun _=>(aC (i:=0) vO rfl (Or.inl rfl))) (fun _=>md) (fun _=>(bf ahp (pv 0) (pv 2) (au _)))) ao)))))) ?_;refine⟨_,rfl,d,_,rfl,hd,fun o D b' hD=>?_⟩;have QJ:∀ b u,b≠d->H b=some u->upd H d (.fe o (.dK (lN t'))) b=some u:=fun b u hb e=>by rw[ax hb];exact e
  have hd1:=af (H:=H) (a:=d) (o:=.fe o (.dK (lN t')));have nDd:D≠d:=fun e=>by rw[e,hd1]at hD;cases hD
  generalize upd H d (.fe o (.dK (lN t')))=H1 at QJ hd1 hD;refine vG (fun i zs σ H'=>∃(v1 v2 v3:Option V),σ=[v1,v2,some (.ref d),some (fo bo),v3]/\az H1 H'/\H' D=some (.lst zs)/\zs=(jC (t'.take i)).map V.int/\i<=t'.length)
   ⟨none,none,none,rfl,az.upd hD,af,rfl,V' _⟩ ?_ ?_ ?_
  ·rintro i zs σ H' ⟨v1,v2,v3,rfl,s6,_⟩;exact s6 _ _ hd1
  ·rintro i zs kv tt σ H6 hkv ⟨v1,v2,v3,rfl,s6,hD6,p6,il6⟩ htt N hN;obtain⟨⟨z,n⟩,hw,rfl⟩:=EJ hkv;have x8:i<t'.length:=(F'.mp hw).1;have hz:z∈ST:=hst _ (Z' hw);have st:=az.upd (o:=.tup [kV (Sum.inr z),.int n]) htt;have h7:=af (H:=H6) (a:=tt) (o:=.tup [kV (Sum.inr z),.int n]);show _;generalize upd H6 tt (.tup [kV (Sum.inr z),.int n])=H7 at st h7;have et:=aer hw;have zl:zs.length<=900:=by
    rw[p6,O'];exact Nat.le_trans (aes _) (by rw[length_take];omega)
   refine⟨tt,_,rfl,dh.of h7,rfl,_,_,rfl,_,_,rfl,rfl,?_⟩;refine⟨_,rfl,z,rfl,hz,_,rfl,?_⟩;refine aM (fun h=>?_) (fun h=>?_)
   ·rw[R' h]at et;refine⟨_,rfl,st _ _ hD6,aS (by omega),hN _ _ _ ⟨_,_,_,rfl,cK (s6.trans st) hD,af,?_,x8⟩⟩;rw[et,p6,map_append];rfl
   ·rw[L' h,append_nil]at et;exact hN _ _ _ ⟨_,_,_,rfl,s6.trans st,st _ _ hD6,by rw[et];exact p6,x8⟩
  ·rintro zs σ H6 ⟨v1,v2,v3,rfl,s6,hD6,p6,_⟩;rw[uX,take_length]at p6;have hd6:=s6 _ _ hd1;refine⟨d,o,_,hd6,fun o' v' e=>?_,?_⟩
   ·have e:H d=some (.fe o' v'):=e;rw[hd]at e;cases e
   have s7:az H (upd H6 d (.dK (lN t'))):=fun b u e=>by
    by_cases hb:b=d
    ·subst hb;rw[hd]at e;cases e;exact af
    ·rw[ax hb];exact s6 _ _ (QJ b u hb e)
   have hD7:upd H6 d (.dK (lN t')) D=some (.lst zs):=by rw[ax nDd];exact hD6
   generalize upd H6 d (.dK (lN t'))=H7 at s7 hD7;subst p6;cases bo with
   |none =>
    tm_up;refine⟨rfl,_,rfl,dj ?_⟩;tm_up;refine⟨big (by show 0<=1000;omega),fun e0 he0=>?_⟩;have s8:=az.upd (o:=.lst []) he0;refine⟨D,e0,_,rfl,rfl,aX.of (s8 _ _ hD7),aX.of af,?_⟩;have:=q _ (s7.trans s8);unfold rcB at this;rw[List.isEmpty_map];exact this
   |some m =>
    tm_up;refine⟨rfl,_,rfl,c9 ?_⟩;refine⟨_,rfl,_,rfl,⟨_,aX.of hD7⟩,fun D2 b2 hD2=>?_⟩;refine jL (K:=K) (xs:=(jC t').map V.int) (fun i ys σ H'=>∃ v,σ=[v,some (.ref d),some (.int m),some (.ref D)]/\az H7 H'/\H' D2=some (.lst ys)/\ys=(((jC t').take i).map fun n=>decide (m<=n)).map V.bl) ⟨none,rfl,az.upd hD2,af,rfl⟩ ?_ ?_ ?_
    ·rintro i ys σ H' ⟨v,rfl,s8,_⟩;exact aX.of (s8 _ _ hD7)
    ·rintro i ys x σ H' hx ⟨v,rfl,s8,h8,rfl⟩ N hN;rw[getElem?_map]at hx;obtain⟨n,hn,rfl⟩:=Option.map_eq_some_iff.mp hx;have il:i<(jC t').length:=(F'.mp hn).1;have ll:=aes t';refine fH ?_;tm_up;refine⟨h8,aS (by rw[O',O',length_take];omega),hN _ _ _ ⟨_,rfl,cK s8 hD2,af,?_⟩⟩;rw[take_succ,hn,map_append,map_append];rfl
    ·rintro ys σ H8 ⟨v,rfl,s8,h8,rfl⟩;rw[O',take_length]at h8;refine⟨rfl,D2,_,rfl,aX.of h8,?_⟩;rw[List.all_map];exact q _ (s7.trans s8)
def aaA:Sp:=fun vs H Q _=>∃(d:Addr)(z:Str)(m:Int)(t:Nb),vs=[.ref d,.str z,.int m]/\Rd H d (.dK (lN t))/\Q (.bl (zX t z m)) H
theorem Ay (T:Txt K w mg t):bK P w K mg base ig (0+1) t.mI t.FI ["numbers","state","most"] aaA:=by
 refine T.mV.ok aab (fun vs H Q E h=>?_) (fun cdv A outer s H vs Q E hr h=>?_)
 ·obtain⟨_,_,_,_,rfl,_⟩:=h;rfl
 ·obtain⟨d,z,m,t',rfl,hd,q⟩:=h;refine aR (aj (ay (br (jF (ait (acv (oI hr) (pv 1) (pv 0))) (iY (bf akq (ED (oI hr) (pv 0) (pv 1) (fun _ _=>rfl)) (pv 2) (au _))))))) ?_;have g:ot H d (.str z) (rP (lN t') (Sum.inr z)):=.inl ⟨_,Sum.inr z,hd,rfl,rfl⟩;rw[uW]at g;unfold zX at q;refine fG _ ?_ q;refine⟨_,rfl,_,rfl,d,_,rfl,g,?_⟩;cases e:gN t' z with
  |none =>
   refine⟨_,rfl,c9 ?_⟩;exact bA rfl
  |some n =>
   rw[e]at g;refine⟨_,rfl,dj ?_⟩;refine⟨_,rfl,_,rfl,d,_,rfl,g,?_⟩;tm_up;exact bA rfl
def tW (K:Frag):Sp:=fun vs H Q _=>∃(d f wp pz:Addr)(n m:Int)(c:dN)(t u:Nb),vs=[.ref d,.ref f,.ref wp,.ref pz]/\H d=some (.dK (lN t))/\H f=some (.dK (lN u))/\(∀ p∈t,p.1∈ST)/\H wp=some (.tup [.int n,.int m])/\0<=m/\m<=9/\H pz=some (.tup [fo c.1,fo c.2.1,fo c.2.2]) /\
 ∀ H',az H H'->Q (.bl (Z7 c t u (n,m))) H'
theorem tX (T:Txt K w mg t):bK P w K mg base ig (0+6) t.bL t.hV ["numbers","following","wish","prices"] (tW K):=by
 have qO:=vq (P:=P) (base:=base) T;have tY:=Ay (P:=P) (base:=base) T;refine T.c7.ok bU (fun vs H Q E h=>?_) (fun cdv A outer s H vs Q E hr h=>?_)
 ·obtain⟨_,_,_,_,_,_,_,_,_,rfl,_⟩:=h;rfl
 ·obtain⟨d,f,wp,pz,n0,m0,c,t',u',rfl,hd,hf,hst,Za,hm0,hm9,hpz,q⟩:=h;refine aR (ag (uT (bW PassesOwn.never rfl (mh (pv 0)) (cU rfl (aG (aC (i:=4) bU.nd rfl (Or.inl rfl)) (aG (aC (i:=5) bU.nd rfl (Or.inl rfl)) bQ))) (aj (bW PassesOwn.never rfl (cq (aA qO (hr.mono (by decide)) rfl T.vp T.gT.kp T.lJ .nil aQ (aa (pv 4) (aa (pv 2) (aa (pv 3) ao))))) (cU rfl (aG (aC (i:=6) bU.nd rfl (Or.inl rfl)) (aG (aC (i:=7) bU.nd rfl (Or.inl rfl)) (aG (aC (i:=8) bU.nd rfl (Or.inl rfl)) bQ)))) (aj (aO (eC (bB (aA tY (hr.mono (by decide)) rfl T.An T.mV.kp T.tN .nil aQ (aa (pv 1) (aa (pv 8) (aa (aJ (a9.or (aF.or ba)) (pv 5) (pv 7)) ao)))))) (aj (ay ez)) aB)))))) (aj (ay ez))) ?_;refine⟨_,rfl,d,_,rfl,hd,fun o=>?_⟩;have nwd:wp≠d:=fun e=>by rw[e,hd]at Za;cases Za
  have npd:pz≠d:=fun e=>by rw[e,hd]at hpz;cases hpz
  have QJ:∀ b u,b≠d->H b=some u->upd H d (.fe o (.dK (lN t'))) b=some u:=fun b u hb e=>by rw[ax hb];exact e
  have hd1:=af (H:=H) (a:=d) (o:=.fe o (.dK (lN t')));have thw:∀(H1:Hp)(R:Hp->Prop),(∀ b u,b≠d->H b=some u->H1 b=some u)->H1 d=some (.fe o (.dK (lN t')))->(∀ H',az H H'->R H')->∃ d o kvs,H1 d=some (.fe o (.dK kvs))/\(∀ o v,H d≠some (.fe o v))/\R (upd H1 d (.dK kvs)):=fun H1 R sx h1 k=>by
   refine⟨d,o,_,h1,fun o' v' e=>(by rw[hd]at e;cases e),k _ fun b u e=>?_⟩
   by_cases hb:b=d
   ·subst hb;rw[hd]at e;cases e;exact af
   ·rw[ax hb];exact sx b u hb e
  generalize upd H d (.fe o (.dK (lN t')))=H1 at QJ hd1;refine uU (fun i σ H'=>∃(v1 v2 v3 v4 v5:Option V),σ=[some (.ref d),some (.ref f),some (.ref wp),some (.ref pz),v1,v2,v3,v4,v5]/\(∀ b u,b≠d->H b=some u->H' b=some u)/\H' d=some (.fe o (.dK (lN t')))/\((t'.take i).all fun p=>Fw u' p.2 (a7 c p.1 m0 (dX n0)))=true/\i<=t'.length)
   ⟨none,none,none,none,none,rfl,QJ,hd1,rfl,V' _⟩ ?_ ?_ ?_
  ·rintro i σ H' ⟨v1,v2,v3,v4,v5,rfl,_,h2,_⟩;exact h2
  ·rintro i kv tt σ H2 hkv ⟨v1,v2,v3,v4,v5,rfl,sx2,hd2,al,il⟩ htt;obtain⟨⟨z,n⟩,hw,rfl⟩:=EJ hkv;have x8:i<t'.length:=(F'.mp hw).1;have hz:z∈ST:=hst _ (Z' hw);have st:=az.upd (o:=.tup [kV (Sum.inr z),.int n]) htt;have h3:=af (H:=H2) (a:=tt) (o:=.tup [kV (Sum.inr z),.int n]);show _;generalize upd H2 tt (.tup [kV (Sum.inr z),.int n])=H3 at st h3;refine⟨tt,_,rfl,dh.of h3,rfl,_,_,rfl,_,_,rfl,rfl,?_⟩;refine⟨_,rfl,_,rfl,_,rfl,z,wp,pz,n0,m0,c,rfl,hz,st _ _ (sx2 _ _ nwd Za),hm0,hm9,st _ _ (sx2 _ _ npd hpz),fun l4 xs4 H4 s4 n4 h4 p4=>?_⟩;have s34:=st.trans s4;have nx:(Fw u' n (a7 c z m0 (dX n0))=true)->((t'.take (i+1)).all fun p=>Fw u' p.2 (a7 c p.1 m0 (dX n0)))=true:=fun e=>qu hw al e;have no:(Fw u' n (a7 c z m0 (dX n0))=false)->Z7 c t' u' (n0,m0)=false:=fun e=>qv hw e;generalize a7 c z m0 (dX n0)=ms at p4 nx no;refine⟨l4,rfl,⟨_,aX.of h4⟩,dD (K:=K) (xs:=xs4) (fun k σ H'=>∃(v4 v5 v6:Option V),σ=[some (.ref d),some (.ref f),some (.ref wp),some (.ref pz),some (.str z),some (.int n),v4,v5,v6]/\(∀ b u,b≠d->H b=some u->H' b=some u)/\H' d=some (.fe o (.dK (lN t')))/\H' l4=some (.lst xs4)/\Paired (KO K H') xs4 ms/\((ms.take k).all fun m=>zX u' m.2.2 (n+m.2.1))=true/\k<=ms.length)
    ⟨v3,v4,v5,rfl,fun b u hb e=>s34 _ _ (sx2 b u hb e),s34 _ _ hd2,h4,p4,rfl,V' _⟩ ?_ ?_ ?_⟩
   ·rintro k σ H' _ ⟨v4,v5,v6,rfl,_,_,h5,_⟩;exact aX.of h5
   ·rintro k y σ H5 hy ⟨v4,v5,v6,rfl,x9,we,hm5,p5,RU,kl⟩;obtain⟨mm,hm,p,qq,rfl,hp,hqq⟩:=gL p5 hy;have kl2:k<ms.length:=(F'.mp hm).1;refine⟨p,_,rfl,dh.of hp,rfl,_,_,rfl,_,_,rfl,_,_,rfl,rfl,?_⟩;tm_up;refine⟨f,mm.2.2,n+mm.2.1,u',rfl,(by
     by_cases e:f=d
     ·rw[e]at hf ⊢;rw[hd]at hf;have:lN u'=lN t':=(HO.dK.inj (Za' hf)).symm;rw[this];exact .inr ⟨o,we⟩
     ·exact .inl (x9 _ _ e hf)),?_⟩
    tm_up;cases e:zX u' mm.2.2 (n+mm.2.1) with
    |true =>
     refine c9 ⟨_,_,_,rfl,x9,we,hm5,p5,qu hm RU e,kl2⟩
    |false =>
     refine dj ?_;tm_up;exact thw _ _ x9 we fun H' s=>by
      have:=no (qv (f:=fun m:Mv=>zX u' m.2.2 (n+m.2.1)) hm e);rw[<-this];exact q H' s
   ·rintro σ H5 ⟨v4,v5,v6,rfl,x9,we,hm5,p5,RU,kl⟩;rw[cO p5,take_length]at RU;exact⟨_,_,_,_,_,rfl,x9,we,nx RU,x8⟩
  ·rintro σ H5 ⟨v1,v2,v3,v4,v5,rfl,x9,we,al,_⟩;rw[uX,take_length]at al;refine thw _ _ x9 we fun H' s=>?_;tm_up;have:=q H' s;rw[show Z7 c t' u' (n0,m0)=true from al]at this;exact this
def pD (K:Frag):Sp:=fun vs H Q _=>∃(d pz:Addr)(c:dN)(t:Nb),vs=[.ref d,.ref pz]/\H d=some (.dK (lN t))/\(∀ p∈t,p.1∈ST)/\H pz=some (.tup [fo c.1,fo c.2.1,fo c.2.2]) /\
 ∀ H',az H H'->Q (.bl (bdP c t)) H'
theorem pE (T:Txt K w mg t):bK P w K mg base ig (0+6) t.bq t.eP ["numbers","prices"] (pD K):=by
 have kW:=pB (P:=P) (base:=base) T;have tY:=Ay (P:=P) (base:=base) T;refine T.cf.ok bD (fun vs H Q E h=>?_) (fun cdv A outer s H vs Q E hr h=>?_)
 ·obtain⟨_,_,_,_,rfl,_⟩:=h;rfl
 ·obtain⟨d,pz,c,t',rfl,hd,hst,hpz,q⟩:=h;refine aR (ag (uT (bW PassesOwn.never rfl (mh (pv 0)) (cU rfl (aG (aC (i:=2) bD.nd rfl (Or.inl rfl)) (aG (aC (i:=3) bD.nd rfl (Or.inl rfl)) bQ))) (aj (bW PassesOwn.never rfl (cq (aA kW (hr.mono (by decide)) rfl T.o9 T.dC.kp T.iu .nil aQ (aa (pv 2) (aa (pv 1) ao)))) (cU rfl (aG (aC (i:=4) bD.nd rfl (Or.inl rfl)) (aG (aC (i:=5) bD.nd rfl (Or.inl rfl)) (aG (aC (i:=6) bD.nd rfl (Or.inl rfl)) bQ)))) (aj (aO (eC (bB (aA tY (hr.mono (by decide)) rfl T.An T.mV.kp T.tN .nil aQ (aa (pv 0) (aa (pv 6) (aa (aJ (a9.or (aF.or ba)) (pv 3) (pv 5)) ao)))))) (aj (ay ez)) aB)))))) (aj (ay ez))) ?_;refine⟨_,rfl,d,_,rfl,hd,fun o=>?_⟩;have npd:pz≠d:=fun e=>by rw[e,hd]at hpz;cases hpz
  have QJ:∀ b u,b≠d->H b=some u->upd H d (.fe o (.dK (lN t'))) b=some u:=fun b u hb e=>by rw[ax hb];exact e
  have hd1:=af (H:=H) (a:=d) (o:=.fe o (.dK (lN t')));have thw:∀(H1:Hp)(R:Hp->Prop),(∀ b u,b≠d->H b=some u->H1 b=some u)->H1 d=some (.fe o (.dK (lN t')))->(∀ H',az H H'->R H')->∃ d o kvs,H1 d=some (.fe o (.dK kvs))/\(∀ o v,H d≠some (.fe o v))/\R (upd H1 d (.dK kvs)):=fun H1 R sx h1 k=>by
   refine⟨d,o,_,h1,fun o' v' e=>(by rw[hd]at e;cases e),k _ fun b u e=>?_⟩
   by_cases hb:b=d
   ·subst hb;rw[hd]at e;cases e;exact af
   ·rw[ax hb];exact sx b u hb e
  generalize upd H d (.fe o (.dK (lN t')))=H1 at QJ hd1;refine uU (fun i σ H'=>∃(v1 v2 v3 v4 v5:Option V),σ=[some (.ref d),some (.ref pz),v1,v2,v3,v4,v5]/\(∀ b u,b≠d->H b=some u->H' b=some u)/\H' d=some (.fe o (.dK (lN t')))/\((t'.take i).all fun p=>Fw t' p.2 (a7 c p.1 0 gX))=true/\i<=t'.length)
   ⟨none,none,none,none,none,rfl,QJ,hd1,rfl,V' _⟩ ?_ ?_ ?_
  ·rintro i σ H' ⟨v1,v2,v3,v4,v5,rfl,_,h2,_⟩;exact h2
  ·rintro i kv tt σ H2 hkv ⟨v1,v2,v3,v4,v5,rfl,sx2,hd2,al,il⟩ htt;obtain⟨⟨z,n⟩,hw,rfl⟩:=EJ hkv;have x8:i<t'.length:=(F'.mp hw).1;have hz:z∈ST:=hst _ (Z' hw);have st:=az.upd (o:=.tup [kV (Sum.inr z),.int n]) htt;have h3:=af (H:=H2) (a:=tt) (o:=.tup [kV (Sum.inr z),.int n]);show _;generalize upd H2 tt (.tup [kV (Sum.inr z),.int n])=H3 at st h3;refine⟨tt,_,rfl,dh.of h3,rfl,_,_,rfl,_,_,rfl,rfl,?_⟩;refine⟨_,rfl,_,rfl,z,pz,c,rfl,hz,st _ _ (sx2 _ _ npd hpz),fun l4 xs4 H4 s4 n4 h4 p4=>?_⟩;have s34:=st.trans s4;have nx:(Fw t' n (a7 c z 0 gX)=true)->((t'.take (i+1)).all fun p=>Fw t' p.2 (a7 c p.1 0 gX))=true:=fun e=>qu hw al e;have no:(Fw t' n (a7 c z 0 gX)=false)->bdP c t'=false:=fun e=>qv hw e;generalize a7 c z 0 gX=ms at p4 nx no;refine⟨l4,rfl,⟨_,aX.of h4⟩,dD (K:=K) (xs:=xs4) (fun k σ H'=>∃(v4 v5 v6:Option V),σ=[some (.ref d),some (.ref pz),some (.str z),some (.int n),v4,v5,v6]/\(∀ b u,b≠d->H b=some u->H' b=some u)/\H' d=some (.fe o (.dK (lN t')))/\H' l4=some (.lst xs4)/\Paired (KO K H') xs4 ms/\((ms.take k).all fun m=>zX t' m.2.2 (n+m.2.1))=true/\k<=ms.length)
    ⟨v3,v4,v5,rfl,fun b u hb e=>s34 _ _ (sx2 b u hb e),s34 _ _ hd2,h4,p4,rfl,V' _⟩ ?_ ?_ ?_⟩
   ·rintro k σ H' _ ⟨v4,v5,v6,rfl,_,_,h5,_⟩;exact aX.of h5
   ·rintro k y σ H5 hy ⟨v4,v5,v6,rfl,x9,we,hm5,p5,RU,kl⟩;obtain⟨mm,hm,p,qq,rfl,hp,hqq⟩:=gL p5 hy;have kl2:k<ms.length:=(F'.mp hm).1;refine⟨p,_,rfl,dh.of hp,rfl,_,_,rfl,_,_,rfl,_,_,rfl,rfl,?_⟩;tm_up;refine⟨d,mm.2.2,n+mm.2.1,t',rfl,.inr ⟨o,we⟩,?_⟩;tm_up;cases e:zX t' mm.2.2 (n+mm.2.1) with
    |true =>
     refine c9 ⟨_,_,_,rfl,x9,we,hm5,p5,qu hm RU e,kl2⟩
    |false =>
     refine dj ?_;tm_up;exact thw _ _ x9 we fun H' s=>by
      have:=no (qv (f:=fun m:Mv=>zX t' m.2.2 (n+m.2.1)) hm e);rw[<-this];exact q H' s
   ·rintro σ H5 ⟨v4,v5,v6,rfl,x9,we,hm5,p5,RU,kl⟩;rw[cO p5,take_length]at RU;exact⟨_,_,_,_,_,rfl,x9,we,nx RU,x8⟩
  ·rintro σ H5 ⟨v1,v2,v3,v4,v5,rfl,x9,we,al,_⟩;rw[uX,take_length]at al;refine thw _ _ x9 we fun H' s=>?_;tm_up;have:=q H' s;rw[show bdP c t'=true from al]at this;exact this
def CO (K:Frag):Sp:=fun vs H Q _=>∃(l k:Addr)(xs:List V)(t:Nb),vs=[.ref l,.ref k]/\H l=some (.lst xs)/\Paired (Qi H) xs t/\t.length<=900/\H k=some (.lst (ST.map V.str))/\∀ H',az H H'->Q (.bl (Fx t)) H'
theorem CP (T:Txt K w mg t):bK P w K mg base ig (0+1) t.du t.mJ ["pairs","known"] (CO K):=by
 refine T.gG.ok rC (fun vs H Q E h=>?_) (fun cdv A outer s H vs Q E hr h=>?_)
 ·obtain⟨_,_,_,_,rfl,_⟩:=h;rfl
 ·obtain⟨l,kn,xs,t',rfl,hl,hxs,tl,hk,q⟩:=h;refine aR (ag (qk (i:=2) rC.nd rfl rfl (cn:=["state","number"]) rfl (bZ.of rfl) (cq (pv 0)) (fun _=>(cU rfl (aG (aC (i:=0) oi rfl (Or.inl rfl)) (aG (aC (i:=1) oi rfl (Or.inl rfl)) bQ)))) (fun _=>md) (fun _=>(pv 0))) (aj (ay (br (jF (bf (aL.or (aE (aw hr))) (aV ZQ rfl T.eU eF (aa (di (ZP rfl) rfl T.ajv ajr (aa (pv 2) ao)) ao)) (aV (aZ.or a5) rfl T.eU eF (aa (pv 2) ao)) (au _)) (iY (aV xC rfl T.NL Kx (aa (nY (cn:=["state"]) rfl (bZ.of rfl) (cq (pv 2)) (fun _=>(aC (i:=0) xP rfl (Or.inl rfl))) (fun _=>md) (fun _=>(bf (bh.or bg) (pv 0) (pv 2) rfl))) ao)))))))) ?_;refine⟨_,rfl,_,rfl,⟨_,aX.of hl⟩,fun D b hD=>?_⟩;refine jL (K:=K) (xs:=xs) (fun i ys σ H'=>∃ v1 v2 v3,σ=[v1,v2,some (.ref l),some (.ref kn),v3]/\az H H'/\H' D=some (.lst ys)/\ys=((t'.take i).map (·.1)).map V.str) ⟨none,none,none,rfl,az.upd hD,af,rfl⟩ ?_ ?_ ?_
  ·rintro i ys σ H' ⟨v1,v2,v3,rfl,s8,_⟩;exact aX.of (s8 _ _ hl)
  ·rintro i ys x σ H' hx ⟨v1,v2,v3,rfl,s8,h8,rfl⟩ N hN;obtain⟨⟨z,n⟩,hn,p,rfl,hp⟩:=gL hxs hx;have il:i<t'.length:=(F'.mp hn).1;refine⟨p,_,rfl,dh.of (s8 _ _ hp),rfl,_,_,rfl,_,_,rfl,rfl,?_⟩;tm_up;refine⟨h8,aS (by rw[O',O',length_take];omega),hN _ _ _ ⟨_,_,_,rfl,cK s8 hD,af,?_⟩⟩;rw[take_succ,hn,map_append,map_append];rfl
  ·rintro ys σ H1 ⟨v1,v2,v3,rfl,s1,h1,rfl⟩;rw[cO hxs,take_length]at h1;generalize hns:t'.map (·.1)=ns at h1;have nl:ns.length<=900:=by rw[<-hns,O'];exact tl
   refine⟨fun v H'=>v=.bl (Fx t')/\az H H',?_,fun v H' ⟨e,s⟩=>by rw[e];exact q H' s⟩;have e1:Fx t'=(decide ns.Nodup&&ns.all fun z=>decide (z∈ST)):=by
    unfold Fx;rw[<-hns,List.all_map];rfl
   refine⟨_,rfl,D,ns,rfl,aX.of h1,nl,fun a ha=>?_⟩;have s2:=az.upd (o:=af7 P w a ((ns.map Sum.inr).reverse)) ha;refine⟨a,_,rfl,af,by rw[List.length_reverse,O'];exact nl,?_⟩;have h2:=s2 _ _ h1;have S2:=s1.trans s2;refine⟨_,rfl,.inl ⟨D,_,rfl,.inl (aX.of h2),.inl ⟨rfl,_,rfl,?_⟩⟩⟩;have e2:decide (V.int ((KA ((ns.map (Sum.inr:Str->Key)).reverse)).length:Int)=V.int ((ns.map V.str).length:Int))=decide ns.Nodup:=by
    rw[intD,<-ddS ns,O',Bool.eq_iff_iff,decide_eq_true_iff,decide_eq_true_iff];exact Int.ofNat_inj
   rw[e2];refine aM (fun h=>?_) (fun h=>⟨by rw[e1,P'.mpr h];rfl,S2⟩);rw[e1,h,Bool.true_and];refine⟨_,rfl,D,rfl,⟨_,aX.of h2⟩,fun D2 b2 hD2=>?_⟩;refine jL (K:=K) (xs:=ns.map V.str) (fun i ys σ H'=>∃ v,σ=[v,some (.ref l),some (.ref kn),some (.ref D)]/\az _ H'/\H' D2=some (.lst ys)/\ys=((ns.take i).map fun z=>decide (z∈ST)).map V.bl) ⟨none,rfl,az.upd hD2,af,rfl⟩ ?_ ?_ ?_
   ·rintro i ys σ H' ⟨v,rfl,s8,_⟩;exact aX.of (s8 _ _ h2)
   ·rintro i ys x σ H' hx ⟨v,rfl,s8,h8,rfl⟩ N hN;obtain⟨z,hz,rfl⟩:=xH hx;have il:i<ns.length:=(F'.mp hz).1;refine fH ?_;refine⟨_,rfl,_,rfl,.inl ⟨kn,_,rfl,.inl (aX.of (s8 _ _ (S2 _ _ hk))),rfl,rfl,?_⟩⟩;refine⟨h8,aS (by rw[O',O',length_take];omega),hN _ _ _ ⟨_,rfl,cK s8 hD2,af,?_⟩⟩;rw[take_succ,hz,map_append,map_append];show _++[V.bl (inV (.str z) (ST.map V.str))]=_;rw[ac4];rfl
   ·rintro ys σ H8 ⟨v,rfl,s8,h8,rfl⟩;rw[O',take_length]at h8;refine⟨rfl,D2,_,rfl,aX.of h8,?_,S2.trans s8⟩;rw[List.all_map];rfl
theorem agU {α:Type}{xs:List α}{j:Nat}{v:α}(h:xs[j]? = some v)(hl:xs.length=j+1):atI xs (-1)=some v:=by
 unfold atI;have e:ixN xs.length (-1)=some j:=by
  unfold ixN;rw[hl]
  first
  |(rw[L' (by decide),R' (by omega)];congr 1;omega)
  |(simp;omega)
 rw[e];exact h
def aet (K:Frag):Sp:=fun vs H Q _=>∃(wl pz pp:Addr)(b:Int)(c:dN)(o:Option Int)(ws xs:List V)(qs:List (Int×Int)) (ts:List Nb),vs=[.ref wl,.ref pz,fo o,.ref pp,.int b]/\H wl=some (.lst ws)/\xF H ws qs/\Wsh qs/\qs.length<=800/\H pz=some (.tup [fo c.1,fo c.2.1,fo c.2.2])/\H pp=some (.lst xs)/\Paired (RwK H) xs ts/\ts.length<=900/\(∀ t∈ts,t.length<=900) /\
 ∀ H',az H H'->Q (.bl (hdB c b o qs ts)) H'
theorem aeu (T:Txt K w mg t):bK P w K mg base ig (0+7) t.qH t.EL ["wishes","prices","bound","paper","begin"] (aet K):=by
 have aev:=aaz (P:=P) (base:=base) T;have CQ:=Ax (P:=P) (base:=base) T;have tY:=Ay (P:=P) (base:=base) T;have ox:=tV (P:=P) (base:=base) T;have vg:=tX (P:=P) (base:=base) T;have qQ:=pE (P:=P) (base:=base) T;have Gd:=CP (P:=P) (base:=base) T;refine T.qM.ok sS (fun vs H Q E h=>?_) (fun cdv A outer s H vs Q E hr h=>?_)
 ·obtain⟨_,_,_,_,_,_,_,_,_,_,rfl,_⟩:=h;rfl
 ·obtain⟨wl,pz,pp,b,c,o,ws,xs,qs,ts,rfl,hwl,hqs,hW,ql,hpz,hpp,hxs,tl,tls,q⟩:=h;refine aR (ag (aK (i:=5) sS.nd rfl (Or.inr rfl) (PN aev (hr.mono (by decide)) rfl T.aag T.tM.kp T.FT .nil aQ)) (ag (aO (a8 (PW.pt (ij (ar (l9.or (iw (aw hr))) (aV (aZ.or a5) rfl T.eU eF (aa (pv 3) ao)) (aJ (a9.or (aF.or ba)) (aV (aZ.or a5) rfl T.eU eF (aa (pv 0) ao)) ai) (au _)) (eB (eC (bB (aV xC rfl T.NL Kx (aa (nY (cn:=["pairs"]) rfl (bZ.of rfl) (cq (pv 3)) (fun _=>(aC (i:=0) Fz rfl (Or.inl rfl))) (fun _=>md) (fun _=>(aA Gd (hr.mono (by decide)) rfl T.Cs T.gG.kp T.mW .nil aQ (aa (pv 0) (aa (pv 6) ao))))) ao)))))))) (aj (ay ez)) aB) (ag (qk (i:=6) sS.nd rfl rfl (cn:=["pairs"]) rfl (bZ.of rfl) (cq (pv 3)) (fun _=>(aC (i:=0) Fz rfl (Or.inl rfl))) (fun _=>md) (fun _=>(acz (cn:=["state","number"]) rfl (bZ.of rfl) (cq (pv 0)) (fun _=>(cU rfl (aG (aC (i:=0) FA rfl (Or.inl rfl)) (aG (aC (i:=1) FA rfl (Or.inl rfl)) bQ)))) (fun _=>md) (fun _=>(pv 0)) (fun _=>(pv 1))))) (ag (aO (eC (bB (aA tY (hr.mono (by decide)) rfl T.An T.mV.kp T.tN .nil aQ (aa (aI aD (pv 6) ai (fun _ _=>rfl)) (aa (aA ox (hr.mono (by decide)) rfl T.tG T.dS.kp T.kA .nil aQ (aa (pv 4) ao)) (aa ai ao)))))) (aj (ay ez)) aB) (ag (aO (eC (bB (aV xC rfl T.NL Kx (aa (nY (cn:=["numbers"]) rfl (bZ.of rfl) (cq (pv 6)) (fun _=>(aC (i:=0) VT rfl (Or.inl rfl))) (fun _=>md) (fun _=>(aA qQ (hr.mono (by decide)) rfl T.pe T.cf.kp T.eT .nil aQ (aa (pv 0) (aa (pv 2) ao))))) ao)))) (aj (ay ez)) aB) (ag (bW PassesOwn.never rfl (afT rfl T.NM (pv 0)) (cU rfl (aG (aC (i:=7) sS.nd rfl (Or.inl rfl)) (aG (aC (i:=8) sS.nd rfl (Or.inl rfl)) bQ))) (aj (aO (eC (bB (aA vg (hr.mono (by decide)) rfl T.tO T.c7.kp T.hX .nil aQ (aa (aI aD (pv 6) (pv 7) (fun _ _=>rfl)) (aa (aI aD (pv 6) (aJ (a9.or (aF.or ba)) (pv 7) ai) (fun _ _=>rfl)) (aa (pv 8) (aa (pv 1) ao))))))) (aj (ay ez)) aB))) (aj (ay (aA CQ (hr.mono (by decide)) rfl T.Am T.fi.kp T.kU .nil aQ (aa (aI aD (pv 6) (ab2 R0 ai) (fun _ _=>rfl)) (aa (pv 2) ao))))))))))) ?_;refine hZ fun N hN=>?_;tm_up;refine⟨rfl,fun kn H1 s1 n1 h1=>hN _ _ ?_⟩;clear hN N;have wl2:ws.length=qs.length:=cO hqs;have xl:xs.length=ts.length:=cO hxs;refine hZ fun N hN=>?_;refine⟨fun b H'=>b=(!decide (ts.length=qs.length+1) || !ts.all Fx)/\az H1 H',?_,?_⟩
  ·tm_up;refine .inl ⟨pp,xs,rfl,.inl (aX.of (s1 _ _ hpp)),?_⟩;tm_up;refine .inl ⟨wl,ws,rfl,.inl (aX.of (s1 _ _ hwl)),?_⟩;tm_up;rw[intD];have el:decide ((xs.length:Int)=(ws.length:Int)+1)=decide (ts.length=qs.length+1):=by
    rw[xl,wl2,Bool.eq_iff_iff,decide_eq_true_iff,decide_eq_true_iff];omega
   rw[el];generalize decide (ts.length=qs.length+1)=lb;cases lb with
   |false=>exact dj ⟨rfl,az.refl _⟩
   |true =>
    refine c9 ?_;rw[Bool.not_true,Bool.false_or];refine⟨_,rfl,pp,rfl,⟨_,aX.of (s1 _ _ hpp)⟩,fun D b' hD=>?_⟩;refine jL (K:=K) (xs:=xs) (fun i ys σ H'=>∃ v1 v2 v3 v4,σ=[v1,some (.ref wl),some (.ref pz),some (fo o),some (.ref pp),some (.int b),some (.ref kn),v2,v3,v4]/\az H1 H'/\H' D=some (.lst ys)/\ys=((ts.take i).map Fx).map V.bl) ⟨none,none,none,none,rfl,az.upd hD,af,rfl⟩ ?_ ?_ ?_
    ·rintro i ys σ H' ⟨v1,v2,v3,v4,rfl,s8,_⟩;exact aX.of (s8 _ _ (s1 _ _ hpp))
    ·rintro i ys x σ H' hx ⟨v1,v2,v3,v4,rfl,s8,h8,rfl⟩ N hN;obtain⟨t',ht,r,zs,rfl,hr,hzs⟩:=gL hxs hx;have il:i<ts.length:=(F'.mp ht).1;have S8:=s1.trans s8;refine fH ?_;tm_up;refine⟨r,kn,zs,t',rfl,S8 _ _ hr,bC (fun _ _ ⟨p,e,h⟩=>⟨p,e,S8 _ _ h⟩) hzs,tls _ (Z' ht),s8 _ _ h1,fun H9 s9=>?_⟩;have h9:=s9 _ _ h8;refine⟨h9,aS (by rw[O',O',length_take];omega),hN _ _ _ ⟨_,_,_,_,rfl,cK (s8.trans s9) hD,af,?_⟩⟩;rw[take_succ,ht,map_append,map_append];rfl
    ·rintro ys σ H8 ⟨v1,v2,v3,v4,rfl,s8,h8,rfl⟩;rw[xl,take_length]at h8;refine⟨rfl,D,_,rfl,aX.of h8,?_⟩;tm_up;rw[List.all_map];exact⟨rfl,s8⟩
  rintro _ H2 ⟨rfl,s2⟩;refine aM (fun h=>?_) (fun h=>hN _ _ ?_)
  ·tm_up;have e:hdB c b o qs ts=false:=by
    unfold hdB;rcases Bool.or_eq_true _ _ ▸ h with h|h
    ·have:decide (ts.length=qs.length+1)=false:=by
      cases e:decide (ts.length=qs.length+1) with
      |false=>rfl
      |true=>rw[e]at h;cases h
     rw[this];rfl
    ·have:ts.all Fx=false:=by
      cases e:ts.all Fx with
      |false=>rfl
      |true=>rw[e]at h;cases h
     rw[this,Bool.false_and,Bool.and_false]
   rw[<-e];exact q H2 (s1.trans s2)
  clear hN N;have h:=P'.mpr h;rw[Bool.or_eq_false_iff]at h;have hl:decide (ts.length=qs.length+1)=true:=by
   cases e:decide (ts.length=qs.length+1) with
   |true=>rfl
   |false=>rw[e]at h;cases h.1
  have hal:ts.all Fx=true:=by
   cases e:ts.all Fx with
   |true=>rfl
   |false=>rw[e]at h;cases h.2
  clear h;have S2:=s1.trans s2;refine hZ fun N hN=>?_
  suffices hN':∀(L:Addr)(ys:List V)(H':Hp),az H H'->H' L=some (.lst ys)->Paired (TbK H (fun _=>True) H') ys ts->N [some (.ref wl),some (.ref pz),some (fo o),some (.ref pp),some (.int b),some (.ref kn),some (.ref L),none,none] H' by
   refine⟨_,rfl,pp,rfl,⟨_,aX.of (S2 _ _ hpp)⟩,fun D b' hD=>?_⟩;have nD:H D=none:=S2.free hD;refine jL (K:=K) (xs:=xs) (fun i ys σ H'=>∃ v1,σ=[v1,some (.ref wl),some (.ref pz),some (fo o),some (.ref pp),some (.int b),some (.ref kn),none,none,none]/\az H H'/\H' D=some (.lst ys)/\Paired (TbK H (fun _=>True) H') ys (ts.take i)) ⟨none,rfl,S2.trans (az.upd hD),af,.nil⟩ ?_ ?_ ?_
   ·rintro i ys σ H' ⟨v1,rfl,s8,_⟩;exact aX.of (s8 _ _ hpp)
   ·rintro i ys x σ H3 hx ⟨v1,rfl,s3,h3,p3⟩ N hN;obtain⟨t',ht,r,zs,rfl,hr,hzs⟩:=gL hxs hx;have il:i<ts.length:=(F'.mp ht).1;have tl':=tls _ (Z' ht);have hnm:=all_eq_true.mp hal _ (Z' ht);unfold Fx at hnm;rw[Bool.and_eq_true,decide_eq_true_iff]at hnm;refine fH ?_;refine⟨_,rfl,r,rfl,⟨_,aX.of (s3 _ _ hr)⟩,fun D2 b2 hD2=>?_⟩;have nD2:H D2=none:=s3.free hD2;refine Sn (K:=K) (xs:=zs) (fun j σ H'=>∃ v1 v2,σ=[v1,v2,some (.ref r),some (.ref wl),some (.ref pz),some (fo o),some (.ref pp),some (.int b),some (.ref kn),none,none,none]/\(∀ b u,b≠D2->H3 b=some u->H' b=some u)/\H' D2=some (.dK (lN (t'.take j)))) ⟨none,none,rfl,fun b u hb e=>by rw[ax hb];exact e,af⟩ ?_ ?_ ?_
    ·rintro j σ H' ⟨v1,v2,rfl,sx,_⟩;exact aX.of (sx _ _ (aN hr nD2) (s3 _ _ hr))
    ·rintro j x σ H4 hx4 ⟨v1,v2,rfl,sx4,d4⟩ N' hN';obtain⟨⟨z,n⟩,hz,p,rfl,hp⟩:=gL hzs hx4;have jl:j<t'.length:=(F'.mp hz).1;refine⟨p,_,rfl,dh.of (sx4 _ _ (aN hp nD2) (s3 _ _ hp)),rfl,_,_,rfl,_,_,rfl,rfl,?_⟩;tm_up;have hg:gN (t'.take j) z=none:=EK.mpr fun hm=>by
      have e1:t'.take (j+1)=t'.take j++[(z,n)]:=by rw[take_succ,hz];rfl
      have e2:(t'.map (·.1))=((t'.take (j+1)).map (·.1))++((t'.drop (j+1)).map (·.1)):=by rw[<-map_append,List.take_append_drop]
      have e:=hnm.1;rw[e2,e1,map_append]at e;exact(List.nodup_append.mp (List.nodup_append.mp e).1).2.2 z hm z (mem_singleton.mpr rfl) rfl
     refine⟨_,Sum.inr z,rfl,d4,aS (by rw[uX,length_take];omega),hN' _ _ ⟨_,_,rfl,fun b u hb e=>by rw[ax hb];exact sx4 b u hb e,?_⟩⟩;rw[af,YA hg,take_succ,hz];rfl
    ·rintro σ H4 ⟨v1,v2,rfl,sx4,d4⟩;rw[cO hzs,take_length]at d4;have nDD:D≠D2:=aN h3 hD2;have h4:=sx4 _ _ nDD h3;have s4:az H H4:=fun b u e=>sx4 b u (aN e nD2) (s3 b u e);refine⟨h4,aS (by rw[cO p3,length_take];omega),hN _ _ _ ⟨_,rfl,cK s4 nD,af,?_⟩⟩;have et:ts.take (i+1)=ts.take i++[t']:=by rw[take_succ,ht];rfl
     rw[et];exact lE (bC (fun _ _ ⟨d',e,a,n,h⟩=>⟨d',e,trivial,n,by rw[ax (fun z=>by rw[z,h3]at h;cases h)];exact sx4 _ _ (aN h hD2) h⟩) p3) ⟨D2,rfl,trivial,nD2,by rw[ax (Ne.symm nDD)];exact d4⟩
   ·rintro ys σ H8 ⟨v1,rfl,s8,h8,p8⟩;rw[xl,take_length]at p8;exact hN' D ys H8 s8 h8 p8
  intro L ys H3 s3 h3 p3;refine hN _ _ ?_;clear hN N s2 S2 h1 n1 s1;have yl:ys.length=ts.length:=cO p3;have eh:hdB c b o qs ts=(zX (ts.headD []) (HE b) 0&&(ts.all (bdP c)&&((List.range qs.length).all (fun i=>Z7 c (ts.getD i []) (ts.getD (i+1) []) (qs.getD i (0,0)))&&rcB (ts.getD qs.length []) o))):=by
   unfold hdB;rw[hl,hal];rfl
  have hl:=M' hl;rw[eh]at q;clear eh;refine hZ fun N hN=>?_;tm_up;obtain⟨t0,tr,ets⟩:∃ a r,ts=a::r:=by
   cases ts with
   |nil=>simp at hl
   |cons a r=>exact⟨a,r,rfl⟩
  obtain⟨y0,hy0⟩:∃ y,ys[0]? = some y:=⟨_,G' (by omega)⟩;obtain⟨t0',ht0,d0,rfl,_,nd0,hd0⟩:=gL p3 hy0;have e0:ts.headD []=t0':=by
   rw[ets]at ht0 ⊢;cases ht0;rfl
  refine Su (aX.of h3) (n:=0) rfl hy0 ?_;tm_up;refine⟨d0,HE b,0,t0',rfl,.inl hd0,?_⟩;tm_up;rw[e0]at q;generalize zX t0' (HE b) 0=cb at q;cases cb with
  |false =>
   refine dj ?_;tm_up;exact q H3 s3
  |true =>
   rw[Bool.true_and]at q;refine c9 (hN _ _ ?_);clear hN N;have hst:∀ t'∈ts,∀ p∈t',p.1∈ST:=fun t' ht p hp=>by
    have:=all_eq_true.mp hal _ ht;unfold Fx at this;rw[Bool.and_eq_true]at this;exact M' (all_eq_true.mp this.2 p hp)
   refine hZ fun N hN=>?_;tm_up;refine⟨⟨_,aX.of h3⟩,fun D b' hD=>?_⟩;have nD:H D=none:=s3.free hD;refine jL (K:=K) (xs:=ys) (fun i zs σ H'=>∃ v1,σ=[v1,some (.ref wl),some (.ref pz),some (fo o),some (.ref pp),some (.int b),some (.ref kn),some (.ref L),none,none]/\az H3 H'/\H' D=some (.lst zs)/\zs=((ts.take i).map (bdP c)).map V.bl) ⟨none,rfl,az.upd hD,af,rfl⟩ ?_ ?_ ?_
   ·rintro i zs σ H' ⟨v1,rfl,s8,_⟩;exact aX.of (s8 _ _ h3)
   ·rintro i zs x σ H4 hx ⟨v1,rfl,s4,h4,rfl⟩ N hN;obtain⟨t',ht,d,rfl,_,nd,hd⟩:=gL p3 hx;have il:i<ts.length:=(F'.mp ht).1;refine fH ?_;tm_up;refine⟨d,pz,c,t',rfl,s4 _ _ hd,hst _ (Z' ht),s4 _ _ (s3 _ _ hpz),fun H9 s9=>?_⟩;have h9:=s9 _ _ h4;refine⟨h9,aS (by rw[O',O',length_take];omega),hN _ _ _ ⟨_,rfl,cK (s4.trans s9) hD,af,?_⟩⟩;rw[take_succ,ht,map_append,map_append];rfl
   ·rintro zs σ H4 ⟨v1,rfl,s4,h4,rfl⟩;rw[yl,take_length]at h4;refine⟨rfl,D,_,rfl,aX.of h4,?_⟩;tm_up;rw[List.all_map];show(if(!ts.all (bdP c))=true then _ else _);generalize ts.all (bdP c)=cb at q;have S4:=s3.trans s4;cases cb with
    |false =>
     refine dj ?_;tm_up;exact q H4 S4
    |true =>
     rw[Bool.true_and]at q;refine c9 (hN _ _ ?_);clear hN N;have apn:=S4 _ _ hwl;refine⟨_,rfl,wl,rfl,⟨_,aX.of apn⟩,acu (K:=K) (xs:=ws) (fun i σ H'=>∃(v1 v2:Option V),σ=[some (.ref wl),some (.ref pz),some (fo o),some (.ref pp),some (.int b),some (.ref kn),some (.ref L),v1,v2]/\az H3 H'/\(List.range i).all (fun i=>Z7 c (ts.getD i []) (ts.getD (i+1) []) (qs.getD i (0,0)))=true/\i<=qs.length)
      ⟨none,none,rfl,s4,rfl,V' _⟩ ?_ ?_ ?_⟩
     ·rintro i σ H' ⟨v1,v2,rfl,s5,_⟩;exact aX.of (s5 _ _ (s3 _ _ hwl))
     ·rintro i x τ σ H5 hx ⟨v1,v2,rfl,s5,RU,il⟩ hτ;obtain⟨qq,hq,wp,rfl,Za⟩:=gL hqs hx;have x8:i<qs.length:=(F'.mp hq).1;have s6:=az.upd (o:=.tup [.int (i:Int),.ref wp]) hτ;have h6:=af (H:=H5) (a:=τ) (o:=.tup [.int (i:Int),.ref wp]);generalize upd H5 τ (.tup [.int (i:Int),.ref wp])=H6 at s6 h6;have s36:=s5.trans s6;obtain⟨y1,hy1⟩:∃ y,ys[i]? = some y:=⟨_,G' (by omega)⟩;obtain⟨t1,ht1,d1,rfl,_,nd1,hd1⟩:=gL p3 hy1;obtain⟨y2,hy2⟩:∃ y,ys[i+1]? = some y:=⟨_,G' (by omega)⟩;obtain⟨t2,ht2,d2,rfl,_,nd2,hd2⟩:=gL p3 hy2;have hWq:=hW _ (Z' hq);have ee:Z7 c (ts.getD i []) (ts.getD (i+1) []) (qs.getD i (0,0))=Z7 c t1 t2 (qq.1,qq.2):=by
       rw[X',ht1,X',ht2,X',hq];rfl
      refine⟨τ,_,rfl,dh.of h6,rfl,_,_,rfl,_,_,rfl,rfl,?_⟩;tm_up;refine Su (aX.of (s36 _ _ h3)) (n:=i) (by omega) hy1 ?_;tm_up;refine Su (aX.of (s36 _ _ h3)) (n:=i+1) (by omega) hy2 ?_;tm_up;refine⟨d1,d2,wp,pz,qq.1,qq.2,c,t1,t2,rfl,s36 _ _ hd1,s36 _ _ hd2,hst _ (Z' ht1),s36 _ _ (s3 _ _ Za),hWq.1,hWq.2,s36 _ _ (s3 _ _ hpz),fun H7 s7=>?_⟩;tm_up;have S7:=s36.trans s7;cases e:Z7 c t1 t2 (qq.1,qq.2) with
      |true =>
       refine c9 ⟨_,_,rfl,S7,?_,x8⟩;rw[List.range_succ,List.all_append,RU];show(true&&(Z7 c (ts.getD i []) (ts.getD (i+1) []) (qs.getD i (0,0))&&true))=true;rw[ee,e];rfl
      |false =>
       refine dj ?_;tm_up;have e2:(List.range qs.length).all (fun i=>Z7 c (ts.getD i []) (ts.getD (i+1) []) (qs.getD i (0,0)))=false:=qv (i:=i) (x:=i) (by rw[List.getElem?_range (by omega)]) (ee.trans e);rw[e2]at q;exact q H7 (s3.trans S7)
     ·rintro σ H5 ⟨v1,v2,rfl,s5,RU,il⟩;rw[wl2]at RU;rw[RU,Bool.true_and]at q;tm_up;obtain⟨y1,hy1⟩:∃ y,ys[qs.length]? = some y:=⟨_,G' (by omega)⟩;obtain⟨t1,ht1,d1,rfl,_,nd1,hd1⟩:=gL p3 hy1;have ee:ts.getD qs.length []=t1:=by rw[X',ht1];rfl
      rw[ee]at q;refine .inl ⟨L,ys,-1,_,rfl,rfl,aX.of (s5 _ _ h3),agU hy1 (by omega),?_⟩;tm_up;exact⟨d1,o,t1,rfl,s5 _ _ hd1,hst _ (Z' ht1),tls _ (Z' ht1),fun H' s'=>q H' ((s3.trans s5).trans s')⟩
def l24:List Kd:=[.G,.G,.G,.G,.G,.s,.s,.s,.s,.s,.s,.s,.s,.s,.d,.d,.r,.r,.D,.R,.dot,.dot,.three,.two]
theorem amq:(Str.ofString "GGGGGsssssssssddrrDR..32").cps.toList=l24.map Kd.cp:=by lk
theorem QT (k:Kd):vd k.str "GDsd"=k.kQ:=by cases k <;> decide +kernel
def aew (s:Sg):Prop:=(s.1.kQ=true->0<=s.2/\s.2<100)/\(s.1.kQ=false->s.2=0)
def N7:Sp:=fun vs H Q _=>∃ m:Int,vs=[.int m]/\∀(p:Addr)(s:Sg),aew s->H p=none->Q (.ref p) (upd H p (.tup [.str s.1.str,.int s.2]))
theorem N8 (T:Txt K w mg t):bK P w K mg base ig (0+1) t.gA t.tf ["_law_number"] N7:=by
 refine T.kL.ok xM (fun vs H Q E h=>?_) (fun cdv A outer s H vs Q E hr h=>?_)
 ·obtain⟨_,rfl,_⟩:=h;rfl
 ·obtain⟨m,rfl,q⟩:=h;refine aR (ag (aK (i:=1) xM.nd rfl (Or.inl rfl) (aI aD av (aJ dv (pv 0) ai) (fun _ _=>rfl))) (ag (aO (ar (bh.or bg) (pv 1) av rfl) (aj (ay (bY (aa (pv 1) (aa (aJ dv (aJ lH (pv 0) ai) ai) ao))))) aB) (aj (ay (bY (aa (pv 1) (aa ai ao))))))) ?_;obtain⟨k,hk⟩:∃ k,l24[(m % 24).toNat]? = some k:=by
   have h1:(m % 24).toNat<l24.length:=by
    show _<24;omega
   exact⟨_,G' h1⟩
  have hat:atI (Str.ofString "GGGGGsssssssssddrrDR..32").cps.toList (m % 24)=some k.cp:=by
   have e0:m % 24=(((m % 24).toNat:Nat):Int):=by omega
   rw[e0,amq];exact xq (by rw[getElem?_map,hk];rfl)
  refine⟨_,rfl,_,_,rfl,rfl,(by decide:(0:Int)<24),.inr (.inr ⟨_,_,_,rfl,rfl,(by lk),hat,?_⟩)⟩;rw[<-ak1 k];tm_up;refine aM (fun h=>?_) (fun h=>?_)
  ·have h4:k.kQ=true:=by rw[<-QT];exact h
   tm_up;refine⟨(by show 2<=sizeLine;decide),fun p hp=>?_⟩;exact q p (k,m / 24 % 100) ⟨fun _=>by show 0<=m / 24 % 100/\m / 24 % 100<100;omega,fun z=>by rw[h4]at z;cases z⟩ hp
  ·have h4:k.kQ=false:=by
    rw[<-QT];exact P'.mpr h
   tm_up;refine⟨(by show 2<=sizeLine;decide),fun p hp=>?_⟩;exact q p (k,0) ⟨(fun z=>by rw[h4]at z;cases z),fun _=>rfl⟩ hp
def N9 (K:Frag):Sp:=fun vs H Q _=>∃(a:Addr)(ns:List Int)(k m:Nat),vs=[.ref a,.int (k:Int),.int (m:Int)]/\aX K H a (ns.map V.int)/\ns.length<=63/\m<=60 /\
 ∀(l:Addr)(ms:List Int)(H':Hp),az H H'->H' l=some (.lst (ms.map V.int))->ms.length<=60->(∀ x∈ms,0<=x)->Q (.ref l) H'
theorem Oa (T:Txt K w mg t):bK P w K mg base ig (0+2) t.gB t.tj ["_law_script","_law_at","_law_many"] (N9 K):=by
 have cm:=qP (P:=P) (base:=base) T;have pC:=wg (P:=P) (base:=base) T;refine T.kM.ok i6 (fun vs H Q E h=>?_) (fun cdv A outer s H vs Q E hr h=>?_)
 ·obtain⟨_,_,_,_,rfl,_⟩:=h;rfl
 ·obtain⟨a,ns,k,m,rfl,hS,hl,hm,q⟩:=h;refine aR (ag (aK (i:=3) i6.nd rfl (Or.inr rfl) (aA cm (hr.mono (by decide)) rfl T.cL T.bN.kp T.ck .nil aQ (aa (pv 0) (aa (pv 1) ao)))) (ag (aO (ar rB (pv 3) (aJ ab3 ai ai) (au _)) (aj (ay (nY (cn:=["_law_k"]) rfl (bZ.of rfl) (jG rfl T.mX (aa (pv 2) ao)) (fun _=>(aC (i:=0) Cn rfl (Or.inl rfl))) (fun _=>md) (fun _=>(aA pC (hr.mono (by decide)) rfl T.v8 T.j1.kp T.pb .nil aQ (aa (aJ (a9.or (aF.or ba)) (pv 4) (aJ (vC.or vD) ai (aA cm (hr.mono (by decide)) rfl T.cL T.bN.kp T.ck .nil aQ (aa (pv 1) (aa (aJ (a9.or (aF.or ba)) (aJ (a9.or (aF.or ba)) (pv 2) ai) (pv 0)) ao))))) (aa (pv 0) ao))))))) aB) (ag (aK (i:=4) i6.nd rfl (Or.inl rfl) (aJ l8 (pv 3) (aJ ab3 ai ai))) (ag (aK (i:=5) i6.nd rfl (Or.inl rfl) (c8 ao)) (ag (ET PassesOwn.never (a8 (PW.pt (bu (ar Jw (pv 4) ai (au _)) (bM (ar rB (aV (aZ.or a5) rfl T.eU eF (aa (pv 5) ao)) ai (au _)))))) (ag (bX (ik plainAttrs_list slot_list_append type_list_append bj (pv 5) (aa (aJ dv (pv 4) ai) ao))) (aj (aK (i:=4) i6.nd rfl (Or.inl rfl) (aJ lH (pv 4) ai))))) (aj (ay (pv 5)))))))) ?_;refine⟨_,rfl,_,rfl,a,ns,k,rfl,hS,hl,?_⟩;refine⟨_,rfl,_,_,rfl,rfl,⟨by decide,by decide,by decide⟩,_,_,rfl,rfl,_,rfl,?_⟩;refine aM (fun _=>?_) (fun _=>?_)
  ·refine⟨_,rfl,(m:Int),rfl,(by omega),(by omega),fun D b hD=>?_⟩;refine Sd (lo:=0) (n:=((m:Int)).toNat) (fun i ys σ H'=>∃(v:Option V)(ms:List Int),σ=[v,some (.ref a),some (.int (k:Int)),some (.int (m:Int)),some (.int (mZ ns k)),none,none]/\H'=upd H D (.lst ys)/\ys=ms.map V.int/\ms.length=i/\∀ x∈ms,0<=x) ⟨none,[],rfl,rfl,rfl,rfl,fun _ h=>nomatch h⟩ ?_ ?_
   ·rintro i ys σ H' hi ⟨v,ms,rfl,rfl,rfl,hlen,hpos⟩ N hN;refine fH ?_;refine⟨_,rfl,_,rfl,_,rfl,.inl ⟨_,_,rfl,rfl,_,rfl,.inl ⟨_,_,rfl,rfl,a,ns,k+1+i,?_,xB hS hD,hl,.inl ⟨_,_,rfl,rfl,.inl ⟨by decide,by decide⟩,?_⟩⟩⟩⟩
    ·show [V.ref a,V.int ((k:Int)+1+(0+(i:Int)))]=[V.ref a,V.int ((k+1+i:Nat):Int)];have e:(k:Int)+1+(0+(i:Int))=((k+1+i:Nat):Int):=by omega
     rw[e]
    ·refine .inl ⟨_,_,rfl,rfl,_,rfl,_,_,rfl,fun r h0 h1=>⟨af,?_,?_⟩⟩
     ·rw[O'];exact aS (by omega)
     ·refine hN _ _ _ ⟨some _,ms++[r],rfl,iX,by simp,by simp[hlen],fun x hx=>?_⟩;rcases mem_append.mp hx with z|z
      ·exact hpos x z
      ·have:x=r:=by simpa using z
       omega
   ·rintro ys σ H' ⟨v,ms,rfl,rfl,rfl,hlen,hpos⟩;exact q D ms _ (az.upd hD) af (by omega) hpos
  ·refine⟨_,rfl,_,_,rfl,rfl,⟨by decide,by decide,by decide⟩,_,_,rfl,rfl,(by decide),fun l hl0=>?_⟩;refine⟨fun mm σ H'=>∃(left:Int)(ms:List Int),σ=[some (.ref a),some (.int (k:Int)),some (.int (m:Int)),some (.int (mZ ns k)),some (.int left),some (.ref l)]/\H'=upd H l (.lst (ms.map V.int))/\mm=60-ms.length/\ms.length<=60/\∀ x∈ms,0<=x,
    ⟨60,_,[],rfl,rfl,rfl,V' _,fun _ h=>nomatch h⟩,?_⟩
   rintro mm σ H' ⟨left,ms,rfl,rfl,rfl,hlen,hpos⟩;refine dP (decide (0<left)&&decide ((ms.length:Int)<60)) ?_ ?_
   ·refine⟨_,rfl,_,_,rfl,rfl,_,rfl,?_⟩;refine aM (fun h=>?_) (fun h=>?_)
    ·refine⟨_,rfl,.inl ⟨l,_,rfl,.inl (aX.of af),_,_,rfl,rfl,_,rfl,?_⟩⟩;rw[O'];exact⟨by rw[h,Bool.true_and],rfl⟩
    ·exact⟨by rw[P'.mpr h];rfl,rfl⟩
   refine aM (fun h60=>?_) (fun _=>?_)
   ·have arW:ms.length<60:=by
     have:=M' (Bool.and_eq_true_iff.mp h60).2;omega
    refine⟨fun σ' H'=>∃ m',m'<60-ms.length/\∃(left:Int)(ms:List Int),σ'=[some (.ref a),some (.int (k:Int)),some (.int (m:Int)),some (.int (mZ ns k)),some (.int left),some (.ref l)]/\H'=upd H l (.lst (ms.map V.int))/\m'=60-ms.length/\ms.length<=60/\∀ x∈ms,0<=x,fun _ _ h=>h,?_⟩;refine⟨_,rfl,.inl ⟨rfl,_,aX.of af⟩,_,rfl,_,_,rfl,rfl,(by decide:(0:Int)<2400),l,_,_,rfl,rfl,af,(by rw[O'];exact aS (by omega)),_,rfl,_,_,rfl,rfl,⟨by decide,by decide⟩,60-(ms.length+1),by omega,_,ms++[left % 2400],rfl,?_,by simp,by simp;omega,fun x hx=>?_⟩
    ·rw[iX,map_append];rfl
    ·rcases mem_append.mp hx with z|z
     ·exact hpos x z
     ·have:x=left % 2400:=by simpa using z
      omega
   ·exact⟨_,rfl,q l ms _ (az.upd hl0) af (by omega) hpos⟩
def aaB (K:Frag):Sp:=fun vs H Q _=>∃(a:Addr)(ns:List Int)(k m:Nat),vs=[.ref a,.int (k:Int),.int (m:Int)]/\aX K H a (ns.map V.int)/\ns.length<=63/\m<=60 /\
 ∀(l:Addr)(xs:List V)(ss:List Sg)(H':Hp),az H H'->H l=none->H' l=some (.lst xs)->ZT H' xs ss->(∀ s∈ss,aew s)->ss.length<=60->Q (.ref l) H'
theorem aaC (T:Txt K w mg t):bK P w K mg base ig (0+3) t.mK t.FJ ["_law_script","_law_at","_law_many"] (aaB K):=by
 have QU:=N8 (P:=P) (base:=base) T;have QV:=Oa (P:=P) (base:=base) T;refine T.tS.ok aac (fun vs H Q E h=>?_) (fun cdv A outer s H vs Q E hr h=>?_)
 ·obtain⟨_,_,_,_,rfl,_⟩:=h;rfl
 ·obtain⟨a,ns,k,m,rfl,hS,hl,hm,q⟩:=h;refine aR (aj (ay (nY (cn:=["_law_number"]) rfl (bZ.of rfl) (cq (aA QV (hr.mono (by decide)) rfl T.NK T.kM.kp T.tR .nil aQ (aa (pv 0) (aa (pv 1) (aa (pv 2) ao))))) (fun _=>(aC (i:=0) Nw rfl (Or.inl rfl))) (fun _=>md) (fun _=>(aA QU (hr.mono (by decide)) rfl T.NJ T.kL.kp T.tQ .nil aQ (aa (pv 0) ao)))))) ?_;refine⟨_,rfl,_,rfl,_,rfl,a,ns,k,m,rfl,hS,hl,hm,fun l ms H1 s1 hl1 hlen hpos=>⟨l,rfl,⟨_,aX.of hl1⟩,fun D b hD=>?_⟩⟩;refine jL (K:=K) (xs:=ms.map V.int) (fun i ys σ H'=>∃(v:Option V)(ss:List Sg),σ=[v,some (.ref a),some (.int (k:Int)),some (.int (m:Int))]/\az H1 H'/\H' D=some (.lst ys)/\ZT H' ys ss/\ss.length=i/\i<=ms.length/\∀ s∈ss,aew s)
   ⟨none,[],rfl,az.upd hD,af,.nil,rfl,V' _,fun _ h=>nomatch h⟩ ?_ ?_ ?_
  ·rintro i ys σ H' ⟨v,ss,rfl,s2,_⟩;exact s2.seq (aX.of hl1)
  ·rintro i ys x σ H' hx ⟨v,ss,rfl,s2,hDl,hsg,hsl,hi,hg⟩ N hN;have hil:i<ms.length:=by
    have:=(F'.mp hx).1;rw[O']at this;exact this
   obtain⟨z,hz,rfl⟩:=acO hx;refine fH ?_;refine⟨_,rfl,z,rfl,fun p s gs hp=>⟨az.upd hp _ _ hDl,?_,?_⟩⟩
   ·rw[cO hsg,hsl];exact aS (by omega)
   ·have hD4:=az.upd (o:=.tup [.str s.1.str,.int s.2]) hp _ _ hDl;refine hN _ _ _ ⟨_,ss++[s],rfl,cK (s2.trans (az.upd hp)) hD,af,lE (ajh hD4 (hsg.same (az.upd hp))) (ahQ hD4 ⟨p,rfl,af⟩),by simp[hsl],hil,fun y hy=>?_⟩;rcases mem_append.mp hy with z|z
    ·exact hg y z
    ·have:y=s:=by simpa using z
     rw[this];exact gs
  ·rintro ys σ H' ⟨v,ss,rfl,s2,hDl,hsg,hsl,hi,hg⟩;refine q D ys ss H' (s1.trans s2) (s1.free hD) hDl hsg hg ?_;rw[hsl,O'];omega
def Wo:Sp:=fun vs H Q _=>∃ n:Int,vs=[.int n]/\Q (.bl true) H
theorem Wq (T:Txt K w mg t):bK P w K mg base ig (0+1) t.jZ t.Ad ["_law_found"] Wo:=by
 refine T.pf.ok VS (fun vs H Q E h=>?_) (fun cdv A outer s H vs Q E hr h=>?_)
 ·obtain⟨_,rfl,_⟩:=h;rfl
 ·obtain⟨n,rfl,q⟩:=h;refine aR (aj (ay (br (jF (aV me rfl T.dU dO (aa (pv 0) (aa (qi (v:=.ty "int") rfl T.wb vF rfl) ao))) (iY (aiu (aV me rfl T.dU dO (aa (pv 0) (aa (qi (v:=.ty "bool") rfl T.agB afR rfl) ao))))))))) ?_;refine fG (.bl true) ?_ q;exact⟨_,rfl,_,_,_,_,rfl,oH.int _,rfl,_,rfl,dj ⟨_,rfl,_,_,_,_,rfl,oH.int _,rfl,_,rfl,bA rfl⟩⟩
def Wr (K:Frag):Sp:=fun vs H Q _=>∃(pp:Addr)(xs:List V)(ts:List Nb),vs=[.ref pp]/\H pp=some (.lst xs)/\Paired (RwK H) xs ts/\Q (.bl true) H
theorem Ws (T:Txt K w mg t):bK P w K mg base ig (0+2) t.j0 t.Ae ["_law_paper_here"] (Wr K):=by
 have aaD:=Wq (P:=P) (base:=base) T;refine T.ph.ok vM (fun vs H Q E h=>?_) (fun cdv A outer s H vs Q E hr h=>?_)
 ·obtain⟨_,_,_,rfl,_⟩:=h;rfl
 ·obtain⟨pp,xs,ts,rfl,hp,hxs,q⟩:=h;refine aR (ag (aO (eC (bB (aV me rfl T.dU dO (aa (pv 0) (aa (qi (v:=.ty "list") rfl T.xX xA rfl) ao))))) (aj (ay ez)) aB) (ag (bW PassesOwn.never rfl (cq (pv 0)) (aC (i:=1) vM.nd rfl (Or.inl rfl)) (ag (aO (eC (bB (aV me rfl T.dU dO (aa (pv 1) (aa (qi (v:=.ty "list") rfl T.xX xA rfl) ao))))) (aj (ay ez)) aB) (aj (bW PassesOwn.never rfl (cq (pv 1)) (aC (i:=2) vM.nd rfl (Or.inl rfl)) (ag (aO (a8 (PW.pt (ij (eC (bB (aV me rfl T.dU dO (aa (pv 2) (aa (qi (v:=.ty "tuple") rfl T.FW E2 rfl) ao))))) (eB (ar (l9.or (iw (aw hr))) (aV (aZ.or a5) rfl T.eU eF (aa (pv 2) ao)) ai (au _)))))) (aj (ay ez)) aB) (aj (aO (a8 (PW.pt (ij (eC (bB (aV me rfl T.dU dO (aa (aI aD (pv 2) ai (fun _ _=>rfl)) (aa (qi (v:=.ty "str") rfl T.ad4 acq rfl) ao))))) (eB (eC (bB (aA aaD (hr.mono (by decide)) rfl T.V3 T.pf.kp T.Ao .nil aQ (aa (aI aD (pv 2) ai (fun _ _=>rfl)) ao)))))))) (aj (ay ez)) aB))))))) (aj (ay ez)))) ?_;tm_up;refine⟨_,_,_,_,rfl,oH.lst hp,rfl,_,rfl,c9 ?_⟩;refine⟨_,rfl,pp,rfl,⟨_,aX.of hp⟩,dD (K:=K) (xs:=xs) (fun i σ H'=>∃(v1 v2:Option V),σ=[some (.ref pp),v1,v2]/\H'=H) ⟨none,none,rfl,rfl⟩ ?_ ?_ ?_⟩
  ·rintro i σ H' _ ⟨v1,v2,rfl,rfl⟩;exact aX.of hp
  ·rintro i x σ H' hx ⟨v1,v2,rfl,rfl⟩;obtain⟨t',ht,r,zs,rfl,hr,hzs⟩:=gL hxs hx;tm_up;refine⟨_,_,_,_,rfl,oH.lst hr,rfl,_,rfl,c9 ?_⟩;refine⟨_,rfl,r,rfl,⟨_,aX.of hr⟩,dD (K:=K) (xs:=zs) (fun i σ H1=>∃(v2:Option V),σ=[some (.ref pp),some (.ref r),v2]/\H1=H') ⟨v2,rfl,rfl⟩ ?_ ?_ ?_⟩
   ·rintro i σ H1 _ ⟨v2,rfl,rfl⟩;exact aX.of hr
   ·rintro j y σ H1 hy ⟨v2,rfl,rfl⟩;obtain⟨⟨z,n⟩,hz,p,rfl,hp1⟩:=gL hzs hy;refine dP false ?_ (c9 ?_)
    ·tm_up;refine⟨_,_,_,_,rfl,oH.tup hp1,rfl,_,rfl,c9 ?_⟩;tm_up;refine .inl ⟨p,_,rfl,.inr (dh.of hp1),?_⟩;tm_up;exact⟨rfl,rfl⟩
    ·refine dP false ?_ (c9 ⟨_,rfl,rfl⟩);tm_up;refine⟨_,_,_,_,rfl,oH.str _,rfl,_,rfl,c9 ?_⟩;tm_up;exact⟨rfl,rfl⟩
   ·rintro σ H1 ⟨v2,rfl,rfl⟩;exact⟨_,_,rfl,rfl⟩
  ·rintro σ H' ⟨v1,v2,rfl,rfl⟩;tm_up;exact q
theorem Ge (z:Str):∀ ws:List Wy,gN (cN ws) z=(bR ws z).map (·.1)
 |[]=>rfl
 |w::t=>by
  show(if w.1=z then some w.2.1 else gN (cN t) z)=((if w.1=z then some w.2 else bR t z)).map (·.1)
  by_cases e:w.1=z
  ·rw[R' e,R' e];rfl
  ·rw[L' e,L' e,Ge z t]
theorem Wu {ws:List Wy}{z:Str}{m:Int}(h:Lw ws z m):zX (cN ws) z m=true:=by
 obtain⟨q,e,l⟩:=h;unfold zX;rw[Ge,e];exact W' l
theorem aaE {B:Nat}{ws:List Wy}(h:fq B ws):Fx (cN ws)=true:=by
 refine Zd ?_ ?_
 ·unfold cN;rw[List.map_map];exact h.nd
 ·intro x hx;obtain⟨w,hw,rfl⟩:=mem_map.mp hx;exact h.st w hw
theorem agV {B:Nat}{ws:List Wy}(h:fq B ws){w:Wy}(hw:w∈ws):∃ q,bR ws w.1=some q/\q.1=w.2.1:=by
 have e:=ac3 (z:=w.1) (n:=w.2.1) (t:=cN ws) (by unfold cN;rw[List.map_map];exact h.nd) (mem_map.mpr ⟨w,hw,rfl⟩);rw[Ge]at e;obtain⟨q,e1,e2⟩:=Option.map_eq_some_iff.mp e;exact⟨q,e1,e2⟩
theorem aaF {c:dN}(hc:HF c){B:Nat}{ws:List Wy}(h:fq B ws):bdP c (cN (withPart c ws))=true:=by
 have h2:=sQ (c:=c) h;refine all_eq_true.mpr fun p hp=>?_;obtain⟨w,hw,rfl⟩:=mem_map.mp hp;obtain⟨q,e1,e2⟩:=agV h2 hw;refine all_eq_true.mpr fun m hm=>Wu ?_;have:=Cf hc h w.1 (h2.st w hw) q e1 m hm;rw[e2]at this;exact this
theorem aaG {c:dN}{ws:List Wy}(q:Int×Int):Z7 c (cN ws) (cN (withPart c (oN c ws q))) q=true:=by
 refine all_eq_true.mpr fun p hp=>?_;obtain⟨w,hw,rfl⟩:=mem_map.mp hp;refine all_eq_true.mpr fun m hm=>Wu (vn ?_);exact B3 hw hm
theorem aex {c:dN}{u:Nb}{n:Int}{z:Str}{w:Option (Int×Int)}{ss:List Sg}(hs:∀ k∈lwK w,∃ s∈ss,s.1=k)(h:Fw u n (a7 c z (lwN w) ss)=true):caB u n (lmL c z w)=true:=by
 refine all_eq_true.mpr fun m hm=>?_;obtain⟨k,hk,e⟩:=List.mem_filterMap.mp hm;obtain⟨s,hs,rfl⟩:=hs k hk;unfold vf at e;cases e1:costOf c s.1 with
 |none=>rw[e1]at e;cases e
 |some x =>
  cases e2:stQ z s.1 (lwN w) with
  |none=>rw[e1,e2]at e;cases e
  |some y =>
   rw[e1,e2]at e;cases e;exact all_eq_true.mp h (s,x,y) (List.mem_filterMap.mpr ⟨s,hs,by unfold KN;rw[e1,e2]⟩)
theorem agW:∀ k∈lwK none,∃ s∈gX,s.1=k:=by decide
theorem agX {q:Int×Int}(h:-1<=q.1):∀ k∈lwK (some q),∃ s∈dX q.1,s.1=k:=by
 intro k hk;unfold lwK at hk;dsimp only at hk;unfold dX;split at hk
 ·rw[R' (by omega)];simp at hk;rcases hk with rfl|rfl <;> simp
 ·rw[L' (by omega)];simp at hk;rcases hk with rfl|rfl|rfl|rfl <;> simp
theorem ajJ {c:dN}{b:Int}{o:Option Int}{qs:List (Int×Int)}{ts:List Nb}(hb:HE b=PD b)(hq:∀ q∈qs,-1<=q.1)(h:hdB c b o qs ts=true):lhB c b o qs ts=true:=by
 unfold hdB at h;simp only [Bool.and_eq_true,decide_eq_true_iff]at h;obtain⟨h1,h2,h3,h4,h5,h6⟩:=h;unfold lhB;simp only [Bool.and_eq_true,decide_eq_true_iff];refine⟨h2,h1,by rw[<-hb];exact h3,all_eq_true.mpr fun k hk=>all_eq_true.mpr fun p hp=>?_⟩;have hk:k<ts.length:=mem_range.mp hk;have ek:ts.getD k []=ts[k]:=by rw[X',G' hk];rfl
 have hp4:=all_eq_true.mp (all_eq_true.mp h4 _ (List.getElem_mem hk)) p (by rw[<-ek];exact hp);unfold rwB;rw[Bool.and_eq_true];refine⟨by rw[ek];exact aex agW hp4,?_⟩;split
 ·rename_i hkq
  have h5:=all_eq_true.mp (all_eq_true.mp h5 k (mem_range.mpr hkq)) p hp;have eq:qs.getD k (0,0)=qs[k]:=by rw[X',G' hkq];rfl
  rw[eq]at h5 ⊢;exact aex (agX (hq _ (List.getElem_mem hkq))) h5
 ·have:k=qs.length:=by omega
  subst this;cases e:iI p.1 with
  |false=>rfl
  |true =>
   have hm:p.2∈jC (ts.getD qs.length []):=mem_map.mpr ⟨p,List.mem_filter.mpr ⟨hp,e⟩,rfl⟩;cases o with
   |none =>
    have h6:(jC (ts.getD qs.length [])).isEmpty=true:=h6;rw[List.isEmpty_iff.mp h6]at hm;cases hm
   |some m =>
    have h6:((jC (ts.getD qs.length [])).all fun n=>decide (m<=n))=true:=h6;have:=M' (all_eq_true.mp h6 _ hm);show(!(true&&decide (p.2<m)))=true;rw[i' (by omega)];rfl
theorem QW (c:dN)(b:Int)(qs:List (Int×Int))(i:Nat):(ml c b qs i).length=i+1:=by unfold ml;rw[O',length_range]
theorem ya (c:dN)(b:Int)(qs:List (Int×Int)){i j:Nat}(h:j<=i):(ml c b qs i).getD j []=cN (gY c b (qs.take j)):=by
 unfold ml;rw[X',getElem?_map,List.getElem?_range (by omega)];rfl
theorem Wv (c:dN)(b:Int){qs:List (Int×Int)}(hW:Wsh qs)(j:Nat):∃(B:Nat)(ws:List Wy),fq B ws/\gY c b (qs.take j)=withPart c ws:=by
 rcases snoc_cases (qs.take j) with e|⟨l,x,e⟩
 ·rw[e];exact⟨0,[(HE b,0,[])],⟨by simp,fun w hw=>by rw[mem_singleton.mp hw];exact SH b,fun w hw=>by rw[mem_singleton.mp hw];exact C' _⟩,rfl⟩
 ·have hx:=hW x (List.mem_of_mem_take (by rw[e];simp):x∈qs);have hl:l=qs.take l.length:=by
   have h1:l <+: qs.take j:=by rw[e];exact List.prefix_append _ _
   exact List.prefix_iff_eq_take.mp (h1.trans (List.take_prefix _ _))
  rw[e,qp];have h0:=kG (c:=c) (b:=b) hW l.length;rw[<-hl]at h0;exact⟨_,_,sP hx.1 hx.2 h0,rfl⟩
theorem ajK {c:dN}(hc:HF c){b:Int}{qs:List (Int×Int)}(hW:Wsh qs){o:Option Int}(ho:rcB (cN (gY c b qs)) o=true):hdB c b o qs (ml c b qs qs.length)=true:=by
 have mem:∀ t∈ml c b qs qs.length,∃ j,t=cN (gY c b (qs.take j)):=fun t ht=>by
  obtain⟨j,_,rfl⟩:=mem_map.mp ht;exact⟨j,rfl⟩
 unfold hdB;simp only [Bool.and_eq_true,decide_eq_true_iff];refine⟨QW ..,all_eq_true.mpr fun t ht=>?_,?_,all_eq_true.mpr fun t ht=>?_,all_eq_true.mpr fun i hi=>?_,?_⟩
 ·obtain⟨j,rfl⟩:=mem t ht;exact aaE (kG hW j)
 ·have e:(ml c b qs qs.length).headD []=(ml c b qs qs.length).getD 0 []:=by
   cases ml c b qs qs.length <;> rfl
  rw[e,ya c b qs (V' _)];refine Wu (vn ⟨(0,[]),?_,Int.le_refl _⟩);show(if HE b=HE b then some _ else _)=_;rw[R' rfl]
 ·obtain⟨j,rfl⟩:=mem t ht;obtain⟨B,ws,h1,h2⟩:=Wv c b hW j;rw[h2];exact aaF hc h1
 ·have hi:=mem_range.mp hi;rw[ya c b qs (by omega),ya c b qs (by omega)];have eq:qs.getD i (0,0)=qs[i]:=by rw[X',G' hi];rfl
  rw[eq,take_succ,G' hi];show Z7 c _ (cN (gY c b (qs.take i++[qs[i]]))) _=true;rw[qp];exact aaG _
 ·rw[ya c b qs (C' _),take_length];exact ho
theorem B6 (ws:List Wy):jC (cN ws)=(ws.filter fun w=>iI w.1).map (·.2.1):=by
 unfold jC cN;rw[List.filter_map,List.map_map];rfl
theorem agY {c:dN}{b:Int}{qs:List (Int×Int)}(h:Fm c b qs=[]):rcB (cN (gY c b qs)) none=true:=by
 show(jC _).isEmpty=true;rw[B6];unfold Fm at h;rw[h];rfl
theorem agZ {c:dN}{b:Int}{qs:List (Int×Int)}{m:Int}(h:∀ w∈Fm c b qs,m<=w.2.1):rcB (cN (gY c b qs)) (some m)=true:=by
 show((jC _).all fun n=>decide (m<=n))=true;rw[B6];refine all_eq_true.mpr fun n hn=>?_;obtain⟨w,hw,rfl⟩:=mem_map.mp hn;exact W' (h w hw)
theorem ajL {X:Cx}:sf X (compareOp .Is) (fun x y H Q=>∃ a b,x=.bl a/\y=.bl b/\Q (.bl (a==b)) H):=by
 intro pins s σ H x y v u Q I rx ry h;obtain⟨a,b,rfl,rfl,q⟩:=h;cases rx;cases ry;exact PyProof.Rows.is_bool ⟨.bl (a==b),H,I,rfl,q⟩
theorem ag0 {X:Cx}:sf X (compareOp .IsNot) (fun x y H Q=>∃ a b,x=.bl a/\y=.bl b/\Q (.bl (a != b)) H):=by
 intro pins s σ H x y v u Q I rx ry h;obtain⟨a,b,rfl,rfl,q⟩:=h;cases rx;cases ry;exact PyProof.Rows.isnot_bool ⟨.bl (a != b),H,I,rfl,q⟩
theorem HB.RS {pp:Addr}{H:Hp}{y:V}{t:Nb}(h:HB pp H y t):RwK H y t:=by
 obtain⟨l,xs,e,_,h1,h2⟩:=h;exact⟨l,xs,e,h1,h2⟩
set_option maxHeartbeats 4000000 in
theorem ajM (T:Txt K w mg t):bK P w K mg base ig (0+8) t.FK t.ad0 ["_law_script"] (xK K t.xS):=by
 have aaH:=V6 (P:=P) (base:=base) T;have Ww:=Qz (P:=P) (base:=base) T;have Wx:=QC (P:=P) (base:=base) T;have Wz:=QE (P:=P) (base:=base) T;have aaI:=We (P:=P) (base:=base) T;have cm:=qP (P:=P) (base:=base) T;have pC:=wg (P:=P) (base:=base) T;have Gg:=CN (P:=P) (base:=base) T;have aaJ:=Wm (P:=P) (base:=base) T;have Ze:=aeu (P:=P) (base:=base) T;have aey:=aaC (P:=P) (base:=base) T;have aaK:=Ws (P:=P) (base:=base) T;refine T.Y6.ok sU (fun vs H Q E h=>?_) (fun cdv A outer s H vs Q E hr h=>?_)
 ·obtain⟨a,ns,rfl,_⟩:=h;rfl
 ·obtain⟨a,ns,rfl,hS,hl,hT,q⟩:=h;refine aR (ag (aK (i:=1) sU.nd rfl (Or.inl rfl) (aA aaH (hr.mono (by decide)) rfl T.VX T.o4.kp T.Af .nil aQ (aa (aA cm (hr.mono (by decide)) rfl T.cL T.bN.kp T.ck .nil aQ (aa (pv 0) (aa ai ao))) ao))) (ag (aK (i:=2) sU.nd rfl (Or.inl rfl) (aA Ww (hr.mono (by decide)) rfl T.Qp T.mL.kp T.vW .nil aQ (aa (aA pC (hr.mono (by decide)) rfl T.v8 T.j1.kp T.pb .nil aQ (aa (aA cm (hr.mono (by decide)) rfl T.cL T.bN.kp T.ck .nil aQ (aa (pv 0) (aa ai ao))) (aa ai ao))) ao))) (ag (aK (i:=3) sU.nd rfl (Or.inl rfl) (aI aD (c8 (aa ai (aa ai ao))) (di (lL.or fj) rfl T.wb vF (aa (bf (aL.or (aE (aw hr))) (aJ dv (aJ lH (aA cm (hr.mono (by decide)) rfl T.cL T.bN.kp T.ck .nil aQ (aa (pv 0) (aa ai ao))) ai) ai) ai (au _)) ao)) (fun _ _=>rfl))) (ag (aK (i:=4) sU.nd rfl (Or.inl rfl) (aA Wx (hr.mono (by decide)) rfl T.Qq T.mM.kp T.vX .nil aQ (aa (EV (Kq.or (R6.or Sa)) (aA aey (hr.mono (by decide)) rfl T.aah T.tS.kp T.FV .nil aQ (aa (pv 0) (aa ai (aa (aJ dv (aA cm (hr.mono (by decide)) rfl T.cL T.bN.kp T.ck .nil aQ (aa (pv 0) (aa ai ao))) (aJ (a9.or (aF.or ba)) (pv 3) ai)) ao)))) Kl (Km (pv 3))) (aa (pv 1) ao)))) (ag (aK (i:=5) sU.nd rfl (Or.inl rfl) (aA Wz (hr.mono (by decide)) rfl T.Qr T.mN.kp T.vY .nil aQ (aa (pv 4) (aa (pv 1) ao)))) (ag (sA (aO (ar (aL.or (aE (aw hr))) (aJ dv (aA cm (hr.mono (by decide)) rfl T.cL T.bN.kp T.ck .nil aQ (aa (pv 0) (aa ai ao))) ai) ai (au _)) (aj (aK (i:=5) sU.nd rfl (Or.inl rfl) (aA Gg (hr.mono (by decide)) rfl T.Cr T.gF.kp T.mS .nil aQ (aa (pv 0) (aa ai (aa (aJ dv (aA cm (hr.mono (by decide)) rfl T.cL T.bN.kp T.ck .nil aQ (aa (pv 0) (aa ai ao))) ai) ao)))))) aB)) (ag (aK (i:=6) sU.nd rfl (Or.inl rfl) (aA aaI (hr.mono (by decide)) rfl T.V1 T.lZ.kp T.Ak .nil aQ (aa (di xw rfl T.xX xA (aa (pv 5) ao)) (aa (pv 2) (aa (pv 1) ao))))) (ag (aO (a8 (PW.pt (ij (eC (bB (aV me rfl T.dU dO (aa (pv 6) (aa (qi (v:=.ty "tuple") rfl T.FW E2 rfl) ao))))) (ij (ar (l9.or (iw (aw hr))) (aV (aZ.or a5) rfl T.eU eF (aa (pv 6) ao)) ai (au _)) (eB (eC (bB (aA aaK (hr.mono (by decide)) rfl T.V4 T.ph.kp T.Ap .nil aQ (aa (aI aD (pv 6) ai (fun _ _=>rfl)) ao))))))))) (aj (ay ez)) aB) (ag (aO (eC (bB (aA aaJ (hr.mono (by decide)) rfl T.V2 T.pd.kp T.Al .nil aQ (aa (pv 5) (aa (pv 2) (aa (aI aD (pv 6) ai (fun _ _=>rfl)) (aa (aI aD (pv 6) ai (fun _ _=>rfl)) (aa (pv 1) ao)))))))) (aj (ay ez)) aB) (ag (aO (a8 (PW.pt (bu (ar (aL.or (aE (aw hr))) (pv 1) ai (au _)) (bM (ar ag0 (aA Ze (hr.mono (by decide)) rfl T.Qw T.qM.kp (PB:=[.int 3]) T.FU (.cons ⟨_,rfl⟩ (.nil)) aQ (aa (pv 5) (aa (pv 2) (aa (aI aD (pv 6) ai (fun _ _=>rfl)) (aa (aI aD (pv 6) ai (fun _ _=>rfl)) ao))))) ez (au _)))))) (aj (ay ez)) aB) (aj (ay (bf ajL (aA Ze (hr.mono (by decide)) rfl T.Qw T.qM.kp T.NI .nil aQ (aa (pv 5) (aa (pv 2) (aa (aI aD (pv 6) ai (fun _ _=>rfl)) (aa (aI aD (pv 6) ai (fun _ _=>rfl)) (aa (pv 1) ao)))))) ez (au _)))))))))))))) ?_;tm_up;refine⟨a,ns,1,rfl,hS,hl,?_⟩;tm_up;refine fun b hb=>?_;have hM:Ms b:=hb;tm_up;refine⟨a,ns,2,rfl,hS,hl,?_⟩;tm_up;refine⟨_,3,rfl,fun m0 _ _=>?_⟩;refine⟨m0,rfl,fun c z H1 cb s1 n1 hz1=>?_⟩;have hS1:=s1.seq hS;have hT1:=s1 _ _ hT;refine B4 ?_;refine hZ fun N hN=>?_
  suffices hN':∀(sz:Nat)(H':Hp),(sz=12\/sz=60)->az H1 H'->N [some (.ref a),some (.int b),some (.ref z),some (.int (sz:Int)),none,none,none] H' by
   tm_up;refine⟨by show 2<=sizeLine;decide,fun L hL=>?_⟩;have sL:=az.upd (o:=.lst [V.int 12,V.int 60]) hL;tm_up;refine⟨a,ns,0,rfl,sL.seq hS1,hl,?_⟩;tm_up;refine .inl (.inr ⟨_,rfl,?_⟩);generalize decide (V.int (mZ ns 0 / 3 % 8)=V.int 1)=db;cases db with
   |false=>exact Su (aX.of af) (n:=0) rfl rfl (hN' 12 _ (.inl rfl) sL)
   |true=>exact Su (aX.of af) (n:=1) rfl rfl (hN' 60 _ (.inr rfl) sL)
  intro sz H2 hsz s2;refine hN _ _ ?_;clear hN N;have hS2:=s2.seq hS1;have hz2:=s2 _ _ hz1;have hT2:=s2 _ _ hT1;refine hZ fun N hN=>?_;tm_up;refine⟨a,ns,3,rfl,hS2,hl,?_⟩;tm_up;refine⟨by omega,?_⟩;obtain⟨m1,hm1,hm2⟩:∃ m:Nat,mZ ns 3 % ((sz:Int)+1)=(m:Int)/\m<=60:=⟨(mZ ns 3 % ((sz:Int)+1)).toNat,by have:=Int.emod_nonneg (mZ ns 3) (show((sz:Int)+1)≠0 by omega);omega,by have:=Int.emod_lt_of_pos (mZ ns 3) (show 0<((sz:Int)+1) by omega);omega⟩;rw[hm1];refine⟨a,ns,4,m1,rfl,hS2,hl,hm2,fun l0 xs0 ss0 H3 s3 n3 h3 g3 gt3 sl3=>?_⟩;tm_up;refine .inl ⟨l0,xs0,rfl,aX.of h3,fun c1 hc1=>?_⟩;rw[ahT];have s4:=az.upd (o:=.lst (xs0.take sz)) hc1;have k4:=af (H:=H3) (a:=c1) (o:=.lst (xs0.take sz));generalize upd H3 c1 (.lst (xs0.take sz))=H4 at s4 k4;tm_up;refine⟨c1,b,_,ss0.take sz,rfl,hM,k4,acN sz (g3.same s4),by rw[length_take];omega,fun l2 F3 Ih H5 s5 _ h5 g5 le5 amr ams=>?_⟩;have S5:=(s3.trans s4).trans s5;have gt5:∀ s∈Ih,s.1.kQ=true->0<=s.2/\s.2<100:=fun s hs=>(gt3 s (List.mem_of_mem_take (amr s hs))).1;have sl5:Ih.length<=60:=by rw[length_take]at le5;omega
  refine hN _ _ ?_;clear hN N;have hS5:=S5.seq hS2;have hz5:=S5 _ _ hz2;have hT5:=S5 _ _ hT2;clear hS hT hS1 hT1 hS2 hz2 hT2 s1 s2 hz1 n1 hm1 gt3 g3 h3 n3 k4 amr le5 ams hc1 s3 s4 s5 S5;refine hZ fun N hN=>?_;tm_up;refine⟨l2,b,F3,Ih,rfl,hM,h5,ve.of g5,by omega,fun f ys H6 s6 n6 h6 p6=>?_⟩;refine hN _ _ ?_;clear hN N;have hS6:=s6.seq hS5;have hz6:=s6 _ _ hz5;have hT6:=s6 _ _ hT5;refine⟨fun σ H'=>∃(f:Addr)(ys:List V)(qs:List (Int×Int)),σ=[some (.ref a),some (.int b),some (.ref z),some (.int (sz:Int)),some (.ref l2),some (.ref f),none]/\az H6 H'/\H' f=some (.lst ys)/\xF H' ys qs/\Wsh qs/\agf qs/\qs.length<=60,?_,?_⟩
  ·tm_up;refine⟨a,ns,0,rfl,hS6,hl,?_⟩;tm_up;refine aM (fun _=>?_) (fun _=>?_)
   ·tm_up;refine⟨a,ns,3,rfl,hS6,hl,?_⟩;tm_up;obtain⟨m2,hm3,hm4⟩:∃ m:Nat,mZ ns 3 % 11=(m:Int)/\m<=60:=⟨(mZ ns 3 % 11).toNat,by omega,by omega⟩;rw[hm3];refine⟨a,ns,4,m2,rfl,hS6,hl,hm4,fun f' ys' qs' H7 s7 n7 h7 p7 w7 wt7 ql7=>?_⟩;exact⟨f',ys',qs',rfl,s7,h7,p7,w7,wt7,by omega⟩
   ·exact⟨f,ys,_,rfl,az.refl _,h6,p6,Z6 (age hM _),SK gt5,Nat.le_trans (zU _ _) sl5⟩
  rintro σ H7 ⟨f,ys,qs,rfl,s7,h7,p7,hW,hWT,ql⟩;have hS7:=s7.seq hS6;have hz7:=s7 _ _ hz6;have hT7:=s7 _ _ hT6;clear hS5 hz5 hT5 hS6 hz6 hT6 s6 s7 h6 p6 n6 h5 g5 gt5 sl5;refine B4 ?_;refine hZ fun N hN=>?_
  suffices hN':∀(r pp:Addr)(x0:V)(o:Option Int)(xs:List V)(H':Hp),Gb t.xS H7 H'->H' r=some (.tup [x0,fo o,.ref pp])->H' pp=some (.lst xs)->Paired (RwK H') xs (ml c b qs qs.length)->rcB (cN (gY c b qs)) o=true->N [some (.ref a),some (.int b),some (.ref z),some (.int (sz:Int)),some (.ref l2),some (.ref f),some (.ref r)] H' by
   tm_up;refine⟨f,_,rfl,.inl (aX.of h7),fun hd hhd=>?_⟩;have s8:=az.upd (o:=.lst ys) hhd;have h8d:=af (H:=H7) (a:=hd) (o:=.lst ys);generalize upd H7 hd (.lst ys)=H8 at s8 h8d;have p8:=oM s8 p7;tm_up;refine⟨hd,z,b,c,ys,qs,rfl,aX.of h8d,p8,by omega,hW,s8 _ _ hz7,.inr ⟨#[],s8 _ _ hT7,trivial,rfl⟩,fun e r pp xs H9 s9 h9 h9p p9=>hN' r pp _ none xs H9 (s8.trans s9).toT h9 h9p (bC (fun _ _ h=>HB.RS h) p9) (agY e),fun w hw hbest r l pp zs xs H9 s9 _ h9 h9l g9 h9p p9=>hN' r pp _ (some w.2.1) xs H9 (s8.toT.trans s9) h9 h9p (bC (fun _ _ h=>HB.RS h) p9) (agZ hbest)⟩
  intro r pp x0 o xs H9 s9 hr hpp prs hrc;refine hN _ _ ?_;clear hN N;have nT:∀{b u},H7 b=some u->(∀ ps,u≠.EA ps)->b≠t.xS:=fun {b u} e n z=>by
   rw[z,hT7]at e;exact n _ (Za' e).symm
  have h9:=s9 _ _ h7 (nT h7 (fun _ z=>nomatch z));have hz9:=s9 _ _ hz7 (nT hz7 (fun _ z=>nomatch z));have p9:xF H9 ys qs:=bC (fun _ _ ⟨p,e,q⟩=>⟨p,e,s9 _ _ q (nT q (fun _ z=>nomatch z))⟩) p7;clear h7 hz7 p7 s9 hT7 nT hS7;have hd:=ajK (c:=c) cb.pos (b:=b) hW hrc;have lh:lhB c b o qs (ml c b qs qs.length)=true:=ajJ (by unfold HE PD;rcases hb with rfl|rfl <;> decide) (fun q hq=>by have:=hWT q hq;omega) hd;have tl:(ml c b qs qs.length).length<=900:=by rw[QW];omega
  have tls:∀ t∈ml c b qs qs.length,t.length<=900:=fun t ht=>by
   obtain⟨j,_,rfl⟩:=mem_map.mp ht;have:=(kG (c:=c) (b:=b) hW j).len;unfold cN;rw[O'];omega
  generalize ml c b qs qs.length=ts at hd lh tl tls prs;refine dP false ?_ (c9 ?_)
  ·tm_up;refine⟨_,_,_,_,rfl,oH.tup hr,rfl,_,rfl,c9 ?_⟩;tm_up;refine .inl ⟨_,_,rfl,.inr (dh.of hr),?_⟩;tm_up;refine .inr (.inl ⟨r,_,2,_,rfl,rfl,dh.of hr,rfl,?_⟩);tm_up;refine⟨pp,xs,ts,rfl,hpp,prs,?_⟩;exact⟨_,rfl,rfl,rfl⟩
  refine B4 ?_;tm_up;refine .inr (.inl ⟨r,_,1,_,rfl,rfl,dh.of hr,rfl,?_⟩);tm_up;refine .inr (.inl ⟨r,_,2,_,rfl,rfl,dh.of hr,rfl,?_⟩);tm_up;refine⟨f,z,pp,b,c,o,ys,xs,qs,ts,rfl,h9,p9,hW,by omega,hz9,hpp,prs,tl,tls,fun H10 Wg=>?_⟩;rw[lh];refine⟨_,rfl,c9 ?_⟩;refine B4 ?_;have amu:=Wg _ _ hr;refine⟨fun x H'=>x=false/\az H9 H',?_,?_⟩
  ·tm_up;refine aM (fun h=>?_) (fun _=>⟨rfl,Wg⟩);have hb3:b=3:=by
    have:=M' h
    injection this
   subst hb3;tm_up;refine .inr (.inl ⟨r,_,1,_,rfl,rfl,dh.of amu,rfl,?_⟩);tm_up;refine .inr (.inl ⟨r,_,2,_,rfl,rfl,dh.of amu,rfl,?_⟩);tm_up;refine⟨f,z,pp,3,c,o,ys,xs,qs,ts,rfl,Wg _ _ h9,oM Wg p9,hW,by omega,Wg _ _ hz9,Wg _ _ hpp,bC (fun _ _ h=>RwK.same Wg h) prs,tl,tls,fun H11 s11=>?_⟩;rw[hd];tm_up;exact⟨rfl,Wg.trans s11⟩
  rintro _ H11 ⟨rfl,s11⟩;refine c9 ?_;have amv:=s11 _ _ hr;tm_up;refine .inr (.inl ⟨r,_,1,_,rfl,rfl,dh.of amv,rfl,?_⟩);tm_up;refine .inr (.inl ⟨r,_,2,_,rfl,rfl,dh.of amv,rfl,?_⟩);tm_up;refine⟨f,z,pp,b,c,o,ys,xs,qs,ts,rfl,s11 _ _ h9,oM s11 p9,hW,by omega,s11 _ _ hz9,s11 _ _ hpp,bC (fun _ _ h=>RwK.same s11 h) prs,tl,tls,fun H12 s12=>?_⟩;rw[hd];tm_up;exact q _
theorem aez {us:List Value}(h:us.length=0):us=[]:=match us,h with|[],_=>rfl
theorem aif {us:List Value}(h:us.length=1):∃ a0,us=[a0]:=match us,h with|[a0],_=>⟨a0,rfl⟩
theorem lG {p:List Value->Prop}(h:∀ a0,p [a0])(us:List Value)(e:us.length=1):p us:=by obtain⟨_,rfl⟩:=aif e;exact h _
theorem amw {us:List Value}(h:(us++[]).length=1):∃ a0,us=[a0]:=aif (by rw[append_nil]at h;exact h)
theorem aih {us:List Value}(h:us.length=2):∃ a0 a1,us=[a0,a1]:=match us,h with|[a0,a1],_=>⟨a0,a1,rfl⟩
theorem pG {p:List Value->Prop}(h:∀ a0 a1,p [a0,a1])(us:List Value)(e:us.length=2):p us:=by obtain⟨_,_,rfl⟩:=aih e;exact h _ _
theorem aii {us:List Value}(h:us.length=3):∃ a0 a1 a2,us=[a0,a1,a2]:=match us,h with|[a0,a1,a2],_=>⟨a0,a1,a2,rfl⟩
theorem kO {p:List Value->Prop}(h:∀ a0 a1 a2,p [a0,a1,a2])(us:List Value)(e:us.length=3):p us:=by obtain⟨_,_,_,rfl⟩:=aii e;exact h _ _ _
theorem amx {us:List Value}(h:(us++[]).length=3):∃ a0 a1 a2,us=[a0,a1,a2]:=aii (by rw[append_nil]at h;exact h)
theorem aij {us:List Value}(h:us.length=4):∃ a0 a1 a2 a3,us=[a0,a1,a2,a3]:=match us,h with|[a0,a1,a2,a3],_=>⟨a0,a1,a2,a3,rfl⟩
theorem Zf {p:List Value->Prop}(h:∀ a0 a1 a2 a3,p [a0,a1,a2,a3])(us:List Value)(e:us.length=4):p us:=by obtain⟨_,_,_,_,rfl⟩:=aij e;exact h _ _ _ _
theorem aik {us:List Value}(h:us.length=5):∃ a0 a1 a2 a3 a4,us=[a0,a1,a2,a3,a4]:=match us,h with|[a0,a1,a2,a3,a4],_=>⟨a0,a1,a2,a3,a4,rfl⟩
theorem amy {p:List Value->Prop}(h:∀ a0 a1 a2 a3 a4,p [a0,a1,a2,a3,a4])(us:List Value)(e:us.length=5):p us:=by obtain⟨_,_,_,_,_,rfl⟩:=aik e;exact h _ _ _ _ _
theorem amz {us:List Value}(h:(us++[]).length=5):∃ a0 a1 a2 a3 a4,us=[a0,a1,a2,a3,a4]:=aik (by rw[append_nil]at h;exact h)
set_option maxHeartbeats 0 in
theorem all_mk {l:OpenLaw}{w:World}{K:Frag}{h:Heap}{mg:Str->Option Value}{fa jS iy mw jT qx mx iz iA eJ qz jU bp my b8 eL dk gu eM dm vS qC cV dn bE qD dQ i8 dq eN gw vT jV qF gx jW dr iB iC gy mF eO gz jX mG jY mH cW mI bL bq du qH xQ gA gB mK jZ j0 FK dR cX cY cI eQ bH cZ c5 df cj pH pI pJ pK pL pM pN pO pP pQ dg tZ t6 t7 ua c6 cR cS cT eR ef ei PW:Addr}(X:K.In h)(G:h.Ns mainGlobals mg)(hfa:mg "law"=some (.ref fa)){WA WB QX QY aaL aaM WC WD aeA aeB aaN aaO QZ Q0 Q3 Q4 Iu Iv aeC aeD WE WG pR pS aaP aaQ wj wk Iw Iy CS CT Ob Oc Iz IA CU CV ag1 ag2 aeE aeF Az AA CW CY rS rT aeG aeH Gh Gi CZ C0 C1 IB IC Od Oe ag3 ag4 WH WI Q5 Of Og WJ WK C2 C3 Q6 Q7 Q8 Q9 Oh Oi aaR aaS ID IE Oj Ol WL WM aaT aaU WN WO aaV aaW AB AD aaX aaY ub uc pT pU C6 C7 aeI aeJ aaZ Om Oo Oq Ot aa0 aa1 WQ WR WS WT ajN ajO Gj AE AF yc IF yd AG AH ye yf yg yh yi yj yk ym yn yo C8 C9 Dc Dd AI wm wq wt IG De Df:Option Addr}{WU Ra aa2 WV aeK aa3 Rb Rc IH aeL WW pV aa4 wu II Dg Ou IJ Dh ag5 aeM AJ Di rV aeN Gk Dj Dk IK Ov ag6 WX Rf Ow WY Dl Rg Rh Ox aa5 IL Oy WZ aa6 W0 aa7 AK aa8 ud pW Dm aeO aa9 Oz OA aba W2 W3 ajP Gn AL AM yp IM yt AN AO yu yv yw yx yy yz yA yB yC yD Dn Dp Dq Dr AQ wx wy wz IP Ds Dt:Array (Option Value)}{W4 W5 W6 W7 Gp W8 Ri Rj Rk Rl B7 Rm abb abc abd abe J4 abf W9 Xa Xb Xc Gq Xd aeP aeQ aeR aeS Rn aeT abg abh abi abj J5 abk Ro Rp Rq Rr B8 Rt Ru Rv Rw Rx B9 Ry IQ IS IT IU vt IV aeU aeV aeW aeX Rz aeY Xe Xf Xg Xh Gr Xi pX pY pZ p0 iV qa abl abm abn abo J6 abp wA wB wC wF m8 wG IW IX IY IZ vw Ja Du Dv Dw Dx rJ Dy OB OC OD OE yE OF Jb Jc Jd Je vy Jf Dz DA DB DC rK DD ag7 ag8 ag9 aha Zg ahb aeZ ae0 ae1 ae2 RA ae3 AR AS AU AV qb AW DE DF DG DH rL DI rW rX rY rZ jE sd ae4 ae5 ae6 ae7 RB ae8 Gs Gu Gv Gw ue Gx DJ DK DL DM DN rM DO Jg Jh Ji Jj vz Jk OG OH OI OJ yF OK ahc ahd ahe ahf Zh ahg Xj Xk Xl Xm wH Xn RC OL OM ON OO yG OP Xo Xp Xq Xr Gy Xs DP DQ DR DS rN DT RD RE RF RG Ca RH RI RJ RK RL Cb RM OQ OR OS OT yH OU abq abr abt abu J7 abv Jl Jm Jn Jo vA Jp OV OW OX OY yI OZ Xu Xv Xw Xx Gz Xy abw abx aby abz J8 abA Xz XA XB XC GA XD abB abC abD abE J9 abF AX AY AZ A0 qc A1 abG abH abI abJ Ka abK uf ug uh ui kP uj qd qe qf qg iW qh DU DV DW DX rO DY ae9 afa afb afc RO afd abL O0 O1 O2 O3 yJ O4 O5 O6 O7 O8 yK O9 abM abN abO abP Kb abQ XE XF XG XH GB XI XJ XM XN XO GC XQ ajQ ajR ajS ajT afe ajU:Value}{fh kH o3 GD GF GG A2 A3 A4 A5 A6 yL yM yN yO Jq Jr oj yP yQ yR ir fF dc xR A7 A8 A9 Ba Bb Bc Bd Be Bf Bg DZ D0 D1 D3 D4 D5 yS yT yU yV yW yX yY yZ y3 y4 y6 y8 y9 za zb zc zd ze zf zg zh zi zj zk zm zo zq zt zu zv D6 D7 D8 D9 Eb Ec Ed Ee Ef Eg Eh Ei wI wJ wK wL wM wN Ej Ek El Em dH:Tok}{En RP abR Js Eo Ep Bh Pa Bi Er Es Jt Et zw zx zy zA zB zC zD zE zF zG Ju Eu Ew Ex Ey Ez zH zI zJ Pb GH GI:Nat}(Bj:nsIn K mainGlobals "_law_begin"=some (some (.ref jS)))(Bl:K.lookup jS=some ⟨W4,WA,.func (fnOf "_law_begin" "_law_begin" (ak lO) (ah lO) (ae lO) .none W5 W6 W7 WB Gp W8),WU⟩)(Bm:codeIn K Gp "_law_begin"=true)(Bn:keepIn K (.ref jS)=true)(wO:nsIn K mainGlobals "_law_prices"=some (some (.ref iy)))(wQ:K.lookup iy=some ⟨Ri,QX,.func (fnOf "_law_prices" "_law_prices" (ak jM) (ah jM) (ae jM) .none Rj Rk Rl QY B7 Rm),Ra⟩)(wR:codeIn K B7 "_law_prices"=true)(wU:keepIn K (.ref iy)=true)(GJ:nsIn K mainGlobals "_law_base"=some (some (.ref mw)))(GK:K.lookup mw=some ⟨abb,aaL,.func (fnOf "_law_base" "_law_base" (ak oO) (ah oO) (ae oO) .none abc abd abe aaM J4 abf),aa2⟩)(GL:codeIn K J4 "_law_base"=true)(GN:keepIn K (.ref mw)=true)(Bo:nsIn K mainGlobals "_law_three"=some (some (.ref jT)))(Bp:K.lookup jT=some ⟨W9,WC,.func (fnOf "_law_three" "_law_three" (ak lP) (ah lP) (ae lP) .none Xa Xb Xc WD Gq Xd),WV⟩)(Bq:codeIn K Gq "_law_three"=true)(Br:keepIn K (.ref jT)=true)(Pc:nsIn K mainGlobals "_law_run"=some (some (.ref qx)))(Pd:K.lookup qx=some ⟨aeP,aeA,.func (fnOf "_law_run" "_law_run" (ak uZ) (ah uZ) (ae uZ) .none aeQ aeR aeS aeB Rn aeT),aeK⟩)(Pe:codeIn K Rn "_law_run"=true)(Pf:keepIn K (.ref qx)=true)(GO:nsIn K mainGlobals "_law_read"=some (some (.ref mx)))(GP:K.lookup mx=some ⟨abg,aaN,.func (fnOf "_law_read" "_law_read" (ak oP) (ah oP) (ae oP) .none abh abi abj aaO J5 abk),aa3⟩)(GQ:codeIn K J5 "_law_read"=true)(GR:keepIn K (.ref mx)=true)(wV:nsIn K mainGlobals "_law_firmed"=some (some (.ref iz)))(wW:K.lookup iz=some ⟨Ro,QZ,.func (fnOf "_law_firmed" "_law_firmed" (ak jN) (ah jN) (ae jN) .none Rp Rq Rr Q0 B8 Rt),Rb⟩)(wX:codeIn K B8 "_law_firmed"=true)(wY:keepIn K (.ref iz)=true)(wZ:nsIn K mainGlobals "_law_wishes"=some (some (.ref iA)))(xa:K.lookup iA=some ⟨Ru,Q3,.func (fnOf "_law_wishes" "_law_wishes" (ak jO) (ah jO) (ae jO) .none Rv Rw Rx Q4 B9 Ry),Rc⟩)(xb:codeIn K B9 "_law_wishes"=true)(xc:keepIn K (.ref iA)=true)(qR:nsIn K mainGlobals "sign_price"=some (some (.ref eJ)))(qS:K.lookup eJ=some ⟨IQ,Iu,.func (fnOf "sign_price" "sign_price" (ak gM) (ah gM) (ae gM) .none IS IT IU Iv vt IV),IH⟩)(qT:codeIn K vt "sign_price"=true)(qU:keepIn K (.ref eJ)=true)(Pg:nsIn K mainGlobals "small"=some (some (.ref qz)))(Ph:K.lookup qz=some ⟨aeU,aeC,.func (fnOf "small" "small" (ak u0) (ah u0) (ae u0) .none aeV aeW aeX aeD Rz aeY),aeL⟩)(Pj:codeIn K Rz "small"=true)(x5:keepIn K (.ref qz)=true)(Bs:nsIn K mainGlobals "parting"=some (some (.ref jU)))(Bt:K.lookup jU=some ⟨Xe,WE,.func (fnOf "parting" "parting" (ak lQ) (ah lQ) (ae lQ) .none Xf Xg Xh WG Gr Xi),WW⟩)(Bu:codeIn K Gr "parting"=true)(Bv:keepIn K (.ref jU)=true)(eW:nsIn K mainGlobals "closes_by_right_note"=some (some (.ref bp)))(eX:K.lookup bp=some ⟨pX,pR,.func (fnOf "closes_by_right_note" "closes_by_right_note" (ak bF) (ah bF) (ae bF) .none pY pZ p0 pS iV qa),pV⟩)(eY:codeIn K iV "closes_by_right_note"=true)(eZ:keepIn K (.ref bp)=true)(GU:nsIn K mainGlobals "closes"=some (some (.ref my)))(GV:K.lookup my=some ⟨abl,aaP,.func (fnOf "closes" "closes" (ak oQ) (ah oQ) (ae oQ) .none abm abn abo aaQ J6 abp),aa4⟩)(GW:codeIn K J6 "closes"=true)(GX:keepIn K (.ref my)=true)(jf:nsIn K mainGlobals "closes_by_great"=some (some (.ref b8)))(jg:K.lookup b8=some ⟨wA,wj,.func (fnOf "closes_by_great" "closes_by_great" (ak cQ) (ah cQ) (ae cQ) .none wB wC wF wk m8 wG),wu⟩)(jh:codeIn K m8 "closes_by_great"=true)(ji:keepIn K (.ref b8)=true)(qV:nsIn K mainGlobals "great_step"=some (some (.ref eL)))(qW:K.lookup eL=some ⟨IW,Iw,.func (fnOf "great_step" "great_step" (ak gO) (ah gO) (ae gO) .none IX IY IZ Iy vw Ja),II⟩)(qX:codeIn K vw "great_step"=true)(qY:keepIn K (.ref eL)=true)(m9:nsIn K mainGlobals "twofold_step"=some (some (.ref dk)))(nc:K.lookup dk=some ⟨Du,CS,.func (fnOf "twofold_step" "twofold_step" (ak dY) (ah dY) (ae dY) .none Dv Dw Dx CT rJ Dy),Dg⟩)(ng:codeIn K rJ "twofold_step"=true)(nh:keepIn K (.ref dk)=true)(uk:nsIn K mainGlobals "told_last"=some (some (.ref gu)))(um:K.lookup gu=some ⟨OB,Ob,.func (fnOf "told_last" "told_last" (ak iL) (ah iL) (ae iL) .none OC OD OE Oc yE OF),Ou⟩)(uo:codeIn K yE "told_last"=true)(uq:keepIn K (.ref gu)=true)(qZ:nsIn K mainGlobals "small_step"=some (some (.ref eM)))(q0:K.lookup eM=some ⟨Jb,Iz,.func (fnOf "small_step" "small_step" (ak gQ) (ah gQ) (ae gQ) .none Jc Jd Je IA vy Jf),IJ⟩)(q4:codeIn K vy "small_step"=true)(q5:keepIn K (.ref eM)=true)(ni:nsIn K mainGlobals "parting_step"=some (some (.ref dm)))(nj:K.lookup dm=some ⟨Dz,CU,.func (fnOf "parting_step" "parting_step" (ak dZ) (ah dZ) (ae dZ) .none DA DB DC CV rK DD),Dh⟩)(nk:codeIn K rK "parting_step"=true)(nq:keepIn K (.ref dm)=true)(XR:nsIn K mainGlobals "step"=some (some (.ref vS)))(XT:K.lookup vS=some ⟨ag7,ag1,.func (fnOf "step" "step" (ak zZ) (ah zZ) (ae zZ) .none ag8 ag9 aha ag2 Zg ahb),ag5⟩)(XU:codeIn K Zg "step"=true)(XW:keepIn K (.ref vS)=true)(Pk:nsIn K mainGlobals "moves"=some (some (.ref qC)))(Pl:K.lookup qC=some ⟨aeZ,aeE,.func (fnOf "moves" "moves" (ak u3) (ah u3) (ae u3) .none ae0 ae1 ae2 aeF RA ae3),aeM⟩)(Pm:codeIn K RA "moves"=true)(Pn:keepIn K (.ref qC)=true)(kX:nsIn K mainGlobals "parting_moves"=some (some (.ref cV)))(kY:K.lookup cV=some ⟨AR,Az,.func (fnOf "parting_moves" "parting_moves" (ak dz) (ah dz) (ae dz) .none AS AU AV AA qb AW),AJ⟩)(kZ:codeIn K qb "parting_moves"=true)(k9:keepIn K (.ref cV)=true)(nr:nsIn K mainGlobals "keep_cheaper"=some (some (.ref dn)))(nt:K.lookup dn=some ⟨DE,CW,.func (fnOf "keep_cheaper" "keep_cheaper" (ak d8) (ah d8) (ae d8) .none DF DG DH CY rL DI),Di⟩)(nu:codeIn K rL "keep_cheaper"=true)(nv:keepIn K (.ref dn)=true)(gH:nsIn K mainGlobals "with_parting_signs"=some (some (.ref bE)))(gI:K.lookup bE=some ⟨rW,rS,.func (fnOf "with_parting_signs" "with_parting_signs" (ak bS) (ah bS) (ae bS) .none rX rY rZ rT jE sd),rV⟩)(gJ:codeIn K jE "with_parting_signs"=true)(gK:keepIn K (.ref bE)=true)(Po:nsIn K mainGlobals "costs"=some (some (.ref qD)))(Pp:K.lookup qD=some ⟨ae4,aeG,.func (fnOf "costs" "costs" (ak u4) (ah u4) (ae u4) .none ae5 ae6 ae7 aeH RB ae8),aeN⟩)(Pq:codeIn K RB "costs"=true)(Pr:keepIn K (.ref qD)=true)(oy:nsIn K mainGlobals "begin_state"=some (some (.ref dQ)))(oz:K.lookup dQ=some ⟨Gs,Gh,.func (fnOf "begin_state" "begin_state" (ak fk) (ah fk) (ae fk) (.ref i8) Gu Gv Gw Gi ue Gx),Gk⟩)(oA:codeIn K ue "begin_state"=true)(oB:keepIn K (.ref dQ)=true)(jj:K.lookup i8=some ⟨DJ,CZ,.seq #[.int 3 fh] En,Dj⟩)(ny:nsIn K mainGlobals "wished_signs"=some (some (.ref dq)))(nA:K.lookup dq=some ⟨DK,C0,.func (fnOf "wished_signs" "wished_signs" (ak d9) (ah d9) (ae d9) .none DL DM DN C1 rM DO),Dk⟩)(nB:codeIn K rM "wished_signs"=true)(nC:keepIn K (.ref dq)=true)(q9:nsIn K mainGlobals "wish_moves"=some (some (.ref eN)))(ra:K.lookup eN=some ⟨Jg,IB,.func (fnOf "wish_moves" "wish_moves" (ak gR) (ah gR) (ae gR) .none Jh Ji Jj IC vz Jk),IK⟩)(rb:codeIn K vz "wish_moves"=true)(rf:keepIn K (.ref eN)=true)(ur:nsIn K mainGlobals "with_wish"=some (some (.ref gw)))(uu:K.lookup gw=some ⟨OG,Od,.func (fnOf "with_wish" "with_wish" (ak iM) (ah iM) (ae iM) .none OH OI OJ Oe yF OK),Ov⟩)(uv:codeIn K yF "with_wish"=true)(uw:keepIn K (.ref gw)=true)(XX:nsIn K mainGlobals "ends"=some (some (.ref vT)))(XY:K.lookup vT=some ⟨ahc,ag3,.func (fnOf "ends" "ends" (ak z0) (ah z0) (ae z0) .none ahd ahe ahf ag4 Zh ahg),ag6⟩)(XZ:codeIn K Zh "ends"=true)(X0:keepIn K (.ref vT)=true)(Bw:nsIn K mainGlobals "written"=some (some (.ref jV)))(l_written:K.lookup jV=some ⟨Xj,WH,.func (fnOf "written" "written" (ak lR) (ah lR) (ae lR) (.ref qF) Xk Xl Xm WI wH Xn),WX⟩)(Bx:codeIn K wH "written"=true)(By:keepIn K (.ref jV)=true)(rg:K.lookup qF=some ⟨RC,Q5,.seq #[.int 3 kH] RP,Rf⟩)(ux:nsIn K mainGlobals "_law_cell_at"=some (some (.ref gx)))(uy:K.lookup gx=some ⟨OL,Of,.func (fnOf "_law_cell_at" "_law_cell_at" (ak iN) (ah iN) (ae iN) .none OM ON OO Og yG OP),Ow⟩)(uz:codeIn K yG "_law_cell_at"=true)(uA:keepIn K (.ref gx)=true)(Bz:nsIn K mainGlobals "_law_mixed"=some (some (.ref jW)))(BA:K.lookup jW=some ⟨Xo,WJ,.func (fnOf "_law_mixed" "_law_mixed" (ak lT) (ah lT) (ae lT) .none Xp Xq Xr WK Gy Xs),WY⟩)(BB:codeIn K Gy "_law_mixed"=true)(BC:keepIn K (.ref jW)=true)(nE:nsIn K mainGlobals "_law_any_wishes"=some (some (.ref dr)))(nF:K.lookup dr=some ⟨DP,C2,.func (fnOf "_law_any_wishes" "_law_any_wishes" (ak bO) (ah bO) (ae bO) .none DQ DR DS C3 rN DT),Dl⟩)(nG:codeIn K rN "_law_any_wishes"=true)(nH:keepIn K (.ref dr)=true)(xf:nsIn K mainGlobals "_law_states"=some (some (.ref iB)))(xg:K.lookup iB=some ⟨RD,Q6,.func (fnOf "_law_states" "_law_states" (ak jP) (ah jP) (ae jP) .none RE RF RG Q7 Ca RH),Rg⟩)(xh:codeIn K Ca "_law_states"=true)(xi:keepIn K (.ref iB)=true)(xj:nsIn K mainGlobals "_law_tables"=some (some (.ref iC)))(xk:K.lookup iC=some ⟨RI,Q8,.func (fnOf "_law_tables" "_law_tables" (ak jQ) (ah jQ) (ae jQ) .none RJ RK RL Q9 Cb RM),Rh⟩)(xm:codeIn K Cb "_law_tables"=true)(xn:keepIn K (.ref iC)=true)(uB:nsIn K mainGlobals "_law_carried"=some (some (.ref gy)))(uC:K.lookup gy=some ⟨OQ,Oh,.func (fnOf "_law_carried" "_law_carried" (ak iO) (ah iO) (ae iO) .none OR OS OT Oi yH OU),Ox⟩)(uD:codeIn K yH "_law_carried"=true)(uE:keepIn K (.ref gy)=true)(GY:nsIn K mainGlobals "_law_shut"=some (some (.ref mF)))(GZ:K.lookup mF=some ⟨abq,aaR,.func (fnOf "_law_shut" "_law_shut" (ak oR) (ah oR) (ae oR) .none abr abt abu aaS J7 abv),aa5⟩)(G0:codeIn K J7 "_law_shut"=true)(G5:keepIn K (.ref mF)=true)(rh:nsIn K mainGlobals "_law_step_two"=some (some (.ref eO)))(rj:K.lookup eO=some ⟨Jl,ID,.func (fnOf "_law_step_two" "_law_step_two" (ak gS) (ah gS) (ae gS) .none Jm Jn Jo IE vA Jp),IL⟩)(rl:codeIn K vA "_law_step_two"=true)(rm:keepIn K (.ref eO)=true)(uF:nsIn K mainGlobals "_law_step_by"=some (some (.ref gz)))(uG:K.lookup gz=some ⟨OV,Oj,.func (fnOf "_law_step_by" "_law_step_by" (ak iP) (ah iP) (ae iP) .none OW OX OY Ol yI OZ),Oy⟩)(uH:codeIn K yI "_law_step_by"=true)(uI:keepIn K (.ref gz)=true)(BD:nsIn K mainGlobals "_law_moves"=some (some (.ref jX)))(BE:K.lookup jX=some ⟨Xu,WL,.func (fnOf "_law_moves" "_law_moves" (ak lU) (ah lU) (ae lU) .none Xv Xw Xx WM Gz Xy),WZ⟩)(BF:codeIn K Gz "_law_moves"=true)(BG:keepIn K (.ref jX)=true)(G6:nsIn K mainGlobals "_law_ends"=some (some (.ref mG)))(G7:K.lookup mG=some ⟨abw,aaT,.func (fnOf "_law_ends" "_law_ends" (ak oS) (ah oS) (ae oS) .none abx aby abz aaU J8 abA),aa6⟩)(G8:codeIn K J8 "_law_ends"=true)(G9:keepIn K (.ref mG)=true)(BH:nsIn K mainGlobals "_law_holds"=some (some (.ref jY)))(BI:K.lookup jY=some ⟨Xz,WN,.func (fnOf "_law_holds" "_law_holds" (ak lV) (ah lV) (ae lV) .none XA XB XC WO GA XD),W0⟩)(BJ:codeIn K GA "_law_holds"=true)(BK:keepIn K (.ref jY)=true)(Ha:nsIn K mainGlobals "states"=some (some (.ref mH)))(Hb:K.lookup mH=some ⟨abB,aaV,.func (fnOf "states" "states" (ak oT) (ah oT) (ae oT) .none abC abD abE aaW J9 abF),aa7⟩)(Hc:codeIn K J9 "states"=true)(He:keepIn K (.ref mH)=true)(la:nsIn K mainGlobals "reaches_bound"=some (some (.ref cW)))(lg:K.lookup cW=some ⟨AX,AB,.func (fnOf "reaches_bound" "reaches_bound" (ak dA) (ah dA) (ae dA) .none AY AZ A0 AD qc A1),AK⟩)(lj:codeIn K qc "reaches_bound"=true)(lr:keepIn K (.ref cW)=true)(Hf:nsIn K mainGlobals "bounds"=some (some (.ref mI)))(Hg:K.lookup mI=some ⟨abG,aaX,.func (fnOf "bounds" "bounds" (ak oU) (ah oU) (ae oU) .none abH abI abJ aaY Ka abK),aa8⟩)(Hh:codeIn K Ka "bounds"=true)(Hi:keepIn K (.ref mI)=true)(ia:nsIn K mainGlobals "bounds_wish_moves"=some (some (.ref bL)))(ib:K.lookup bL=some ⟨uf,ub,.func (fnOf "bounds_wish_moves" "bounds_wish_moves" (ak cg) (ah cg) (ae cg) .none ug uh ui uc kP uj),ud⟩)(ic:codeIn K kP "bounds_wish_moves"=true)(ie:keepIn K (.ref bL)=true)(e8:nsIn K mainGlobals "bounds_parting_moves"=some (some (.ref bq)))(e9:K.lookup bq=some ⟨qd,pT,.func (fnOf "bounds_parting_moves" "bounds_parting_moves" (ak bG) (ah bG) (ae bG) .none qe qf qg pU iW qh),pW⟩)(fb:codeIn K iW "bounds_parting_moves"=true)(fc:keepIn K (.ref bq)=true)(nI:nsIn K mainGlobals "names_states"=some (some (.ref du)))(nJ:K.lookup du=some ⟨DU,C6,.func (fnOf "names_states" "names_states" (ak ed) (ah ed) (ae ed) .none DV DW DX C7 rO DY),Dm⟩)(nK:codeIn K rO "names_states"=true)(nL:keepIn K (.ref du)=true)(Pt:nsIn K mainGlobals "holds"=some (some (.ref qH)))(Pu:K.lookup qH=some ⟨ae9,aeI,.func (fnOf "holds" "holds" (ak u5) (ah u5) (ae u5) (.ref xQ) afa afb afc aeJ RO afd),aeO⟩)(Pw:codeIn K RO "holds"=true)(Px:keepIn K (.ref qH)=true)(zK:K.lookup xQ=some ⟨abL,aaZ,.seq #[.int 3 o3] abR,aa9⟩)(uJ:nsIn K mainGlobals "_law_sign_by"=some (some (.ref gA)))(uK:K.lookup gA=some ⟨O0,Om,.func (fnOf "_law_sign_by" "_law_sign_by" (ak iQ) (ah iQ) (ae iQ) .none O1 O2 O3 Oo yJ O4),Oz⟩)(uL:codeIn K yJ "_law_sign_by"=true)(uM:keepIn K (.ref gA)=true)(uN:nsIn K mainGlobals "_law_numbers"=some (some (.ref gB)))(uO:K.lookup gB=some ⟨O5,Oq,.func (fnOf "_law_numbers" "_law_numbers" (ak iR) (ah iR) (ae iR) .none O6 O7 O8 Ot yK O9),OA⟩)(uP:codeIn K yK "_law_numbers"=true)(uQ:keepIn K (.ref gB)=true)(Hj:nsIn K mainGlobals "_law_line"=some (some (.ref mK)))(Hk:K.lookup mK=some ⟨abM,aa0,.func (fnOf "_law_line" "_law_line" (ak oV) (ah oV) (ae oV) .none abN abO abP aa1 Kb abQ),aba⟩)(Hl:codeIn K Kb "_law_line"=true)(Hm:keepIn K (.ref mK)=true)(BL:nsIn K mainGlobals "_law_whole"=some (some (.ref jZ)))(BM:K.lookup jZ=some ⟨XE,WQ,.func (fnOf "_law_whole" "_law_whole" (ak lW) (ah lW) (ae lW) .none XF XG XH WR GB XI),W2⟩)(BN:codeIn K GB "_law_whole"=true)(BO:keepIn K (.ref jZ)=true)(BP:nsIn K mainGlobals "_law_paper"=some (some (.ref j0)))(BQ:K.lookup j0=some ⟨XJ,WS,.func (fnOf "_law_paper" "_law_paper" (ak lX) (ah lX) (ae lX) .none XM XN XO WT GC XQ),W3⟩)(BR:codeIn K GC "_law_paper"=true)(BS:keepIn K (.ref j0)=true)(Zi:nsIn K mainGlobals "law"=some (some (.ref FK)))(aff:K.lookup FK=some ⟨ajQ,ajN,.func (fnOf "law" "law" (ak JX) (ah JX) (ae JX) .none ajR ajS ajT ajO afe ajU),ajP⟩)(afg:codeIn K afe "law"=true)(afh:keepIn K (.ref FK)=true)(afi:nsIn K mainGlobals "all"=some none)(X1:nsIn K mainGlobals "bool"=some none)(X2:nsIn K mainGlobals "dict"=some none)(uR:nsIn K mainGlobals "enumerate"=some none)(afj:nsIn K mainGlobals "int"=some none)(rp:nsIn K mainGlobals "isinstance"=some none)(afk:nsIn K mainGlobals "len"=some none)(X3:nsIn K mainGlobals "list"=some none)(afl:nsIn K mainGlobals "max"=some none)(afm:nsIn K mainGlobals "min"=some none)(Py:nsIn K mainGlobals "range"=some none)(afn:nsIn K mainGlobals "set"=some none)(Hn:nsIn K mainGlobals "sorted"=some none)(afo:nsIn K mainGlobals "str"=some none)(Pz:nsIn K mainGlobals "tuple"=some none)(afp:nsIn K mainGlobals "zip"=some none)(nM:nsIn K mainGlobals "SMALL_KINDS"=some (some (.ref dR)))(nN:K.lookup dR=some ⟨.type "tuple",Gj,.seq #[.str (Str.ofString "s") GD,.str (Str.ofString "d") GF,.str (Str.ofString "r") GG] Js,Gn⟩)(j4:nsIn K mainGlobals "PARTING_KINDS"=some (some (.ref cX)))(j5:K.lookup cX=some ⟨.type "tuple",AE,.seq #[.str (Str.ofString ".") A2,.str (Str.ofString "3") A3,.str (Str.ofString "2") A4] Eo,AL⟩)(j6:nsIn K mainGlobals "MEASURE_KINDS"=some (some (.ref cY)))(j7:K.lookup cY=some ⟨.type "tuple",AF,.seq #[.str (Str.ofString "3") A5,.str (Str.ofString "2") A6] Ep,AM⟩)(jk:nsIn K mainGlobals "SOUNDING_KINDS"=some (some (.ref cI)))(jm:K.lookup cI=some ⟨.type "tuple",yc,.seq #[.str (Str.ofString "G") yL,.str (Str.ofString "D") yM,.str (Str.ofString "s") yN,.str (Str.ofString "d") yO] Bh,yp⟩)(oC:nsIn K mainGlobals "DARK_KINDS"=some (some (.ref eQ)))(oD:K.lookup eQ=some ⟨.type "tuple",IF,.seq #[.str (Str.ofString "D") Jq,.str (Str.ofString "d") Jr] Pa,IM⟩)(rq:nsIn K mainGlobals "REST_TONE"=some (some (.int (-1) oj)))(jn:nsIn K mainGlobals "TWOFOLD_STATES"=some (some (.ref bH)))(jo:K.lookup bH=some ⟨.type "tuple",yd,.seq #[.str (Str.ofString "2-") yP,.str (Str.ofString "2g") yQ,.str (Str.ofString "2G") yR] Bi,yt⟩)(j8:nsIn K mainGlobals "TWOFOLD_BEGIN"=some (some (.str (Str.ofString "2-") ir)))(iD:nsIn K mainGlobals "THREEFOLD_BEGIN"=some (some (.str (Str.ofString "3n0-") fF)))(eo:nsIn K mainGlobals "SHORTENED_FROM_AHEAD"=some (some (.str (Str.ofString "3t0-") dc)))(BU:nsIn K mainGlobals "NO_RUN"=some (some (.str (Str.ofString "0-") xR)))(j9:nsIn K mainGlobals "RUNS_GOING_ON"=some (some (.ref cZ)))(ka:K.lookup cZ=some ⟨.type "tuple",AG,.seq #[.str (Str.ofString "0s") A7,.str (Str.ofString "0o") A8,.str (Str.ofString "1s") A9,.str (Str.ofString "1o") Ba,.str (Str.ofString "2s") Bb,.str (Str.ofString "2S") Bc,.str (Str.ofString "2o") Bd] Er,AN⟩)(kb:nsIn K mainGlobals "LEFTS_OF_RUNS"=some (some (.ref c5)))(kc:K.lookup c5=some ⟨.type "tuple",AH,.seq #[.str (Str.ofString "n") Be,.str (Str.ofString "w") Bf,.str (Str.ofString "h") Bg] Es,AO⟩)(nO:nsIn K mainGlobals "NEXT_COUNTS"=some (some (.ref df)))(nQ:K.lookup df=some ⟨.type "dict",none,.dict #[⟨PyData.keyHash w.params (Str.ofString "0"),.str (Str.ofString "0") D3,.str (Str.ofString "1") DZ⟩,⟨PyData.keyHash w.params (Str.ofString "1"),.str (Str.ofString "1") D4,.str (Str.ofString "2") D0⟩,⟨PyData.keyHash w.params (Str.ofString "2"),.str (Str.ofString "2") D5,.str (Str.ofString "0") D1⟩] Jt,#[]⟩)(nR:(df==sysModules)=false)(kd:nsIn K mainGlobals "TWOFOLD_STEPS"=some (some (.ref cj)))(ke:K.lookup cj=some ⟨.type "dict",none,.dict #[⟨Hd.th w.params (Str.ofString "s") 1,.ref pH,.str (Str.ofString "2-") yS⟩,⟨Hd.th w.params (Str.ofString "d") 1,.ref pI,.str (Str.ofString "2-") yT⟩,⟨Hd.th w.params (Str.ofString "r") 1,.ref pJ,.str (Str.ofString "2-") yU⟩,⟨Hd.th w.params (Str.ofString "D") 2,.ref pK,.str (Str.ofString "2-") yV⟩,⟨Hd.th w.params (Str.ofString "R") 2,.ref pL,.str (Str.ofString "2-") yW⟩,⟨Hd.th w.params (Str.ofString "G") 2,.ref pM,.str (Str.ofString "2g") yX⟩,⟨Hd.th w.params (Str.ofString "G") 3,.ref pN,.str (Str.ofString "2G") yY⟩,⟨Hd.th w.params (Str.ofString ".") 0,.ref pO,.str (Str.ofString "2-") yZ⟩,⟨Hd.th w.params (Str.ofString "2") 0,.ref pP,.str (Str.ofString "2-") y3⟩,⟨Hd.th w.params (Str.ofString "3") 0,.ref pQ,.str (Str.ofString "3n0-") y4⟩] Et,#[]⟩)(jq:K.lookup pH=some ⟨.type "tuple",ye,.seq #[.str (Str.ofString "s") y6,.int 1 y8] zw,yu⟩)(jr:K.lookup pI=some ⟨.type "tuple",yf,.seq #[.str (Str.ofString "d") y9,.int 1 za] zx,yv⟩)(js:K.lookup pJ=some ⟨.type "tuple",yg,.seq #[.str (Str.ofString "r") zb,.int 1 zc] zy,yw⟩)(jt:K.lookup pK=some ⟨.type "tuple",yh,.seq #[.str (Str.ofString "D") zd,.int 2 ze] zA,yx⟩)(ju:K.lookup pL=some ⟨.type "tuple",yi,.seq #[.str (Str.ofString "R") zf,.int 2 zg] zB,yy⟩)(jv:K.lookup pM=some ⟨.type "tuple",yj,.seq #[.str (Str.ofString "G") zh,.int 2 zi] zC,yz⟩)(jw:K.lookup pN=some ⟨.type "tuple",yk,.seq #[.str (Str.ofString "G") zj,.int 3 zk] zD,yA⟩)(jx:K.lookup pO=some ⟨.type "tuple",ym,.seq #[.str (Str.ofString ".") zm,.int 0 zo] zE,yB⟩)(jy:K.lookup pP=some ⟨.type "tuple",yn,.seq #[.str (Str.ofString "2") zq,.int 0 zt] zF,yC⟩)(jz:K.lookup pQ=some ⟨.type "tuple",yo,.seq #[.str (Str.ofString "3") zu,.int 0 zv] zG,yD⟩)(kg:(cj==sysModules)=false)(nU:nsIn K mainGlobals "GREAT_STEPS"=some (some (.ref dg)))(nV:K.lookup dg=some ⟨.type "dict",none,.dict #[⟨Hd.th w.params (Str.ofString "G") 3,.ref tZ,.str (Str.ofString "3w0-") D6⟩,⟨Hd.th w.params (Str.ofString "G") 2,.ref t6,.str (Str.ofString "3h0-") D7⟩,⟨Hd.th w.params (Str.ofString "D") 2,.ref t7,.str (Str.ofString "3n0-") D8⟩,⟨Hd.th w.params (Str.ofString "R") 3,.ref ua,.str (Str.ofString "3n0-") D9⟩] Ju,#[]⟩)(lu:K.lookup tZ=some ⟨.type "tuple",C8,.seq #[.str (Str.ofString "G") Eb,.int 3 Ec] Eu,Dn⟩)(lz:K.lookup t6=some ⟨.type "tuple",C9,.seq #[.str (Str.ofString "G") Ed,.int 2 Ee] Ew,Dp⟩)(lA:K.lookup t7=some ⟨.type "tuple",Dc,.seq #[.str (Str.ofString "D") Ef,.int 2 Eg] Ex,Dq⟩)(lB:K.lookup ua=some ⟨.type "tuple",Dd,.seq #[.str (Str.ofString "R") Eh,.int 3 Ei] Ey,Dr⟩)(nW:(dg==sysModules)=false)(kh:nsIn K mainGlobals "PARTING_SIGNS"=some (some (.ref c6)))(ki:K.lookup c6=some ⟨.type "tuple",AI,.seq #[.ref cR,.ref cS,.ref cT] Ez,AQ⟩)(iE:K.lookup cR=some ⟨.type "tuple",wm,.seq #[.str (Str.ofString ".") wI,.int 0 wJ] zH,wx⟩)(iF:K.lookup cS=some ⟨.type "tuple",wq,.seq #[.str (Str.ofString "3") wK,.int 0 wL] zI,wy⟩)(iG:K.lookup cT=some ⟨.type "tuple",wt,.seq #[.str (Str.ofString "2") wM,.int 0 wN] zJ,wz⟩)(oE:nsIn K mainGlobals "REST_SIGNS"=some (some (.ref eR)))(oF:K.lookup eR=some ⟨.type "tuple",IG,.seq #[.ref ef,.ref ei] Pb,IP⟩)(lC:K.lookup ef=some ⟨.type "tuple",De,.seq #[.str (Str.ofString "R") Ej,.int 0 Ek] GH,Ds⟩)(lD:K.lookup ei=some ⟨.type "tuple",Df,.seq #[.str (Str.ofString "r") El,.int 0 Em] GI,Dt⟩)(ft:nsIn K mainGlobals "MOST_PARTING_SIGNS"=some (some (.int 2 dH)))(ahh:Qa K mg wH PW) :
  ∃ fd:FuncData,(∀(s:Shared)(v:Value),BindsTo s fd ⟨[v],[]⟩ [("_law_script",v)])/\(∃ cv,Qa K mg cv PW)/\∀ base:Heap,K.In base->base.Ns mainGlobals mg->bK l.prog w K mg base ig 8 fa fd ["_law_script"] (xK K PW):=by
 have e:=hfa.symm.trans (mg_of X G Zi);cases e;have o4:=aU (st:=lO) Bl Bm Bn;have Af:=o4.binds (ps:=["_law_cell"]) fun _ _ _ _ _ _=>lG fun _=>rfl;have mL:=aU (st:=jM) wQ wR wU;have vW:=mL.binds (ps:=["_law_cell"]) fun _ _ _ _ _ _=>lG fun _=>rfl;have tu:=aU (st:=oO) GK GL GN;have FL:=tu.binds (ps:=["_law_line_here","_law_begin_here"]) fun _ _ _ _ _ _=>pG fun _ _=>rfl;have o5:=aU (st:=lP) Bp Bq Br;have Ag:=o5.binds (ps:=["_law_line_here","_law_begin_here"]) fun _ _ _ _ _ _=>pG fun _ _=>rfl;have xT:=aU (st:=uZ) Pd Pe Pf;have NB:=xT.binds (ps:=["_law_line_here","_law_told","_law_low","_law_high"]) fun _ _ _ _ _ _=>Zf fun _ _ _ _=>rfl;have o6:=aU (st:=oP) GP GQ GR;have xU:=o6.binds (ps:=["_law_line_here","_law_begin_here"]) fun _ _ _ _ _ _=>pG fun _ _=>rfl;have mM:=aU (st:=jN) wW wX wY;have vX:=mM.binds (ps:=["_law_line_here","_law_begin_here"]) fun _ _ _ _ _ _=>pG fun _ _=>rfl;have mN:=aU (st:=jO) xa xb xc;have vY:=mN.binds (ps:=["_law_line_here","_law_begin_here"]) fun _ _ _ _ _ _=>pG fun _ _=>rfl;have i9:=aU (st:=gM) qS qT qU;have qI:=i9.binds (ps:=["sign","prices"]) fun _ _ _ _ _ _=>pG fun _ _=>rfl;have xV:=aU (st:=u0) Ph Pj x5;have NC:=xV.binds (ps:=["sign"]) fun _ _ _ _ _ _=>lG fun _=>rfl;have o7:=aU (st:=lQ) Bt Bu Bv;have Ah:=o7.binds (ps:=["sign"]) fun _ _ _ _ _ _=>lG fun _=>rfl;have b9:=aU (st:=bF) eX eY eZ;have eS:=b9.binds (ps:=["state"]) fun _ _ _ _ _ _=>lG fun _=>rfl;have mO:=aU (st:=oQ) GV GW GX;have tw:=mO.binds (ps:=["state"]) fun _ _ _ _ _ _=>lG fun _=>rfl;have dJ:=aU (st:=cQ) jg jh ji;have ja:=dJ.binds (ps:=["state"]) fun _ _ _ _ _ _=>lG fun _=>rfl;have jb:=aU (st:=gO) qW qX qY;have qJ:=jb.binds (ps:=["state","kind","worth"]) fun _ _ _ _ _ _=>kO fun _ _ _=>rfl;have gC:=aU (st:=dY) nc ng nh;have mP:=gC.binds (ps:=["state","kind","worth"]) fun _ _ _ _ _ _=>kO fun _ _ _=>rfl;have kI:=aU (st:=iL) um uo uq;have tD:=kI.binds (ps:=["kind","count","worth"]) fun _ _ _ _ _ _=>kO fun _ _ _=>rfl;have jc:=aU (st:=gQ) q0 q4 q5;have qK:=jc.binds (ps:=["state","kind","worth"]) fun _ _ _ _ _ _=>kO fun _ _ _=>rfl;have gD:=aU (st:=dZ) nj nk nq;have mQ:=gD.binds (ps:=["state","kind","worth"]) fun _ _ _ _ _ _=>kO fun _ _ _=>rfl;have FN:=aU (st:=zZ) XT XU XW;have V0:=FN.binds (ps:=["state","sign","worth"]) fun _ _ _ _ _ _=>kO fun _ _ _=>rfl;have u7:=aU (st:=u3) Pl Pm Pn;have EM:=u7.binds (ps:=["state","signs","worth","prices"]) fun _ _ _ _ _ _=>Zf fun _ _ _ _=>rfl;have dC:=aU (st:=dz) kY kZ k9;have iu:=dC.binds (ps:=["state","prices"]) fun _ _ _ _ _ _=>pG fun _ _=>rfl;have ej:=aU (st:=d8) nt nu nv;have jd:=ej.binds (ps:=["ways","state","cost","line"]) fun _ _ _ _ _ _=>Zf fun _ _ _ _=>rfl;have bV:=aU (st:=bS) gI gJ gK;have dM:=bV.binds (ps:=["ways","prices"]) fun _ _ _ _ _ _=>pG fun _ _=>rfl;have u9:=aU (st:=u4) Pp Pq Pr;have EN:=u9.binds (ps:=["ways"]) fun _ _ _ _ _ _=>lG fun _=>rfl;have dS:=Ky (st:=fk) oz oA oB;have kA:Binds K _ ["begin"] []:=dS.binds (ds:=[]) jj rfl fun _ _ _ _ _ _ us hl=>by obtain⟨_,rfl⟩:=amw hl;exact⟨_,rfl,rfl⟩
 have tE:Binds K _ ["begin"] [.int 3 fh]:=dS.binds jj rfl fun _ _ _ _ _ _ us hl=>by have hl:us.length=0:=(by simpa using hl);obtain rfl:=aez hl;exact⟨_,rfl,rfl⟩
 have gE:=aU (st:=d9) nA nB nC;have mR:=gE.binds (ps:=["tone"]) fun _ _ _ _ _ _=>lG fun _=>rfl;have gT:=aU (st:=gR) ra rb rf;have lJ:=gT.binds (ps:=["state","wish","prices"]) fun _ _ _ _ _ _=>kO fun _ _ _=>rfl;have kJ:=aU (st:=iM) uu uv uw;have tH:=kJ.binds (ps:=["ways","wish","prices"]) fun _ _ _ _ _ _=>kO fun _ _ _=>rfl;have Aj:=aU (st:=z0) XY XZ X0;have NG:=Aj.binds (ps:=["state"]) fun _ _ _ _ _ _=>lG fun _=>rfl;have lZ:=Ky (st:=lR) l_written Bx By;have Ak:Binds K _ ["wishes","prices","begin"] []:=lZ.binds (ds:=[]) rg rfl fun _ _ _ _ _ _ us hl=>by obtain⟨_,_,_,rfl⟩:=amx hl;exact⟨_,rfl,rfl⟩
 have FO:Binds K _ ["wishes","prices","begin"] [.int 3 kH]:=lZ.binds rg rfl fun _ _ _ _ _ _ us hl=>by have hl:us.length=2:=(by simpa using hl);obtain⟨_,_,rfl⟩:=aih hl;exact⟨_,rfl,rfl⟩
 have bN:=aU (st:=iN) uy uz uA;have ck:=bN.binds (ps:=["_law_script","_law_k"]) fun _ _ _ _ _ _=>pG fun _ _=>rfl;have j1:=aU (st:=lT) BA BB BC;have pb:=j1.binds (ps:=["_law_seed","_law_k"]) fun _ _ _ _ _ _=>pG fun _ _=>rfl;have gF:=aU (st:=bO) nF nG nH;have mS:=gF.binds (ps:=["_law_script","_law_at","_law_many"]) fun _ _ _ _ _ _=>kO fun _ _ _=>rfl;have mT:=aU (st:=jP) xg xh xi;have v9:=mT.binds (ps:=[]) fun _ _ _ _ _ _ us hl=>by obtain rfl:=aez hl;rfl
 have mU:=aU (st:=jQ) xk xm xn;have wa:=mU.binds (ps:=["_law_paper_here"]) fun _ _ _ _ _ _=>lG fun _=>rfl;have iU:=aU (st:=iO) uC uD uE;have om:=iU.binds (ps:=["_law_number","_law_moves_here","_law_table"]) fun _ _ _ _ _ _=>kO fun _ _ _=>rfl;have tI:=aU (st:=oR) GZ G0 G5;have FP:=tI.binds (ps:=["_law_state","_law_kind","_law_worth"]) fun _ _ _ _ _ _=>kO fun _ _ _=>rfl;have je:=aU (st:=gS) rj rl rm;have qL:=je.binds (ps:=["_law_state","_law_kind","_law_worth"]) fun _ _ _ _ _ _=>kO fun _ _ _=>rfl;have kK:=aU (st:=iP) uG uH uI;have tK:=kK.binds (ps:=["_law_state","_law_kind","_law_worth"]) fun _ _ _ _ _ _=>kO fun _ _ _=>rfl;have l5:=aU (st:=lU) BE BF BG;have va:=l5.binds (ps:=["_law_state","_law_wish","_law_prices_here"]) fun _ _ _ _ _ _=>kO fun _ _ _=>rfl;have tL:=aU (st:=oS) G7 G8 G9;have FR:=tL.binds (ps:=["_law_state"]) fun _ _ _ _ _ _=>lG fun _=>rfl;have pd:=aU (st:=lV) BI BJ BK;have Al:=pd.binds (ps:=["_law_wishes_here","_law_prices_here","_law_bound","_law_paper_here","_law_begin_here"]) fun _ _ _ _ _ _=>amy fun _ _ _ _ _=>rfl;have tM:=aU (st:=oT) Hb Hc He;have FT:=tM.binds (ps:=[]) fun _ _ _ _ _ _ us hl=>by obtain rfl:=aez hl;rfl
 have fi:=aU (st:=dA) lg lj lr;have kU:=fi.binds (ps:=["numbers","bound"]) fun _ _ _ _ _ _=>pG fun _ _=>rfl;have mV:=aU (st:=oU) Hg Hh Hi;have tN:=mV.binds (ps:=["numbers","state","most"]) fun _ _ _ _ _ _=>kO fun _ _ _=>rfl;have c7:=aU (st:=cg) ib ic ie;have hX:=c7.binds (ps:=["numbers","following","wish","prices"]) fun _ _ _ _ _ _=>Zf fun _ _ _ _=>rfl;have cf:=aU (st:=bG) e9 fb fc;have eT:=cf.binds (ps:=["numbers","prices"]) fun _ _ _ _ _ _=>pG fun _ _=>rfl;have gG:=aU (st:=ed) nJ nK nL;have mW:=gG.binds (ps:=["pairs","known"]) fun _ _ _ _ _ _=>pG fun _ _=>rfl;have qM:=Ky (st:=u5) Pu Pw Px;have NI:Binds K _ ["wishes","prices","bound","paper","begin"] []:=qM.binds (ds:=[]) zK rfl fun _ _ _ _ _ _ us hl=>by obtain⟨_,_,_,_,_,rfl⟩:=amz hl;exact⟨_,rfl,rfl⟩
 have FU:Binds K _ ["wishes","prices","bound","paper","begin"] [.int 3 o3]:=qM.binds zK rfl fun _ _ _ _ _ _ us hl=>by have hl:us.length=4:=(by simpa using hl);obtain⟨_,_,_,_,rfl⟩:=aij hl;exact⟨_,rfl,rfl⟩
 have kL:=aU (st:=iQ) uK uL uM;have tQ:=kL.binds (ps:=["_law_number"]) fun _ _ _ _ _ _=>lG fun _=>rfl;have kM:=aU (st:=iR) uO uP uQ;have tR:=kM.binds (ps:=["_law_script","_law_at","_law_many"]) fun _ _ _ _ _ _=>kO fun _ _ _=>rfl;have tS:=aU (st:=oV) Hk Hl Hm;have FV:=tS.binds (ps:=["_law_script","_law_at","_law_many"]) fun _ _ _ _ _ _=>kO fun _ _ _=>rfl;have pf:=aU (st:=lW) BM BN BO;have Ao:=pf.binds (ps:=["_law_found"]) fun _ _ _ _ _ _=>lG fun _=>rfl;have ph:=aU (st:=lX) BQ BR BS;have Ap:=ph.binds (ps:=["_law_paper_here"]) fun _ _ _ _ _ _=>lG fun _=>rfl;have Y6:=aU (st:=JX) aff afg afh;have ah3:=Y6.binds (ps:=["_law_script"]) fun _ _ _ _ _ _=>lG fun _=>rfl;have T:Txt K w mg ⟨_,_,_,_,_,_,_,_,_,_,_,_,_,_,_,_,_,_,_,_,_,_,_,_,_,_,_,_,_,_,_,_,_,_,_,_,_,_,_,_,_,_,_,_,_,_,_,_,_,_,_,_,_,fh,_,_,_,_,_,_,_,_,_,_,_,kH,_,_,_,_,_,_,_,_,_,_,_,_,_,_,_,_,_,_,_,_,_,_,_,_,_,_,_,_,_,_,_,_,_,_,_,_,_,_,_,o3,_,_,_,_,_,_,_,_,_,_,_,_,dR,cX,cY,cI,eQ,oj,bH,ir,fF,dc,xR,cZ,c5,df,cj,dg,c6,cR,cS,cT,eR,ef,ei,dH,PW⟩:=⟨o4,Af,mg_of X G Bj,mL,vW,mg_of X G wO,tu,FL,mg_of X G GJ,o5,Ag,mg_of X G Bo,xT,NB,mg_of X G Pc,o6,xU,mg_of X G GO,mM,vX,mg_of X G wV,mN,vY,mg_of X G wZ,i9,qI,mg_of X G qR,xV,NC,mg_of X G Pg,o7,Ah,mg_of X G Bs,b9,eS,mg_of X G eW,mO,tw,mg_of X G GU,dJ,ja,mg_of X G jf,jb,qJ,mg_of X G qV,gC,mP,mg_of X G m9,kI,tD,mg_of X G uk,jc,qK,mg_of X G qZ,gD,mQ,mg_of X G ni,FN,V0,mg_of X G XR,u7,EM,mg_of X G Pk,dC,iu,mg_of X G kX,ej,jd,mg_of X G nr,bV,dM,mg_of X G gH,u9,EN,mg_of X G Po,dS,tE,kA,mg_of X G oy,gE,mR,mg_of X G ny,gT,lJ,mg_of X G q9,kJ,tH,mg_of X G ur,Aj,NG,mg_of X G XX,lZ,FO,Ak,mg_of X G Bw,bN,ck,mg_of X G ux,j1,pb,mg_of X G Bz,gF,mS,mg_of X G nE,mT,v9,mg_of X G xf,mU,wa,mg_of X G xj,iU,om,mg_of X G uB,tI,FP,mg_of X G GY,je,qL,mg_of X G rh,kK,tK,mg_of X G uF,l5,va,mg_of X G BD,tL,FR,mg_of X G G6,pd,Al,mg_of X G BH,tM,FT,mg_of X G Ha,fi,kU,mg_of X G la,mV,tN,mg_of X G Hf,c7,hX,mg_of X G ia,cf,eT,mg_of X G e8,gG,mW,mg_of X G nI,qM,FU,NI,mg_of X G Pt,kL,tQ,mg_of X G uJ,kM,tR,mg_of X G uN,tS,FV,mg_of X G Hj,pf,Ao,mg_of X G BL,ph,Ap,mg_of X G BP,Y6,ah3,mg_of X G Zi,mg_none_of X G afi,mg_none_of X G X1,mg_none_of X G X2,mg_none_of X G uR,mg_none_of X G afj,mg_none_of X G rp,mg_none_of X G afk,mg_none_of X G X3,mg_none_of X G afl,mg_none_of X G afm,mg_none_of X G Py,mg_none_of X G afn,mg_none_of X G Hn,mg_none_of X G afo,mg_none_of X G Pz,mg_none_of X G afp,mg_of X G nM,(fun H=>.inr ⟨_,_,_,nN,rfl,rfl,(by show 3<=sizeLine;decide),(.cons ⟨_,rfl⟩ (.cons ⟨_,rfl⟩ (.cons ⟨_,rfl⟩ .nil)))⟩),mg_of X G j4,(fun H=>.inr ⟨_,_,_,j5,rfl,rfl,(by show 3<=sizeLine;decide),(.cons ⟨_,rfl⟩ (.cons ⟨_,rfl⟩ (.cons ⟨_,rfl⟩ .nil)))⟩),mg_of X G j6,(fun H=>.inr ⟨_,_,_,j7,rfl,rfl,(by show 2<=sizeLine;decide),(.cons ⟨_,rfl⟩ (.cons ⟨_,rfl⟩ .nil))⟩),mg_of X G jk,(fun H=>.inr ⟨_,_,_,jm,rfl,rfl,(by show 4<=sizeLine;decide),(.cons ⟨_,rfl⟩ (.cons ⟨_,rfl⟩ (.cons ⟨_,rfl⟩ (.cons ⟨_,rfl⟩ .nil))))⟩),mg_of X G oC,(fun H=>.inr ⟨_,_,_,oD,rfl,rfl,(by show 2<=sizeLine;decide),(.cons ⟨_,rfl⟩ (.cons ⟨_,rfl⟩ .nil))⟩),mg_of X G rq,mg_of X G jn,(fun H=>.inr ⟨_,_,_,jo,rfl,rfl,(by show 3<=sizeLine;decide),(.cons ⟨_,rfl⟩ (.cons ⟨_,rfl⟩ (.cons ⟨_,rfl⟩ .nil)))⟩),mg_of X G j8,mg_of X G iD,mg_of X G eo,mg_of X G BU,mg_of X G j9,(fun H=>.inr ⟨_,_,_,ka,rfl,rfl,(by show 7<=sizeLine;decide),(.cons ⟨_,rfl⟩ (.cons ⟨_,rfl⟩ (.cons ⟨_,rfl⟩ (.cons ⟨_,rfl⟩ (.cons ⟨_,rfl⟩ (.cons ⟨_,rfl⟩ (.cons ⟨_,rfl⟩ .nil)))))))⟩),mg_of X G kb,(fun H=>.inr ⟨_,_,_,kc,rfl,rfl,(by show 3<=sizeLine;decide),(.cons ⟨_,rfl⟩ (.cons ⟨_,rfl⟩ (.cons ⟨_,rfl⟩ .nil)))⟩),mg_of X G nO,⟨nR,_,_,nQ,(.cons ⟨_,rfl⟩ (.cons ⟨_,rfl⟩ (.cons ⟨_,rfl⟩ .nil))),by lk⟩,mg_of X G kd,⟨kg,_,_,ke,(.cons jq ⟨_,rfl⟩ (.cons jr ⟨_,rfl⟩ (.cons js ⟨_,rfl⟩ (.cons jt ⟨_,rfl⟩ (.cons ju ⟨_,rfl⟩ (.cons jv ⟨_,rfl⟩ (.cons jw ⟨_,rfl⟩ (.cons jx ⟨_,rfl⟩ (.cons jy ⟨_,rfl⟩ (.cons jz ⟨_,rfl⟩ .nil)))))))))),by lk⟩,mg_of X G nU,⟨nW,_,_,nV,(.cons lu ⟨_,rfl⟩ (.cons lz ⟨_,rfl⟩ (.cons lA ⟨_,rfl⟩ (.cons lB ⟨_,rfl⟩ .nil)))),by lk⟩,mg_of X G kh,(fun H=>.inr ⟨_,_,_,ki,rfl,rfl,(by show 3<=sizeLine;decide),(.cons rfl (.cons rfl (.cons rfl .nil)))⟩),(fun H=>.inr ⟨_,_,_,iE,rfl,rfl,(by show 2<=sizeLine;decide),(.cons ⟨_,rfl⟩ (.cons ⟨_,rfl⟩ .nil))⟩),(fun H=>.inr ⟨_,_,_,iF,rfl,rfl,(by show 2<=sizeLine;decide),(.cons ⟨_,rfl⟩ (.cons ⟨_,rfl⟩ .nil))⟩),(fun H=>.inr ⟨_,_,_,iG,rfl,rfl,(by show 2<=sizeLine;decide),(.cons ⟨_,rfl⟩ (.cons ⟨_,rfl⟩ .nil))⟩),mg_of X G oE,(fun H=>.inr ⟨_,_,_,oF,rfl,rfl,(by show 2<=sizeLine;decide),(.cons rfl (.cons rfl .nil))⟩),(fun H=>.inr ⟨_,_,_,lC,rfl,rfl,(by show 2<=sizeLine;decide),(.cons ⟨_,rfl⟩ (.cons ⟨_,rfl⟩ .nil))⟩),(fun H=>.inr ⟨_,_,_,lD,rfl,rfl,(by show 2<=sizeLine;decide),(.cons ⟨_,rfl⟩ (.cons ⟨_,rfl⟩ .nil))⟩),mg_of X G ft,ahh⟩;exact⟨_,fun s v=>.of_eq rfl,⟨_,ahh⟩,fun base _ _=>ajM T⟩
theorem walk {l:OpenLaw}{q:Program}{loose:List Str}{XP:(Str->Option Value)->Heap->Prop}{YP:World->Heap->Prop}{d:DefRec}{K K':Params->Frag}{T:Addr}(hn:l.most=some 63)(hdf:d.params.defaults=[])
  (hY:∀(w:World)(h:Heap),YP w h->(K' w.params).In h) (hKK:∀(p:Params) a o,(K p).lookup a=some o->(K' p).lookup a=some o) (hT:∀ p:Params,(K' p).lookup T=some (tabObj #[])) (hKT:∀ p:Params,(K p).lookup T=none)
  (F:∀(w:World)(mg:Str->Option Value)(fa:Addr)(h:Heap),(K w.params).In h->h.Ns mainGlobals mg->mg d.name=some (.ref fa) ->
   ∃ fd:FuncData,(∀(s:Shared)(u:Value),BindsTo s fd ⟨[u],[]⟩ [("_law_script",u)])/\(∃ cv,Qa (K w.params) mg cv T)/\∀ base:Heap,(K w.params).In base->base.Ns mainGlobals mg->bK l.prog w (K w.params) mg base ig 8 fa fd ["_law_script"] (xK (K w.params) T)) :
  WalkO q loose XP YP l.row.toRowW d [] (fun f vs=>PySem.call f vs) :=
 L2.acL (n:=63) (k:=8) (x:="_law_script") (CX:=fun _=>ig) (sp:=fun w=>xK (K w.params) T) hn (by decide) hdf ⟨rfl,by decide,by decide⟩ hY hKK hT hKT F (fun _ H a ns hl hO hS=>SJ hl hO hS) fun _ _ _ _ _ z=>z
end mi
open PySem PySem.W PyProof.Rows
set_option maxRecDepth 100000 in
set_option maxHeartbeats 0 in
theorem PySem.Challenge.cw_noteworth_k28_papers_told_holds : PySem.Challenge.rw_noteworth_k28_papers_told.Holds := by
 w_on;o_law
 refine holds_open (q:=Hd.view) (loose:=Hd.loose) (Xt:=fun s=>xlAt Hd.view [] s&&recOk _ s) (XP:=XL Hd.view []) (Yf:=Hd.hook.obs) (Ya:=Hd.hook.val) (YP:=Hd.hook.says) (N:=Hd.fuel) ?hl Hd.hook.of Hd.hook.keeps (fun s e=>xl_of s (Bool.and_eq_true_iff.mp e).1) XL.keeps (by rfl) (by rfl) (by rfl) (fun s e=>recFacts_of (Bool.and_eq_true_iff.mp e).2) (by rfl) (by assumption) (by lk) ⟨rfl,rfl,rfl,rfl,rfl,by lk⟩ ?hw ?hc
 case hl=>exact LeftO.of_pieces (boot_open (by kernel_rfl) (by decide) (fun _=>by kernel_rfl)) (fun w=>by kernel_rfl) Hd.r1 (by decide) (fun w=>by kernel_rfl)
 case hw=>w_witness2
 refine mi.walk (l:=PySem.Challenge.rw_noteworth_k28_papers_told) (K:=Hd.frg) (K':=Hd.adX) (T:=Hd.agx) rfl rfl (fun w h Y=>PySem.W.kIn_of Y) Hd.alV (fun _=>rfl) Hd.ah2 ?F
 case F =>
  intro w mg fa h KX G hmg
  k_fill
  refine' mi.all_mk KX G hmg ?Bj ?Bl ?Bm ?Bn ?wO ?wQ ?wR ?wU ?GJ ?GK ?GL ?GN ?Bo ?Bp ?Bq ?Br ?Pc ?Pd ?Pe ?Pf ?GO ?GP ?GQ ?GR ?wV ?wW ?wX ?wY ?wZ ?xa ?xb ?xc ?qR ?qS ?qT ?qU ?Pg ?Ph ?Pj ?x5 ?Bs ?Bt ?Bu ?Bv ?eW ?eX ?eY ?eZ ?GU ?GV ?GW ?GX ?jf ?jg ?jh ?ji ?qV ?qW ?qX ?qY ?m9 ?nc ?ng ?nh ?uk ?um ?uo ?uq ?qZ ?q0 ?q4 ?q5 ?ni ?nj ?nk ?nq ?XR ?XT ?XU ?XW ?Pk ?Pl ?Pm ?Pn ?kX ?kY ?kZ ?k9 ?nr ?nt ?nu ?nv ?gH ?gI ?gJ ?gK ?Po ?Pp ?Pq ?Pr ?oy ?oz ?oA ?oB ?jj ?ny ?nA ?nB ?nC ?q9 ?ra ?rb ?rf ?ur ?uu ?uv ?uw ?XX ?XY ?XZ ?X0 ?Bw ?l_written ?Bx ?By ?rg ?ux ?uy ?uz ?uA ?Bz ?BA ?BB ?BC ?nE ?nF ?nG ?nH ?xf ?xg ?xh ?xi ?xj ?xk ?xm ?xn ?uB ?uC ?uD ?uE ?GY ?GZ ?G0 ?G5 ?rh ?rj ?rl ?rm ?uF ?uG ?uH ?uI ?BD ?BE ?BF ?BG ?G6 ?G7 ?G8 ?G9 ?BH ?BI ?BJ ?BK ?Ha ?Hb ?Hc ?He ?la ?lg ?lj ?lr ?Hf ?Hg ?Hh ?Hi ?ia ?ib ?ic ?ie ?e8 ?e9 ?fb ?fc ?nI ?nJ ?nK ?nL ?Pt ?Pu ?Pw ?Px ?zK ?uJ ?uK ?uL ?uM ?uN ?uO ?uP ?uQ ?Hj ?Hk ?Hl ?Hm ?BL ?BM ?BN ?BO ?BP ?BQ ?BR ?BS ?Zi ?aff ?afg ?afh ?afi ?X1 ?X2 ?uR ?afj ?rp ?afk ?X3 ?afl ?afm ?Py ?afn ?Hn ?afo ?Pz ?afp ?nM ?nN ?j4 ?j5 ?j6 ?j7 ?jk ?jm ?oC ?oD ?rq ?jn ?jo ?j8 ?iD ?eo ?BU ?j9 ?ka ?kb ?kc ?nO ?nQ ?nR ?kd ?ke ?jq ?jr ?js ?jt ?ju ?jv ?jw ?jx ?jy ?jz ?kg ?nU ?nV ?lu ?lz ?lA ?lB ?nW ?kh ?ki ?iE ?iF ?iG ?oE ?oF ?lC ?lD ?ft ?ahh
  (case Bj|Bl|Bm|Bn|wO|wQ|wR|wU|GJ|GK|GL|GN|Bo|Bp|Bq|Br|Pc|Pd|Pe|Pf|GO|GP|GQ|GR|wV|wW|wX|wY|wZ|xa|xb|xc|qR|qS|qT|qU|Pg|Ph|Pj|x5|Bs|Bt|Bu|Bv|eW|eX|eY|eZ|GU|GV|GW|GX|jf|jg|jh|ji|qV|qW|qX|qY|m9|nc|ng|nh|uk|um|uo|uq|qZ|q0|q4|q5|ni|nj|nk|nq|XR|XT|XU|XW|Pk|Pl|Pm|Pn|kX|kY|kZ|k9|nr|nt|nu|nv|gH|gI|gJ|gK|Po|Pp|Pq|Pr|oy|oz|oA|oB|jj|ny|nA|nB|nC|q9|ra|rb|rf|ur|uu|uv|uw|XX|XY|XZ|X0|Bw|l_written|Bx|By|rg|ux|uy|uz|uA|Bz|BA|BB|BC|nE|nF|nG|nH|xf|xg|xh|xi|xj|xk|xm|xn|uB|uC|uD|uE|GY|GZ|G0|G5|rh|rj|rl|rm|uF|uG|uH|uI|BD|BE|BF|BG|G6|G7|G8|G9|BH|BI|BJ|BK|Ha|Hb|Hc|He|la|lg|lj|lr|Hf|Hg|Hh|Hi|ia|ib|ic|ie|e8|e9|fb|fc|nI|nJ|nK|nL|Pt|Pu|Pw|Px|zK|uJ|uK|uL|uM|uN|uO|uP|uQ|Hj|Hk|Hl|Hm|BL|BM|BN|BO|BP|BQ|BR|BS|Zi|aff|afg|afh|afi|X1|X2|uR|afj|rp|afk|X3|afl|afm|Py|afn|Hn|afo|Pz|afp|nM|nN|j4|j5|j6|j7|jk|jm|oC|oD|rq|jn|jo|j8|iD|eo|BU|j9|ka|kb|kc|nO|nQ=>k_is)
  (case nR=>rfl)
  (case kd|ke|jq|jr|js|jt|ju|jv|jw|jx|jy|jz=>k_is)
  (case kg=>rfl)
  (case nU|nV|lu|lz|lA|lB=>k_is)
  (case nW=>rfl)
  (case kh|ki|iE|iF|iG|oE|oF|lC|lD|ft=>k_is)
  (case ahh=>exact Hd.aoM KX G)
