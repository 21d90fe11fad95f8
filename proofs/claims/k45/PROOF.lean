import PyProof.Rows.All
import Wide.All
import OpenK.AllK
import Wide.FinOn
import Lean
import PyProof.EqAt
import PyProof.EqKinds
import PyProof.TupleCall
import PySem.Challenge.RW_noteworth_k45_books_shown
set_option Elab.async false
set_option linter.all false
set_option maxRecDepth 100000
open PySem.W (Frag OpenLaw WalkO callWith_K callWith_K0 codeIn emptyDict excIn findIn fnOf handedIn hasDictIn instObj isFn keepIn kia_one kitOne kitx_dict kitx_list lookIn makesIn methodCall_KW methodObj mg_none_of mg_of mroIn nsIn plainGet plainGet_of plainOver specialIn takerIn)
open List (length_map length_append length_take length_drop mem_append mem_singleton mem_cons_self mem_cons_of_mem mem_append_left mem_append_right mem_of_getElem? size_toArray take_length getElem?_map map_append map_cons length_cons take_succ getElem?_eq_getElem getElem?_append_left mem_map any_eq_true all_eq_true length_range mem_range append_nil nil_append getElem?_of_mem)
open PySem.F (entry_zip_next plainAttrs_list plainAttrs_str slot_dict_get slot_enumerate_next slot_list_pop slot_str_join slot_zip_next type_list_pop type_str_join)
local macro_rules | `(tactic| lk) => `(tactic| decide +kernel)
local macro_rules | `(tactic| z_go) => `(tactic| first | (exact fun _ _ _ _ _ _ us hl => match us, hl with | [_], _ => rfl) | (exact fun _ _ _ _ _ _ us hl => match us, hl with | [_, _], _ => rfl) | (exact fun _ _ _ _ _ _ us hl => match us, hl with | [_, _, _], _ => rfl) | (exact fun _ _ _ _ _ _ us hl => match us, hl with | [_, _, _, _], _ => rfl) | (exact fun _ _ _ _ _ _ us hl => match us, hl with | [_, _, _, _, _], _ => rfl) | (exact fun _ _ _ _ _ _ us hl => match us, hl with | [_, _, _, _, _, _], _ => rfl))
namespace L2
open PySem PySem.Spec PyProof.Rows
abbrev Key:=Sum Int Str
def GG:Key->Value->Bool
 |.inl k,v=>Value.isInt k v
 |.inr x,v=>Value.isStrOf x v
def afS (w:World):Key->Int
 |.inl k=>hashInt k
 |.inr x=>hashStr w x
theorem de:∀{k:Key} {v:Value},GG k v=true->(∃ i t,k=Sum.inl i/\v=Value.int i t)\/(∃ x t,k=Sum.inr x/\v=Value.str x t)
 |.inl i,v,h=>by
  obtain⟨t,e⟩:=Value.isInt_shape (k:=i) (v:=v) h;exact .inl ⟨i,t,rfl,e⟩
 |.inr x,v,h=>by
  obtain⟨t,e⟩:=Value.isStrOf_shape (x:=x) (v:=v) h;exact .inr ⟨x,t,rfl,e⟩
theorem VB (i:Int)(t:Tok):GG (.inl i) (.int i t)=true:=by simp[GG,Value.isInt]
theorem VC (x:Str)(t:Tok):GG (.inr x) (.str x t)=true:=by simp[GG,Value.isStrOf]
theorem ace (a b:Int):decide ((Sum.inl a:Key)=Sum.inl b)=(a==b):=by
 by_cases e:a=b
 ·subst e;simp
 ·have h:¬(Sum.inl a:Key)=Sum.inl b:=fun q=>e (Sum.inl.inj q);rw[decide_eq_false h];exact(beq_eq_false_iff_ne.mpr e).symm
theorem acf (a b:Str):decide ((Sum.inr a:Key)=Sum.inr b)=decide (a=b):=by
 by_cases e:a=b
 ·subst e;simp
 ·have h:¬(Sum.inr a:Key)=Sum.inr b:=fun q=>e (Sum.inr.inj q);rw[decide_eq_false h,decide_eq_false e]
theorem acg (a:Int)(b:Str):decide ((Sum.inl a:Key)=Sum.inr b)=false:=decide_eq_false (fun q=>nomatch q)
theorem ach (a:Str)(b:Int):decide ((Sum.inr a:Key)=Sum.inl b)=false:=decide_eq_false (fun q=>nomatch q)
def bY (prog:Program)(w:World):PySem.KeyKind prog w Key where
 is:=GG
 hash:=afS w
 inj:=fun v a b ha hb=>by
  rcases de ha with ⟨i,t,rfl,rfl⟩|⟨x,t,rfl,rfl⟩
  ·rcases de hb with ⟨j,u,rfl,e⟩|⟨y,u,rfl,e⟩
   ·injection e with e1 _;rw[e1]
   ·exact nomatch e
  ·rcases de hb with ⟨j,u,rfl,e⟩|⟨y,u,rfl,e⟩
   ·exact nomatch e
   ·injection e with e1 _;rw[e1]
 byValue:=fun k v h=>by
  rcases de h with ⟨i,t,rfl,rfl⟩|⟨x,t,rfl,rfl⟩ <;> rfl
 pyHash:=fun hv h=>by
  rcases de hv with ⟨i,t,rfl,rfl⟩|⟨x,t,rfl,rfl⟩
  ·exact wpAny_pyHash_int h
  ·exact wpAny_pyHash_str h
 eqBool:=fun hu hv h=>by
  rcases de hu with ⟨i,t,rfl,rfl⟩|⟨x,t,rfl,rfl⟩
  ·rcases de hv with ⟨j,u,rfl,rfl⟩|⟨y,u,rfl,rfl⟩
   ·rw[ace]at h;exact wpAny_eqBool_int h
   ·rw[acg]at h;exact SeqAt.EqAt.int_str i t y u _ _ _ _ h
  ·rcases de hv with ⟨j,u,rfl,rfl⟩|⟨y,u,rfl,rfl⟩
   ·rw[ach]at h;exact SeqAt.EqAt.str_int x t j u _ _ _ _ h
   ·rw[acf]at h;exact wpAny_eqBool_str h
 «strs»:=fun k x t v h=>by
  rcases de h with ⟨i,u,rfl,e⟩|⟨y,u,rfl,e⟩
  ·exact nomatch e
  ·injection e with e1 _
   subst e1;cases v <;> rfl
theorem PN (prog:Program)(w:World)(i:Int)(t:Tok):(bY prog w).is (.inl i) (.int i t)=true:=VB i t
theorem iV (prog:Program)(w:World)(x:Str)(t:Tok):(bY prog w).is (.inr x) (.str x t)=true:=VC x t
end L2
namespace L2
open PySem PySem.Spec PyProof.Rows
inductive V where
 |non|bl (b:Bool)|int (i:Int)|str (x:Str)|X4 (b:Array UInt8)|flt (b:UInt64)|ref (a:Addr)|ty (n:String)
 deriving DecidableEq
def RelV:V->Value->Prop
 |.non,u=>u=Value.none
 |.bl b,u=>u=Value.bool b
 |.int i,u=>∃ t,u=Value.int i t
 |.str x,u=>∃ t,u=Value.str x t
 |.X4 b,u=>∃ t,u=Value.bytes b t
 |.flt b,u=>∃ t,u=Value.float b t
 |.ref a,u=>u=Value.ref a
 |.ty n,u=>u=Value.type n
abbrev Vals:List V->List Value->Prop:=Paired RelV
theorem Vals.length {xs:List V}{us:List Value}(r:Vals xs us):xs.length=us.length:=Paired.length r
theorem Vals.get:∀{xs:List V} {us:List Value} {i:Nat} {x:V},Vals xs us->xs[i]? = some x->∃ u,us[i]? = some u/\RelV x u
 |_,_,_,_,.nil,e=>by simp at e
 |_,_,0,_,.cons r _,e=>by simp at e;subst e;exact⟨_,rfl,r⟩
 |_,_,i+1,x,.cons _ t,e=>by
  obtain⟨u,h1,h2⟩:=Vals.get (i:=i) (x:=x) t (by simpa using e);exact⟨u,by simpa using h1,h2⟩
theorem Vals.set {x:V}{u:Value}(r:RelV x u):∀{xs:List V} {us:List Value} (i:Nat),Vals xs us->Vals (xs.set i x) (us.set i u)
 |_,_,_,.nil=>.nil
 |_,_,0,.cons _ t=>.cons r t
 |_,_,i+1,.cons q t=>.cons q (Vals.set r i t)
theorem Vals.append:∀{xs ys:List V} {us ws:List Value},Vals xs us->Vals ys ws->Vals (xs++ys) (us++ws)
 |_,_,_,_,.nil,s=>s
 |_,_,_,_,.cons r t,s=>.cons r (Vals.append t s)
theorem Vals.take:∀{xs:List V} {us:List Value} (n:Nat),Vals xs us->Vals (xs.take n) (us.take n)
 |_,_,0,_=>.nil
 |_,_,_+1,.nil=>.nil
 |_,_,n+1,.cons r t=>.cons r (Vals.take n t)
theorem Vals.drop:∀{xs:List V} {us:List Value} (n:Nat),Vals xs us->Vals (xs.drop n) (us.drop n)
 |_,_,0,r=>r
 |_,_,_+1,.nil=>.nil
 |_,_,n+1,.cons _ t=>Vals.drop n t
def qU:Option V->Option Value->Prop
 |some v,some u=>RelV v u
 |none,none=>True
 |_,_=>False
def KV {κ:Type}:List (κ×V)->List (κ×Value)->Prop:=Paired fun(p:κ×V)(q:κ×Value)=>p.1=q.1/\RelV p.2 q.2
def kV:Key->V
 |.inl i=>.int i
 |.inr x=>.str x
inductive HO where
 /-- a list -/
 |lst (xs:List V)
 /-- a tuple (never changes) -/
 |tup (xs:List V)
 /-- a dict whose keys are ints and texts;one whose keys are tuples of ints and texts (the empty one is both) -/
 |dK (kvs:List (Key×V))|dT (kvs:List (List Key×V))
 /-- a set of ints: its members,its size -/
 |set (S:Int->Bool) (n:Nat)
 /-- an instance of the class at C,its dict at dx,its attributes -/
 |ins (C dx:Addr) (fs:List (Str×V))
 /-- the dict of the instance at x -/
 |own (x:Addr)
 /-- the dict of an exception -/
 |xd (fs:List (Str×V))
 /-- a bound method,f of x -/
 |met (f x:Addr)
 /-- a range object lo,lo+1,.. below hi -/
 |rng (lo hi:Int)
 /-- a thing that is known to the object (the script;a dict while a loop walks it): read,never written while it is so -/
 |UG (o:Obj) (u:HO)
 /-- a code object's table -/
 |tbl (ps:Array Value)
 /-- any other thing,by what is true of its one object (a def of one's own: air a S n:=HO.ext fun h=>..) -/
 |ext (φ:Heap->Prop)
abbrev Hp:=Addr->Option HO
def upd (H:Hp)(a:Addr)(o:HO):Hp:=fun b=>if b=a then some o else H b
theorem ag {H:Hp}{a:Addr}{o:HO}:upd H a o a=some o:=by unfold upd;rw[if_pos rfl]
theorem ak {H:Hp}{a b:Addr}{o:HO}(h:b≠a):upd H a o b=H b:=by unfold upd;rw[if_neg h]
theorem bZ {H:Hp}{a:Addr}{o u:HO}:upd (upd H a o) a u=upd H a u:=by
 funext b;unfold upd;split <;> rfl
theorem uG {H:Hp}{a b:Addr}{o u:HO}(h:H a=some o)(h':H b=some u)(d:o≠u):a≠b:=by
 intro e;subst e;rw[h]at h';exact d (Option.some.inj h')
theorem ao {H:Hp}{a b:Addr}{o:HO}(h:H a=some o)(h':H b=none):a≠b:=by
 intro e;subst e;rw[h]at h';cases h'
section
variable (P:Program) (w:World)
def fi (H:Hp)(h:Heap)(a:Addr):HO->Prop
 |.lst xs=>xs.length<=sizeLine/\∃(its:List Value)(n:Nat),Vals xs its/\h.get? a=some { cls:=.type "list",data:=.seq its.toArray n }
 |.tup xs=>xs.length<=sizeLine/\∃ its:List Value,Vals xs its/\IsTup h a its.toArray
 |.dK kvs=>kvs.length<=sizeLine/\(a==sysModules)=false/\∃ vs,KV kvs vs/\h.DictOf (bY P w) a vs
 |.dT kvs=>kvs.length<=sizeLine/\(a==sysModules)=false/\∃ xs:List (List Key×Addr×Value),
   Paired (fun(p:List Key×V)(q:List Key×Addr×Value)=>p.1=q.1/\H q.2.1=some (.tup (p.1.map kV))/\RelV p.2 q.2.2) kvs xs /\
   ∃ o es ep,h.get? a=some o/\o.ExactDict/\o.data=.dict es ep/\es.toList=xs.map (entryOfKey (tupleKind (bY P w)))/\(xs.map (·.1)).Nodup
 |.set S n=>h.SetOf (intKind P w) a S n
 |.ins C dx fs=>H dx=some (.own a)/\fs.length<=1000/\dx≠a/\h.get? a=some (instObj C dx) /\
   ∃ mA,h.Ns1 dx mA/\(∀ f,qU (fs.lookup f) (mA f))/\PySem.Within mA (fs.map (·.1))
 |.own _=>∃ o,h.get? a=some o
 |.xd fs=>∃ mA,h.Ns1 a mA/\∀ f,qU (fs.lookup f) (mA f)
 |.rng lo hi=>∃ t u v,h.get? a=some { cls:=.type "range",data:=.fields #[.int lo t,.int hi u,.int 1 v] }
 |.UG o u=>h.get? a=some o/\fi H h a u
 |.tbl ps=>h.get? a=some { cls:=.none,data:=.fields ps }
 |.met f x=>h.get? a=some (methodObj (.ref f) (.ref x))
 |.ext φ=>φ h/\(∃ o,h.get? a=some o)/\∀ h1 h2:Heap,φ h1->(∀ o,h1.get? a=some o->h2.get? a=some o)->φ h2
def Ag (H:Hp)(h:Heap):Prop:=∀ a o,H a=some o->fi P w H h a o
end
section
variable {P:Program} {w:World} {H H':Hp} {h h':Heap} {a:Addr} {o:HO}
theorem fi.lt (x:fi P w H h a o):a<h.objs.size:=by
 cases o with
 |lst xs=>obtain⟨_,_,_,_,e⟩:=x;exact Heap.lt_size e
 |tup xs=>obtain⟨_,_,_,p⟩:=x;exact p.lt
 |dK kvs=>obtain⟨_,_,_,_,o,_,_,e,_⟩:=x;exact Heap.lt_size e
 |dT kvs=>obtain⟨_,_,_,_,o,_,_,e,_⟩:=x;exact Heap.lt_size e
 |set S n=>obtain⟨o,_,_,_,e,_⟩:=x;exact Heap.lt_size e
 |ins C dx fs=>obtain⟨_,_,_,e,_⟩:=x;exact Heap.lt_size e
 |own y=>obtain⟨_,e⟩:=x;exact Heap.lt_size e
 |xd fs=>obtain⟨_,⟨_,_,_,e,_⟩,_⟩:=x;exact Heap.lt_size e
 |rng lo hi=>obtain⟨_,_,_,e⟩:=x;exact Heap.lt_size e
 |UG ob u=>obtain⟨e,_⟩:=x;exact Heap.lt_size e
 |tbl ps=>exact Heap.lt_size (show h.get? a=some _ from x)
 |met f y=>exact Heap.lt_size (show h.get? a=some _ from x)
 |ext φ=>obtain⟨_,⟨_,e⟩,_⟩:=x;exact Heap.lt_size e
theorem Paired.adS {α β:Type}{F G:α->β->Prop}:∀{l₁:List α} {l₂:List β},Paired F l₁ l₂->(∀ a b,F a b->G a b)->Paired G l₁ l₂
 |_,_,.nil,_=>.nil
 |_,_,.cons r t,f=>.cons (f _ _ r) (Paired.adS t f)
theorem fi.stay (x:fi P w H h a o)(k:∀ b u,(b=a\/H b=some (.own a))->h.get? b=some u->h'.get? b=some u)
  (ho:∀ b,H b=some (.own a)->H' b=some (.own a)) (ht:∀ b xs,H b=some (.tup xs)->H' b=some (.tup xs)):fi P w H' h' a o:=by
 induction o with
 |lst xs=>obtain⟨z,its,n,r,e⟩:=x;exact⟨z,its,n,r,k _ _ (.inl rfl) e⟩
 |tup xs=>obtain⟨z,its,r,ob,e,c⟩:=x;exact⟨z,its,r,ob,k _ _ (.inl rfl) e,c⟩
 |dK kvs=>obtain⟨z,y,vs,r,ob,es,ep,e,c⟩:=x;exact⟨z,y,vs,r,ob,es,ep,k _ _ (.inl rfl) e,c⟩
 |dT kvs =>
  obtain⟨z,y,xs,r,ob,es,ep,e,c⟩:=x;exact⟨z,y,xs,Paired.adS r fun p q z=>⟨z.1,ht _ _ z.2.1,z.2.2⟩,ob,es,ep,k _ _ (.inl rfl) e,c⟩
 |set S n=>obtain⟨ob,es,ep,t,e,c⟩:=x;exact⟨ob,es,ep,t,k _ _ (.inl rfl) e,c⟩
 |ins C dx fs =>
  obtain⟨d,z,ne,e,mA,⟨od,es,ep,e2,c⟩,r⟩:=x;exact⟨ho _ d,z,ne,k _ _ (.inl rfl) e,mA,⟨od,es,ep,k _ _ (.inr d) e2,c⟩,r⟩
 |own y=>obtain⟨ob,e⟩:=x;exact⟨ob,k _ _ (.inl rfl) e⟩
 |xd fs=>obtain⟨mA,⟨od,es,ep,e,c⟩,r⟩:=x;exact⟨mA,⟨od,es,ep,k _ _ (.inl rfl) e,c⟩,r⟩
 |rng lo hi=>obtain⟨t,u,v,e⟩:=x;exact⟨t,u,v,k _ _ (.inl rfl) e⟩
 |UG ob u ih=>obtain⟨e,q⟩:=x;exact⟨k _ _ (.inl rfl) e,ih q⟩
 |tbl ps =>
  have e:h.get? a=some { cls:=.none,data:=.fields ps }:=x;show h'.get? a=some { cls:=.none,data:=.fields ps };exact k a _ (.inl rfl) e
 |met f y =>
  have e:h.get? a=some (methodObj (.ref f) (.ref y)):=x;show h'.get? a=some (methodObj (.ref f) (.ref y));exact k a _ (.inl rfl) e
 |ext φ=>obtain⟨p,⟨o,e⟩,st⟩:=x;exact⟨st _ _ p fun o q=>k _ _ (.inl rfl) q,⟨o,k _ _ (.inl rfl) e⟩,st⟩
theorem Ag.lt (x:Ag P w H h)(e:H a=some o):a<h.objs.size:=(x a o e).lt
theorem Ag.fresh (x:Ag P w H h)(e:h.objs.size<=a):H a=none:=by
 cases q:H a with
 |none=>rfl
 |some u=>exact absurd (Nat.lt_of_lt_of_le (x.lt q) e) (Nat.lt_irrefl _)
theorem Ag.kept (x:Ag P w H h)(k:∀ b u,h.get? b=some u->h'.get? b=some u):Ag P w H h':=fun a o e =>
 (x a o e).stay (fun b u _ q=>k b u q) (fun _ q=>q) fun _ _ q=>q
theorem Ag.laid (x:Ag P w H h)(k:∀ b u,h.get? b=some u->h'.get? b=some u)(hp:h.objs.size<=a)(new:fi P w (upd H a o) h' a o):Ag P w (upd H a o) h':=fun b u e=>by
 have hn:=x.fresh hp
 by_cases hb:b=a
 ·subst hb;rw[ag]at e;cases e;exact new
 ·rw[ak hb]at e;exact(x b u e).stay (fun c v _ q=>k c v q) (fun c q=>by rw[ak (ao q hn)];exact q) fun c xs q=>by rw[ak (ao q hn)];exact q
end
def Rd (H:Hp)(a:Addr)(u:HO):Prop:=H a=some u\/∃ o,H a=some (.UG o u)
theorem Rd.ok {P:Program}{w:World}{H:Hp}{h:Heap}{a:Addr}{u:HO}(r:Rd H a u)(x:Ag P w H h):fi P w H h a u:=by
 rcases r with r|⟨o,r⟩
 ·exact x a u r
 ·obtain⟨_,q⟩:=x a _ r;exact q
def Mut:Option HO->Prop
 |some (.lst _)=>True
 |some (.dK _)=>True
 |some (.dT _)=>True
 |some (.set _ _)=>True
 |some (.ins _ _ _)=>True
 |some (.ext _)=>True
 |_=>False
section
variable {P:Program} {w:World} {H:Hp} {h h':Heap} {x e:Addr} {o':HO}
theorem Ag.write (ok:Ag P w H h)(mu:Mut (H x))(he:e=x\/H e=some (.own x))(k:∀ b u,b≠e->h.get? b=some u->h'.get? b=some u)(heo:∃ u,h'.get? e=some u)
  (new:fi P w (upd H x o') h' x o'):Ag P w (upd H x o') h':=fun b u q=>by
 have adT:∀ c y,H c=some (.own y)->c≠x:=fun c y r z=>by subst z;rw[r]at mu;exact mu
 have afU:∀ c xs,H c=some (.tup xs)->c≠x:=fun c xs r z=>by subst z;rw[r]at mu;exact mu
 by_cases hb:b=x
 ·subst hb;rw[ag]at q;cases q;exact new
 ·rw[ak hb]at q
  by_cases hbe:b=e
  ·have q':H b=some (.own x):=by
    rcases he with z|z
    ·exact absurd (hbe.trans z) hb
    ·rw[hbe];exact z
   rw[q]at q';cases q';obtain⟨v,hv⟩:=heo;exact⟨v,by rw[hbe];exact hv⟩
  ·refine(ok b u q).stay (fun c v hc r=>k c v ?_ r) (fun c r=>by rw[ak (adT c b r)];exact r) fun c xs r=>by rw[ak (afU c xs r)];exact r
   rcases hc with rfl|hc
   ·exact hbe
   ·rintro rfl;rcases he with z|z
    ·exact adT c b hc z
    ·rw[hc]at z;cases z;exact hb rfl
end
structure Un (fs ex:List Addr)(H H':Hp)(h h':Heap):Prop where
 keep:∀ b o,h.get? b=some o->H b=none->b ∉ fs->b ∉ ex->h'.get? b=some o
 slot:∀ b o,h.get? b=some o->H b=none->b∈fs->b ∉ ex->∃ sl,h'.get? b=some { o with slots:=sl }
 free:∀ b o,h.get? b=some o->H b=none->b ∉ ex->H' b=none
 there:∀ b o,h.get? b=some o->b ∉ ex->∃ o',h'.get? b=some o'
 tups:∀ b xs,H b=some (.tup xs)->H' b=some (.tup xs)
 Ka:∀ b o u,H b=some (.UG o u)->H' b=some (.UG o u)
 Mo:∀ b ps,H b=some (.tbl ps)->∃ more,H' b=some (.tbl (ps++more))
section
variable {fs fs' ex ex':List Addr} {H H1 H2:Hp} {h h1 h2 h':Heap} {a x e:Addr} {o:HO}
theorem Un.any (u:Un fs ex H H1 h h1){b:Addr}{ob:Obj}(q:h.get? b=some ob)(n:H b=none)(hx:b ∉ ex):∃ sl,h1.get? b=some { ob with slots:=sl }:=by
 by_cases hb:b∈fs
 ·exact u.slot b ob q n hb hx
 ·exact⟨ob.slots,u.keep b ob q n hb hx⟩
theorem Un.kept (k:∀ b u,h.get? b=some u->h'.get? b=some u):Un fs ex H H h h' :=
 ⟨fun b ob q _ _ _=>k b ob q,fun b ob q _ _ _=>⟨ob.slots,k b ob q⟩,fun _ _ _ n _=>n,fun b ob q _=>⟨ob,k b ob q⟩,fun _ _ q=>q,fun _ _ _ q=>q,fun _ ps q=>⟨#[],by rw[q];simp⟩⟩
theorem Un.refl:Un fs ex H H h h:=Un.kept fun _ _ q=>q
theorem Un.laid (k:∀ b u,h.get? b=some u->h'.get? b=some u)(hp:h.objs.size<=a)(hn:H a=none):Un fs ex H (upd H a o) h h' where
 keep:=fun b u q _ _ _=>k b u q
 slot:=fun b u q _ _ _=>⟨u.slots,k b u q⟩
 free:=fun b u q n _=>by rw[ak (Nat.ne_of_lt (Nat.lt_of_lt_of_le (Heap.lt_size q) hp))];exact n
 there:=fun b u q _=>⟨u,k b u q⟩
 tups:=fun b xs q=>by rw[ak (ao q hn)];exact q
 Ka:=fun b u xs q=>by rw[ak (ao q hn)];exact q
 Mo:=fun b ps q=>⟨#[],by rw[ak (ao q hn),q];simp⟩
theorem Un.write (mu:Mut (H x))(he:e=x\/H e=some (.own x))(k:∀ b u,b≠e->h.get? b=some u->h'.get? b=some u)(heo:∃ u,h'.get? e=some u):Un fs ex H (upd H x o) h h':=by
 have hx:∀ b,H b=none->b≠x:=fun b n z=>by subst z;rw[n]at mu;exact mu
 have hb:∀ b,H b=none->b≠e:=fun b n z=>by
  subst z;rcases he with r|r
  ·exact hx b n r
  ·rw[n]at r;cases r
 have hm:∀ b u,H b=some u->¬ Mut (some u)->b≠x:=fun b u q nm z=>by subst z;rw[q]at mu;exact nm mu
 refine⟨fun b u q n _ _=>k b u (hb b n) q,fun b u q n _ _=>⟨u.slots,k b u (hb b n) q⟩,fun b u q n _=>by rw[ak (hx b n)];exact n,fun b u q _=>?_,
  fun b xs q=>by rw[ak (hm b _ q fun z=>z)];exact q,fun b u xs q=>by rw[ak (hm b _ q fun z=>z)];exact q,fun b ps q=>⟨#[],by rw[ak (hm b _ q fun z=>z),q];simp⟩⟩
 by_cases hbe:b=e
 ·subst hbe;exact heo
 ·exact⟨u,k b u hbe q⟩
end
def trk (h:Heap)(H:Hp):List Addr:=(List.range h.objs.size).filter fun a=>(H a).isSome
def Mp (h:Heap)(H:Hp):Heap:=PySem.W.hideAll h (trk h H)
theorem VD (h:Heap)(H:Hp):(Mp h H).objs.size=h.objs.size:=PySem.W.hideAll_size _ _
theorem X7 {h:Heap}{H:Hp}{b:Addr}{o:Obj}(e:h.get? b=some o)(n:H b=none):(Mp h H).get? b=some o :=
 PySem.W.hideAll_get _ e fun hm=>by
  have q:(H b).isSome=true:=(List.mem_filter.mp hm).2;rw[n]at q;simp at q
theorem aat {h:Heap}{H:Hp}{b:Addr}{o:Obj}(e:(Mp h H).get? b=some o):h.get? b=some o/\H b=none:=by
 have e':h.get? b=some o:=PySem.W.of_hideAll (trk h H) e;refine⟨e',?_⟩;cases q:H b with
 |none=>rfl
 |some x =>
  have hm:b∈trk h H:=List.mem_filter.mpr ⟨mem_range.mpr (Heap.lt_size e'),by simp[q]⟩;have z:(Mp h H).get? b=none:=PySem.W.hideAll_none (trk h H) hm;rw[z]at e;cases e
def aau (g h:Heap)(L:Addr):List (Addr×Obj):=(List.range h.objs.size).filterMap fun a=>if a=L\/(g.get? a).isSome=true then none else(h.get? a).map fun o=>(a,o)
def rest (g h:Heap)(L d:Addr):List (Addr×Obj):=(aau g h L).filter fun p=>decide (p.1≠d)
end L2
namespace L2
open PySem PySem.Spec PyProof.Rows
structure Mod (K:Frag)(mg:Str->Option Value)(base:Heap):Prop where
 kin:K.In base
 glob:base.Ns mainGlobals mg
 blt:∃ mb,base.Ns builtinsNs mb/\∀ x:Str,x ≠ "__name__"->mb x=bootBuiltins x
 nolimit:base.NoLimit
structure Cx where
 prog:Program
 w:World
 K:Frag
 mg:Str->Option Value
 base:Heap
 A:Around
 N:List Str
 s₀:Shared
 H₀:Hp
 env:Env
 outer:List Env
 stack:List Env
 ex:List Addr
 fn:Str->Bool
 calm:Bool
 pn:List (Addr×Obj)
 xe:Value->Shared->Prop
def frs (l:List Env):List Addr:=l.filterMap (·.frame)
abbrev Cx.fs (X:Cx):List Addr:=frs X.outer
def Vis (sc:Scope)(x:Str):Prop:=sc.names.lookup x=some .local\/sc.names.lookup x=some .cell\/sc.names.lookup x=some .free
def Loc (sc:Scope)(x:Str):Prop:=sc.names.lookup x=some .local\/sc.names.lookup x=some .cell
def Look (env:Env)(h:Heap)(m:Str->Option Value)(x:Str)(u:Value):Prop :=
 (env.kindOf x=some .local/\m x=some u)\/((env.kindOf x=some .cell\/env.kindOf x=some .free)/\∃ c,env.cells.lookup x=some c/\h.IsCell c (some u))
structure Cx.Ok (X:Cx):Prop where
 mod:Mod X.K X.mg X.base
 kind:X.env.scope.kind=.function
 glob:X.env.globals=mainGlobals
 blt:X.env.builtins=builtinsNs
 above:X.s₀.heap.objs.size<=X.env.locals
 inj:∀ x y c,X.env.cells.lookup x=some c->X.env.cells.lookup y=some c->x=y
 has:∀ x,(X.env.kindOf x=some .cell\/X.env.kindOf x=some .free)->∃ c,X.env.cells.lookup x=some c
 cab:∀ x c,X.fn x=true->X.env.cells.lookup x=some c->X.s₀.heap.objs.size<=c
 hd:X.calm=true->X.A.handled=none
 frames:X.A.frames=some X.stack
 stk:X.stack=X.outer\/(X.stack=X.env::X.outer/\X.env.frame=some X.env.locals)
 exf:∀ b∈X.ex,b≠X.env.locals/\∀ x c,X.env.cells.lookup x=some c->c≠b
 bs:∀ b o,X.base.get? b=some o->X.s₀.heap.get? b=some o/\X.H₀ b=none
 bsz:X.base.objs.size<=X.s₀.heap.objs.size
 X8:∀ b o,X.base.get? b=some o->b ∉ X.ex
 X9:∀ b∈X.ex,b ∉ X.fs
 FC:X.s₀.heap.FunFrames X.base X.outer
 frf:∀ b∈X.fs,X.H₀ b=none
structure Inv (X:Cx)(pins:List (Addr×Obj))(σ:List (Option V))(H:Hp)(s:Shared):Prop where
 ok:X.Ok
 os:s.os=X.s₀.os
 bare:AllBare s.gens
 base:Un X.fs X.ex X.H₀ H X.s₀.heap s.heap
 loc:∃ m,s.heap.Ns X.env.locals m/\∀(i:Nat)(x:Str)(v:V),X.N[i]? = some x->σ[i]? = some (some v)->Vis X.env.scope x->∃ u,RelV v u/\Look X.env s.heap m x u
 cell:∀ x c,X.env.cells.lookup x=some c->∃ v,s.heap.IsCell c v
 free:H X.env.locals=none
 xV:∀ x c,X.env.cells.lookup x=some c->H c=none
 pin:∀ p∈X.pn++pins,s.heap.get? p.1=some p.2/\H p.1=none/\p.1≠X.env.locals/\p.1 ∉ X.fs/\∀ v,p.2.data≠.cell v
 hok:Ag X.prog X.w H s.heap
 len:σ.length=X.N.length
section
variable {X:Cx} {pins:List (Addr×Obj)} {σ:List (Option V)} {H H':Hp} {s:Shared} {h':Heap}
theorem Cx.Ok.afV (ok:X.Ok){b:Addr}{o:Obj}(e:X.base.get? b=some o):b ∉ X.fs:=fun hb=>by
 have:=(ok.FC.mem hb).1;rw[e]at this;cases this
theorem Inv.bs (I:Inv X pins σ H s):∀ b o,X.base.get? b=some o->s.heap.get? b=some o/\H b=none:=fun b o e =>
 ⟨I.base.keep b o (I.ok.bs b o e).1 (I.ok.bs b o e).2 (I.ok.afV e) (I.ok.X8 b o e),I.base.free b o (I.ok.bs b o e).1 (I.ok.bs b o e).2 (I.ok.X8 b o e)⟩
theorem Inv.bk (I:Inv X pins σ H s):∀ b o,X.base.get? b=some o->s.heap.get? b=some o:=fun b o e=>(I.bs b o e).1
theorem Inv.mod (I:Inv X pins σ H s):Mod X.K X.mg X.base:=I.ok.mod
theorem Inv.Ah (I:Inv X pins σ H s):X.K.In s.heap:=I.ok.mod.kin.keeps I.bk
theorem Inv.lt (I:Inv X pins σ H s):X.env.locals<s.heap.objs.size:=let ⟨_,hn,_⟩:=I.loc;hn.lt
theorem Inv.sz (I:Inv X pins σ H s):X.s₀.heap.objs.size<=s.heap.objs.size:=Nat.le_trans I.ok.above (Nat.le_of_lt I.lt)
theorem Inv.afW (I:Inv X pins σ H s){a:Addr}(h:s.heap.objs.size<=a):a ∉ X.fs:=fun hb=>by
 obtain⟨_,o,ho,_⟩:=I.ok.FC.mem hb;exact absurd (Nat.lt_of_lt_of_le (Heap.lt_size ho) (Nat.le_trans I.sz h)) (Nat.lt_irrefl _)
theorem Inv.cne (I:Inv X pins σ H s):∀ x c,X.env.cells.lookup x=some c->c≠X.env.locals:=fun x c e z=>by
 obtain⟨v,o,ho,hd⟩:=I.cell x c e;obtain⟨m,⟨o',es,ep,ho',hd',_⟩,_⟩:=I.loc;rw[z,ho']at ho;cases ho;rw[hd']at hd;cases hd
theorem Inv.FC (I:Inv X pins σ H s):s.heap.FunFrames X.base X.outer:=by
 have all:∀(l:List Env),(∀ b∈frs l,b∈X.fs)->X.s₀.heap.FunFrames X.base l->s.heap.FunFrames X.base l:=by
  intro l
  induction l with
  |nil=>intro _ _;trivial
  |cons env r ih =>
   intro hs hl;obtain⟨hk,⟨L,o,hf,hn,ho,hd⟩,hr⟩:=hl;have hL:L∈X.fs:=hs L (by unfold frs;rw[List.filterMap_cons,hf];exact mem_cons_self);obtain⟨sl,e⟩:=I.base.slot L o ho (I.ok.frf L hL) hL fun z=>I.ok.X9 L z hL;exact⟨hk,⟨L,_,hf,hn,e,hd⟩,ih (fun b hb=>hs b (by unfold frs;rw[List.filterMap_cons,hf];exact mem_cons_of_mem _ hb)) hr⟩
 exact all X.outer (fun _ hb=>hb) I.ok.FC
theorem Inv.stack (I:Inv X pins σ H s):s.heap.FunFrames X.base X.stack:=by
 rcases I.ok.stk with e|⟨e,hf⟩
 ·rw[e];exact I.FC
 ·rw[e];obtain⟨m,hn,_⟩:=I.loc;refine .cons (by rw[I.ok.kind];decide) hf hn ?_ I.FC;exact Heap.get?_none_of_le (Nat.le_trans I.ok.bsz I.ok.above)
theorem Inv.RI (I:Inv X pins σ H s):∀ b∈frs X.stack,b∈X.env.locals::X.fs:=fun b hb=>by
 rcases I.ok.stk with e|⟨e,hf⟩
 ·rw[e]at hb;exact mem_cons_of_mem _ hb
 ·rw[e]at hb;unfold frs at hb;rw[List.filterMap_cons,hf]at hb;exact hb
theorem Inv.UH (I:Inv X pins σ H s):∀ b∈frs X.stack,H b=none:=fun b hb=>by
 rcases List.mem_cons.mp (I.RI b hb) with e|hb
 ·rw[e];exact I.free
 ·obtain⟨_,o,ho,_⟩:=I.ok.FC.mem hb;exact I.base.free b o ho (I.ok.frf b hb) fun z=>I.ok.X9 b z hb
theorem Inv.step {g':Array GenState}{t':Nat}{d':Drawn}{ch:List Addr}(I:Inv X pins σ H s)
  (hch:∀ b∈ch,(b∈X.ex\/X.s₀.heap.objs.size<=b)/\b≠X.env.locals/\(∀ x c,X.env.cells.lookup x=some c->c≠b)/\∀ p∈X.pn++pins,p.1≠b)
  (keep:∀ b o,b≠X.env.locals->b ∉ X.fs->b ∉ ch->s.heap.get? b=some o->H b=none->h'.get? b=some o)
  (slot:∀ b o,b≠X.env.locals->b∈X.fs->b ∉ ch->s.heap.get? b=some o->H b=none->∃ sl,h'.get? b=some { o with slots:=sl }) (free:∀ b o,b ∉ ch->s.heap.get? b=some o->H b=none->H' b=none)
  (there:∀ b o,b ∉ ch->s.heap.get? b=some o->∃ o',h'.get? b=some o')
  (tups:∀ b xs,H b=some (.tup xs)->H' b=some (.tup xs)) (Ka:∀ b o u,H b=some (.UG o u)->H' b=some (.UG o u)) (Mo:∀ b ps,H b=some (.tbl ps)->∃ more,H' b=some (.tbl (ps++more)))
  (ns:∀ m,s.heap.Ns X.env.locals m->h'.Ns X.env.locals m) (hok:Ag X.prog X.w H' h') (hg:AllBare g') :
  Inv X pins σ H' { s with heap:=h',gens:=g',drawn:=d',toks:=t' }:=by
 have neL:∀ b o,X.s₀.heap.get? b=some o->b≠X.env.locals:=fun b o e=>Nat.ne_of_lt (Nat.lt_of_lt_of_le (Heap.lt_size e) I.ok.above);have neC:∀ b o,X.s₀.heap.get? b=some o->b ∉ X.ex->b ∉ ch:=fun b o e hx hb=>by
  rcases (hch b hb).1 with z|z
  ·exact hx z
  ·exact absurd (Nat.lt_of_lt_of_le (Heap.lt_size e) z) (Nat.lt_irrefl _)
 have cellK:∀ x c,X.env.cells.lookup x=some c->∀ v,s.heap.IsCell c v->h'.IsCell c v:=fun x c e v ⟨o,ho,hd⟩=>by
  have nch:c ∉ ch:=fun z=>(hch c z).2.2.1 x c e rfl
  by_cases hc:c∈X.fs
  ·obtain⟨sl,q⟩:=slot c o (I.cne x c e) hc nch ho (I.xV x c e);exact⟨_,q,hd⟩
  ·exact⟨o,keep c o (I.cne x c e) hc nch ho (I.xV x c e),hd⟩
 refine⟨I.ok,I.os,hg,⟨fun b o e n hb hx=>?_,fun b o e n hb hx=>?_,fun b o e n hx=>?_,fun b o e hx=>?_,fun b xs e=>tups b xs (I.base.tups b xs e),fun b o xs e=>Ka b o xs (I.base.Ka b o xs e),fun b ps e=>?_⟩,?_,fun x c e=>?_,?_,fun x c e=>?_,fun p hp=>?_,hok,I.len⟩
 ·exact keep b o (neL b o e) hb (neC b o e hx) (I.base.keep b o e n hb hx) (I.base.free b o e n hx)
 ·obtain⟨sl,e1⟩:=I.base.slot b o e n hb hx;obtain⟨sl',e2⟩:=slot b _ (neL b o e) hb (neC b o e hx) e1 (I.base.free b o e n hx);exact⟨sl',e2⟩
 ·obtain⟨o',e1⟩:=I.base.there b o e hx;exact free b o' (neC b o e hx) e1 (I.base.free b o e n hx)
 ·obtain⟨o',e1⟩:=I.base.there b o e hx;exact there b o' (neC b o e hx) e1
 ·obtain⟨m1,e1⟩:=I.base.Mo b ps e;obtain⟨m2,e2⟩:=Mo b _ e1;exact⟨m1++m2,by rw[e2,Array.append_assoc]⟩
 ·obtain⟨m,hn,hl⟩:=I.loc;refine⟨m,ns m hn,fun i x v e1 e2 e3=>?_⟩;obtain⟨u,r,l⟩:=hl i x v e1 e2 e3;refine⟨u,r,?_⟩;rcases l with l|⟨k,c,e,z⟩
  ·exact .inl l
  ·exact .inr ⟨k,c,e,cellK x c e _ z⟩
 ·obtain⟨v,z⟩:=I.cell x c e;exact⟨v,cellK x c e v z⟩
 ·obtain⟨m,⟨o,_,_,ho,_⟩,_⟩:=I.loc;exact free _ o (fun z=>(hch _ z).2.1 rfl) ho I.free
 ·obtain⟨v,o,ho,hd⟩:=I.cell x c e;exact free c o (fun z=>(hch c z).2.2.1 x c e rfl) ho (I.xV x c e)
 ·obtain⟨e,n,ne,nf,d⟩:=I.pin p hp;have nch:p.1 ∉ ch:=fun z=>(hch p.1 z).2.2.2 p hp rfl;exact⟨keep p.1 p.2 ne nf nch e n,free p.1 p.2 nch e n,ne,nf,d⟩
theorem Inv.un {t':Nat}(I:Inv X pins σ H s)(u:Un X.fs [] H H' s.heap h')(hok:Ag X.prog X.w H' h'):Inv X pins σ H' { s with heap:=h',toks:=t' }:=by
 obtain⟨m,⟨o,es,ep,ho,r⟩,_⟩:=id I.loc;obtain⟨sl,hL⟩:=u.any ho I.free (by simp);exact I.step (g':=s.gens) (d':=s.drawn) (ch:=[]) (fun _ z=>nomatch z) (fun b o _ hb _ e n=>u.keep b o e n hb (by simp)) (fun b o _ hb _ e n=>u.slot b o e n hb (by simp)) (fun b o _ e n=>u.free b o e n (by simp)) (fun b o _ e=>u.there b o e (by simp)) u.tups u.Ka u.Mo (fun m' hm=>by
  obtain⟨o',es',ep',ho',r'⟩:=hm;rw[ho]at ho';cases ho';exact⟨_,es',ep',hL,r'⟩) hok I.bare
theorem Inv.call {g':Array GenState}{t':Nat}{d':Drawn}{ch:List Addr}(I:Inv X pins σ H s)(u:Un (frs X.stack) ch H H' s.heap h')(hok:Ag X.prog X.w H' h')(hg:AllBare g')
  (hch:∀ b∈ch,(b∈X.ex\/X.s₀.heap.objs.size<=b)/\b≠X.env.locals/\(∀ x c,X.env.cells.lookup x=some c->c≠b)/\∀ p∈X.pn++pins,p.1≠b) :
  Inv X pins σ H' { s with heap:=h',gens:=g',drawn:=d',toks:=t' }:=by
 obtain⟨m,⟨o,es,ep,ho,r⟩,_⟩:=id I.loc;obtain⟨sl,hL⟩:=u.any ho I.free fun z=>(hch _ z).2.1 rfl;exact I.step (ch:=ch) hch (fun b o hL hb hc e n=>u.keep b o e n (fun z=>(List.mem_cons.mp (I.RI b z)).elim hL hb) hc) (fun b o _ _ hc e n=>u.any e n hc) (fun b o hc e n=>u.free b o e n hc) (fun b o hc e=>u.there b o e hc) u.tups u.Ka u.Mo (fun m' hm=>by
  obtain⟨o',es',ep',ho',r'⟩:=hm;rw[ho]at ho';cases ho';exact⟨_,es',ep',hL,r'⟩) hok hg
theorem Inv.turned {t':Nat}{it:Addr}(I:Inv X pins σ H s)(k:∀ b o,b≠it->s.heap.get? b=some o->h'.get? b=some o)(hn:H it=none)(hL:it≠X.env.locals)
  (h1:it∈X.ex\/X.s₀.heap.objs.size<=it) (h2:∀ x c,X.env.cells.lookup x=some c->c≠it) (h3:∀ p∈X.pn++pins,p.1≠it):Inv X pins σ H { s with heap:=h',toks:=t' }:=by
 have nit:∀ b u,H b=some u->b≠it:=fun b u e z=>by rw[z,hn]at e;cases e
 refine I.step (g':=s.gens) (d':=s.drawn) (ch:=[it]) (fun b hb=>?_) (fun b o _ _ hc e _=>k b o (fun z=>hc (by simp[z])) e) (fun b o _ _ hc e _=>⟨o.slots,k b o (fun z=>hc (by simp[z])) e⟩) (fun _ _ _ _ n=>n)
  (fun b o hc e=>⟨o,k b o (fun z=>hc (by simp[z])) e⟩) (fun _ _ e=>e) (fun _ _ _ e=>e) (fun b ps e=>⟨#[],by rw[e];simp⟩) (fun m hm=>?_) (fun b u e=>?_) I.bare
 ·have e:b=it:=by simpa using hb
  subst e;exact⟨h1,hL,h2,h3⟩
 ·obtain⟨o,es,ep,ho,r⟩:=hm;exact⟨o,es,ep,k _ o (Ne.symm hL) ho,r⟩
 ·refine(I.hok b u e).stay (fun c v hc q=>k c v ?_ q) (fun _ q=>q) fun _ _ q=>q;rcases hc with z|z
  ·rw[z];exact nit b u e
  ·exact nit c _ z
theorem Inv.tok (I:Inv X pins σ H s)(t:Nat):Inv X pins σ H { s with toks:=t }:=I.un (h':=s.heap) (t':=t) Un.refl I.hok
theorem Inv.kept {t':Nat}(I:Inv X pins σ H s)(k:∀ b u,s.heap.get? b=some u->h'.get? b=some u):Inv X pins σ H { s with heap:=h',toks:=t' }:=I.un (Un.kept k) (I.hok.kept k)
theorem Inv.laid {a:Addr}{o:HO}{t':Nat}(I:Inv X pins σ H s)(k:∀ b u,s.heap.get? b=some u->h'.get? b=some u)(hp:s.heap.objs.size<=a)(new:fi X.prog X.w (upd H a o) h' a o) :
  Inv X pins σ (upd H a o) { s with heap:=h',toks:=t' }:=I.un (Un.laid k hp (I.hok.fresh hp)) (I.hok.laid k hp new)
theorem Inv.write {x e:Addr}{o:HO}{t':Nat}(I:Inv X pins σ H s)(mu:Mut (H x))(he:e=x\/H e=some (.own x))(k:∀ b u,b≠e->s.heap.get? b=some u->h'.get? b=some u)(heo:∃ u,h'.get? e=some u)
  (new:fi X.prog X.w (upd H x o) h' x o):Inv X pins σ (upd H x o) { s with heap:=h',toks:=t' }:=I.un (Un.write mu he k heo) (I.hok.write mu he k heo new)
theorem Inv.UI {Ya:List (Addr×Obj)}(I:Inv X pins σ H s)(h:∀ p∈Ya,s.heap.get? p.1=some p.2/\H p.1=none/\p.1≠X.env.locals/\p.1 ∉ X.fs/\∀ v,p.2.data≠.cell v):Inv X Ya σ H s :=
 ⟨I.ok,I.os,I.bare,I.base,I.loc,I.cell,I.free,I.xV,fun p hp=>(mem_append.mp hp).elim (fun z=>I.pin p (mem_append_left _ z)) (h p),I.hok,I.len⟩
theorem PQ {N:List Str}(hN:N.Nodup){i j:Nat}{x:Str}(a:N[i]? = some x)(b:N[j]? = some x):i=j:=by
 obtain⟨h1,e1⟩:=List.getElem?_eq_some_iff.mp a;obtain⟨h2,e2⟩:=List.getElem?_eq_some_iff.mp b;exact(List.getElem_inj hN).mp (e1.trans e2.symm)
theorem Lp {M:Model}{A:Around}{E:Value->Shared->Prop}{i:Nat}{x:Str}{v:V}{u:Value}{Q:Unit->Shared->Prop}(I:Inv X pins σ H s)(hN:X.N.Nodup)(hi:X.N[i]? = some x)(hx:Loc X.env.scope x)(r:RelV v u)
  (h:∀ s',Inv X pins (σ.set i (some v)) H s'->(∃ a,Heap.SameBut a s.heap s'.heap/\(a=X.env.locals\/X.env.cells.lookup x=some a))->Q () s') (hf:X.fn x=true\/X.env.scope.names.lookup x=some .local:=by first|exact .inl rfl|exact .inr rfl|assumption):wpAny M A (storeName X.env x u) Q E s:=by
 obtain⟨m,hn,hl⟩:=id I.loc;have hcls:(X.env.scope.kind == .class||(X.env.scope.kind == .module&&X.env.locals != X.env.globals))=false:=by rw[I.ok.kind];rfl
 have ahu:i<σ.length:=by rw[I.len];exact(List.getElem?_eq_some_iff.mp hi).1
 have cne:=I.cne;have tracked:∀{a:Addr} {h':Heap},(∃ o,s.heap.get? a=some o/\H a=none)->Heap.SameBut a s.heap h'->Ag X.prog X.w H h':=fun {a h'} ha hs b ob e=>by
  obtain⟨_,_,hfree⟩:=ha;refine(I.hok b ob e).stay (fun c w' hc q=>(hs.2 c ?_).trans q) (fun _ q=>q) fun _ _ q=>q;rintro rfl;rcases hc with rfl|hc
  ·rw[hfree]at e;cases e
  ·rw[hfree]at hc;cases hc
 rcases hx with hk|hk
 ·refine wpAny_storeName_local hk hn (fun h' hn' hs=>?_) hcls;obtain⟨oL,_,_,hoL,_⟩:=id hn;refine h _ ⟨I.ok,I.os,I.bare,⟨fun b o e n hb hx=>?_,fun b o e n hb hx=>?_,I.base.free,fun b o e hx=>?_,I.base.tups,I.base.Ka,I.base.Mo⟩,⟨_,hn',fun j y v' e1 e2 e3=>?_⟩,fun y c e=>?_,I.free,I.xV,fun p hp=>?_,tracked ⟨oL,hoL,I.free⟩ hs,by simpa using I.len⟩ ⟨_,hs,.inl rfl⟩
  ·exact(hs.2 b (Nat.ne_of_lt (Nat.lt_of_lt_of_le (Heap.lt_size e) I.ok.above))).trans (I.base.keep b o e n hb hx)
  ·obtain⟨sl,e1⟩:=I.base.slot b o e n hb hx;exact⟨sl,(hs.2 b (Nat.ne_of_lt (Nat.lt_of_lt_of_le (Heap.lt_size e) I.ok.above))).trans e1⟩
  ·obtain⟨o',e1⟩:=I.base.there b o e hx;exact⟨o',(hs.2 b (Nat.ne_of_lt (Nat.lt_of_lt_of_le (Heap.lt_size e) I.ok.above))).trans e1⟩
  ·by_cases hj:j=i
   ·subst hj;rw[hi]at e1;cases e1;rw[List.getElem?_set_self ahu]at e2;cases e2;exact⟨u,r,.inl ⟨hk,by simp⟩⟩
   ·rw[List.getElem?_set_ne (Ne.symm hj)]at e2;obtain⟨u',r',q⟩:=hl j y v' e1 e2 e3;refine⟨u',r',?_⟩;rcases q with ⟨k,e⟩|⟨k,c,e,z⟩
    ·refine .inl ⟨k,?_⟩;have:y≠x:=fun e=>hj (PQ hN e1 (e ▸ hi));simp[this,e]
    ·exact .inr ⟨k,c,e,z.sameBut hs (cne y c e)⟩
  ·obtain⟨w',z⟩:=I.cell y c e;exact⟨w',z.sameBut hs (cne y c e)⟩
  ·obtain⟨e,n,ne,nf,d⟩:=I.pin p hp;exact⟨(hs.2 p.1 ne).trans e,n,ne,nf,d⟩
 ·have hfn:X.fn x=true:=by
   rcases hf with z|z
   ·exact z
   ·rw[z]at hk;cases hk
  obtain⟨c,hc⟩:=I.ok.has x (.inl hk);obtain⟨w',z⟩:=I.cell x c hc;refine wpAny_storeName_cell I.ok.kind hk hc z (fun h' hc' hs=>?_);obtain⟨oc,hoc,afX⟩:=id z;refine h { s with heap:=h' } ⟨I.ok,I.os,I.bare,⟨fun b o e n hb hx=>?_,fun b o e n hb hx=>?_,I.base.free,fun b o e hx=>?_,I.base.tups,I.base.Ka,I.base.Mo⟩,⟨m,hn.sameBut hs (Ne.symm (cne x c hc)),fun j y v' e1 e2 e3=>?_⟩,fun y c' e=>?_,I.free,I.xV,fun p hp=>?_,tracked ⟨oc,hoc,I.xV x c hc⟩ hs,by simpa using I.len⟩ ⟨c,hs,.inr hc⟩
  ·exact(hs.2 b (Nat.ne_of_lt (Nat.lt_of_lt_of_le (Heap.lt_size e) (I.ok.cab x c hfn hc)))).trans (I.base.keep b o e n hb hx)
  ·obtain⟨sl,e1⟩:=I.base.slot b o e n hb hx;exact⟨sl,(hs.2 b (Nat.ne_of_lt (Nat.lt_of_lt_of_le (Heap.lt_size e) (I.ok.cab x c hfn hc)))).trans e1⟩
  ·obtain⟨o',e1⟩:=I.base.there b o e hx;exact⟨o',(hs.2 b (Nat.ne_of_lt (Nat.lt_of_lt_of_le (Heap.lt_size e) (I.ok.cab x c hfn hc)))).trans e1⟩
  ·by_cases hj:j=i
   ·subst hj;rw[hi]at e1;cases e1;rw[List.getElem?_set_self ahu]at e2;cases e2;exact⟨u,r,.inr ⟨.inl hk,c,hc,hc'⟩⟩
   ·rw[List.getElem?_set_ne (Ne.symm hj)]at e2;obtain⟨u',r',q⟩:=hl j y v' e1 e2 e3;refine⟨u',r',?_⟩;rcases q with q|⟨k,c',e,z'⟩
    ·exact .inl q
    ·refine .inr ⟨k,c',e,z'.sameBut hs ?_⟩;rintro rfl;exact hj (PQ hN e1 (I.ok.inj _ _ _ e hc ▸ hi))
  ·by_cases hcc:c'=c
   ·subst hcc;exact⟨_,hc'⟩
   ·obtain⟨w2,z2⟩:=I.cell y c' e;exact⟨w2,z2.sameBut hs hcc⟩
  ·obtain⟨e,n,ne,nf,d⟩:=I.pin p hp;refine⟨(hs.2 p.1 ?_).trans e,n,ne,nf,d⟩;intro q;rw[q,hoc]at e;have q':oc=p.2:=Option.some.inj e;exact d w' (by rw[<-q'];exact afX)
theorem GH {M:Model}{A:Around}{E:Value->Shared->Prop}{i:Nat}{x:Str}{v:V}{u:Value}{Q:Unit->Shared->Prop}(I:Inv X pins σ H s)(hN:X.N.Nodup)(hi:X.N[i]? = some x)(hx:Loc X.env.scope x)(r:RelV v u)
  (h:∀ s',Inv X pins (σ.set i (some v)) H s'->Q () s') (hf:X.fn x=true\/X.env.scope.names.lookup x=some .local:=by first|exact .inl rfl|exact .inr rfl|assumption):wpAny M A (storeName X.env x u) Q E s :=
 Lp I hN hi hx r (fun s' I' _=>h s' I') hf
theorem Inv.call' {s':Shared}{ch:List Addr}(I:Inv X pins σ H s)(ho:s'.os=s.os)(u:Un (frs X.stack) ch H H' s.heap s'.heap)(hok:Ag X.prog X.w H' s'.heap)(hg:AllBare s'.gens)
  (hch:∀ b∈ch,(b∈X.ex\/X.s₀.heap.objs.size<=b)/\b≠X.env.locals/\(∀ x c,X.env.cells.lookup x=some c->c≠b)/\∀ p∈X.pn++pins,p.1≠b):Inv X pins σ H' s':=by
 obtain⟨h',g',d',t',o'⟩:=s';have e:o'=s.os:=ho;subst e;exact I.call (g':=g') (t':=t') (d':=d') u hok hg hch
end
abbrev XK:=Value->Option Addr->Hp->Prop
abbrev St:=List (Option V)
abbrev VK:=V->Hp->Prop
abbrev TE:=St->Hp->VK->Prop
abbrev TT:=St->Hp->(Bool->Hp->Prop)->Prop
abbrev TA:=St->Hp->(List V->Hp->Prop)->Prop
structure Ends where
 nx:St->Hp->Prop
 rt:VK
 bk:St->Hp->Prop:=fun _ _=>False
 ct:St->Hp->Prop:=fun _ _=>False
abbrev TS:=Ends->St->Hp->Prop
def EP (X:Cx)(pins:List (Addr×Obj))(σ:St)(Q:VK)(u:Value)(s':Shared):Prop:=∃ v H',Inv X pins σ H' s'/\RelV v u/\Q v H'
def TP (X:Cx)(pins:List (Addr×Obj))(σ:St)(Q:Bool->Hp->Prop)(b:Bool)(s':Shared):Prop:=∃ H',Inv X pins σ H' s'/\Q b H'
def AP (X:Cx)(pins:List (Addr×Obj))(σ:St)(Q:List V->Hp->Prop)(us:List Value)(s':Shared):Prop:=∃ vs H',Inv X pins σ H' s'/\Vals vs us/\Q vs H'
def SP (X:Cx)(pins:List (Addr×Obj))(D:Ends)(f:Flow)(s':Shared):Prop :=
 match f with
 |.next=>∃ σ' H',Inv X pins σ' H' s'/\D.nx σ' H'
 |.brk=>∃ σ' H',Inv X pins σ' H' s'/\D.bk σ' H'
 |.cont=>∃ σ' H',Inv X pins σ' H' s'/\D.ct σ' H'
 |.ret u=>∃ v σ' H',Inv X pins σ' H' s'/\RelV v u/\D.rt v H'
def PE (X:Cx)(e:Expr)(t:TE):Prop :=
 ∀(pins:List (Addr×Obj)) (s:Shared) (σ:St) (H:Hp) (Q:VK),Inv X pins σ H s->t σ H Q->wpAny (model X.prog X.w) X.A (eval e X.env) (EP X pins σ Q) X.xe s
def PT (X:Cx)(e:Expr)(t:TT):Prop :=
 ∀(pins:List (Addr×Obj)) (s:Shared) (σ:St) (H:Hp) (Q:Bool->Hp->Prop),Inv X pins σ H s->t σ H Q->wpAny (model X.prog X.w) X.A (isTrue e X.env (eval e X.env)) (TP X pins σ Q) X.xe s
def PW (X:Cx)(e:Expr)(t:TT):Prop :=
 ∀(whole:Sem Value)(pins:List (Addr×Obj)) (s:Shared) (σ:St) (H:Hp) (Q:Bool->Hp->Prop),Inv X pins σ H s->t σ H Q->wpAny (model X.prog X.w) X.A (isTrue e X.env whole) (TP X pins σ Q) X.xe s
theorem PW.pt {X:Cx}{e:Expr}{t:TT}(h:PW X e t):PT X e t:=h _
def PA (X:Cx)(es:List Expr)(t:TA):Prop :=
 ∀(pos:Pos)(pins:List (Addr×Obj)) (s:Shared) (σ:St) (H:Hp) (Q:List V->Hp->Prop),Inv X pins σ H s->t σ H Q->wpAny (model X.prog X.w) X.A (spliced (backTo pos (starEach es X.env))) (AP X pins σ Q) X.xe s
def PS (X:Cx)(st:Stmt)(t:TS):Prop :=
 ∀(pins:List (Addr×Obj)) (s:Shared) (σ:St) (H:Hp) (D:Ends),Inv X pins σ H s->t D σ H->wpAny (model X.prog X.w) X.A (exec st X.env) (SP X pins D) X.xe s
def RG (X:Cx)(st:List Stmt)(t:TS):Prop :=
 ∀(pins:List (Addr×Obj)) (s:Shared) (σ:St) (H:Hp) (D:Ends),Inv X pins σ H s->t D σ H->wpAny (model X.prog X.w) X.A (execs st X.env) (SP X pins D) X.xe s
theorem cT {α:Type}{t:Sem α}{Q Q':α->Shared->Prop}{M:Model}{A:Around}{E:Value->Shared->Prop}{s:Shared}(h:wpAny M A t Q E s)(hQ:∀ a s,Q a s->Q' a s):wpAny M A t Q' E s:=wpAny_mono h hQ fun _ _ x=>x
end L2
namespace L2
open PySem PySem.Spec PyProof.Rows
section
variable {X:Cx}
inductive aby (i:Nat)(σ:St)(H:Hp)(Q:VK):Prop
 |mk (v:_) (dC:σ[i]? = some (some v)) (dD:Q v H):aby i σ H Q
def adX (i:Nat):TE:=fun σ H Q=>aby i σ H Q
def tC (v:V):TE:=fun _ H Q=>Q v H
theorem acm {i:Nat}{x:Str}{pos:Pos}(hN:X.N[i]? = some x)(hv:Vis X.env.scope x)(hd:(x==("__debug__":Str))=false:=by decide)(hcd:(x==("__classdict__":Str))=false:=by decide):PE X (.Name x pos) (adX i):=by
 intro pins s σ H Q I h;obtain⟨v,e,h⟩:=h;obtain⟨m,hn,hl⟩:=I.loc;obtain⟨u,r,l⟩:=hl i x v hN e hv;have fin:EP X pins σ Q u s:=⟨v,H,I,r,h⟩;rcases l with ⟨hk,hm⟩|⟨hk,c,hc,hcell⟩
 ·exact wpAny_Name (wpAny_loadName_local I.ok.kind hk hn hm fin) hd
 ·rcases hk with hk|hk
  ·exact wpAny_Name (wpAny_loadName_cell I.ok.kind hk hc hcell fin) hd
  ·exact wpAny_Name (wpAny_loadName_free I.ok.kind hk hc hcell fin hcd) hd
theorem aj {i j pos}:PE X (.Constant (.int i) j pos) (tC (.int i)):=fun _ _ _ H _ I h=>wpAny_Constant_int ⟨.int i,H,I.tok _,⟨_,rfl⟩,h⟩
theorem fV {b j pos}:PE X (.Constant (.bool b) j pos) (tC (.bl b)):=fun _ _ _ H _ I h=>Constant_bool ⟨.bl b,H,I,rfl,h⟩
theorem uH {j pos}:PE X (.Constant .none j pos) (tC .non):=fun _ _ _ H _ I h=>Constant_none ⟨.non,H,I,rfl,h⟩
theorem aY {x j pos}:PE X (.Constant (.str x) j pos) (tC (.str x)):=fun _ _ _ H _ I h=>Calls.Constant_str ⟨.str x,H,I.tok _,⟨_,rfl⟩,h⟩
def Gl (X:Cx)(x:Str):Prop:=X.env.kindOf x=some .globalImplicit
theorem Gx {E:Value->Shared->Prop}{pins:List (Addr×Obj)}{s:Shared}{σ:St}{H:Hp}{x:Str}{u:Value}{pos:Pos}{Q:Value->Shared->Prop}(I:Inv X pins σ H s)(hg:Gl X x)(hm:X.mg x=some u)(h:Q u s)
  (hd:(x==("__debug__":Str))=false:=by decide):wpAny (model X.prog X.w) X.A (eval (.Name x pos) X.env) Q E s :=
 Calls.Name_function_global I.ok.kind hg (Calls.loadGlobal_global (by rw[I.ok.glob];exact I.mod.glob.keeps I.bk) hm h) hd
theorem qg {E:Value->Shared->Prop}{pins:List (Addr×Obj)}{s:Shared}{σ:St}{H:Hp}{x:Str}{u:Value}{pos:Pos}{Q:Value->Shared->Prop}(I:Inv X pins σ H s)(hg:Gl X x)(hm:X.mg x=none)(hv:bootBuiltins x=some u)(h:Q u s)
  (hn:x ≠ "__name__":=by decide) (hd:(x==("__debug__":Str))=false:=by decide):wpAny (model X.prog X.w) X.A (eval (.Name x pos) X.env) Q E s:=by
 obtain⟨mb,h1,h2⟩:=I.mod.blt;exact Calls.Name_function_global I.ok.kind hg (Calls.loadGlobal_builtin (by rw[I.ok.glob];exact I.mod.glob.keeps I.bk) hm (by rw[I.ok.blt];exact h1.keeps I.bk) ((h2 x hn).trans hv) h) hd
theorem bF {x:Str}{v:V}{u:Value}{pos:Pos}(hg:Gl X x)(hm:X.mg x=some u)(r:RelV v u)(hd:(x==("__debug__":Str))=false:=by decide):PE X (.Name x pos) (tC v) :=
 fun _ _ _ H _ I h=>Gx I hg hm ⟨v,H,I,r,h⟩ hd
theorem eS {x:Str}{v:V}{u:Value}{pos:Pos}(hg:Gl X x)(hm:X.mg x=none)(hv:bootBuiltins x=some u)(r:RelV v u)(hn:x ≠ "__name__":=by decide)(hd:(x==("__debug__":Str))=false:=by decide):PE X (.Name x pos) (tC v) :=
 fun _ _ _ H _ I h=>qg I hg hm hv ⟨v,H,I,r,h⟩ hn hd
def t2I (ta tb:TE)(k:Int->Int->Hp->Prop):St->Hp->Prop:=fun σ H=>ta σ H fun x H1=>tb σ H1 fun y H2=>∃ i j,x=.int i/\y=.int j/\k i j H2
variable {a b:Expr} {ta tb:TE} {pos:Pos}
def VE (p:Int->Int->Bool)(ta tb:TE):TE:=fun σ H Q=>t2I ta tb (fun i j H2=>Q (.bl (p i j)) H2) σ H
abbrev tLt:TE->TE->TE:=VE fun i j=>decide (i<j)
abbrev tLe:TE->TE->TE:=VE fun i j=>decide (i<=j)
abbrev tGt:TE->TE->TE:=VE fun i j=>decide (j<i)
abbrev tGe:TE->TE->TE:=VE fun i j=>decide (j<=i)
abbrev ait:TE->TE->TE:=VE fun i j=>decide (i=j)
abbrev aiu:TE->TE->TE:=VE fun i j=>!decide (i=j)
def tB (t:TE):TT:=fun σ H Q=>t σ H fun x H1=>∃ c,x=.bl c/\Q c H1
theorem aX {e:Expr}{t:TE}(h:PE X e t)(he:∀ whole,isTrue e X.env whole=(do let v <-whole;standAt e.pos;holding [v] (truthy v)):=by intro _;rfl):PT X e (tB t):=by
 intro pins s σ H Q I hw;refine isTrue_plain (cT (h pins s σ H _ I hw) fun v s1 ⟨x,H1,I1,r1,q1⟩=>?_) (he _);obtain⟨d,rfl,q⟩:=q1;cases r1;exact wpAny_truthy_bool ⟨H1,I1,q⟩
variable {tA tB':TT} {rest:List Expr}
def afY (t u:TT):TT:=fun σ H Q=>t σ H fun c H1=>if c=true then u σ H1 Q else Q false H1
def tOr (t u:TT):TT:=fun σ H Q=>t σ H fun c H1=>if c=true then Q true H1 else u σ H1 Q
def afZ (t:TT):TT:=fun σ H Q=>t σ H fun c H1=>Q (!c) H1
theorem fW (ha:PT X a tA):PW X (.BoolOp .And [a] pos) tA:=by
 intro wh pins s σ H Q I h;refine isTrue_and (cT (ha pins s σ H Q I h) fun c s1 e=>?_);cases c with
 |true=>exact isTrue_and_nil e
 |false=>exact e
theorem iy (ha:PT X a tA):PW X (.BoolOp .Or [a] pos) tA:=by
 intro wh pins s σ H Q I h;refine isTrue_or (cT (ha pins s σ H Q I h) fun c s1 e=>?_);cases c with
 |false=>exact isTrue_or_nil e
 |true=>exact e
theorem dG (ha:PT X a tA)(hb:PW X (.BoolOp .And (b::rest) pos) tB'):PW X (.BoolOp .And (a::b::rest) pos) (afY tA tB'):=by
 intro wh pins s σ H Q I h;refine isTrue_and (cT (ha pins s σ H _ I h) fun c s1 ⟨H1,I1,q1⟩=>?_);cases c with
 |true=>exact hb wh pins s1 σ H1 Q I1 q1
 |false=>exact⟨H1,I1,q1⟩
theorem ko (ha:PT X a tA)(hb:PW X (.BoolOp .Or (b::rest) pos) tB'):PW X (.BoolOp .Or (a::b::rest) pos) (tOr tA tB'):=by
 intro wh pins s σ H Q I h;refine isTrue_or (cT (ha pins s σ H _ I h) fun c s1 ⟨H1,I1,q1⟩=>?_);cases c with
 |true=>exact⟨H1,I1,q1⟩
 |false=>exact hb wh pins s1 σ H1 Q I1 q1
theorem cM (ha:PT X a tA):PT X (.UnaryOp .Not a pos) (afZ tA):=by
 intro pins s σ H Q I h;exact isTrue_not (ha pins s σ H (fun c H1=>Q (!c) H1) I h)
def adY (ta tb:TE):TE:=fun σ H Q=>ta σ H fun x H1=>∃ c,x=.bl c/\if c=true then tb σ H1 Q else Q (.bl false) H1
def af0 (ta tb:TE):TE:=fun σ H Q=>ta σ H fun x H1=>∃ c,x=.bl c/\if c=true then Q (.bl true) H1 else tb σ H1 Q
def adZ (ta:TE):TE:=fun σ H Q=>ta σ H fun x H1=>∃ c,x=.bl c/\Q (.bl (!c)) H1
theorem jk {op}{t:TE}(h:PE X a t):PE X (.BoolOp op [a] pos) t:=fun pins s σ H Q I hw=>BoolOp_one (h pins s σ H Q I hw)
theorem jm (ha:PE X a ta)(hb:PE X (.BoolOp .And (b::rest) pos) tb):PE X (.BoolOp .And (a::b::rest) pos) (adY ta tb):=by
 intro pins s σ H Q I h;refine BoolOp_and (cT (ha pins s σ H _ I h) fun v s1 ⟨x,H1,I1,r1,q1⟩=>?_);obtain⟨c,rfl,q1⟩:=q1;cases r1;refine wpAny_truthy_bool ?_;cases c with
 |true=>exact hb pins s1 σ H1 Q I1 q1
 |false=>exact⟨.bl false,H1,I1,rfl,q1⟩
theorem Yb (ha:PE X a ta)(hb:PE X (.BoolOp .Or (b::rest) pos) tb):PE X (.BoolOp .Or (a::b::rest) pos) (af0 ta tb):=by
 intro pins s σ H Q I h;refine BoolOp_or (cT (ha pins s σ H _ I h) fun v s1 ⟨x,H1,I1,r1,q1⟩=>?_);obtain⟨c,rfl,q1⟩:=q1;cases r1;refine wpAny_truthy_bool ?_;cases c with
 |false=>exact hb pins s1 σ H1 Q I1 q1
 |true=>exact⟨.bl true,H1,I1,rfl,q1⟩
theorem acn (ha:PE X a ta):PE X (.UnaryOp .Not a pos) (adZ ta):=by
 intro pins s σ H Q I h;refine UnaryOp_ (cT (ha pins s σ H _ I h) fun v s1 ⟨x,H1,I1,r1,q1⟩=>?_);obtain⟨c,rfl,q1⟩:=q1;cases r1;exact not_of (wpAny_truthy_bool ⟨.bl (!c),H1,I1,rfl,q1⟩)
def tIf (t:TT)(ta tb:TE):TE:=fun σ H Q=>t σ H fun c H1=>if c=true then ta σ H1 Q else tb σ H1 Q
theorem eA {c:Expr}(hc:PT X c tA)(ha:PE X a ta)(hb:PE X b tb):PE X (.IfExp c a b pos) (tIf tA ta tb):=by
 intro pins s σ H Q I h;refine wpAny_IfExp (cT (hc pins s σ H _ I h) fun d s1 ⟨H1,I1,q1⟩=>?_);cases d with
 |true=>exact ha pins s1 σ H1 Q I1 q1
 |false=>exact hb pins s1 σ H1 Q I1 q1
end
end L2
namespace L2
open PySem PySem.Spec PyProof.Rows
def aR (K:Frag)(H:Hp)(a:Addr)(xs:List V):Prop :=
 Rd H a (.lst xs) \/
  ∃(o:Obj)(its:Array Value)(n:Nat),K.lookup a=some o/\o.cls=.type "list"/\o.dict=none/\o.data=.seq its n/\its.size<=sizeLine/\Vals xs its.toList
def nR (K:Frag)(H:Hp)(a:Addr)(xs:List V):Prop :=
 Rd H a (.tup xs) \/
  ∃(o:Obj)(its:Array Value)(n:Nat),K.lookup a=some o/\o.cls=.type "tuple"/\o.data=.seq its n/\its.size<=sizeLine/\Vals xs its.toList
def af1:Value->Option V
 |.none=>some .non
 |.bool b=>some (.bl b)
 |.int i _=>some (.int i)
 |.str x _=>some (.str x)
 |.bytes b _=>some (.X4 b)
 |.float b _=>some (.flt b)
 |.ref a=>some (.ref a)
 |.type n=>some (.ty n)
 |_=>none
theorem RelV.abs {x:V}{u:Value}(r:RelV x u):af1 u=some x:=by
 cases x with
 |non=>cases r;rfl
 |bl _=>cases r;rfl
 |int _=>obtain⟨t,rfl⟩:=r;rfl
 |str _=>obtain⟨t,rfl⟩:=r;rfl
 |X4 _=>obtain⟨t,rfl⟩:=r;rfl
 |flt _=>obtain⟨t,rfl⟩:=r;rfl
 |ref _=>cases r;rfl
 |ty _=>cases r;rfl
theorem RelV.inj {x y:V}{u:Value}(r:RelV x u)(q:RelV y u):x=y:=Option.some.inj (r.abs.symm.trans q.abs)
theorem Vals.inj:∀{xs ys:List V} {us:List Value},Vals xs us->Vals ys us->xs=ys
 |_,_,_,.nil,.nil=>rfl
 |_,_,_,.cons r t,.cons r' t'=>by rw[r.inj r',Vals.inj t t']
section
variable {X:Cx} {pins:List (Addr×Obj)} {σ:St} {H:Hp} {s:Shared} {a:Addr} {xs ys:List V}
theorem aR.of {K:Frag}(h:H a=some (.lst xs)):aR K H a xs:=.inl (.inl h)
theorem nR.of {K:Frag}(h:H a=some (.tup xs)):nR K H a xs:=.inl (.inl h)
theorem Inv.list (I:Inv X pins σ H s)(h:aR X.K H a xs):∃ its:List Value,Vals xs its/\PlainL s.heap a its.toArray/\xs.length<=sizeLine:=by
 rcases h with h|⟨o,its,n,hk,hc,hd,hs,hz,r⟩
 ·obtain⟨z,its,n,r,e⟩:=h.ok I.hok;exact⟨its,r,⟨_,n,e,rfl,rfl,rfl⟩,z⟩
 ·refine⟨its.toList,r,⟨o,n,I.Ah a o hk,hc,hd,by simpa using hs⟩,?_⟩;have e:=r.length;simp only [Array.length_toList]at e;omega
theorem Inv.tuple (I:Inv X pins σ H s)(h:nR X.K H a xs):∃ its:List Value,Vals xs its/\IsTup s.heap a its.toArray/\xs.length<=sizeLine:=by
 rcases h with h|⟨o,its,n,hk,hc,hs,hz,r⟩
 ·obtain⟨z,its,r,p⟩:=h.ok I.hok;exact⟨its,r,p,z⟩
 ·refine⟨its.toList,r,⟨o,I.Ah a o hk,hc,n,by simpa using hs⟩,?_⟩;have e:=r.length;simp only [Array.length_toList]at e;omega
theorem Inv.PR (I:Inv X pins σ H s)(h:aR X.K H a xs)(h':aR X.K H a ys):xs=ys:=by
 obtain⟨its,r,⟨o,n,e,_,_,d⟩,_⟩:=I.list h;obtain⟨its',r',⟨o',n',e',_,_,d'⟩,_⟩:=I.list h';rw[e]at e';cases e';rw[d]at d'
 injection d' with d1 _
 have:its=its':=by simpa using congrArg Array.toList d1
 subst this;exact r.inj r'
end
abbrev Cx.wish (X:Cx)(E:Value->Shared->Prop):Cx:={ X with xe:=E }
abbrev Cx.nox (X:Cx):Cx:=X.wish fun _ _=>False
theorem Cx.Ok.wish {X:Cx}(ok:X.Ok)(E:Value->Shared->Prop):(X.wish E).Ok :=
 ⟨ok.mod,ok.kind,ok.glob,ok.blt,ok.above,ok.inj,ok.has,ok.cab,ok.hd,ok.frames,ok.stk,ok.exf,ok.bs,ok.bsz,ok.X8,ok.X9,ok.FC,ok.frf⟩
theorem Cx.Ok.uI {X:Cx}{E:Value->Shared->Prop}(ok:(X.wish E).Ok):X.Ok :=
 ⟨ok.mod,ok.kind,ok.glob,ok.blt,ok.above,ok.inj,ok.has,ok.cab,ok.hd,ok.frames,ok.stk,ok.exf,ok.bs,ok.bsz,ok.X8,ok.X9,ok.FC,ok.frf⟩
section
variable {X:Cx} {pins:List (Addr×Obj)} {σ:St} {H:Hp} {s:Shared} {E:Value->Shared->Prop}
theorem Inv.wish (I:Inv X pins σ H s)(E:Value->Shared->Prop):Inv (X.wish E) pins σ H s:=⟨I.ok.wish E,I.os,I.bare,I.base,I.loc,I.cell,I.free,I.xV,I.pin,I.hok,I.len⟩
theorem Inv.uI (I:Inv (X.wish E) pins σ H s):Inv X pins σ H s:=⟨I.ok.uI,I.os,I.bare,I.base,I.loc,I.cell,I.free,I.xV,I.pin,I.hok,I.len⟩
theorem SP.uI {D:Ends}{f:Flow}{s':Shared}(h:SP (X.wish E) pins D f s'):SP X pins D f s':=by
 cases f with
 |next=>obtain⟨σ',H',I,q⟩:=h;exact⟨σ',H',I.uI,q⟩
 |brk=>obtain⟨σ',H',I,q⟩:=h;exact⟨σ',H',I.uI,q⟩
 |cont=>obtain⟨σ',H',I,q⟩:=h;exact⟨σ',H',I.uI,q⟩
 |ret u=>obtain⟨v,σ',H',I,r,q⟩:=h;exact⟨v,σ',H',I.uI,r,q⟩
theorem RG.nox {st:List Stmt}{t:TS}(h:RG X.nox st t):RG X st t:=fun pins s σ H D I hw =>
 wpAny_mono (h pins s σ H D (I.wish _) hw) (fun _ _ q=>q.uI) fun _ _ z=>False.elim z
end
section
variable {X:Cx} {st:Stmt} {rest:List Stmt} {t u:TS} {e:Expr} {te:TE} {pos:Pos}
def ad0:TS:=fun D σ H=>D.nx σ H
def ad1 (t u:TS):TS:=fun D σ H=>t { D with nx:=u D } σ H
theorem aC:RG X [] ad0:=fun _ _ σ H _ I h=>wpAny_execs_nil ⟨σ,H,I,h⟩
theorem af (h1:PS X st t)(h2:RG X rest u):RG X (st::rest) (ad1 t u):=by
 intro pins s σ H D I h;refine wpAny_execs_cons (cT (h1 pins s σ H { D with nx:=u D } I h) fun f s1 q=>?_);cases f with
 |next =>
  obtain⟨σ',H',I',q⟩:=q;exact h2 pins s1 σ' H' D I' q
 |ret v=>exact q
 |brk=>exact q
 |cont=>exact q
theorem ai (h1:PS X st t):RG X [st] t:=by
 intro pins s σ H D I h;refine wpAny_execs_cons (cT (h1 pins s σ H D I h) fun f s1 q=>?_);cases f with
 |next=>exact wpAny_execs_nil q
 |ret v=>exact q
 |brk=>exact q
 |cont=>exact q
theorem Inv.quiet {pins:List (Addr×Obj)}{σ:St}{H:Hp}{s:Shared}(I:Inv X pins σ H s):interactive X.env=false:=by simp[interactive,I.ok.kind]
def ad2 (te:TE):TS:=fun D σ H=>te σ H fun _ H1=>D.nx σ H1
theorem aQ (he:PE X e te)(hs:swapsWith e none pos.line X.env=pure false:=by rfl):PS X (.Expr e pos) (ad2 te):=by
 intro pins s σ H D I h;exact wpAny_Expr_any (cT (he pins s σ H _ I h) fun v s1 ⟨x,H1,I1,r1,q1⟩=>⟨σ,H1,I1,q1⟩) I.quiet hs
def af2 (te:TE):TS:=fun D σ H=>te σ H D.rt
theorem ax (he:PE X e te):PS X (.Return (some e) pos) (af2 te):=by
 intro pins s σ H D I h;exact wpAny_Return_some (cT (he pins s σ H _ I h) fun v s1 ⟨x,H1,I1,r1,q1⟩=>⟨x,σ,H1,I1,r1,q1⟩)
def af3 (c:TT)(t u:TS):TS:=fun D σ H=>c σ H fun b H1=>if b=true then t D σ H1 else u D σ H1
theorem aV {c:Expr}{a b:List Stmt}{tc:TT}(hc:PT X c tc)(ha:RG X a t)(hb:RG X b u):PS X (.If c a b pos) (af3 tc t u):=by
 intro pins s σ H D I h;refine wpAny_If (cT (hc pins s σ H _ I h) fun d s1 ⟨H1,I1,q1⟩=>?_);cases d with
 |true=>exact ha pins s1 σ H1 D I1 q1
 |false=>exact hb pins s1 σ H1 D I1 q1
def aco:TS:=fun _ _ _=>False
theorem eB:PS X st aco:=fun _ _ _ _ _ _ h=>h.elim
end
abbrev TG:=V->St->Hp->(St->Hp->Prop)->Prop
abbrev TGs:=List V->St->Hp->(St->Hp->Prop)->Prop
def PG (X:Cx)(target:Expr)(t:TG):Prop :=
 ∀(pins:List (Addr×Obj)) (s:Shared) (σ:St) (H:Hp) (v:V) (u:Value) (Q:St->Hp->Prop),Inv X pins σ H s->RelV v u->t v σ H Q ->
  wpAny (model X.prog X.w) X.A (assign target X.env u) (fun _ s'=>∃ σ' H',Inv X pins σ' H' s'/\Q σ' H') X.xe s
def PGs (X:Cx)(ts:List Expr)(t:TGs):Prop :=
 ∀(pins:List (Addr×Obj)) (s:Shared) (σ:St) (H:Hp) (vs:List V) (us:List Value) (Q:St->Hp->Prop),Inv X pins σ H s->Vals vs us->t vs σ H Q ->
  wpAny (model X.prog X.w) X.A (assignInOrder ((assignEach ts X.env).map (·.2)) us) (fun _ s'=>∃ σ' H',Inv X pins σ' H' s'/\Q σ' H') X.xe s
abbrev acp:=V->V->V->Hp->(Hp->Prop)->Prop
def ad3 (X:Cx)(t:acp):Prop :=
 ∀(pins:List (Addr×Obj)) (s:Shared) (σ:St) (H:Hp) (o i v:V) (ov iv u:Value) (Q:Hp->Prop),Inv X pins σ H s->RelV o ov->RelV i iv->RelV v u->t o i v H Q ->
  wpAny (model X.prog X.w) X.A (setItem ov iv u) (fun _ s'=>∃ H',Inv X pins σ H' s'/\Q H') X.xe s
abbrev TIp:=V->V->Hp->VK->Prop
def PIp (X:Cx)(op:Operator)(t:TIp):Prop :=
 ∀(pins:List (Addr×Obj)) (s:Shared) (σ:St) (H:Hp) (x y:V) (v u:Value) (Q:VK),Inv X pins σ H s->RelV x v->RelV y u->t x y H Q ->
  wpAny (model X.prog X.w) X.A (inplaceOp op v u) (EP X pins σ Q) X.xe s
section
variable {X:Cx} {pos:Pos}
def Lq (i:Nat):TG:=fun v σ H Q=>Q (σ.set i (some v)) H
theorem aF {i:Nat}{x:Str}(hN:X.N.Nodup)(hi:X.N[i]? = some x)(hx:Loc X.env.scope x)(hf:X.fn x=true\/X.env.scope.names.lookup x=some .local:=by first|exact .inl rfl|exact .inr rfl|assumption):PG X (.Name x pos) (Lq i):=by
 intro pins s σ H v u Q I r h;exact wpAny_assign_Name (GH I hN hi hx r (fun s' I'=>⟨_,H,I',h⟩) hf)
def af4:TGs:=fun vs σ H Q=>vs=[]/\Q σ H
inductive Yc (t:TG)(u:TGs)(vs:List V)(σ:St)(H:Hp)(Q:(St->Hp->Prop)):Prop
 |mk (v:_) (r:_) (dC:vs=v::r) (dD:t v σ H fun σ' H'=>u r σ' H' Q):Yc t u vs σ H Q
def ad4 (t:TG)(u:TGs):TGs:=fun vs σ H Q=>Yc t u vs σ H Q
theorem eU:PGs X [] af4:=by
 intro pins s σ H vs us Q I r h;obtain⟨e,h⟩:=h;subst e;cases r;exact assignInOrder_nil ⟨σ,H,I,h⟩
theorem aS {e:Expr}{es:List Expr}{t:TG}{u:TGs}(h1:PG X e t)(h2:PGs X es u)
  (hs:(assignEach (e::es) X.env).map (·.2)=assign e X.env::(assignEach es X.env).map (·.2):=by rfl):PGs X (e::es) (ad4 t u):=by
 intro pins s σ H vs us Q I r h;obtain⟨v,vr,e1,h⟩:=h;subst e1;cases r with
 |cons r rr =>
  rw[hs];refine assignInOrder_cons (cT (h1 pins s σ H _ _ _ I r h) fun _ s1 ⟨σ1,H1,I1,q1⟩=>?_);exact h2 pins s1 σ1 H1 _ _ Q I1 rr q1
inductive abz (K:Frag)(n:Nat)(t:TGs)(v:V)(σ:St)(H:Hp)(Q:(St->Hp->Prop)):Prop
 |mk (a:_) (xs:_) (dC:v=.ref a) (dD:nR K H a xs) (eK:xs.length=n) (jj:t xs σ H Q):abz K n t v σ H Q
def af5 (K:Frag)(n:Nat)(t:TGs):TG:=fun v σ H Q=>abz K n t v σ H Q
theorem iA {es:List Expr}{k:Nat}{t:TGs}{n:Nat}(hc:X.calm=true)(h:PGs X es t)
  (hn:(assignEach es X.env).length=n:=by rfl) (hst:(assignEach es X.env).findIdx? (·.1)=none:=by rfl):PG X (.Tuple es k pos) (af5 X.K n t):=by
 intro pins s σ H v u Q I r hw;obtain⟨a,xs,e1,hq,hl,hw⟩:=hw;subst e1;cases r;obtain⟨its,rv,ht,hz⟩:=I.tuple hq;refine assign_Tuple_tuple (I.ok.hd hc) ht (by simp[hn,<-hl,rv.length]) hst fun h' hx=>?_;have I1:Inv X pins σ H { s with heap:=h' }:=I.kept (t':=s.toks) fun b o e=>hx b o (Nat.ne_of_lt (Heap.lt_size e)) e;exact h pins _ σ H xs _ Q I1 (by simpa using rv) hw
def af6 (to ti:TE)(t:acp):TG:=fun v σ H Q=>to σ H fun o H1=>ti σ H1 fun i H2=>t o i v H2 fun H3=>Q σ H3
theorem uJ {o i:Expr}{to ti:TE}{t:acp}(ho:PE X o to)(hi:PE X i ti)(hs:ad3 X t)
  (ha:∀ v,assign (.Subscript o i pos) X.env v=(do
   let ov <-holding [v] (eval o X.env)
   let iv <-holding [v,ov] (eval i X.env)
   standAt pos
   holding [v,ov,iv] (setItem ov iv v)
   release [v,ov,iv] []):=by intro _;rfl):PG X (.Subscript o i pos) (af6 to ti t):=by
 intro pins s σ H v u Q I r h;rw[ha];refine wpAny_bind (wpAny_holding (cT (ho pins s σ H _ I h) fun ov s1 ⟨x,H1,I1,r1,q1⟩=>?_));refine wpAny_bind (wpAny_holding (cT (hi pins s1 σ H1 _ I1 q1) fun iv s2 ⟨y,H2,I2,r2,q2⟩=>?_));refine wpAny_bind (wpAny_standAt (wpAny_bind (wpAny_holding (cT (hs pins s2 σ H2 x y v ov iv u _ I2 r1 r2 r q2) fun _ s3 ⟨H3,I3,q3⟩=>?_))));exact wpAny_release ⟨σ,H3,I3,q3⟩
def aaw (te:TE)(g:TG):TS:=fun D σ H=>te σ H fun x H1=>g x σ H1 D.nx
theorem g6 {tg e:Expr}{te:TE}{g:TG}(he:PE X e te)(hg:PG X tg g)(hs:swapsWithSole [tg] e pos.line X.env=pure false:=by rfl)(hw:swappedStores [tg] e X.env=pure none:=by rfl)
  (h1:(assignEach [tg] X.env).map (·.2)=[assign tg X.env]:=by rfl):PS X (.Assign [tg] e pos) (aaw te g):=by
 intro pins s σ H D I h;refine wpAny_Assign_stores (cT (he pins s σ H _ I h) fun v s1 ⟨x,H1,I1,r1,q1⟩=>?_) hs hw;rw[h1];exact cT (hg pins s1 σ H1 x v _ I1 r1 q1) fun _ s2 q=>q
theorem aL {i:Nat}{x:Str}{e:Expr}{te:TE}{pos':Pos}(hN:X.N.Nodup)(hi:X.N[i]? = some x)(hx:Loc X.env.scope x)(he:PE X e te)(hs:swapsWith e (some (.Name x pos')) pos.line X.env=pure false:=by rfl)(hf:X.fn x=true\/X.env.scope.names.lookup x=some .local:=by first|exact .inl rfl|exact .inr rfl|assumption) :
  PS X (.Assign [.Name x pos'] e pos) (aaw te (Lq i)):=by
 intro pins s σ H D I h;refine wpAny_Assign_Name (cT (he pins s σ H _ I h) fun v s1 ⟨y,H1,I1,r1,q1⟩=>?_) hs;exact GH I1 hN hi hx r1 (fun s2 I2=>⟨_,H1,I2,q1⟩) hf
def af7 (i:Nat)(te:TE)(ti:TIp):TS:=fun D σ H=>∃ x,σ[i]? = some (some x)/\te σ H fun y H1=>ti x y H1 fun z H2=>D.nx (σ.set i (some z)) H2
theorem acq {i:Nat}{x:Str}{e:Expr}{te:TE}{op:Operator}{ti:TIp}{pos':Pos}(hN:X.N.Nodup)(hi:X.N[i]? = some x)(hx:Loc X.env.scope x)(he:PE X e te)(ho:PIp X op ti)(hf:X.fn x=true\/X.env.scope.names.lookup x=some .local:=by first|exact .inl rfl|exact .inr rfl|assumption) :
  PS X (.AugAssign (.Name x pos') op e pos) (af7 i te ti):=by
 intro pins s σ H D I h;obtain⟨v,e1,h⟩:=h;obtain⟨m,hn,hl⟩:=I.loc;have vis:Vis X.env.scope x:=by rcases hx with k|k;exact .inl k;exact .inr (.inl k)
 obtain⟨u,r,l⟩:=hl i x v hi e1 vis;refine wpAny_AugAssign_Name ?_;have go:wpAny (model X.prog X.w) X.A (eval e X.env) (fun w s₂=>wpAny (model X.prog X.w) X.A (inplaceOp op u w) (fun r s₃=>wpAny (model X.prog X.w) X.A (storeName X.env x r) (fun _=>SP X pins D .next) X.xe s₃) X.xe s₂) X.xe s:=by
  refine cT (he pins s σ H _ I h) fun w s1 ⟨y,H1,I1,r1,q1⟩=>?_;refine cT (ho pins s1 σ H1 v y u w _ I1 r r1 q1) fun z s2 ⟨zv,H2,I2,r2,q2⟩=>?_;exact GH I2 hN hi hx r2 (fun s3 I3=>⟨_,H2,I3,q2⟩) hf
 rcases l with ⟨hk,hm⟩|⟨hk,c,hc,hcell⟩
 ·exact wpAny_loadName_local I.ok.kind hk hn hm go
 ·rcases hk with hk|hk
  ·exact wpAny_loadName_cell I.ok.kind hk hc hcell go
  ·rcases hx with k|k
   ·have:X.env.scope.names.lookup x=some .free:=hk;rw[k]at this;cases this
   ·have:X.env.scope.names.lookup x=some .free:=hk;rw[k]at this;cases this
def ipI (f:Int->Int->Int):TIp:=fun x y H Q=>∃ i j,x=.int i/\y=.int j/\Q (.int (f i j)) H
theorem acr:PIp X .Add (ipI fun i j=>i+j):=by
 intro pins s σ H x y v u Q I r1 r2 h;obtain⟨i,j,e1,e2,q⟩:=h;subst e1;subst e2;obtain⟨t,rfl⟩:=r1;obtain⟨t',rfl⟩:=r2;exact iadd_int ⟨.int _,H,I.tok _,⟨_,rfl⟩,q⟩
end
section
variable {X:Cx} {pos:Pos}
def acs (c:TT)(tb:TS):TS:=fun D σ H=>∃ W:Nat->St->Hp->Prop,(∃ m,W m σ H)/\∀ m σ H,W m σ H ->
 c σ H fun b H1=>if b=true then ∃ N:St->Hp->Prop,(∀ σ' H',N σ' H'->∃ m',m'<m/\W m' σ' H')/\tb { D with nx:=N,ct:=N,bk:=D.nx } σ H1 else D.nx σ H1
theorem GI {c:Expr}{body:List Stmt}{tc:TT}{tb:TS}(hp:PassesOwn (model X.prog X.w) X.A X.env X.xe)(hc:PT X c tc)(hb:RG X body tb):PS X (.While c body [] pos) (acs tc tb):=by
 intro pins s σ H D I h;obtain⟨W,⟨m0,w0⟩,turn⟩:=h;refine wpAny_While (codeAny_whileLoop (fun n s'=>∃ σ' H',Inv X pins σ' H' s'/\W n σ' H') ?_ m0 ⟨σ,H,I,w0⟩);rintro n s1 ⟨σ1,H1,I1,w1⟩;refine wpAny_passesOwn hp (cT (hc pins s1 σ1 H1 _ I1 (turn n σ1 H1 w1)) fun b s2 ⟨H2,I2,q2⟩=>?_);cases b with
 |true =>
  obtain⟨N,hN,q2⟩:=q2;rw[if_pos rfl];refine wpAny_passesOwn hp (cT (hb pins s2 σ1 H2 _ I2 q2) fun f s3 q3=>?_);cases f with
  |next =>
   obtain⟨σ3,H3,I3,n3⟩:=q3;obtain⟨m',hm,w3⟩:=hN σ3 H3 n3;exact⟨m',hm,σ3,H3,I3,w3⟩
  |cont =>
   obtain⟨σ3,H3,I3,n3⟩:=q3;obtain⟨m',hm,w3⟩:=hN σ3 H3 n3;exact⟨m',hm,σ3,H3,I3,w3⟩
  |brk=>exact q3
  |ret v=>exact q3
 |false =>
  rw[if_neg Bool.false_ne_true];exact wpAny_execs_nil ⟨σ1,H2,I2,q2⟩
end
structure It where
 go:Nat->Hp->Prop
 X5:Nat->Hp->V->Hp->Prop
 stop:Nat->Hp->Prop
def l8 (X:Cx)(pins:List (Addr×Obj))(H:Hp)(b:Addr):Prop :=
 H b=none/\b≠X.env.locals/\b ∉ X.fs/\(b∈X.ex\/X.s₀.heap.objs.size<=b)/\(∀ x c,X.env.cells.lookup x=some c->c≠b)/\∀ p∈X.pn++pins,p.1≠b
theorem Inv.Mq {X:Cx}{pins:List (Addr×Obj)}{σ:St}{H H':Hp}{s:Shared}{b:Addr}(I:Inv X pins σ H s)(hb:s.heap.objs.size<=b)(hn:H' b=none):l8 X pins H' b:=by
 refine⟨hn,Nat.ne_of_gt (Nat.lt_of_lt_of_le I.lt hb),I.afW hb,.inr (Nat.le_trans I.sz hb),fun x c e z=>?_,fun p hp z=>?_⟩
 ·obtain⟨v,q⟩:=I.cell x c e;exact absurd (Nat.lt_of_lt_of_le q.lt (by rw[z];exact hb)) (Nat.lt_irrefl _)
 ·exact absurd (Nat.lt_of_lt_of_le (Heap.lt_size (I.pin p hp).1) (by rw[z];exact hb)) (Nat.lt_irrefl _)
structure Turn (P:Program)(w:World)(K:Frag)(tg:Expr)(J:It)(fp:List Addr)(it:Addr)(tn:Nat->Heap->Prop):Prop where
 mem:it∈fp
 obj:∀ i h,tn i h->∀ b∈fp,∃ o,h.get? b=some o/\∀ v,o.data≠.cell v
 keep:∀ i h h',tn i h->(∀ b∈fp,∀ o,h.get? b=some o->h'.get? b=some o)->tn i h'
 item:∀(X:Cx),X.prog=P->X.w=w->X.K=K->X.calm=true->∀(i:Nat)(pins:List (Addr×Obj)) (s:Shared) (σ:St) (H:Hp) (E:Value->Shared->Prop),Inv X pins σ H s->(∀ b∈fp,l8 X pins H b)->tn i s.heap->J.go i H ->
  wpAny (model P w) X.A (pyNext (.ref it)) (fun r s1=>∃ u,r=some u /\
   wpAny (model P w) X.A (letOwnedTupleGo tg (.ref it) u) (fun _ s2=>∃ x H',Inv X pins σ H' s2/\RelV x u/\J.X5 i H x H'/\tn (i+1) s2.heap/\∀ b∈fp,H' b=none) E s1) E s
 done:∀(X:Cx),X.prog=P->X.w=w->X.K=K->X.calm=true->∀(i:Nat)(pins:List (Addr×Obj)) (s:Shared) (σ:St) (H:Hp) (E:Value->Shared->Prop),Inv X pins σ H s->(∀ b∈fp,l8 X pins H b)->tn i s.heap->J.stop i H ->
  wpAny (model P w) X.A (pyNext (.ref it)) (fun r s1=>r=none/\Inv X pins σ H s1) E s
 self:∀(A:Around)(i:Nat)(s:Shared)(Q:Value->Shared->Prop)(E:Value->Shared->Prop),tn i s.heap->Q (.ref it) s->wpAny (model P w) A (pyIter (.ref it)) Q E s
abbrev TI:=St->Hp->(It->Hp->Prop)->Prop
def PIE (X:Cx)(pins:List (Addr×Obj))(σ:St)(tg:Expr)(R:It->Hp->Prop)(itv:Value)(s2:Shared):Prop :=
 ∃(it:Addr)(fp:List Addr)(tn:Nat->Heap->Prop)(J:It)(H':Hp),itv=.ref it/\Inv X pins σ H' s2/\Turn X.prog X.w X.K tg J fp it tn/\tn 0 s2.heap/\(∀ b∈fp,l8 X pins H' b)/\R J H'
def PI (X:Cx)(tg iter:Expr)(wi:TI):Prop :=
 ∀(pins:List (Addr×Obj)) (s:Shared) (σ:St) (H:Hp) (R:It->Hp->Prop),Inv X pins σ H s->wi σ H R ->
  wpAny (model X.prog X.w) X.A (eval iter X.env) (fun v s1=>wpAny (model X.prog X.w) X.A (pyIter v) (PIE X pins σ tg R) X.xe s1) X.xe s
theorem UJ {M:Model}{A:Around}{E:Value->Shared->Prop}{s:Shared}{tg:Expr}{it:Addr}{u:Value}{o:Obj}{n:String}{vs:Array Value}{Q:Unit->Shared->Prop}(ho:s.heap.get? it=some o)(hc:o.cls=.type n)(hd:o.data=.fields vs)
  (hn:["enumerate","zip","dict_itemiterator","dict_reverseitemiterator","odict_iterator","itertools.zip_longest","itertools.pairwise"].contains n=false) (hQ:Q () s):wpAny M A (letOwnedTupleGo tg (.ref it) u) Q E s:=by
 unfold letOwnedTupleGo;cases tg <;> first
  |exact wpAny_pure hQ
  |(cases u <;> first
    |exact wpAny_pure hQ
    |(refine wpAny_bind (wpAny_load ho ?_);rw[hc,hd];show wpAny M A (if(["enumerate","zip","dict_itemiterator","dict_reverseitemiterator","odict_iterator","itertools.zip_longest","itertools.pairwise"].contains n&&vs[0]? == some (rawInt _))=true then _ else _) Q E s;rw[if_neg (by intro h;rw[hn,Bool.false_and]at h;cases h)];exact wpAny_pure hQ))
def Itl (K:Frag)(a:Addr):It :=
 ⟨fun i H=>∃ xs x,aR K H a xs/\xs[i]? = some x,fun i H x H'=>H'=H/\∀ xs,aR K H a xs->xs[i]? = some x,fun i H=>∃ xs,aR K H a xs/\xs.length<=i⟩
def Itt (K:Frag)(a:Addr):It :=
 ⟨fun i H=>∃ xs x,nR K H a xs/\xs[i]? = some x,fun i H x H'=>H'=H/\∀ xs,nR K H a xs->xs[i]? = some x,fun i H=>∃ xs,nR K H a xs/\xs.length<=i⟩
def Itr (lo:Int)(n:Nat):It:=⟨fun i _=>i<n,fun i H x H'=>H'=H/\x=.int (lo+i),fun i _=>n<=i⟩
theorem VF {P:Program}{w:World}{K:Frag}{tg:Expr}(a it:Addr):Turn P w K tg (Itl K a) [it] it (fun i h=>h.IsListIter it a i) where
 mem:=by simp
 obj:=fun i h st b hb=>by
  have e:b=it:=by simpa using hb
  subst e;obtain⟨o,e,c,d⟩:=st;exact⟨o,e,fun v z=>by rw[d]at z;cases z⟩
 keep:=fun i h h' st k=>st.at fun o e=>k it (by simp) o e
 item:=by
  intro X hP hw hK hc i pins s σ H E I hf st hg;subst hP hw hK;obtain⟨xs,x,hq,hx⟩:=hg;obtain⟨its,rv,p,hz⟩:=I.list hq;obtain⟨u,hu,ru⟩:=rv.get hx;obtain⟨f0,f1,f2,f3,f4,f5⟩:=hf it (by simp);refine wpAny_pyNext_list_item st p.isList (x:=u) (by simpa using hu) fun h' st' sb=>?_;have I1:Inv X pins σ H { s with heap:=h' }:=I.turned (t':=s.toks) (fun b o hb e=>(sb.2 b hb).trans e) f0 f1 f3 f4 f5;obtain⟨o,e,c,d⟩:=id st';exact⟨u,rfl,UJ (s:={ s with heap:=h' }) e c d (by decide) ⟨x,H,I1,ru,⟨rfl,fun ys hy=>by rw[I.PR hy hq];exact hx⟩,st',fun b hb=>(hf b hb).1⟩⟩
 done:=by
  intro X hP hw hK hc i pins s σ H E I hf st hg;subst hP hw hK;obtain⟨xs,hq,hx⟩:=hg;obtain⟨its,rv,p,hz⟩:=I.list hq;obtain⟨f0,f1,f2,f3,f4,f5⟩:=hf it (by simp);have hl:=rv.length;exact wpAny_pyNext_list_end (I.ok.hd hc) st p.isList (by simp;omega) fun h' eb=>⟨rfl,I.turned (t':=s.toks) (fun b o hb e=>eb b o hb e) f0 f1 f3 f4 f5⟩
 self:=fun _ _ _ _ _ st h=>wpAny_pyIter_listiter st h
theorem RJ {P:Program}{w:World}{K:Frag}{tg:Expr}(it:Addr)(lo:Int)(n:Nat):Turn P w K tg (Itr lo n) [it] it (fun i h=>IsRangeIter h it (lo+(i:Nat) * 1) ((n:Int)-(i:Nat)) 1) where
 mem:=by simp
 obj:=fun i h st b hb=>by
  have e:b=it:=by simpa using hb
  subst e;exact⟨_,st,fun v z=>by
   have z':Data.fields _=Data.cell v:=z;cases z'⟩
 keep:=fun i h h' st k=>k it (by simp) _ st
 item:=by
  intro X hP hw hK hc i pins s σ H E I hf st hg;subst hP hw hK;obtain⟨f0,f1,f2,f3,f4,f5⟩:=hf it (by simp);have W:=Walks.range (prog:=X.prog) (w:=X.w) (I.ok.hd hc) it lo 1 n;refine W.item i s _ _ hg st fun v h' tk hv st' kk=>?_;obtain⟨t,rfl⟩:=hv;have I1:Inv X pins σ H { s with heap:=h',toks:=tk }:=I.turned (fun b o hb e=>kk b o (by simpa using hb) e) f0 f1 f3 f4 f5;refine⟨_,rfl,UJ (s:={ s with heap:=h',toks:=tk }) (n:="range_iterator") st' rfl rfl (by decide) ⟨.int (lo+i),H,I1,⟨t,?_⟩,⟨rfl,rfl⟩,st',fun b hb=>(hf b hb).1⟩⟩;rw[Int.mul_one]
 done:=by
  intro X hP hw hK hc i pins s σ H E I hf st hg;subst hP hw hK;obtain⟨f0,f1,f2,f3,f4,f5⟩:=hf it (by simp);exact wpAny_pyNext_range_end (I.ok.hd hc) st (by have:n<=i:=hg;omega) fun h' eb=>⟨rfl,I.turned (t':=s.toks) (fun b o hb e=>eb b o hb e) f0 f1 f3 f4 f5⟩
 self:=fun _ _ _ _ _ st h=>wpAny_pyIter_rangeiter st h
end L2
namespace L2
open PySem PySem.Spec PyProof.Rows
section
variable {X:Cx} {tg:Expr}
inductive Yd (K:Frag)(R:(It->Hp->Prop))(x:V)(H1:Hp):Prop
 |mk (a:_) (dC:x=.ref a) (dD:(∃ xs,aR K H1 a xs)/\R (Itl K a) H1):Yd K R x H1
def ad5 (K:Frag)(tl:TE):TI:=fun σ H R=>tl σ H fun x H1=>Yd K R x H1
inductive ad6 (K:Frag)(R:(It->Hp->Prop))(x:V)(H1:Hp):Prop
 |mk (a:_) (dC:x=.ref a) (dD:(∃ xs,nR K H1 a xs)/\R (Itt K a) H1):ad6 K R x H1
theorem c5 {l:Expr}{tl:TE}(hl:PE X l tl):PI X tg l (ad5 X.K tl):=by
 intro pins s σ H R I h;refine cT (hl pins s σ H _ I h) fun v s1 ⟨x,H1,I1,r1,q1⟩=>?_;obtain⟨a,e,⟨xs,hq⟩,q⟩:=q1;subst e;cases r1;obtain⟨its,rv,p,hz⟩:=I1.list hq;refine wpAny_pyIter_list p.isList ?_;refine⟨s1.heap.objs.size,[s1.heap.objs.size],_,_,H1,rfl,I1.kept (t':=s1.toks) fun b o e=>Heap.get?_push_of_some _ e,VF a _,⟨_,Heap.get?_push_size _ rfl,rfl,rfl⟩,fun b hb=>?_,q⟩;have e:b=s1.heap.objs.size:=by simpa using hb
 subst e;exact I1.Mq (Nat.le_refl _) (I1.hok.fresh (Nat.le_refl _))
theorem PU {pins:List (Addr×Obj)}{σ:St}{H:Hp}{s:Shared}{R:It->Hp->Prop}{E:Value->Shared->Prop}{lo hi:Int}{t u v:Tok}{tk:Nat}(I:Inv X pins σ H s)(h1:-(2 ^ 62)<=lo)(h2:lo<2 ^ 62)(h3:-(2 ^ 62)<=hi)(h4:hi<2 ^ 62)
  (q:R (Itr lo (hi-lo).toNat) H):wpAny (model X.prog X.w) X.A (pyIter (.ref s.heap.objs.size)) (PIE X pins σ tg R) E { s with heap:=s.heap.push { cls:=.type "range",data:=.fields #[.int lo t,.int hi u,.int 1 v] },toks:=tk }:=by
 refine wpAny_pyIter_range (IsRange.new ..) (small_one h1 h2 h3 h4) ?_;have I1:Inv X pins σ H { s with heap:=s.heap.push { cls:=.type "range",data:=.fields #[.int lo t,.int hi u,.int 1 v] },toks:=tk }:=I.kept fun b o e=>Heap.get?_push_of_some _ e;refine⟨(s.heap.push { cls:=.type "range",data:=.fields #[.int lo t,.int hi u,.int 1 v] }).objs.size,[(s.heap.push { cls:=.type "range",data:=.fields #[.int lo t,.int hi u,.int 1 v] }).objs.size],_,_,H,rfl,
  I1.kept (t':=tk) fun b o e=>Heap.get?_push_of_some _ e,RJ _ lo (hi-lo).toNat,?_,fun b hb=>?_,q⟩
 ·have e1:lo+((0:Nat):Int) * 1=lo:=by simp
  have e2:(((hi-lo).toNat:Nat):Int)-((0:Nat):Int)=Builtin.Range.rangeSize lo hi 1:=by rw[rangeSize_one];split <;> omega
  show IsRangeIter _ _ (lo+((0:Nat):Int) * 1) ((((hi-lo).toNat:Nat):Int)-((0:Nat):Int)) 1;rw[e1,e2];exact Heap.get?_push_size _ rfl
 ·have e:b=(s.heap.push { cls:=.type "range",data:=.fields #[.int lo t,.int hi u,.int 1 v] }).objs.size:=by simpa using hb
  subst e;exact I1.Mq (Nat.le_refl _) (I1.hok.fresh (Nat.le_refl _))
inductive Ye (R:(It->Hp->Prop))(vs:List V)(H1:Hp):Prop
 |mk (j:Int) (dC:vs=[.int j]) (dD:-(2 ^ 62)<=j/\j<2 ^ 62/\R (Itr 0 j.toNat) H1):Ye R vs H1
def ad7 (ta:TA):TI:=fun σ H R=>ta σ H fun vs H1=>Ye R vs H1
inductive Yf (R:(It->Hp->Prop))(vs:List V)(H1:Hp):Prop
 |mk (i j:Int) (dC:vs=[.int i,.int j]) (dD:(-(2 ^ 62)<=i/\i<2 ^ 62/\-(2 ^ 62)<=j/\j<2 ^ 62)) (eK:R (Itr i (j-i).toNat) H1):Yf R vs H1
def ad8 (ta:TA):TI:=fun σ H R=>ta σ H fun vs H1=>Yf R vs H1
theorem kq {a:Expr}{ta:TA}{p pos:Pos}(hg:Gl X "range")(hm:X.mg "range"=none)(ha:PA X [a] ta)(hs:starEach [a] X.env=[(false,eval a X.env)]:=by rfl):PI X tg (.Call (.Name "range" p) [a] [] pos) (ad7 ta):=by
 intro pins s σ H R I h;refine Call_ (qg I hg hm boot_range (PyProof.Rows.callWith_type1 (cT (ha pos pins s σ H _ I h) fun us s1 ⟨vs,H1,I1,r1,q1⟩=>?_) hs rfl));obtain⟨j,e,q1,q2,q⟩:=q1;subst e;cases r1 with
 |cons r rr =>
  cases rr;obtain⟨t,rfl⟩:=r;exact call_range_1 (PU I1 (by omega) (by omega) q1 q2 (by simpa using q))
theorem VG {a b:Expr}{ta:TA}{p pos:Pos}(hg:Gl X "range")(hm:X.mg "range"=none)(ha:PA X [a,b] ta)(hs:starEach [a,b] X.env=[(false,eval a X.env),(false,eval b X.env)]:=by rfl)(hs2:starEach [b] X.env=[(false,eval b X.env)]:=by rfl) :
  PI X tg (.Call (.Name "range" p) [a,b] [] pos) (ad8 ta):=by
 intro pins s σ H R I h;refine Call_ (qg I hg hm boot_range (PyProof.Rows.callWith_type1 (cT (ha pos pins s σ H _ I h) fun us s1 ⟨vs,H1,I1,r1,q1⟩=>?_) (by rw[hs,hs2]) (by rw[hs2];rfl)));obtain⟨i,j,e,⟨q1,q2,q3,q4⟩,q⟩:=q1;subst e;cases r1 with
 |cons r rr =>
  cases rr with
  |cons r' rr =>
   cases rr;obtain⟨t,rfl⟩:=r;obtain⟨t',rfl⟩:=r';exact call_range_2 (PU I1 q1 q2 q3 q4 q)
def af9 (wi:TI)(g:TG)(tb:TS):TS:=fun D σ H=>wi σ H fun J H1=>∃ W:Nat->Nat->St->Hp->Prop,(∃ m,W 0 m σ H1)/\∀ i m σ H,W i m σ H ->
 (J.stop i H/\D.nx σ H)\/(J.go i H/\∃ N:St->Hp->Prop,(∀ σ' H',N σ' H'->∃ m',m'<m/\W (i+1) m' σ' H')/\∀ x H',J.X5 i H x H'->g x σ H' fun σ2 H2=>tb { D with nx:=N,ct:=N,bk:=D.nx } σ2 H2)
def GJ (fp:List Addr)(h:Heap):List (Addr×Obj):=fp.filterMap fun b=>(h.get? b).map fun o=>(b,o)
theorem rS {fp:List Addr}{h:Heap}{b:Addr}{o:Obj}(hb:b∈fp)(e:h.get? b=some o):(b,o)∈GJ fp h:=List.mem_filterMap.mpr ⟨b,hb,by rw[e];rfl⟩
theorem VH {fp:List Addr}{h:Heap}{p:Addr×Obj}(hp:p∈GJ fp h):p.1∈fp/\h.get? p.1=some p.2:=by
 obtain⟨b,hb,e⟩:=List.mem_filterMap.mp hp;cases q:h.get? b with
 |none=>rw[q]at e;cases e
 |some o =>
  rw[q]at e;have e':(b,o)=p:=Option.some.inj e;subst e';exact⟨hb,q⟩
theorem Inv.pinned {pins:List (Addr×Obj)}{σ:St}{H:Hp}{s:Shared}{fp:List Addr}(I:Inv X pins σ H s)(hf:∀ b∈fp,l8 X pins H b)(ho:∀ b∈fp,∃ o,s.heap.get? b=some o/\∀ v,o.data≠.cell v):Inv X (pins++GJ fp s.heap) σ H s :=
 I.UI fun p hp=>(mem_append.mp hp).elim (fun z=>I.pin p (mem_append_right _ z)) fun z=>by
  obtain⟨hb,e⟩:=VH z;obtain⟨f0,f1,f2,_⟩:=hf p.1 hb;obtain⟨o,e',d⟩:=ho p.1 hb;rw[e]at e';cases e';exact⟨e,f0,f1,f2,d⟩
theorem Inv.uK {pins pl:List (Addr×Obj)}{σ:St}{H:Hp}{s:Shared}(I:Inv X (pins++pl) σ H s):Inv X pins σ H s:=I.UI fun p hp=>I.pin p (mem_append_right _ (mem_append_left _ hp))
theorem fF {iter:Expr}{body:List Stmt}{wi:TI}{g:TG}{tb:TS}{pos:Pos}(hp:PassesOwn (model X.prog X.w) X.A X.env X.xe)(hc:X.calm=true)(hi:PI X tg iter wi)(hg:PG X tg g)(hb:RG X body tb)
  (hs:∀ x,foldedSetIterable iter X.env x=pure x:=by intro _;rfl):PS X (.For tg iter body [] pos) (af9 wi g tb):=by
 intro pins s σ H D I h;refine wpAny_For (cT (hi pins s σ H _ I h) fun v s1 h1=>cT h1 fun itv s2 h2=>?_) hs;obtain⟨it,fp,tn,J,H2,e,I2,T,st2,f2,W,⟨m0,w0⟩,turn⟩:=h2;subst e;have stat:∀{H':Hp},(∀ b∈fp,H' b=none)->∀ b∈fp,l8 X pins H' b:=fun hn b hb=>⟨hn b hb,(f2 b hb).2⟩;refine codeAny_forLoop_any (fun n s'=>∃ i σ' H',Inv X pins σ' H' s'/\tn i s'.heap/\(∀ b∈fp,H' b=none)/\W i n σ' H') ?_ m0 ⟨0,σ,H2,I2,st2,fun b hb=>(f2 b hb).1,w0⟩;rintro n s3 ⟨i,σ3,H3,I3,st3,fr3,w3⟩;rcases turn i n σ3 H3 w3 with ⟨stop,qn⟩|⟨go,N,hN,step⟩
 ·refine wpAny_passesOwn hp (cT (T.done X rfl rfl rfl hc i pins s3 σ3 H3 X.xe I3 (stat fr3) st3 stop) fun r s4 ⟨hr,I4⟩=>?_);subst hr;exact wpAny_execs_nil ⟨σ3,H3,I4,qn⟩
 ·refine wpAny_passesOwn hp (cT (T.item X rfl rfl rfl hc i pins s3 σ3 H3 X.xe I3 (stat fr3) st3 go) fun r s4 ⟨u,hr,h4⟩=>?_);subst hr;refine wpAny_passesOwn hp (cT h4 fun _ s5 ⟨x,H5,I5,r5,y5,st5,fr5⟩=>?_);have I5':=I5.pinned (stat fr5) (T.obj _ _ st5);refine wpAny_passesOwn hp (cT (hg _ s5 σ3 H5 x u _ I5' r5 (step x H5 y5)) fun _ s6 ⟨σ6,H6,I6,q6⟩=>?_);refine wpAny_passesOwn hp (cT (hb _ s6 σ6 H6 _ I6 q6) fun f s7 q7=>?_);have again:∀{σ7:St} {H7:Hp},Inv X (pins++GJ fp s5.heap) σ7 H7 s7->N σ7 H7->∃ m,m<n/\∃ i σ' H',Inv X pins σ' H' s7/\tn i s7.heap/\(∀ b∈fp,H' b=none)/\W i m σ' H':=fun {σ7 H7} I7 n7=>by
   obtain⟨m',hm,w7⟩:=hN σ7 H7 n7;refine⟨m',hm,i+1,σ7,H7,I7.uK,T.keep _ _ _ st5 fun b hb o e=>(I7.pin (b,o) (mem_append_right _ (mem_append_right _ (rS hb e)))).1,fun b hb=>?_,w7⟩;obtain⟨o,e,d⟩:=T.obj _ _ st5 b hb;exact(I7.pin (b,o) (mem_append_right _ (mem_append_right _ (rS hb e)))).2.1
  cases f with
  |next=>obtain⟨σ7,H7,I7,n7⟩:=q7;exact again I7 n7
  |cont=>obtain⟨σ7,H7,I7,n7⟩:=q7;exact again I7 n7
  |brk=>obtain⟨σ7,H7,I7,q7⟩:=q7;exact⟨σ7,H7,I7.uK,q7⟩
  |ret v=>obtain⟨x7,σ7,H7,I7,r7,q7⟩:=q7;exact⟨x7,σ7,H7,I7.uK,r7,q7⟩
end
theorem nS {K:Frag}{a:Addr}{xs:List V}{g:TG}{tb:TS}{D:Ends}{σ:St}{H:Hp}(Pv:Nat->St->Hp->Prop)(h0:Pv 0 σ H)(hl:∀ i σ H,i<=xs.length->Pv i σ H->aR K H a xs)
  (hs:∀ i x σ H,xs[i]? = some x->Pv i σ H->g x σ H fun σ2 H2=>tb { D with nx:=Pv (i+1),ct:=Pv (i+1),bk:=D.nx } σ2 H2) (hd:∀ σ H,Pv xs.length σ H->D.nx σ H) :
  ∃ W:Nat->Nat->St->Hp->Prop,(∃ m,W 0 m σ H)/\∀ i m σ H,W i m σ H ->
   ((Itl K a).stop i H/\D.nx σ H)\/((Itl K a).go i H/\∃ N:St->Hp->Prop,(∀ σ' H',N σ' H'->∃ m',m'<m/\W (i+1) m' σ' H')/\∀ x H',(Itl K a).X5 i H x H'->g x σ H' fun σ2 H2=>tb { D with nx:=N,ct:=N,bk:=D.nx } σ2 H2):=by
 refine⟨fun i m σ H=>m=xs.length-i/\i<=xs.length/\Pv i σ H,⟨xs.length,by simp,Nat.zero_le _,h0⟩,?_⟩;rintro i m σ H ⟨rfl,hi,p⟩;have q:=hl i σ H hi p
 by_cases hlt:i<xs.length
 ·refine .inr ⟨⟨xs,xs[i],q,by simp[hlt]⟩,Pv (i+1),fun σ' H' p'=>⟨xs.length-(i+1),by omega,rfl,hlt,p'⟩,fun x H' y=>?_⟩;obtain⟨e,y⟩:=y;subst e;exact hs i x σ _ (y xs q) p
 ·have e:i=xs.length:=by omega
  subst e;exact .inl ⟨⟨xs,q,Nat.le_refl _⟩,hd σ H p⟩
theorem nr {lo:Int}{n:Nat}{g:TG}{tb:TS}{D:Ends}{σ:St}{H:Hp}(Pv:Nat->St->Hp->Prop)(h0:Pv 0 σ H)
  (hs:∀ i σ H,i<n->Pv i σ H->g (.int (lo+i)) σ H fun σ2 H2=>tb { D with nx:=Pv (i+1),ct:=Pv (i+1),bk:=D.nx } σ2 H2) (hd:∀ σ H,Pv n σ H->D.nx σ H) :
  ∃ W:Nat->Nat->St->Hp->Prop,(∃ m,W 0 m σ H)/\∀ i m σ H,W i m σ H ->
   ((Itr lo n).stop i H/\D.nx σ H)\/((Itr lo n).go i H/\∃ N:St->Hp->Prop,(∀ σ' H',N σ' H'->∃ m',m'<m/\W (i+1) m' σ' H')/\∀ x H',(Itr lo n).X5 i H x H'->g x σ H' fun σ2 H2=>tb { D with nx:=N,ct:=N,bk:=D.nx } σ2 H2):=by
 refine⟨fun i m σ H=>m=n-i/\i<=n/\Pv i σ H,⟨n,by simp,Nat.zero_le _,h0⟩,?_⟩;rintro i m σ H ⟨rfl,hi,p⟩
 by_cases hlt:i<n
 ·refine .inr ⟨hlt,Pv (i+1),fun σ' H' p'=>⟨n-(i+1),by omega,rfl,hlt,p'⟩,fun x H' y=>?_⟩;obtain⟨e,y⟩:=y;subst e y;exact hs i σ _ hlt p
 ·have e:i=n:=by omega
  subst e;exact .inl ⟨Nat.le_refl _,hd σ H p⟩
end L2
namespace L2
open PySem PySem.Spec PyProof.Rows
abbrev R2:=V->V->Hp->VK->Prop
def rT (X:Cx)(f:Value->Value->Sem Value)(r:R2):Prop :=
 ∀(pins:List (Addr×Obj)) (s:Shared) (σ:St) (H:Hp) (x y:V) (v u:Value) (Q:VK),Inv X pins σ H s->RelV x v->RelV y u->r x y H Q ->
  wpAny (model X.prog X.w) X.A (f v u) (EP X pins σ Q) X.xe s
def UnR (X:Cx)(f:Value->Sem Value)(r:V->Hp->VK->Prop):Prop :=
 ∀(pins:List (Addr×Obj)) (s:Shared) (σ:St) (H:Hp) (x:V) (v:Value) (Q:VK),Inv X pins σ H s->RelV x v->r x H Q ->
  wpAny (model X.prog X.w) X.A (f v) (EP X pins σ Q) X.xe s
def jo (X:Cx)(f:Value)(r:List V->Hp->VK->Prop):Prop :=
 ∀(pins:List (Addr×Obj)) (s:Shared) (σ:St) (H:Hp) (xs:List V) (us:List Value) (Q:VK),Inv X pins σ H s->Vals xs us->r xs H Q ->
  wpAny (model X.prog X.w) X.A (call f us) (EP X pins σ Q) X.xe s
def tOp (r:R2)(ta tb:TE):TE:=fun σ H Q=>ta σ H fun x H1=>tb σ H1 fun y H2=>r x y H2 Q
def tUn (r:V->Hp->VK->Prop)(ta:TE):TE:=fun σ H Q=>ta σ H fun x H1=>r x H1 Q
inductive rII (C:Int->Int->Prop)(g:Int->Int->V)(x:V)(y:V)(H:Hp)(Q:VK):Prop
 |mk (i:_) (j:_) (dC:x=.int i) (dD:y=.int j) (eK:C i j/\Q (g i j) H):rII C g x y H Q
def rI (C:Int->Int->Prop)(g:Int->Int->V):R2:=fun x y H Q=>rII C g x y H Q
inductive ad9 (g:Int->Int->V)(x:V)(y:V)(H:Hp)(Q:VK):Prop
 |mk (i:_) (j:_) (dC:x=.int i) (dD:y=.int j) (eK:Q (g i j) H):ad9 g x y H Q
def rI0 (g:Int->Int->V):R2:=fun x y H Q=>ad9 g x y H Q
def rU (g:Int->V):V->Hp->VK->Prop:=fun x H Q=>∃ i,x=.int i/\Q (g i) H
section
variable {X:Cx} {a b c:Expr} {ta tb tc:TE} {pos:Pos}
theorem acv (ha:PE X a ta)(hb:PE X b tb){pins:List (Addr×Obj)}{s:Shared}{σ:St}{H:Hp}{R:V->V->Hp->Prop}(I:Inv X pins σ H s)
  (h:ta σ H fun x H1=>tb σ H1 fun y H2=>R x y H2) {Q:Value->Shared->Prop} {f:Value->Value->Sem Value}
  (hf:∀ v u s2 x y H2,Inv X pins σ H2 s2->RelV x v->RelV y u->R x y H2->wpAny (model X.prog X.w) X.A (f v u) Q X.xe s2) :
  wpAny (model X.prog X.w) X.A (eval a X.env) (fun v s₁=>wpAny (model X.prog X.w) X.A (eval b X.env) (fun u s₂=>wpAny (model X.prog X.w) X.A (f v u) Q X.xe s₂) X.xe s₁) X.xe s:=by
 refine cT (ha pins s σ H _ I h) fun v s1 ⟨x,H1,I1,r1,q1⟩=>?_;refine cT (hb pins s1 σ H1 _ I1 q1) fun u s2 ⟨y,H2,I2,r2,q2⟩=>?_;exact hf v u s2 x y H2 I2 r1 r2 q2
theorem aI {op:Operator}{r:R2}(ho:rT X (binaryOp op) r)(ha:PE X a ta)(hb:PE X b tb):PE X (.BinOp a op b pos) (tOp r ta tb):=by
 intro pins s σ H Q I h;exact wpAny_BinOp (acv ha hb I h fun v u s2 x y H2 I2 rx ry q=>ho pins s2 σ H2 x y v u Q I2 rx ry q)
theorem abC {op:UnaryOp}{r:V->Hp->VK->Prop}(ho:UnR X (unaryOp op) r)(ha:PE X a ta):PE X (.UnaryOp op a pos) (tUn r ta):=by
 intro pins s σ H Q I h;exact UnaryOp_ (cT (ha pins s σ H _ I h) fun v s1 ⟨x,H1,I1,r1,q1⟩=>ho pins s1 σ H1 x v Q I1 r1 q1)
theorem opI {f:Value->Value->Sem Value}{C:Int->Int->Prop}{g:Int->Int->Int}
  (rule:∀(i j:Int)(t u:Tok)(s:Shared)(Q:Value->Shared->Prop)(E:Value->Shared->Prop),C i j->Q (.int (g i j) s.toks) { s with toks:=s.toks+1 }->wpAny (model X.prog X.w) X.A (f (.int i t) (.int j u)) Q E s) :
  rT X f (rI C fun i j=>.int (g i j)):=by
 intro pins s σ H x y v u Q I rx ry h;obtain⟨i,j,rfl,rfl,hc,q⟩:=h;obtain⟨t,rfl⟩:=rx;obtain⟨t',rfl⟩:=ry;exact rule i j t t' s _ _ hc ⟨.int (g i j),H,I.tok _,⟨_,rfl⟩,q⟩
theorem aea {f:Value->Value->Sem Value}{g:Int->Int->Int}
  (rule:∀(i j:Int)(t u:Tok)(s:Shared)(Q:Value->Shared->Prop)(E:Value->Shared->Prop),Q (.int (g i j) s.toks) { s with toks:=s.toks+1 }->wpAny (model X.prog X.w) X.A (f (.int i t) (.int j u)) Q E s) :
  rT X f (rI0 fun i j=>.int (g i j)):=by
 intro pins s σ H x y v u Q I rx ry h;obtain⟨i,j,rfl,rfl,q⟩:=h;obtain⟨t,rfl⟩:=rx;obtain⟨t',rfl⟩:=ry;exact rule i j t t' s _ _ ⟨.int (g i j),H,I.tok _,⟨_,rfl⟩,q⟩
theorem aax {f:Value->Value->Sem Value}{g:Int->Int->Bool}
  (rule:∀(i j:Int)(t u:Tok)(s:Shared)(Q:Value->Shared->Prop)(E:Value->Shared->Prop),Q (.bool (g i j)) s->wpAny (model X.prog X.w) X.A (f (.int i t) (.int j u)) Q E s) :
  rT X f (rI0 fun i j=>.bl (g i j)):=by
 intro pins s σ H x y v u Q I rx ry h;obtain⟨i,j,rfl,rfl,q⟩:=h;obtain⟨t,rfl⟩:=rx;obtain⟨t',rfl⟩:=ry;exact rule i j t t' s _ _ ⟨.bl (g i j),H,I,rfl,q⟩
def agd (i j:Int):Prop:=0<j/\j<1073741824
def age (i j:Int):Prop:=0<=j/\j<=1000000/\i.natAbs<2 ^ 64
def acw (i j:Int):Prop:=(-(2 ^ 64)<i/\i<2 ^ 64)\/(-(2 ^ 64)<j/\j<2 ^ 64)
theorem acw.ok {i j:Int}(h:acw i j):IntMulOk i j:=by
 rcases h with ⟨h1,h2⟩|⟨h1,h2⟩
 ·exact .of_left (intBits_le_64 h1 h2)
 ·exact .of_right (intBits_le_64 h1 h2)
theorem bp:rT X (binaryOp .Add) (rI0 fun i j=>.int (i+j)):=aea fun _ _ _ _ _ _ _ q=>add_int q
theorem iB:rT X (binaryOp .Sub) (rI0 fun i j=>.int (i-j)):=aea fun _ _ _ _ _ _ _ q=>sub_int q
theorem l9:rT X (binaryOp .Mult) (rI acw fun i j=>.int (i * j)):=opI fun _ _ _ _ _ _ _ hc q=>mul_int q hc.ok
theorem lH:rT X (binaryOp .FloorDiv) (rI agd fun i j=>.int (i / j)):=opI fun i j _ _ _ _ _ hc q=>by
 have h1:(0:Int)<j:=hc.1;have h2:j<1073741824:=hc.2;exact floordiv_int (by omega) (by rw[Int.fdiv_eq_ediv_of_nonneg i (by omega)];exact q) (.inl (PyProof.noPylong_small (by omega)))
theorem c7:rT X (binaryOp .Mod) (rI (fun _ j=>0<j) fun i j=>.int (i % j)):=opI fun i j _ _ _ _ _ hc q=>by
 have h1:(0:Int)<j:=hc;exact mod_int' (by omega) (by rw[Int.fmod_eq_emod_of_nonneg i (by omega)];exact q)
theorem Yg:rT X (binaryOp .Pow) (rI age fun i j=>.int (i ^ j.toNat)):=opI fun _ _ _ _ _ _ _ hc q=>pow_int_small hc.1 hc.2.1 hc.2.2 q
theorem unI {f:Value->Sem Value}{g:Int->Int}
  (rule:∀(i:Int)(t:Tok)(s:Shared)(Q:Value->Shared->Prop)(E:Value->Shared->Prop),Q (.int (g i) s.toks) { s with toks:=s.toks+1 }->wpAny (model X.prog X.w) X.A (f (.int i t)) Q E s) :
  UnR X f (rU fun i=>.int (g i)):=by
 intro pins s σ H x v Q I rx h;obtain⟨i,rfl,q⟩:=h;obtain⟨t,rfl⟩:=rx;exact rule i t s _ _ ⟨.int (g i),H,I.tok _,⟨_,rfl⟩,q⟩
theorem Yh:UnR X (unaryOp .USub) (rU fun i=>.int (-i)):=unI fun _ _ _ _ _ q=>neg_int q
end
def aeb:V->V->Bool
 |.non,.non=>true|.non,.int _=>true|.int _,.non=>true|.non,.bl _=>true|.bl _,.non=>true|.non,.str _=>true|.str _,.non=>true
 |.int _,.int _=>true|.bl _,.bl _=>true|.str _,.str _=>true|.X4 _,.X4 _=>true
 |.int _,.str _=>true|.str _,.int _=>true|.bl _,.str _=>true|.str _,.bl _=>true
 |_,_=>false
def rEq:R2:=fun x y H Q=>aeb x y=true/\Q (.bl (decide (x=y))) H
def rNe:R2:=fun x y H Q=>aeb x y=true/\Q (.bl (!decide (x=y))) H
theorem UK {i j:Int}:decide (V.int i=V.int j)=(i==j):=by
 rw[Bool.eq_iff_iff];simp
theorem Yi {i j:Bool}:decide (V.bl i=V.bl j)=(i==j):=by
 rw[Bool.eq_iff_iff];simp
theorem UL {i j:Str}:decide (V.str i=V.str j)=(i==j):=by
 rw[Bool.eq_iff_iff];simp
theorem UM {i j:Array UInt8}:decide (V.X4 i=V.X4 j)=(i.toList==j.toList):=by
 rw[Bool.eq_iff_iff];cases i;cases j;simp
section
variable {X:Cx} {a b c:Expr} {ta tb tc:TE} {pos:Pos}
theorem bK {pins:List (Addr×Obj)}{σ:St}{H:Hp}{s:Shared}{Q:VK}{k k':Bool}(I:Inv X pins σ H s)(q:Q (.bl k) H)(e:k=k'):EP X pins σ Q (.bool k') s:=by
 subst e;exact⟨.bl k,H,I,rfl,q⟩
theorem bN:rT X (compareOp .Eq) rEq:=by
 intro pins s σ H x y v u Q I rx ry h;obtain⟨hs,q⟩:=h;cases x with
 |non =>
  cases rx;cases y with
  |non=>cases ry;exact PySem.EqNone.eq_none_none (bK I q (by simp))
  |bl j=>cases ry;exact PySem.EqNone.eq_none_bool (bK I q (by simp))
  |int j=>obtain⟨t',rfl⟩:=ry;exact PySem.EqNone.eq_none_int (bK I q (by simp))
  |str j=>obtain⟨t',rfl⟩:=ry;exact PySem.EqNone.eq_none_str (bK I q (by simp))
  |_=>exact absurd (show false=true from hs) Bool.false_ne_true
 |bl i =>
  cases rx;cases y with
  |non=>cases ry;exact PySem.EqNone.eq_bool_none (bK I q (by simp))
  |bl j=>cases ry;exact eq_bool (bK I q Yi)
  |str j=>obtain⟨t',rfl⟩:=ry;exact PySem.EqMixed.eq_bool_str (bK I q (by simp))
  |_=>exact absurd (show false=true from hs) Bool.false_ne_true
 |int i =>
  obtain⟨t,rfl⟩:=rx;cases y with
  |non=>cases ry;exact PySem.EqNone.eq_int_none (bK I q (by simp))
  |int j=>obtain⟨t',rfl⟩:=ry;exact eq_int (bK I q UK)
  |str j=>obtain⟨t',rfl⟩:=ry;exact PySem.EqMixed.eq_int_str (bK I q (by simp))
  |_=>exact absurd (show false=true from hs) Bool.false_ne_true
 |str i =>
  obtain⟨t,rfl⟩:=rx;cases y with
  |non=>cases ry;exact PySem.EqNone.eq_str_none (bK I q (by simp))
  |bl j=>cases ry;exact PySem.EqMixed.eq_str_bool (bK I q (by simp))
  |int j=>obtain⟨t',rfl⟩:=ry;exact PySem.EqMixed.eq_str_int (bK I q (by simp))
  |str j=>obtain⟨t',rfl⟩:=ry;exact eq_str (bK I q UL)
  |_=>exact absurd (show false=true from hs) Bool.false_ne_true
 |X4 i =>
  obtain⟨t,rfl⟩:=rx;cases y with
  |X4 j=>obtain⟨t',rfl⟩:=ry;exact PySem.W.eq_bytes (bK I q UM)
  |_=>exact absurd (show false=true from hs) Bool.false_ne_true
 |_=>cases y <;> exact absurd (show false=true from hs) Bool.false_ne_true
theorem xW:rT X (compareOp .NotEq) rNe:=by
 intro pins s σ H x y v u Q I rx ry h;obtain⟨hs,q⟩:=h;cases x with
 |non =>
  cases rx;cases y with
  |non=>cases ry;exact PySem.EqNone.ne_none_none (bK I q (by simp))
  |bl j=>cases ry;exact PySem.EqNone.ne_none_bool (bK I q (by simp))
  |int j=>obtain⟨t',rfl⟩:=ry;exact PySem.EqNone.ne_none_int (bK I q (by simp))
  |str j=>obtain⟨t',rfl⟩:=ry;exact PySem.EqNone.ne_none_str (bK I q (by simp))
  |_=>exact absurd (show false=true from hs) Bool.false_ne_true
 |bl i =>
  cases rx;cases y with
  |non=>cases ry;exact PySem.EqNone.ne_bool_none (bK I q (by simp))
  |bl j=>cases ry;exact ne_bool (bK I q (congrArg not Yi))
  |str j=>obtain⟨t',rfl⟩:=ry;exact PySem.EqMixed.ne_bool_str (bK I q (by simp))
  |_=>exact absurd (show false=true from hs) Bool.false_ne_true
 |int i =>
  obtain⟨t,rfl⟩:=rx;cases y with
  |non=>cases ry;exact PySem.EqNone.ne_int_none (bK I q (by simp))
  |int j=>obtain⟨t',rfl⟩:=ry;exact ne_int (bK I q (congrArg not UK))
  |str j=>obtain⟨t',rfl⟩:=ry;exact PySem.EqMixed.ne_int_str (bK I q (by simp))
  |_=>exact absurd (show false=true from hs) Bool.false_ne_true
 |str i =>
  obtain⟨t,rfl⟩:=rx;cases y with
  |non=>cases ry;exact PySem.EqNone.ne_str_none (bK I q (by simp))
  |bl j=>cases ry;exact PySem.EqMixed.ne_str_bool (bK I q (by simp))
  |int j=>obtain⟨t',rfl⟩:=ry;exact PySem.EqMixed.ne_str_int (bK I q (by simp))
  |str j=>obtain⟨t',rfl⟩:=ry;exact ne_str (bK I q (congrArg not UL))
  |_=>exact absurd (show false=true from hs) Bool.false_ne_true
 |X4 i =>
  obtain⟨t,rfl⟩:=rx;cases y with
  |X4 j=>obtain⟨t',rfl⟩:=ry;exact PySem.W.ne_bytes (bK I q (congrArg not UM))
  |_=>exact absurd (show false=true from hs) Bool.false_ne_true
 |_=>cases y <;> exact absurd (show false=true from hs) Bool.false_ne_true
theorem qV:rT X (compareOp .Lt) (rI0 fun i j=>.bl (decide (i<j))):=aax fun _ _ _ _ _ _ _ q=>lt_int q
theorem uL:rT X (compareOp .LtE) (rI0 fun i j=>.bl (decide (i<=j))):=aax fun _ _ _ _ _ _ _ q=>le_int q
theorem PV:rT X (compareOp .Gt) (rI0 fun i j=>.bl (decide (j<i))):=aax fun _ _ _ _ _ _ _ q=>gt_int q
theorem abD:rT X (compareOp .GtE) (rI0 fun i j=>.bl (decide (j<=i))):=aax fun _ _ _ _ _ _ _ q=>ge_int q
theorem cD:rT X (compareOp .In) (fun x y H Q=>∃ i j,x=.str i/\y=.str j/\Q (.bl (!(Builtin.Str.occurrences j i 0 j.length 1).isEmpty)) H):=by
 intro pins s σ H x y v u Q I rx ry h;obtain⟨i,j,rfl,rfl,q⟩:=h;obtain⟨t,rfl⟩:=rx;obtain⟨t',rfl⟩:=ry;exact in_str (bK I q rfl)
theorem Mr:rT X (compareOp .Is) (fun x y H Q=>y=.non/\Q (.bl (decide (x=.non))) H):=by
 intro pins s σ H x y v u Q I rx ry h;obtain⟨rfl,q⟩:=h;cases ry;refine is_none_gen (bK I q ?_);cases x <;> first
  |(cases rx;rfl)
  |(obtain⟨t,rfl⟩:=rx;rfl)
theorem Mt:rT X (compareOp .IsNot) (fun x y H Q=>y=.non/\Q (.bl (!decide (x=.non))) H):=by
 intro pins s σ H x y v u Q I rx ry h;obtain⟨rfl,q⟩:=h;cases ry;refine isnot_none_gen (bK I q ?_);cases x <;> first
  |(cases rx;rfl)
  |(obtain⟨t,rfl⟩:=rx;rfl)
theorem rT.or {f:Value->Value->Sem Value}{r r':R2}(h:rT X f r)(h':rT X f r'):rT X f (fun x y H Q=>r x y H Q\/r' x y H Q):=by
 intro pins s σ H x y v u Q I rx ry q;rcases q with q|q
 ·exact h pins s σ H x y v u Q I rx ry q
 ·exact h' pins s σ H x y v u Q I rx ry q
theorem aA (b:Expr){op:CmpOp}(h:op≠.In:=by decide)(h2:op≠.NotIn:=by decide):behindInMarks op b=false:=by
 have e1:(op==CmpOp.In)=false:=by cases op <;> first|rfl|exact absurd rfl h
 have e2:(op==CmpOp.NotIn)=false:=by cases op <;> first|rfl|exact absurd rfl h2
 cases b <;> simp[behindInMarks,e1,e2]
theorem bB {op:CmpOp}{r:R2}(ho:rT X (compareOp op) r)(ha:PE X a ta)(hb:PE X b tb)(hm:behindInMarks op b=false):PE X (.Compare a [op] [b] pos) (tOp r ta tb):=by
 intro pins s σ H Q I h;exact wpAny_Compare1 (acv ha hb I h fun v u s2 x y H2 I2 rx ry q=>ho pins s2 σ H2 x y v u Q I2 rx ry q) hm
inductive Yj (Q:(Bool->Hp->Prop))(x:V)(H':Hp):Prop
 |mk (k:_) (dC:x=.bl k) (dD:Q k H'):Yj Q x H'
def abE (t:TE):TT:=fun σ H Q=>t σ H fun x H'=>Yj Q x H'
theorem ay {op:CmpOp}{r:R2}(ho:rT X (compareOp op) r)(ha:PE X a ta)(hb:PE X b tb)(hm:behindInMarks op b=false):PT X (.Compare a [op] [b] pos) (abE (tOp r ta tb)):=by
 intro pins s σ H Q I h;refine wpAny_isTrue_Compare1 (cT (ha pins s σ H _ I h) fun v s1 ⟨x,H1,I1,r1,q1⟩=>cT (hb pins s1 σ H1 _ I1 q1) fun u s2 ⟨y,H2,I2,r2,q2⟩ =>
  cT (ho pins s2 σ H2 x y v u _ I2 r1 r2 q2) fun c s3 ⟨z,H3,I3,r3,k,e,q3⟩=>?_) hm
 subst e;cases r3;exact wpAny_truthy_bool ⟨H3,I3,q3⟩
def Yk (r r':R2)(ta tb tc:TE):TE:=fun σ H Q=>ta σ H fun x H1=>tb σ H1 fun y H2=>r x y H2 fun z H3=>∃ k,z=.bl k /\
 (if k=true then tc σ H3 fun w' H4=>r' y w' H4 Q else Q (.bl false) H3)
theorem PX {op op':CmpOp}{r r':R2}(ho:rT X (compareOp op) r)(ho':rT X (compareOp op') r')(ha:PE X a ta)(hb:PE X b tb)(hc:PE X c tc)
  (hm:lastMarks [op,op'] [b,c]=false:=by with_unfolding_all rfl):PE X (.Compare a [op,op'] [b,c] pos) (Yk r r' ta tb tc):=by
 intro pins s σ H Q I h;refine Compare_chain (cT (ha pins s σ H _ I h) fun v s1 ⟨x,H1,I1,r1,q1⟩=>chain_link (cT (hb pins s1 σ H1 _ I1 q1) fun u s2 ⟨y,H2,I2,r2,q2⟩ =>
  cT (ho pins s2 σ H2 x y v u _ I2 r1 r2 q2) fun d s3 ⟨z,H3,I3,r3,k,e,q3⟩=>?_)) hm
 subst e;cases r3;refine wpAny_truthy_bool ?_;cases k with
 |false=>exact ite_ff ⟨.bl false,H3,I3,rfl,q3⟩
 |true=>exact ite_tt (chain_last (cT (hc pins s3 σ H3 _ I3 q3) fun w' s4 ⟨z',H4,I4,r4,q4⟩=>ho' pins s4 σ H4 y z' u w' Q I4 r2 r4 q4))
theorem Ak {op op':CmpOp}{r r':R2}(ho:rT X (compareOp op) r)(ho':rT X (compareOp op') r')(ha:PE X a ta)(hb:PE X b tb)(hc:PE X c tc)
  (hm:lastMarks [op,op'] [b,c]=false:=by with_unfolding_all rfl):PT X (.Compare a [op,op'] [b,c] pos) (abE (Yk r r' ta tb tc)):=by
 intro pins s σ H Q I h;refine isTrue_chain (cT (ha pins s σ H _ I h) fun v s1 ⟨x,H1,I1,r1,q1⟩=>test_link (cT (hb pins s1 σ H1 _ I1 q1) fun u s2 ⟨y,H2,I2,r2,q2⟩ =>
  cT (ho pins s2 σ H2 x y v u _ I2 r1 r2 q2) fun d s3 ⟨z,H3,I3,r3,k,e,q3⟩=>?_)) hm
 subst e;cases r3;refine wpAny_truthy_bool ?_;cases k with
 |false =>
  obtain⟨k',e',q'⟩:=q3;cases e';exact ite_ff ⟨H3,I3,q'⟩
 |true =>
  refine ite_tt (test_last (cT (hc pins s3 σ H3 _ I3 q3) fun w' s4 ⟨z',H4,I4,r4,q4⟩=>cT (ho' pins s4 σ H4 y z' u w' _ I4 r2 r4 q4) fun d' s5 ⟨z2,H5,I5,r5,k2,e2,q5⟩=>?_));subst e2;cases r5;exact wpAny_truthy_bool ⟨H5,I5,q5⟩
theorem Cw:(sizeLine:Nat)<2 ^ 63:=by rw[sizeLine_eq];decide
theorem aH:rT X (binaryOp .Add) (fun x y H Q=>∃ i j,x=.str i/\y=.str j/\i.length+j.length<=sizeLine/\Q (.str (i++j)) H):=by
 intro pins s σ H x y v u Q I rx ry h;obtain⟨i,j,rfl,rfl,hz,q⟩:=h;obtain⟨t,rfl⟩:=rx;obtain⟨t',rfl⟩:=ry;exact add_str (fun t' tk=>⟨.str (i++j),H,I.tok _,⟨_,rfl⟩,q⟩) hz
theorem vals1 {x:V}{us:List Value}(r:Vals [x] us):∃ u,us=[u]/\RelV x u:=by
 cases r with
 |cons r1 r2=>cases r2;exact⟨_,rfl,r1⟩
theorem vals2 {x y:V}{us:List Value}(r:Vals [x,y] us):∃ u w',us=[u,w']/\RelV x u/\RelV y w':=by
 cases r with
 |cons r1 r2 =>
  cases r2 with
  |cons r3 r4=>cases r4;exact⟨_,_,rfl,r1,r3⟩
theorem VI (hc:X.calm=true):jo X (.builtin "max") (fun xs H Q=>∃ i j,xs=[.int i,.int j]/\Q (.int (if j > i then j else i)) H):=by
 intro pins s σ H xs us Q I r h;obtain⟨i,j,rfl,q⟩:=h;obtain⟨u,w',rfl,⟨t,rfl⟩,⟨t',rfl⟩⟩:=vals2 r;refine max_two_ints (I.ok.hd hc) fun h' tk k=>⟨_,H,I.kept k,?_,q⟩
 by_cases hj:j > i
 ·rw[if_pos hj,if_pos hj];exact⟨_,rfl⟩
 ·rw[if_neg hj,if_neg hj];exact⟨_,rfl⟩
theorem VJ (hc:X.calm=true):jo X (.builtin "min") (fun xs H Q=>∃ i j,xs=[.int i,.int j]/\Q (.int (if j<i then j else i)) H):=by
 intro pins s σ H xs us Q I r h;obtain⟨i,j,rfl,q⟩:=h;obtain⟨u,w',rfl,⟨t,rfl⟩,⟨t',rfl⟩⟩:=vals2 r;refine min_two_ints (I.ok.hd hc) fun h' tk k=>⟨_,H,I.kept k,?_,q⟩
 by_cases hj:j<i
 ·rw[if_pos hj,if_pos hj];exact⟨_,rfl⟩
 ·rw[if_neg hj,if_neg hj];exact⟨_,rfl⟩
theorem nu:jo X (.type "int") (fun xs H Q=>(∃ i,xs=[.int i]/\Q (.int i) H)\/∃ k,xs=[.bl k]/\Q (.int (if k then 1 else 0)) H):=by
 intro pins s σ H xs us Q I r h;rcases h with ⟨i,rfl,q⟩|⟨k,rfl,q⟩
 ·obtain⟨u,rfl,t,rfl⟩:=vals1 r;exact call_int_int ⟨.int i,H,I,⟨_,rfl⟩,q⟩
 ·obtain⟨u,rfl,r1⟩:=vals1 r;cases r1;exact call_int_bool ⟨.int (if k then 1 else 0),H,I.tok _,⟨_,rfl⟩,q⟩
theorem Mu:jo X (.type "str") (fun xs H Q=>∃ i,xs=[.int i]/\i.natAbs.log2<1920/\Q (.str (toString i)) H):=by
 intro pins s σ H xs us Q I r h;obtain⟨i,rfl,hz,q⟩:=h;obtain⟨u,rfl,t,rfl⟩:=vals1 r;exact PySem.P.str_of_int hz ⟨.str _,H,I.tok _,⟨_,rfl⟩,q⟩
end
end L2
namespace L2
open PySem PySem.Spec PyProof.Rows
structure RK (h:Heap)(x dx C:Addr)(mA:Str->Option Value):Prop where
 obj:h.get? x=some (instObj C dx)
 ns:h.Ns1 dx mA
 ne:dx≠x
theorem VL {h:Heap}{dx:Addr}{mA:Str->Option Value}(n:h.Ns1 dx mA):∃ od,h.get? dx=some od/\∀ name,lookIn name od=some (mA name):=by
 obtain⟨o,es,ep,ho,hd,hk,_,hm⟩:=n;refine⟨o,ho,fun name=>?_⟩;have e:=hm name;unfold nsFind findBy at e;rw[<-Array.find?_toList]at e;unfold lookIn;rw[hd];dsimp only;split
 ·rename_i y q
  rw[q]at e;exact congrArg some e
 ·rename_i q
  rw[q]at e;have a:es.toList.any (·.refKey)=false:=by
   rw[List.any_eq_false];intro y hy;obtain⟨z,t,hkey⟩:=hk y (Array.mem_toList_iff.mp hy);simp[DictEntry.refKey,hkey]
  have a':¬ es.toList.any (·.refKey)=true:=by rw[a];exact Bool.false_ne_true
  rw[if_neg a'];exact congrArg some e
theorem RK.look {h:Heap}{x dx C:Addr}{mA:Str->Option Value}(I:RK h x dx C mA):∃ od,PySem.W.InstAt h x (instObj C dx) C (some od)/\∀ name,lookIn name od=some (mA name) :=
 let ⟨od,ho,hl⟩:=VL I.ns
 ⟨od,⟨I.obj,rfl,rfl,ho⟩,hl⟩
section
variable {prog:Program} {w:World} {A:Around} {E:Value->Shared->Prop} {s:Shared} {K:Frag} {x dx C f:Addr} {mA:Str->Option Value} {name:Str} {v:Value}
theorem get_map {expr:Bool}{Q:Value->Shared->Prop}(X:K.In s.heap)(I:RK s.heap x dx C mA)(hg:plainGet K C name=true)(hh:hasDictIn K C=true)
  (ha:findIn K (.ref C) name=some none) (hv:mA name=some v) (hv':handedIn v=true) (h:Q v { s with toks:=s.toks+1 }) :
  wpAny (model prog w) A (getAttr (.ref x) name expr) Q E s:=by
 obtain⟨od,J,hl⟩:=I.look;exact PySem.W.get_value X J (plainGet_of hg).1 (PySem.W.findObj_own hh ha rfl (by rw[hl,hv])) hv' h
theorem Yl {pl:Sem Bool}{Q:Value×List Value->Shared->Prop}(X:K.In s.heap)(I:RK s.heap x dx C mA)(hg:plainGet K C name=true)
  (hf:findIn K (.ref C) name=some (some (.ref f))) (ht:isFn K (.ref f)=true) (hv:mA name=none) (h:Q (.ref f,[.ref x]) s) :
  wpAny (model prog w) A (getMethod (.ref x) name pl) Q E s:=by
 obtain⟨od,J,hl⟩:=I.look;exact PySem.W.method_fn X J (plainGet_of hg).1 (plainGet_of hg).2 hf (beq_iff_eq.mp ht) (by show(lookIn name od).map (·.isSome)=some false;rw[hl,hv];rfl) h
theorem lI {ns:List Str}{Q:Unit->Shared->Prop}(X:K.In s.heap)(I:RK s.heap x dx C mA)
  (hs:findIn K (.ref C) "__setattr__"=some (some (.builtin "object.__setattr__"))) (hp:plainOver K C=true) (ht:takerIn K C name=some none) (hh:hasDictIn K C=true)
  (hw:PySem.Within mA ns) (hsz:ns.length<=sizeLine)
  (h:∀ h',RK h' x dx C (fun y=>if y=name then some v else mA y)->Heap.SameBut dx s.heap h'->Q () { s with heap:=h',toks:=s.toks+2 }) :
  wpAny (model prog w) A (setAttr (.ref x) name v) Q E s:=by
 obtain⟨od,J,hl⟩:=I.look;refine PySem.W.set_plain X J hs (PySem.W.osa_open (s:={ s with toks:=s.toks+1 }) (r:=none) X J hp ht fun b=>?_);obtain⟨cd,hc,hd'⟩:=PySem.W.any_some hh;have hx:s.heap.get? x=some ⟨.ref C,some dx,.plain,#[]⟩:=I.obj;refine wpAny_bind (wpAny_pure (wpAny_bind (wpAny_bind (wpAny_loadPart hx (wpAny_bind (PySem.W.Looks.here (s:={ s with toks:=s.toks+1 }) (PySem.W.looks_clsIn X hc) ?_))))));rw[hd'];refine wpAny_pure (a:=some dx) (wpAny_bind (wpAny_pure (wpAny_bind ?_)));refine wpAny_nsSet1 (s:={ s with toks:=s.toks+1 }) I.ns fun h' hn2 hs2=>?_;obtain⟨oD,esD,epD,hoD,hdD,hcD⟩:=hn2.count (PySem.Within.cons name v hw);refine wpAny_bind (wpAny_lookBehind hoD (by rw[hdD];exact pastItsLine_dict (Nat.le_trans hcD (by rw[length_cons];omega))) ?_);exact wpAny_pure (h _ ⟨(hs2.2 _ (Ne.symm I.ne)).trans I.obj,hn2,I.ne⟩ hs2)
theorem Ym {R:Result->Shared->Prop}{vs:List Value}{kw:List (Str×Value)}(X:K.In s.heap)(hm:makesIn K C=true)
  (hi:findIn K (.ref C) "__init__"=some (some (.ref f))) (hf:PySem.W.typeIn K (.ref f)=some (.type "function"))
  (h:codeAny (model prog w) (A.under (.builtin "type.__call__" ⟨.ref C::vs,kw⟩)) (.call (.ref f) ⟨.ref (s.heap.objs.size+1)::vs,kw⟩) (PySem.W.InitBack (s.heap.objs.size+1) R)
   { s with heap:=(s.heap.push emptyDict).push (instObj C s.heap.objs.size) }) :
  codeAny (model prog w) A (.call (.ref C) ⟨vs,kw⟩) R s:=by
 obtain⟨hh,g,d,t,os⟩:=s;exact PySem.W.make_core (PySem.W.makes_of X hm) (PySem.W.looks_findIn X hi) (fun self=>PySem.W.bind_fn X self hf) (.inl rfl) h
end
def km (f:Str)(v:V):List (Str×V)->List (Str×V)
 |[]=>[(f,v)]
 |(g,x)::r=>if g=f then(g,v)::r else(g,x)::km f v r
theorem E6 (f g:Str)(v:V):∀ fs:List (Str×V),(km f v fs).lookup g=if g=f then some v else fs.lookup g
 |[]=>by
  show List.lookup g [(f,v)]=_
  by_cases h:g=f
  ·have hb:(g==f)=true:=beq_iff_eq.mpr h;simp only [List.lookup,hb,if_pos h]
  ·have hb:(g==f)=false:=beq_eq_false_iff_ne.mpr h;simp only [List.lookup,hb,if_neg h]
 |(k,x)::r=>by
  have ih:=E6 f g v r;rw[show km f v ((k,x)::r)=(if k=f then(k,v)::r else(k,x)::km f v r) from rfl]
  by_cases hk:k=f
  ·rw[if_pos hk]
   by_cases h:g=k
   ·have hb:(g==k)=true:=beq_iff_eq.mpr h;simp only [List.lookup,hb,if_pos (h.trans hk)]
   ·have hb:(g==k)=false:=beq_eq_false_iff_ne.mpr h;simp only [List.lookup,hb,if_neg (fun e:g=f=>h (e.trans hk.symm))]
  ·rw[if_neg hk]
   by_cases h:g=k
   ·have hb:(g==k)=true:=beq_iff_eq.mpr h;simp only [List.lookup,hb,if_neg (fun e:g=f=>hk (h.symm.trans e))]
   ·have hb:(g==k)=false:=beq_eq_false_iff_ne.mpr h;simp only [List.lookup,hb];exact ih
theorem Cy (f:Str)(v:V):∀ fs:List (Str×V),f∈(km f v fs).map (·.1)/\∀ g,g∈fs.map (·.1)->g∈(km f v fs).map (·.1)
 |[]=>⟨by simp[km],fun g h=>by simp at h⟩
 |(k,x)::r=>by
  obtain⟨i1,i2⟩:=Cy f v r;rw[show km f v ((k,x)::r)=(if k=f then(k,v)::r else(k,x)::km f v r) from rfl]
  by_cases hk:k=f
  ·rw[if_pos hk];subst hk;exact⟨by simp,fun g h=>by simpa using h⟩
  ·rw[if_neg hk];refine⟨?_,fun g h=>?_⟩
   ·rw[map_cons];exact mem_cons_of_mem _ i1
   ·rw[map_cons]at h ⊢;rcases List.mem_cons.mp h with e|e
    ·exact List.mem_cons.mpr (.inl e)
    ·exact mem_cons_of_mem _ (i2 g e)
theorem E7 (f:Str)(v:V):∀ fs:List (Str×V),(km f v fs).length<=fs.length+1
 |[]=>by simp[km]
 |(k,x)::r=>by
  have ih:=E7 f v r;rw[show km f v ((k,x)::r)=(if k=f then(k,v)::r else(k,x)::km f v r) from rfl]
  by_cases hk:k=f
  ·rw[if_pos hk,length_cons,length_cons];omega
  ·rw[if_neg hk,length_cons,length_cons];omega
theorem qU.some_of {v:V}{o:Option Value}(r:qU (some v) o):∃ u,o=some u/\RelV v u:=by
 cases o with
 |none=>exact(show False from r).elim
 |some u=>exact⟨u,rfl,r⟩
theorem qU.none_of {o:Option Value}(r:qU none o):o=none:=by
 cases o with
 |none=>rfl
 |some u=>exact(show False from r).elim
theorem VM {v:V}{u:Value}(r:RelV v u):handedIn u=true:=by
 cases v with
 |non=>cases (show u=Value.none from r);rfl
 |bl b=>cases (show u=Value.bool b from r);rfl
 |int i=>obtain⟨t,e⟩:=(show ∃ t,u=Value.int i t from r);cases e;rfl
 |str x=>obtain⟨t,e⟩:=(show ∃ t,u=Value.str x t from r);cases e;rfl
 |X4 b=>obtain⟨t,e⟩:=(show ∃ t,u=Value.bytes b t from r);cases e;rfl
 |flt b=>obtain⟨t,e⟩:=(show ∃ t,u=Value.float b t from r);cases e;rfl
 |ref a=>cases (show u=Value.ref a from r);rfl
 |ty n=>cases (show u=Value.type n from r);rfl
section
variable {P:Program} {w:World} {H H':Hp} {h h':Heap} {a C dx:Addr} {fs fs':List (Str×V)}
theorem Gy (hok:Ag P w H h)(e:H a=some (.ins C dx fs)):∃ mA,RK h a dx C mA/\(∀ f,qU (fs.lookup f) (mA f))/\PySem.Within mA (fs.map (·.1))/\fs.length<=1000/\H dx=some (.own a):=by
 obtain⟨d,z,ne,ob,mA,n,r,q⟩:=(show fi P w H h a (.ins C dx fs) from hok a _ e);exact⟨mA,⟨ob,n,ne⟩,r,q,z,d⟩
end
structure VN (K:Frag)(C:Addr):Prop where
 pg:plainGet K C Str.empty=true
 hd:hasDictIn K C=true
 po:plainOver K C=true
 sa:findIn K (.ref C) "__setattr__"=some (some (.builtin "object.__setattr__"))
theorem VN.get {K:Frag}{C:Addr}(c:VN K C)(f:Str):plainGet K C f=true:=c.pg
def g7 (K:Frag)(C:Addr)(f:Str):Prop:=findIn K (.ref C) f=some none
theorem g7.taker {K:Frag}{C:Addr}{f:Str}(n:g7 K C f):takerIn K C f=some none:=by
 unfold takerIn;rw[show findIn K (.ref C) f=some none from n];rfl
structure Con (K:Frag)(C:Addr)(f:Str)(v:V)(u:Value):Prop where
 at_:findIn K (.ref C) f=some (some u)
 rel:RelV v u
 get:specialIn K u "__get__"=some none
 cp:PySem.W.copiedNames.contains f=false
structure Meth (K:Frag)(C:Addr)(m:Str)(f:Addr):Prop where
 at_:findIn K (.ref C) m=some (some (.ref f))
 fn:isFn K (.ref f)=true
 kp:keepIn K (.ref f)=true
section
variable {X:Cx} {pins:List (Addr×Obj)} {σ:St} {H:Hp} {s:Shared} {a C dx:Addr} {fs:List (Str×V)} {f:Str} {v:V} {A:Around} {E:Value->Shared->Prop}
theorem RL {b:Bool}{Q:Value->Shared->Prop}(I:Inv X pins σ H s)(e:H a=some (.ins C dx fs))(c:VN X.K C)(n:g7 X.K C f)(l:fs.lookup f=some v)
  (h:∀ u s',Inv X pins σ H s'->RelV v u->Q u s'):wpAny (model X.prog X.w) A (getAttr (.ref a) f b) Q E s:=by
 obtain⟨mA,O,r,_,_,_⟩:=Gy I.hok e;obtain⟨u,hu,ru⟩:=qU.some_of (v:=v) (o:=mA f) (by rw[<-l];exact r f);exact get_map I.Ah O (c.get f) c.hd n hu (VM ru) (h u _ (I.tok _) ru)
theorem GK {m:Str}{g:Addr}{pl:Sem Bool}{Q:Value×List Value->Shared->Prop}(I:Inv X pins σ H s)(e:H a=some (.ins C dx fs))(c:VN X.K C)(k:Meth X.K C m g)(l:fs.lookup m=none)
  (h:Q (.ref g,[.ref a]) s):wpAny (model X.prog X.w) A (getMethod (.ref a) m pl) Q E s:=by
 obtain⟨mA,O,r,_,_,_⟩:=Gy I.hok e;have hn:mA m=none:=qU.none_of (by rw[<-l];exact r m);exact Yl I.Ah O (c.get m) k.at_ k.fn hn h
theorem RM {y:V}{u:Value}{Q:Unit->Shared->Prop}(I:Inv X pins σ H s)(e:H a=some (.ins C dx fs))(c:VN X.K C)(n:g7 X.K C f)(hl:fs.length<1000)(ry:RelV y u)
  (h:∀ s',Inv X pins σ (upd H a (.ins C dx (km f y fs))) s'->Q () s'):wpAny (model X.prog X.w) A (setAttr (.ref a) f u) Q E s:=by
 obtain⟨mA,O,r,wi,_,ho⟩:=Gy I.hok e;have hz:(fs.map (·.1)).length<=sizeLine:=by rw[length_map,sizeLine_eq];omega
 refine lI I.Ah O c.sa c.po n.taker c.hd wi hz fun h' O' sb=>h _ ?_;have hd:∃ o,h'.get? dx=some o:=let ⟨o,_,_,e',_⟩:=O'.ns;⟨o,e'⟩;refine I.write (x:=a) (e:=dx) (by rw[e];exact True.intro) (.inr ho) (fun b q hb z=>(sb.2 b hb).trans z) hd ?_;refine⟨by rw[ak O.ne];exact ho,?_,O.ne,O'.obj,_,O'.ns,fun g=>?_,fun g hg=>?_⟩
 ·have:=E7 f y fs;omega
 ·show qU ((km f y fs).lookup g) (if g=f then some u else mA g);rw[E6]
  by_cases q:g=f
  ·rw[if_pos q,if_pos q];exact ry
  ·rw[if_neg q,if_neg q];exact r g
 ·by_cases q:g=f
  ·rw[q];exact(Cy f y fs).1
  ·refine(Cy f y fs).2 g (wi g fun z=>hg ?_);show(if g=f then some u else mA g)=none;rw[if_neg q];exact z
theorem Inv.made (I:Inv X pins σ H s):Inv X pins σ (upd (upd H s.heap.objs.size (.own (s.heap.objs.size+1))) (s.heap.objs.size+1) (.ins C s.heap.objs.size []))
  { s with heap:=(s.heap.push emptyDict).push (instObj C s.heap.objs.size) }:=by
 have e1:(s.heap.push emptyDict).get? s.heap.objs.size=some emptyDict:=Heap.get?_push_size s.heap rfl;have e2:((s.heap.push emptyDict).push (instObj C s.heap.objs.size)).get? (s.heap.objs.size+1)=some (instObj C s.heap.objs.size):=by
  have:=Heap.get?_push_size (s.heap.push emptyDict) (o:=instObj C s.heap.objs.size) rfl
  rwa [Heap.size_push]at this
 have e3:(s.heap.push emptyDict).Ns s.heap.objs.size (fun _=>none):=⟨emptyDict,#[],_,e1,rfl,(fun e he=>absurd he (by simp)),fun _=>rfl⟩;have I1:=I.laid (a:=s.heap.objs.size) (o:=.own (s.heap.objs.size+1)) (h':=s.heap.push emptyDict) (t':=s.toks) (fun b u q=>Heap.get?_push_of_some _ q) (Nat.le_refl _) ⟨_,e1⟩;refine I1.laid (a:=s.heap.objs.size+1) (o:=.ins C s.heap.objs.size []) (t':=s.toks) (fun b u q=>Heap.get?_push_of_some _ q) (Nat.le_of_eq (Heap.size_push _ _)) ?_;have ne:s.heap.objs.size≠s.heap.objs.size+1:=Nat.ne_of_lt (Nat.lt_succ_self _);refine⟨by rw[ak ne,ag],Nat.zero_le _,ne,e2,fun _=>none,(Heap.Ns1.of_empty e3).at fun o q=>Heap.get?_push_of_some _ q,fun _=>True.intro,fun y hy=>absurd rfl hy⟩
theorem aay {prog:Program}{w:World}{env:Env}{e:Expr}{f:Str}{pos:Pos}{s:Shared}{Q:Value->Shared->Prop}(hb:attributeBase e f env (eval e env)=eval e env)
  (h:wpAny (model prog w) A (eval e env) (fun o s₁=>wpAny (model prog w) A (getAttr o f true) Q E s₁) E s):wpAny (model prog w) A (eval (.Attribute e f pos) env) Q E s :=
 Attribute_any_ h (by rw[arm_eval_Attribute,hb])
end
inductive abF (K:Frag)(f:Str)(Q:VK)(x:V)(H1:Hp):Prop
 |mk (a:_) (C:_) (dx:_) (fs:_) (v:_) (dC:x=.ref a) (dD:H1 a=some (.ins C dx fs)) (eK:VN K C) (jj:g7 K C f) (pb:fs.lookup f=some v) (RH:Q v H1):abF K f Q x H1
def agf (K:Frag)(ta:TE)(f:Str):TE:=fun σ H Q=>ta σ H fun x H1=>abF K f Q x H1
inductive abG (K:Frag)(f:Str)(D:Ends)(σ:St)(y:V)(x:V)(H2:Hp):Prop
 |mk (a:_) (C:_) (dx:_) (fs:_) (dC:x=.ref a) (dD:H2 a=some (.ins C dx fs)) (eK:VN K C) (jj:g7 K C f) (pb:fs.length<1000) (RH:D.nx σ (upd H2 a (.ins C dx (km f y fs)))):abG K f D σ y x H2
def agg (K:Frag)(ta tv:TE)(f:Str):TS:=fun D σ H=>tv σ H fun y H1=>ta σ H1 fun x H2=>abG K f D σ y x H2
section
variable {X:Cx} {o e value:Expr} {f:Str} {pos pos' tpos:Pos} {ta tv:TE}
theorem bG (he:PE X e ta)(hb:attributeBase e f X.env (eval e X.env)=eval e X.env):PE X (.Attribute e f pos) (agf X.K ta f):=by
 intro pins s σ H Q I h;refine aay hb (cT (he pins s σ H _ I h) fun u s1 ⟨x,H1,I1,rx,a,C,dx,fs,v,ex,ea,c,n,l,q⟩=>?_);subst ex;obtain rfl:u=Value.ref a:=rx;exact RL I1 ea c n l fun u' s2 I2 ru=>⟨v,H1,I2,ru,q⟩
theorem qh (ha:PE X o ta)(hv:PE X value tv)(hs:swapsWith value (some (.Attribute o f pos')) pos.line X.env=pure false):PS X (.Assign [.Attribute o f pos'] value pos) (agg X.K ta tv f):=by
 intro pins s σ H D I h;refine plainObj_wpAny_Assign_Attribute (cT (hv pins s σ H _ I h) fun u s1 ⟨y,H1,I1,ry,q⟩=>cT (ha pins s1 σ H1 _ I1 q) fun ov s2 ⟨x,H2,I2,rx,a,C,dx,fs,ex,ea,c,n,l,q2⟩=>?_) hs;subst ex;obtain rfl:ov=Value.ref a:=rx;exact RM I2 ea c n l ry fun s3 I3=>⟨σ,_,I3,q2⟩
end
section
variable {X:Cx} {pins:List (Addr×Obj)} {σ:St} {H:Hp} {s:Shared} {A:Around} {E:Value->Shared->Prop} {Q:Value->Shared->Prop} {c:Value} {b:Bool}
inductive hX (K:Frag)(H:Hp):V->Value->Prop where
 |non:hX K H .non (.type "NoneType")
 |bl (x:Bool):hX K H (.bl x) (.type "bool")
 |int (i:Int):hX K H (.int i) (.type "int")
 |str (x:Str):hX K H (.str x) (.type "str")
 |flt (x:UInt64):hX K H (.flt x) (.type "float")
 |lst {a:Addr} {xs:List V} (e:H a=some (.lst xs)):hX K H (.ref a) (.type "list")
 |UG {a:Addr} {o:Obj} {xs:List V} (e:H a=some (.UG o (.lst xs))):hX K H (.ref a) (.type "list")
 |tup {a:Addr} {xs:List V} (e:H a=some (.tup xs)):hX K H (.ref a) (.type "tuple")
 |dK {a:Addr} {kvs:List (Key×V)} (e:H a=some (.dK kvs)):hX K H (.ref a) (.type "dict")
 |dT {a:Addr} {kvs:List (List Key×V)} (e:H a=some (.dT kvs)):hX K H (.ref a) (.type "dict")
 |ins {a C dx:Addr} {fs:List (Str×V)} (e:H a=some (.ins C dx fs)) (cl:VN K C) (ha:findIn K (.ref C) "__class__"=some (some (.builtin "object.__class__")))
   (hn:specialIn K (.builtin "object.__class__") "__get__"=some (some (.builtin "getset_descriptor.__get__"))) (htk:PySem.W.takesIn K (.builtin "object.__class__")=some true)
   (hm:mroIn K C (.type "object")=some true):hX K H (.ref a) (.ref C)
theorem VO {x:V}{u t:Value}(I:Inv X pins σ H s)(rx:RelV x u)(ty:hX X.K H x t)(e:kitOne X.K t c=some b)(h:∀ tk,Q (.bool b) { s with toks:=tk }) :
  wpAny (model X.prog X.w) A (call (.builtin "isinstance") [u,c]) Q E s:=by
 cases ty with
 |non=>cases (show u=Value.none from rx);exact kia_one PySem.W.kitx_none I.Ah True.intro e (fun z=>nomatch z) h
 |bl y=>cases (show u=Value.bool y from rx);exact kia_one PySem.W.kitx_bool I.Ah True.intro e (fun z=>nomatch z) h
 |int i=>obtain⟨t,q⟩:=(show ∃ t,u=Value.int i t from rx);cases q;exact kia_one PySem.W.kitx_int I.Ah True.intro e (fun z=>nomatch z) h
 |str y=>obtain⟨t,q⟩:=(show ∃ t,u=Value.str y t from rx);cases q;exact kia_one PySem.W.kitx_str I.Ah True.intro e (fun z=>nomatch z) h
 |flt y=>obtain⟨t,q⟩:=(show ∃ t,u=Value.float y t from rx);cases q;exact kia_one PySem.W.kitx_float I.Ah True.intro e (fun z=>nomatch z) h
 | @lst a xs ea =>
  cases (show u=Value.ref a from rx);obtain⟨_,_,n,_,h1⟩:=(show fi X.prog X.w H s.heap a (.lst xs) from I.hok a _ ea);exact kia_one kitx_list I.Ah ⟨_,h1,rfl⟩ e (fun z=>nomatch z) h
 | @UG a ob xs ea =>
  cases (show u=Value.ref a from rx);obtain⟨_,_,_,n,_,h1⟩:=(show fi X.prog X.w H s.heap a (.UG ob (.lst xs)) from I.hok a _ ea);exact kia_one kitx_list I.Ah ⟨_,h1,rfl⟩ e (fun z=>nomatch z) h
 | @tup a xs ea =>
  cases (show u=Value.ref a from rx);obtain⟨_,_,_,p⟩:=(show fi X.prog X.w H s.heap a (.tup xs) from I.hok a _ ea);obtain⟨o,h1,h2,_⟩:=p;exact kia_one PySem.W.kitx_tuple I.Ah ⟨o,h1,h2⟩ e (fun z=>nomatch z) h
 | @dK a kvs ea =>
  cases (show u=Value.ref a from rx);obtain⟨_,_,vs,_,p⟩:=(show fi X.prog X.w H s.heap a (.dK kvs) from I.hok a _ ea);obtain⟨o,es,ep,h1,h2,_⟩:=p;exact kia_one kitx_dict I.Ah ⟨o,h1,h2.1⟩ e (fun z=>nomatch z) h
 | @dT a kvs ea =>
  cases (show u=Value.ref a from rx);obtain⟨_,_,xs,_,o,es,ep,h1,h2,_⟩:=(show fi X.prog X.w H s.heap a (.dT kvs) from I.hok a _ ea);exact kia_one kitx_dict I.Ah ⟨o,h1,h2.1⟩ e (fun z=>nomatch z) h
 | @ins a C dx fs ea cl ha hn htk hm =>
  cases (show u=Value.ref a from rx);obtain⟨mA,O,_⟩:=Gy I.hok ea;obtain⟨od,J,_⟩:=O.look;exact kia_one (PySem.W.kitx_own (cl.get _) cl.hd ha hn htk hm) I.Ah J e (fun z=>nomatch z) h
end
end L2
namespace L2
open PySem PySem.Spec PyProof.Rows
structure kn (k:Nat)(A:Around):Prop where
 hd:A.handled=none
 dp:A.depth+3 * k+5<recursionLimit
 un:A.units+16 * k+200<cLine
theorem kn.mono {j k:Nat}{A:Around}(r:kn k A)(h:j<=k):kn j A:=⟨r.hd,by have:=r.dp;omega,by have:=r.un;omega⟩
theorem kn.deeper {k:Nat}{A:Around}(r:kn (k+1) A)(env:Env):kn k (A.deeper env) :=
 ⟨r.hd,by have:=r.dp;show A.depth+1+3 * k+5<_;omega,by have:=r.un;show A.units+3+16 * k+200<_;omega⟩
theorem RN {A:Around}{C:Addr}{us:List Value}{kw:List (Str×Value)}:(A.under (.builtin "type.__call__" ⟨.ref C::us,kw⟩)).depth=A.depth+1:=by
 first|rfl|simp[Around.under,Code.weight,Code.isCreation,Code.isGuard,Code.isCaller,Code.frames,Code.isFrame,guardIds]
theorem RO {A:Around}{C:Addr}{us:List Value}{kw:List (Str×Value)}:(A.under (.builtin "type.__call__" ⟨.ref C::us,kw⟩)).units=A.units+1:=by
 first|rfl|simp[Around.under,Code.cUnits,Code.frames,Code.isFrame]
theorem kn.make {k:Nat}{A:Around}(r:kn (k+1) A)(C:Addr)(us:List Value)(kw:List (Str×Value)):kn k (A.under (.builtin "type.__call__" ⟨.ref C::us,kw⟩)) :=
 ⟨r.hd,by have:=r.dp;rw[RN];omega,by have:=r.un;rw[RO];omega⟩
theorem kn.depth {k:Nat}{A:Around}(r:kn k A):A.depth<recursionLimit:=by have:=r.dp;omega
theorem kn.units {k:Nat}{A:Around}(r:kn k A):A.units+64<cLine:=by have:=r.un;omega
def acx:TA:=fun _ H Q=>Q [] H
def aec (ta:TE)(tr:TA):TA:=fun σ H Q=>ta σ H fun x H1=>tr σ H1 fun xs H2=>Q (x::xs) H2
section
variable {X:Cx} {e:Expr} {es:List Expr} {te:TE} {t:TA} {pos:Pos}
theorem ae:PA X [] acx:=fun _ _ _ _ H Q I h=>Calls.spliced_nil ⟨[],H,I,.nil,h⟩
theorem aa (ha:PE X e te)(hr:PA X es t)(hs:starEach (e::es) X.env=(false,eval e X.env)::starEach es X.env:=by rfl):PA X (e::es) (aec te t):=by
 intro pos pins s σ H Q I h;rw[hs];show wpAny _ _ (spliced ((false,eval e X.env)::backTo pos (starEach es X.env))) _ _ s;refine Calls.spliced_cons (cT (ha pins s σ H _ I h) fun u s1 ⟨x,H1,I1,r1,q1⟩=>?_);exact cT (hr pos pins s1 σ H1 _ I1 q1) fun us s2 ⟨xs,H2,I2,r2,q2⟩=>⟨x::xs,H2,I2,.cons r1 r2,q2⟩
def agh (t:TA):TE:=fun σ H Q=>t σ H fun xs H1=>xs.length<=sizeLine/\∀ p,H1 p=none->Q (.ref p) (upd H1 p (.tup xs))
def aed (t:TA):TE:=fun σ H Q=>t σ H fun xs H1=>xs.length<=sizeLine/\∀ p,H1 p=none->Q (.ref p) (upd H1 p (.lst xs))
theorem fG {x1}(h:PA X es t):PE X (.Tuple es x1 pos) (agh t):=by
 intro pins s σ H Q I hq;refine wpAny_Tuple_spliced (cT (h pos pins s σ H _ I hq) fun us s1 ⟨xs,H1,I1,r,z,q⟩=>⟨by rw[<-r.length];exact z,?_⟩);have hf:H1 s1.heap.objs.size=none:=I1.hok.fresh (Nat.le_refl _);refine⟨.ref s1.heap.objs.size,upd H1 s1.heap.objs.size (.tup xs),I1.laid (t':=s1.toks) (fun b u e=>Heap.get?_push_of_some _ e) (Nat.le_refl _) ?_,rfl,q _ hf⟩;exact⟨z,us,r,⟨_,Heap.get?_push_size _ rfl,rfl,_,rfl⟩⟩
theorem b5 (h:PA X es t):PE X (.List es pos) (aed t):=by
 intro pins s σ H Q I hq;refine wpAny_List_spliced (cT (h pos pins s σ H _ I hq) fun us s1 ⟨xs,H1,I1,r,z,q⟩=>⟨by rw[<-r.length];exact z,?_⟩);have hf:H1 s1.heap.objs.size=none:=I1.hok.fresh (Nat.le_refl _);refine⟨.ref s1.heap.objs.size,upd H1 s1.heap.objs.size (.lst xs),I1.laid (t':=s1.toks) (fun b u e=>Heap.get?_push_of_some _ e) (Nat.le_refl _) ?_,rfl,q _ hf⟩;exact⟨z,us,0,r,Heap.get?_push_size _ rfl⟩
end
abbrev Sp:=List V->Hp->VK->XK->Prop
abbrev Yn:=List Env->Hp->Shared->XK->Value->Shared->Prop
structure RP (P:Program)(w:World)(K:Frag)(mg:Str->Option Value)(base:Heap)(A:Around)(outer:List Env)(s:Shared)(H:Hp):Prop where
 frames:A.frames=some outer
 mod:Mod K mg base
 bs:∀ b o,base.get? b=some o->s.heap.get? b=some o/\H b=none
 bsz:base.objs.size<=s.heap.objs.size
 FC:s.heap.FunFrames base outer
 frf:∀ b∈frs outer,H b=none
 hok:Ag P w H s.heap
 bare:AllBare s.gens
def CE (outer:List Env)(P:Program)(w:World)(H:Hp)(s:Shared)(Q:VK)(u:Value)(s':Shared):Prop :=
 ∃ v H',s'.os=s.os/\AllBare s'.gens/\Un (frs outer) [] H H' s.heap s'.heap/\Ag P w H' s'.heap/\RelV v u/\Q v H'
def CR (CX:Yn)(outer:List Env)(P:Program)(w:World)(H:Hp)(s:Shared)(Q:VK)(E:XK)(r:Result)(s':Shared):Prop :=
 match r with
 |.ok (.ret u)=>CE outer P w H s Q u s'
 |.ok _=>False
 |.error e=>CX outer H s E e s'
structure bg (P:Program)(w:World)(K:Frag)(mg:Str->Option Value)(base:Heap)(CX:Yn)(k:Nat)(f:Addr)(fd:FuncData)(ps:List Str)(sp:Sp):Prop where
 len:∀ vs H Q E,sp vs H Q E->vs.length=ps.length
 run:∀(A:Around)(outer:List Env)(s:Shared)(H:Hp)(args:Args)(us:List Value)(vs:List V)(Q:VK)(E:XK),kn k A->RP P w K mg base A outer s H->BindsTo s fd args (ps.zip us)->Vals vs us->sp vs H Q E ->
  codeAny (model P w) A (.call (.ref f) args) (CR CX outer P w H s Q E) s
theorem RP.make {P:Program}{w:World}{K:Frag}{mg:Str->Option Value}{base:Heap}{A:Around}{outer:List Env}{s:Shared}{H:Hp}(e:RP P w K mg base A outer s H)(C:Addr)(us:List Value)(kw:List (Str×Value)) :
  RP P w K mg base (A.under (.builtin "type.__call__" ⟨.ref C::us,kw⟩)) outer s H:=⟨by first|exact e.frames|(simpa [Around.under,Code.envs,Code.isFrame,pushEnvs] using e.frames),e.mod,e.bs,e.bsz,e.FC,e.frf,e.hok,e.bare⟩
section
variable {X:Cx} {pins:List (Addr×Obj)} {σ:St} {H:Hp} {s s':Shared}
theorem Inv.env0 (I:Inv X pins σ H s):RP X.prog X.w X.K X.mg X.base X.A X.stack s H :=
 ⟨I.ok.frames,I.ok.mod,I.bs,Nat.le_trans I.ok.bsz I.sz,I.stack,I.UH,I.hok,I.bare⟩
theorem Inv.after {Q:VK}{u:Value}(I:Inv X pins σ H s)(h:CE X.stack X.prog X.w H s Q u s'):EP X pins σ Q u s':=by
 obtain⟨v,H',os,bare,un,hok,r,q⟩:=h;obtain⟨hh,g,d,t,os'⟩:=s';obtain rfl:os'=s.os:=os;exact⟨v,H',I.call (h':=hh) (g':=g) (d':=d) (t':=t) (ch:=[]) un hok bare (fun b z=>absurd z (by simp)),r,q⟩
end
def aee (sp:Sp)(Ai:List V)(E:XK)(t:TA):TE:=fun σ H Q=>t σ H fun vs H1=>sp (vs++Ai) H1 Q E
inductive Yo (C:Addr)(m:Str)(sp:Sp)(Ai:List V)(E:XK)(t:TA)(σ:St)(Q:VK)(x:V)(H1:Hp):Prop
 |mk (a:_) (dx:_) (fs:_) (dC:x=.ref a) (dD:H1 a=some (.ins C dx fs)) (eK:fs.lookup m=none) (jj:t σ H1 fun vs H2=>sp (x::(vs++Ai)) H2 Q E):Yo C m sp Ai E t σ Q x H1
def abH (C:Addr)(m:Str)(sp:Sp)(Ai:List V)(E:XK)(ta:TE)(t:TA):TE:=fun σ H Q=>ta σ H fun x H1=>Yo C m sp Ai E t σ Q x H1
def abI (C:Addr)(sp:Sp)(Ai:List V)(E:XK)(t:TA):TE:=fun σ H Q=>t σ H fun vs H1=>∀ x dx,H1 x=none->H1 dx=none->dx≠x ->
 sp (.ref x::(vs++Ai)) (upd (upd H1 dx (.own x)) x (.ins C dx [])) (fun v H2=>v=.non/\Q (.ref x) H2) E
def Binds (K:Frag)(fd:FuncData)(ps:List Str)(ds:List Value):Prop :=
 ∀(s:Shared)(us:List Value),K.In s.heap->(us++ds).length=ps.length->BindsTo s fd ⟨us,[]⟩ (ps.zip (us++ds))
theorem Binds.all {K:Frag}{fd:FuncData}{ps:List Str}(h:∀ us:List Value,us.length=ps.length->bindArgs fd ⟨us,[]⟩=pure (ps.zip us)):Binds K fd ps []:=fun s us _ hl=>by
 rw[append_nil]at hl ⊢;exact .of_eq (h us hl)
def Passes (CX:Yn)(X:Cx)(E:XK):Prop:=∀(pins:List (Addr×Obj)) (σ:St) (H:Hp) (s:Shared) (e:Value) (s':Shared),Inv X pins σ H s->CX X.stack H s E e s'->X.xe e s'
section
variable {X:Cx} {CX:Yn} {k:Nat} {f C:Addr} {fd:FuncData} {ps:List Str} {sp:Sp} {Ai:List V} {ds:List Value} {E:XK} {x m:Str} {p pos apos:Pos} {e o:Expr} {es:List Expr} {ta:TE} {t:TA}
theorem RQ {pins:List (Addr×Obj)}{σ:St}{H:Hp}{s:Shared}{Q:VK}{us:List Value}{vs:List V}(F:bg X.prog X.w X.K X.mg X.base CX k f fd ps sp)(hr:kn k X.A)(hb:Binds X.K fd ps ds)(hd:Vals Ai ds)(hx:Passes CX X E)
  (I:Inv X pins σ H s) (r:Vals vs us) (h:sp (vs++Ai) H Q E):wpAny (model X.prog X.w) X.A (call (.ref f) us) (EP X pins σ Q) X.xe s:=by
 have r2:Vals (vs++Ai) (us++ds):=r.append hd;have hl:(us++ds).length=ps.length:=by rw[<-r2.length];exact F.len _ _ _ _ h
 refine wpAny_call (codeAny_mono (F.run X.A X.stack s H ⟨us,[]⟩ (us++ds) (vs++Ai) Q E hr I.env0 (hb s us I.Ah hl) r2 h) fun r s' hq=>?_);cases r with
 |error e=>exact hx pins σ H s e s' I hq
 |ok fl =>
  cases fl with
  |ret u=>exact I.after hq
  |next=>exact False.elim hq
  |brk=>exact False.elim hq
  |cont=>exact False.elim hq
theorem ar (F:bg X.prog X.w X.K X.mg X.base CX k f fd ps sp)(hr:kn k X.A)(hg:Gl X x)(hm:X.mg x=some (.ref f))(hk:keepIn X.K (.ref f)=true)(hb:Binds X.K fd ps ds)(hd:Vals Ai ds)(hx:Passes CX X E)
  (ha:PA X (e::es) t) (hdb:(x==("__debug__":Str))=false:=by decide) (he:starEach (e::es) X.env=(false,eval e X.env)::starEach es X.env:=by rfl) (hpl:(backTo pos (starEach es X.env)).any (·.1)=false:=by rfl) :
  PE X (.Call (.Name x p) (e::es) [] pos) (aee sp Ai E t):=by
 intro pins s σ H Q I h;refine wpAny_Call_Name_kw (Gx I hg hm ?_ hdb);refine callWith_K (h₀:=X.base) I.ok.mod.kin hk (cT (ha pos pins s σ H _ I h) fun us s1 ⟨vs,H1,I1,r,q⟩=>⟨I1.Ah,?_⟩) he hpl;exact RQ F hr hb hd hx I1 r q
theorem a8 {pl:Sem Bool}(he:PE X o ta)(c:VN X.K C)(hm:Meth X.K C m f)(F:bg X.prog X.w X.K X.mg X.base CX k f fd ps sp)(hr:kn k X.A)(hb:Binds X.K fd ps ds)(hd:Vals Ai ds)(hx:Passes CX X E)(ha:PA X (e::es) t)
  (hst:starEach (e::es) X.env=(false,eval e X.env)::starEach es X.env:=by rfl) (hpl:(backTo pos (starEach es X.env)).any (·.1)=false:=by rfl)
  (ht:eval (.Call (.Attribute o m apos) (e::es) [] pos) X.env=(do
   let ov <-eval o X.env
   standAt apos.atName
   let (f,first) <-holding [ov] (getMethod ov m pl)
   callWith pos f first (backTo pos (starEach (e::es) X.env)) (backToKw pos (keywordEach [] X.env))):=by rfl) :
  PE X (.Call (.Attribute o m apos) (e::es) [] pos) (abH C m sp Ai E ta t):=by
 intro pins s σ H Q I h;refine methodCall_KW (pl:=pl) (cT (he pins s σ H _ I h) fun u s1 ⟨x,H1,I1,rx,a,dx,fs,ex,ea,l,q⟩=>?_) ht;subst ex;obtain rfl:u=Value.ref a:=rx;refine GK I1 ea c hm l ?_;refine callWith_K (first:=[.ref a]) (h₀:=X.base) I.ok.mod.kin hm.kp (cT (ha pos pins s1 σ H1 _ I1 q) fun us s2 ⟨vs,H2,I2,r,q2⟩=>⟨I2.Ah,?_⟩) hst hpl;exact RQ (us:=.ref a::us) (vs:=.ref a::vs) F hr hb hd hx I2 (.cons rfl r) q2
theorem gm {pl:Sem Bool}(he:PE X o ta)(c:VN X.K C)(hm:Meth X.K C m f)(F:bg X.prog X.w X.K X.mg X.base CX k f fd ps sp)(hr:kn k X.A)(hb:Binds X.K fd ps ds)(hd:Vals Ai ds)(hx:Passes CX X E)
  (ht:eval (.Call (.Attribute o m apos) [] [] pos) X.env=(do
   let ov <-eval o X.env
   standAt apos.atName
   let (f,first) <-holding [ov] (getMethod ov m pl)
   callWith pos f first (backTo pos (starEach [] X.env)) (backToKw pos (keywordEach [] X.env))):=by rfl) :
  PE X (.Call (.Attribute o m apos) [] [] pos) (abH C m sp Ai E ta acx):=by
 intro pins s σ H Q I h;refine methodCall_KW (pl:=pl) (cT (he pins s σ H _ I h) fun u s1 ⟨x,H1,I1,rx,a,dx,fs,ex,ea,l,q⟩=>?_) ht;subst ex;obtain rfl:u=Value.ref a:=rx;refine GK I1 ea c hm l ?_;exact callWith_K0 (first:=[.ref a]) I1.Ah hm.kp (RQ (us:=[.ref a]) (vs:=[.ref a]) F hr hb hd hx I1 (.cons rfl .nil) q)
structure Mk (K:Frag)(C f:Addr):Prop where
 makes:makesIn K C=true
 init:findIn K (.ref C) "__init__"=some (some (.ref f))
 fn:isFn K (.ref f)=true
 kp:keepIn K (.ref C)=true
theorem PY {pins:List (Addr×Obj)}{σ:St}{H:Hp}{s:Shared}{Q:VK}{us:List Value}{vs:List V}(M:Mk X.K C f)(F:bg X.prog X.w X.K X.mg X.base CX k f fd ps sp)(hr:kn (k+1) X.A)(hb:Binds X.K fd ps ds)(hd:Vals Ai ds)
  (hx:Passes CX X E) (I:Inv X pins σ H s) (r:Vals vs us)
  (h:∀ x dx,H x=none->H dx=none->dx≠x->sp (.ref x::(vs++Ai)) (upd (upd H dx (.own x)) x (.ins C dx [])) (fun v H2=>v=.non/\Q (.ref x) H2) E) :
  wpAny (model X.prog X.w) X.A (call (.ref C) us) (EP X pins σ Q) X.xe s:=by
 have hq:=h (s.heap.objs.size+1) s.heap.objs.size (I.hok.fresh (Nat.le_succ _)) (I.hok.fresh (Nat.le_refl _)) (Nat.ne_of_lt (Nat.lt_succ_self _));have I2:=Inv.made (C:=C) I;have r2:Vals (V.ref (s.heap.objs.size+1)::(vs++Ai)) (Value.ref (s.heap.objs.size+1)::(us++ds)):=.cons rfl (r.append hd);have hl:(Value.ref (s.heap.objs.size+1)::us++ds).length=ps.length:=by
  have e:=r2.length;rw[F.len _ _ _ _ hq]at e;exact e.symm
 refine wpAny_call (Ym (f:=f) I.Ah M.makes M.init (beq_iff_eq.mp M.fn) (codeAny_mono (F.run _ X.stack _ _ ⟨Value.ref (s.heap.objs.size+1)::us,[]⟩ (Value.ref (s.heap.objs.size+1)::(us++ds)) _ _ E (hr.make C us [])
  (I2.env0.make C us []) (hb _ (Value.ref (s.heap.objs.size+1)::us) I2.Ah hl) r2 hq) fun r s' hq'=>?_))
 cases r with
 |error e=>exact hx pins σ _ _ e s' I2 hq'
 |ok fl =>
  cases fl with
  |ret u =>
   obtain⟨v,H',I3,rv,ev,q3⟩:=I2.after hq';subst ev;exact⟨rv,⟨V.ref (s.heap.objs.size+1),H',I3,rfl,q3⟩⟩
  |next=>exact False.elim hq'
  |brk=>exact False.elim hq'
  |cont=>exact False.elim hq'
theorem Al (M:Mk X.K C f)(F:bg X.prog X.w X.K X.mg X.base CX k f fd ps sp)(hr:kn (k+1) X.A)(hg:Gl X x)(hm:X.mg x=some (.ref C))(hb:Binds X.K fd ps ds)(hd:Vals Ai ds)(hx:Passes CX X E)
  (ha:PA X (e::es) t) (hdb:(x==("__debug__":Str))=false:=by decide) (he:starEach (e::es) X.env=(false,eval e X.env)::starEach es X.env:=by rfl) (hpl:(backTo pos (starEach es X.env)).any (·.1)=false:=by rfl) :
  PE X (.Call (.Name x p) (e::es) [] pos) (abI C sp Ai E t):=by
 intro pins s σ H Q I h;refine wpAny_Call_Name_kw (Gx I hg hm ?_ hdb);refine callWith_K (h₀:=X.base) I.ok.mod.kin M.kp (cT (ha pos pins s σ H _ I h) fun us s1 ⟨vs,H1,I1,r,q⟩=>⟨I1.Ah,?_⟩) he hpl;exact PY M F hr hb hd hx I1 r q
theorem Yp (M:Mk X.K C f)(F:bg X.prog X.w X.K X.mg X.base CX k f fd ps sp)(hr:kn (k+1) X.A)(hg:Gl X x)(hm:X.mg x=some (.ref C))(hb:Binds X.K fd ps ds)(hd:Vals Ai ds)(hx:Passes CX X E)
  (hdb:(x==("__debug__":Str))=false:=by decide):PE X (.Call (.Name x p) [] [] pos) (abI C sp Ai E acx):=by
 intro pins s σ H Q I h;refine wpAny_Call_Name_kw (Gx I hg hm ?_ hdb);exact callWith_K0 I.Ah M.kp (PY (us:=[]) M F hr hb hd hx I .nil h)
end
section
variable {X:Cx} {CX:Yn} {k:Nat} {f C:Addr} {fd:FuncData} {ps ks:List Str} {sp:Sp} {E:XK} {x m:Str} {p pos apos aiD:Pos} {e o:Expr} {es:List Expr} {kws:List Keyword} {te ta:TE} {t tk:TA} {nm:Option Str}
structure agi (K:Frag)(fd:FuncData)(ps ks:List Str)(g:List Value->List Value->List Value)(gV:List V->List V->List V):Prop where
 to:∀(s:Shared)(us ws:List Value),K.In s.heap->(g us ws).length=ps.length->BindsTo s fd ⟨us,ks.zip ws⟩ (ps.zip (g us ws))
 rel:∀{vs:List V} {us:List Value} {zs:List V} {ws:List Value},Vals vs us->Vals zs ws->Vals (gV vs zs) (g us ws)
variable {g:List Value->List Value->List Value} {gV:List V->List V->List V}
end
structure az (N P:List Str)(sc:Scope):Prop where
 kind:sc.kind=.function
 co:sc.isCoroutine=false
 gen:sc.isGenerator=false
 nd:N.Nodup
 pre:N.take P.length=P
 par:∀ x∈P,sc.names.lookup x=some .local\/sc.names.lookup x=some .cell
 acy:∀ y∈sc.names,y.2≠.free
theorem Lr {kindOf:Str->Option NameKind}{x:Str}:∀{binds:List (Str×Value)} {m:Str->Option Value},(∀ v,(x,v) ∉ binds)->bindL kindOf binds m x=m x
 |[],_,_=>rfl
 |(n,v)::r,m,h=>by
  unfold bindL;rw[Lr fun w hw=>h w (mem_cons_of_mem _ hw)];split
  ·have:x≠n:=by rintro rfl;exact h v mem_cons_self
   simp[this]
  ·rfl
theorem Ls {kindOf:Str->Option NameKind}{x:Str}:∀{binds:List (Str×Value)} {m:Str->Option Value},(∀ v,(x,v) ∉ binds)->bindC kindOf binds m x=m x
 |[],_,_=>rfl
 |(n,v)::r,m,h=>by
  unfold bindC;rw[Ls fun w hw=>h w (mem_cons_of_mem _ hw)];split
  ·rfl
  ·have:x≠n:=by rintro rfl;exact h v mem_cons_self
   simp[this]
theorem Lu {kindOf:Str->Option NameKind}{x:Str}{v:Value}:∀{P:List Str} {vs:List Value} {i:Nat} {m:Str->Option Value},P.Nodup->P[i]? = some x->vs[i]? = some v->kindOf x=some .local ->
  bindL kindOf (P.zip vs) m x=some v
 |[],_,_,_,_,h,_,_=>by simp at h
 |_::_,[],_,_,_,_,h,_=>by simp at h
 |p::P,w::vs,0,m,nd,h1,h2,hk=>by
  simp at h1 h2;subst h1;subst h2;show bindL kindOf ((p,w)::P.zip vs) m p=_;unfold bindL;rw[Lr fun v hv=>(List.nodup_cons.mp nd).1 (List.of_mem_zip hv).1,if_pos hk];simp
 |p::P,w::vs,i+1,m,nd,h1,h2,hk=>by
  show bindL kindOf ((p,w)::P.zip vs) m x=_;unfold bindL;exact Lu (i:=i) (List.nodup_cons.mp nd).2 (by simpa using h1) (by simpa using h2) hk
theorem Lv {kindOf:Str->Option NameKind}{x:Str}{v:Value}:∀{P:List Str} {vs:List Value} {i:Nat} {m:Str->Option Value},P.Nodup->P[i]? = some x->vs[i]? = some v->kindOf x≠some .local ->
  bindC kindOf (P.zip vs) m x=some v
 |[],_,_,_,_,h,_,_=>by simp at h
 |_::_,[],_,_,_,_,h,_=>by simp at h
 |p::P,w::vs,0,m,nd,h1,h2,hk=>by
  simp at h1 h2;subst h1;subst h2;show bindC kindOf ((p,w)::P.zip vs) m p=_;unfold bindC;rw[Ls fun v hv=>(List.nodup_cons.mp nd).1 (List.of_mem_zip hv).1,if_neg hk];simp
 |p::P,w::vs,i+1,m,nd,h1,h2,hk=>by
  show bindC kindOf ((p,w)::P.zip vs) m x=_;unfold bindC;exact Lv (i:=i) (List.nodup_cons.mp nd).2 (by simpa using h1) (by simpa using h2) hk
def start (N:List Str)(vs:List V):St:=vs.map some++List.replicate (N.length-vs.length) none
def RS (CX:Yn)(P:Program)(w:World)(K:Frag)(mg:Str->Option Value)(base:Heap)(N:List Str)(qual:Str)(scope:Scope)(f:Addr)(cd:Value)(A:Around)(outer:List Env)(s:Shared)(H:Hp)(E:XK):Cx where
 prog:=P
 w:=w
 K:=K
 mg:=mg
 base:=base
 A:=A.deeper (envOfC qual scope s.heap.objs.size f cd)
 N:=N
 s₀:=s
 H₀:=H
 env:=envOfC qual scope s.heap.objs.size f cd
 outer:=outer
 stack:=envOfC qual scope s.heap.objs.size f cd::outer
 ex:=[]
 calm:=true
 fn:=fun _=>true
 pn:=[]
 xe:=fun e s'=>wpAny (model P w) (A.deeper (envOfC qual scope s.heap.objs.size f cd)) (leaving (envOfC qual scope s.heap.objs.size f cd) e) (fun _ s''=>CX outer H s E e s'') (fun e' s''=>CX outer H s E e' s'') s'
theorem PZ {sc:Scope}{n:Nat}{x:Str}(h:sc.names.lookup x=some .cell):∃ c,(cellsFrom n sc.names []).lookup x=some c:=by
 have q:=PySem.W.cellsFrom_some sc.names n [] (.inl h);exact Option.isSome_iff_exists.mp q
theorem VP {CX:Yn}{P:Program}{w:World}{K:Frag}{mg:Str->Option Value}{base:Heap}{N ps:List Str}{qual:Str}{scope:Scope}{f:Addr}{cd:Value}{A:Around}{outer:List Env}{s s1:Shared}{H:Hp}{E:XK}{us:List Value}{vs:List V}
  (S:az N ps scope) (hd:A.handled=none) (e0:RP P w K mg base A outer s H) (hl:vs.length=ps.length) (r:Vals vs us)
  (x:InCallC s s.heap.objs.size (bindL (envOfC qual scope s.heap.objs.size f cd).kindOf (ps.zip us) fun _=>none) (cellsFrom (s.heap.objs.size+1) scope.names []) (bindC (envOfC qual scope s.heap.objs.size f cd).kindOf (ps.zip us) fun _=>none) s1) :
  Inv (RS CX P w K mg base N qual scope f cd A outer s H E) [] (start N vs) H s1:=by
 have hpl:ps.length<=N.length:=by have:=congrArg List.length S.pre;rw[length_take]at this;omega
 obtain⟨h1,tk,rfl,hk⟩:=x.done;have noA:∀ b:Addr,b ∉ (RS CX P w K mg base N qual scope f cd A outer s H E).ex:=fun b z=>absurd (show b∈([]:List Addr) from z) (by simp);refine⟨⟨e0.mod,S.kind,rfl,rfl,Nat.le_refl _,fun y z c h1 h2=>?_,fun y hy=>?_,fun y c _ h=>?_,fun _=>hd,Around.frames_deeper e0.frames,.inr ⟨rfl,rfl⟩,fun b z=>absurd z (noA b),e0.bs,e0.bsz,fun b _ _=>noA b,fun b z=>absurd z (noA b),e0.FC,e0.frf⟩,
  rfl,e0.bare,Un.kept hk,⟨_,x.toInCall.ns,fun i y v h1 h2 h3=>?_⟩,fun y c h=>⟨_,x.cell y c h⟩,e0.hok.fresh (Nat.le_refl _),fun y c h=>?_,fun p hp=>absurd (show p∈([]:List (Addr×Obj)) from hp) (by simp),e0.hok.kept hk,?_⟩
 ·exact name_of_addr x.apart (PySem.mem_of_lookup h1) (PySem.mem_of_lookup h2)
 ·have hy:scope.names.lookup y=some .cell\/scope.names.lookup y=some .free:=hy;rcases hy with hy|hy
  ·exact PZ hy
  ·exact absurd rfl (S.acy _ (PySem.mem_of_lookup hy))
 ·exact Nat.le_of_lt (x.above y c (PySem.mem_of_lookup h))
 ·have hi:i<vs.length:=by
   unfold start at h2
   by_cases hi:i<vs.length
   ·exact hi
   ·rw[List.getElem?_append_right (by simpa using hi)]at h2;rw[List.getElem?_replicate]at h2;split at h2 <;> cases h2
  have ha:vs[i]? = some v:=by
   unfold start at h2;rw[getElem?_append_left (by simpa using hi),getElem?_map]at h2;cases e:vs[i]? with
   |none=>rw[e]at h2;cases h2
   |some a=>rw[e]at h2;cases h2;rfl
  obtain⟨u,hu,rv⟩:=r.get ha;have hp:ps[i]? = some y:=by
   rw[<-S.pre,List.getElem?_take_of_lt (by omega)];exact h1
  have ndP:ps.Nodup:=by rw[<-S.pre];exact S.nd.sublist (List.take_sublist _ _)
  refine⟨u,rv,?_⟩;rcases S.par y (mem_of_getElem? hp) with k|k
  ·exact .inl ⟨k,Lu ndP hp hu k⟩
  ·obtain⟨c,e⟩:=PZ (n:=s.heap.objs.size+1) k;refine .inr ⟨.inl k,c,e,?_⟩;have q:=x.cell y c e;rw[Lv ndP hp hu (by show scope.names.lookup y≠_;rw[k];decide)]at q;exact q
 ·exact e0.hok.fresh (Nat.le_of_lt (x.above y c (PySem.mem_of_lookup h)))
 ·unfold start;show _=N.length;rw[length_append,length_map,List.length_replicate];omega
theorem abJ {CX:Yn}{P:Program}{w:World}{K:Frag}{mg:Str->Option Value}{base:Heap}{k:Nat}{f:Addr}{name qual:Str}{params:Arguments}{body:List Stmt}{scope:Scope}{dV kV doc pm cdv ct oc:Value}{an od:Option Addr}
  {osl:Array (Option Value)} {N ps:List Str} {sp:Sp} (lk:K.lookup f=some ⟨oc,od,.func (fnOf name qual params body scope dV kV doc pm an cdv ct),osl⟩) (hcd:codeIn K cdv qual=true) (S:az N ps scope)
  (len:∀ vs H Q E,sp vs H Q E->vs.length=ps.length)
  (hbody:∀(A:Around)(outer:List Env)(s:Shared)(H:Hp)(vs:List V)(Q:VK)(E:XK),kn k (A.deeper (envOfC qual scope s.heap.objs.size f cdv))->sp vs H Q E ->
   ∃ t,RG (RS CX P w K mg base N qual scope f cdv A outer s H E) body t/\t { nx:=fun _ H'=>Q .non H',rt:=Q } (start N vs) H) :
  bg P w K mg base CX (k+1) f (fnOf name qual params body scope dV kV doc pm an cdv ct) ps sp:=by
 refine⟨len,fun A outer s H args us vs Q E hr e0 hb r hsp=>?_⟩;have hl:=len _ _ _ _ hsp;have KX:K.In s.heap:=e0.mod.kin.keeps fun b o e=>(e0.bs b o e).1;have lim:s.heap.NoLimit:=e0.mod.nolimit.keeps fun b o e=>(e0.bs b o e).1;have hkind:∀ y∈ps.zip us,scope.names.lookup y.1=some .local\/(scope.names.lookup y.1=some .cell/\((cellsFrom (s.heap.objs.size+1) scope.names []).lookup y.1).isSome=true):=fun⟨n,v⟩ hy=>by
  rcases S.par n (List.of_mem_zip hy).1 with q|q
  ·exact .inl q
  ·exact .inr ⟨q,PySem.W.cellsFrom_some _ _ _ (.inl q)⟩
 refine codeAny_call_function hr.depth (KX _ _ lk) rfl S.co S.gen rfl (PySem.W.codeRec_of KX hcd) (hb _ _ _ _ ?_);refine wpAny_newFunctionEnv_cells S.kind hkind fun env he s1 x=>?_;subst he;refine⟨lim.keeps x.toInCall.keep,codeAny_func ?_⟩;obtain⟨t,ht,hq⟩:=hbody A outer s H vs Q E (hr.deeper _) hsp;have I:Inv (RS CX P w K mg base N qual scope f cdv A outer s H E) [] (start N vs) H s1:=VP S hr.hd e0 hl r x;refine wpAny_mono (ht [] s1 (start N vs) H _ I hq) (fun fl s' hs=>?_) fun e s' hs=>hs;have fin:∀{σ':St} {H':Hp} {v:V} {u:Value},Inv (RS CX P w K mg base N qual scope f cdv A outer s H E) [] σ' H' s'->RelV v u->Q v H'->CE outer P w H s Q u s' :=
  fun {σ' H' v u} J rv q=>⟨v,H',J.os,J.bare,J.base,J.hok,rv,q⟩
 cases fl with
 |ret u =>
  obtain⟨v,σ',H',J,rv,q⟩:=hs;exact fin J rv q
 |next =>
  obtain⟨σ',H',J,q⟩:=hs;exact fin (v:=V.non) (u:=Value.none) J rfl q
 |brk =>
  obtain⟨_,_,_,q⟩:=hs;exact False.elim q
 |cont =>
  obtain⟨_,_,_,q⟩:=hs;exact False.elim q
end L2
namespace L2
open PySem PySem.Spec PyProof.Rows
section
variable {X:Cx} {x:Str} {p pos:Pos} {e:Expr} {es:List Expr} {t:TA} {id T:String} {r:List V->Hp->VK->Prop}
def tCB (r:List V->Hp->VK->Prop)(t:TA):TE:=fun σ H Q=>t σ H fun vs H1=>r vs H1 Q
theorem aG (hc:jo X (.builtin id) r)(hg:Gl X x)(hm:X.mg x=none)(hv:bootBuiltins x=some (.builtin id))(ha:PA X (e::es) t)(hn:x ≠ "__name__":=by decide)(hdb:(x==("__debug__":Str))=false:=by decide)
  (he:starEach (e::es) X.env=(false,eval e X.env)::starEach es X.env:=by rfl) (hpl:(backTo pos (starEach es X.env)).any (·.1)=false:=by rfl):PE X (.Call (.Name x p) (e::es) [] pos) (tCB r t):=by
 intro pins s σ H Q I h;refine wpAny_Call_Name_kw (qg I hg hm hv ?_ hn hdb);exact PyProof.Rows.callWith_builtin1 (cT (ha pos pins s σ H _ I h) fun us s1 ⟨vs,H1,I1,r1,q1⟩=>hc pins s1 σ H1 vs us Q I1 r1 q1) he hpl
theorem cE (hc:jo X (.type T) r)(hg:Gl X x)(hm:X.mg x=none)(hv:bootBuiltins x=some (.type T))(ha:PA X (e::es) t)(hn:x ≠ "__name__":=by decide)(hdb:(x==("__debug__":Str))=false:=by decide)
  (he:starEach (e::es) X.env=(false,eval e X.env)::starEach es X.env:=by rfl) (hpl:(backTo pos (starEach es X.env)).any (·.1)=false:=by rfl):PE X (.Call (.Name x p) (e::es) [] pos) (tCB r t):=by
 intro pins s σ H Q I h;refine wpAny_Call_Name_kw (qg I hg hm hv ?_ hn hdb);exact PyProof.Rows.callWith_type1 (cT (ha pos pins s σ H _ I h) fun us s1 ⟨vs,H1,I1,r1,q1⟩=>hc pins s1 σ H1 vs us Q I1 r1 q1) he hpl
end
end L2
namespace HT
open PySem PyProof.Rows
section
open PySem.SeqAt
open PySem.AutoSeq1 (wpAny_loadPart')
open PySem.MeetsSeq PySem.MeetsSeq2 PySem.MeetsSeq3
end
section
variable {prog:Program} {w:World} {A:Around} {E:Value->Shared->Prop} {s:Shared}
def kr (n d:Nat):Option Int->Nat
 |none=>d
 |some v=>if v<0 then(v+(n:Int)).toNat else min v.toNat n
theorem P0 (n d:Nat):kr n d none=d:=rfl
theorem UN (n d k:Nat):kr n d (some (k:Int))=min k n:=by
 show(if(k:Int)<0 then((k:Int)+(n:Int)).toNat else min (k:Int).toNat n)=min k n;rw[if_neg (by omega),Int.toNat_natCast]
theorem acz (n d:Nat)(hd:d<=n)(o:Option Int):kr n d o<=n:=by
 cases o with
 |none=>exact hd
 |some v =>
  show(if v<0 then(v+(n:Int)).toNat else min v.toNat n)<=n
  by_cases hv:v<0
  ·rw[if_pos hv];omega
  ·rw[if_neg hv];exact Nat.min_le_right _ _
theorem UO (v:Int)(n d:Nat):(if v<0 then max (v+(n:Int)) 0 else min v (n:Int))=((kr n d (some v):Nat):Int):=by
 show(if v<0 then max (v+(n:Int)) 0 else min v (n:Int))=(((if v<0 then(v+(n:Int)).toNat else min v.toNat n):Nat):Int)
 by_cases hv:v<0
 ·simp only [if_pos hv];omega
 ·simp only [if_neg hv];omega
theorem RT (lo hi:Option Int)(n:Nat):Builtin.Slice.sliceAdjust lo hi 1 (n:Int)=(((kr n 0 lo:Nat):Int),((kr n n hi:Nat):Int)):=by
 have h1:¬((1:Int)<0):=by omega
 unfold Builtin.Slice.sliceAdjust;simp only [h1,if_false];refine Prod.ext ?_ ?_
 ·cases lo with
  |none=>rfl
  |some v=>exact UO v n 0
 ·cases hi with
  |none=>rfl
  |some v=>exact UO v n n
theorem RU (i j:Nat):Builtin.Slice.slicePlaces (i:Int) (j:Int) 1=j-i:=by
 unfold Builtin.Slice.slicePlaces;have h1:(1:Int) > 0:=by omega
 simp only [h1,if_true,Int.ediv_one];split <;> omega
theorem GL {v:Value}{o:Option Int}{Q:Option Int->Shared->Prop}(p:IsPart v o)(h:Q o s):wpAny (model prog w) A (Builtin.Slice.slicePartIndex v) Q E s:=by
 cases p with
 |none=>exact slicePart_none h
 |int i t=>exact slicePart_int h
theorem Cz {sl:Addr}{vl vu:Value}{lo hi:Option Int}{n:Nat}{Q:Int×Int×Nat->Shared->Prop}(hs:s.heap.IsSliceOf sl vl vu .none)(pl:IsPart vl lo)(pu:IsPart vu hi)
  (h:Q (((kr n 0 lo:Nat):Int),1,kr n n hi-kr n 0 lo) s):wpAny (model prog w) A (Builtin.Slice.sliceApplied (.ref sl) (pure (n:Int))) Q E s:=by
 obtain⟨os,hos,hcs,hds⟩:=id hs;unfold Builtin.Slice.sliceApplied Builtin.Slice.sliceFields;refine wpAny_bind (wpAny_bind (wpAny_field hos hds (x:=vl) rfl (wpAny_bind (wpAny_field hos hds (x:=vu) rfl (wpAny_bind (wpAny_field hos hds (x:=.none) rfl (wpAny_pure ?_)))))));refine wpAny_bind (slicePart_none ?_);show wpAny _ _ (if((1:Int)==0)=true then _ else _) _ _ s;rw[if_neg (by decide)];refine wpAny_bind (GL pl (wpAny_bind (GL pu (wpAny_bind (wpAny_pure ?_)))));show wpAny _ _ (match Builtin.Slice.sliceAdjust lo hi 1 (n:Int) with|(lo,hi)=>pure (lo,(1:Int),Builtin.Slice.slicePlaces lo hi 1)) _ _ s;rw[RT lo hi n];show wpAny _ _ (pure (((kr n 0 lo:Nat):Int),(1:Int),Builtin.Slice.slicePlaces ((kr n 0 lo:Nat):Int) ((kr n n hi:Nat):Int) 1)) _ _ s;rw[RU];exact wpAny_pure h
theorem Yq (xs:Array Value)(i k:Nat):((List.range k).filterMap fun(m:Nat)=>xs[((i:Int)+(m:Int) * 1).toNat]?).toArray=((xs.toList.drop i).take k).toArray:=by
 have e:(fun(m:Nat)=>xs[((i:Int)+(m:Int) * 1).toNat]?)=fun m=>xs[i+m]?:=by
  funext m
  have:((i:Int)+(m:Int) * 1).toNat=i+m:=by omega
  rw[this]
 rw[e];have:=pick_run xs i k;rw[List.filterMap_map]at this;have e2:((fun x=>xs[x]?) ∘ fun x=>i+x)=fun m=>xs[i+m]?:=rfl;rw[e2]at this;rw[this]
theorem Am {t sl:Addr}{items:Array Value}{vl vu:Value}{lo hi:Option Int}{Q:Value->Shared->Prop}(ht:IsTup s.heap t items)(hs:s.heap.IsSliceOf sl vl vu .none)(pl:IsPart vl lo)(pu:IsPart vu hi)
  (hw:¬(kr items.size 0 lo=0/\kr items.size items.size hi=items.size))
  (h:Q (.ref s.heap.objs.size) { s with heap:=s.heap.push { cls:=.type "tuple",data:=.seq ((items.toList.drop (kr items.size 0 lo)).take (kr items.size items.size hi-kr items.size 0 lo)).toArray } })
  (hsz:items.size<=sizeLine):wpAny (model prog w) A (getItem (.ref t) (.ref sl)) Q E s:=by
 have UP:sizeOk (.seq ((items.toList.drop (kr items.size 0 lo)).take (kr items.size items.size hi-kr items.size 0 lo)).toArray):=by
  show((items.toList.drop (kr items.size 0 lo)).take (kr items.size items.size hi-kr items.size 0 lo)).toArray.size<=sizeLine;rw[size_toArray,length_take,length_drop,Array.length_toList];omega
 have hj:kr items.size items.size hi<=items.size:=acz _ _ (Nat.le_refl _) hi;obtain⟨os,hos,hcs,hds⟩:=id hs;have hTs:s.TypeIs (.ref sl) "slice":=⟨os,hos,hcs⟩;unfold getItem
 try with_reducible refine wpAny_holding ?_
 first|refine wpAny_bind (wpAny_pure ?_)|skip
 refine wpAny_bind (wpAny_sequenceKey ht.typeIs (by decide) ?_);refine wpAny_bind (wpAny_callSpecial?_slot (name:=Str.ofString "__getitem__") ht.typeIs PyProof.Rows.slot_tuple_getitem
  (wpAny_call_entry PyProof.Rows.slot_tuple_getitem ht.typeIs entry_tuple_getitem ?_ (args_tuple_getitem _ _)))
 show wpAny _ _ (Builtin.Tuple.tupleItemsOf (.ref t) >>= _) _ _ s;refine wpAny_bind (tupleItemsOf_ ht ?_);refine wpAny_bind (wpAny_typeOf hTs ?_);rw[if_pos (by decide)];refine wpAny_bind (Cz hs pl pu ?_);have hno:¬((((kr items.size 0 lo:Nat):Int)==0&&(1:Int)==1&&(kr items.size items.size hi-kr items.size 0 lo)==items.size)=true):=by
  intro q;rw[Bool.and_eq_true,Bool.and_eq_true]at q;have q1:((kr items.size 0 lo:Nat):Int)=0:=eq_of_beq q.1.1;have q2:kr items.size items.size hi-kr items.size 0 lo=items.size:=eq_of_beq q.2;exact hw ⟨by omega,by omega⟩
 show wpAny _ _ (if(((kr items.size 0 lo:Nat):Int)==0&&(1:Int)==1&&(kr items.size items.size hi-kr items.size 0 lo)==items.size)=true then _ else _) _ _ s;rw[if_neg hno,Yq]
 first
  |exact wpAny_bind (m:=Builtin.Tuple.tupleExact _) (wpAny_newObj_type (wpAny_pure ⟨_,rfl,wpAny_pure h⟩) UP)
  |exact wpAny_bind (m:=Builtin.Tuple.tupleExact _) (wpAny_newObj_type (wpAny_bind (wpAny_pure (wpAny_pure ⟨_,rfl,wpAny_pure h⟩))) UP)
  |exact wpAny_bind (wpAny_bind (m:=Builtin.Tuple.tupleExact _) (wpAny_newObj_type (wpAny_pure (wpAny_pure ⟨_,rfl,wpAny_pure h⟩)) UP))
  |exact wpAny_bind (wpAny_bind (m:=Builtin.Tuple.tupleExact _) (wpAny_newObj_type (wpAny_pure ⟨_,rfl,wpAny_pure h⟩) UP))
end
end HT
namespace L2
open PySem PySem.Spec PyProof.Rows
abbrev TO:=St->Hp->(Option Int->Hp->Prop)->Prop
def PO (X:Cx)(e:Option Expr)(t:TO):Prop :=
 ∀(pins:List (Addr×Obj)) (s:Shared) (σ:St) (H:Hp) (Q:Option Int->Hp->Prop),Inv X pins σ H s->t σ H Q ->
  wpAny (model X.prog X.w) X.A (evalPart e X.env) (fun u s'=>∃ o H',Inv X pins σ H' s'/\IsPart u o/\Q o H') X.xe s
def aaz:TO:=fun _ H Q=>Q none H
inductive Yr (Q:(Option Int->Hp->Prop))(x:V)(H1:Hp):Prop
 |mk (i:_) (dC:x=.int i) (dD:Q (some i) H1):Yr Q x H1
def aeg (t:TE):TO:=fun σ H Q=>t σ H fun x H1=>Yr Q x H1
section
variable {X:Cx} {e:Expr} {te:TE} {lo hi:Option Expr} {tl th:TO} {pos p2:Pos}
theorem UQ:PO X none aaz:=by
 intro pins s σ H Q I h;rw[evalPart_none];exact wpAny_pure ⟨none,H,I,.none,h⟩
theorem xq (h:PE X e te):PO X (some e) (aeg te):=by
 intro pins s σ H Q I hw;rw[evalPart_some];refine cT (h pins s σ H _ I hw) fun u s1 ⟨x,H1,I1,r1,q1⟩=>?_;obtain⟨i,rfl,q⟩:=q1;obtain⟨t,rfl⟩:=r1;exact⟨some i,H1,I1,.int i t,q⟩
def SlR (X:Cx)(r:V->Option Int->Option Int->Hp->VK->Prop):Prop :=
 ∀(pins:List (Addr×Obj)) (s:Shared) (σ:St) (H:Hp) (x:V) (v vl vu:Value) (lo hi:Option Int) (sl:Addr) (Q:VK),Inv X pins σ H s->RelV x v->s.heap.IsSliceOf sl vl vu .none->IsPart vl lo->IsPart vu hi->r x lo hi H Q ->
  ∃ T id,typeLookup (.type T) "__getitem__"=pure (some (.builtin id))/\s.TypeIs v T/\wpAny (model X.prog X.w) X.A (getItem v (.ref sl)) (EP X pins σ Q) X.xe s
theorem SlR.or {r r':V->Option Int->Option Int->Hp->VK->Prop}(h:SlR X r)(h':SlR X r'):SlR X (fun x lo hi H Q=>r x lo hi H Q\/r' x lo hi H Q):=by
 intro pins s σ H x v vl vu lo hi sl Q I rx hs pl pu q;rcases q with q|q
 ·exact h pins s σ H x v vl vu lo hi sl Q I rx hs pl pu q
 ·exact h' pins s σ H x v vl vu lo hi sl Q I rx hs pl pu q
def tSl (r:V->Option Int->Option Int->Hp->VK->Prop)(te:TE)(tl th:TO):TE:=fun σ H Q=>te σ H fun x H1=>tl σ H1 fun l H2=>th σ H2 fun u H3=>r x l u H3 Q
theorem P1 {r:V->Option Int->Option Int->Hp->VK->Prop}(hr:SlR X r)(he:PE X e te)(hl:PO X lo tl)(hu:PO X hi th):PE X (.Subscript e (.Slice lo hi none p2) pos) (tSl r te tl th):=by
 intro pins s σ H Q I h;refine Subscript_ (cT (he pins s σ H _ I h) fun v s1 ⟨x,H1,I1,r1,q1⟩=>?_);refine wpAny_Slice (cT (hl pins s1 σ H1 _ I1 q1) fun vl s2 ⟨l,H2,I2,pl,q2⟩=>cT (hu pins s2 σ H2 _ I2 q2) fun vu s3 ⟨u,H3,I3,pu,q3⟩=>?_);rw[evalPart_none];refine wpAny_pure ?_;have I4:Inv X pins σ H3 { s3 with heap:=s3.heap.push { cls:=.type "slice",data:=.fields #[vl,vu,.none] } }:=I3.kept (t':=s3.toks) fun b ob q=>Heap.get?_push_of_some _ q;obtain⟨T,id,hT,ht,hg⟩:=hr pins { s3 with heap:=s3.heap.push { cls:=.type "slice",data:=.fields #[vl,vu,.none] } } σ H3 x v vl vu l u s3.heap.objs.size Q I4 r1 (Heap.IsSliceOf.new ..) pl pu q3;show wpAny (model X.prog X.w) X.A (subscriptTail e (.Slice lo hi none p2) v (.ref s3.heap.objs.size)) (EP X pins σ Q) X.xe { s3 with heap:=s3.heap.push { cls:=.type "slice",data:=.fields #[vl,vu,.none] } };exact tail_any (ops:=[.ref s3.heap.objs.size,v]) ht hT hg (by with_unfolding_all rfl)
def GN (xs:List V)(lo hi:Option Int):List V:=(xs.drop (HT.kr xs.length 0 lo)).take (HT.kr xs.length xs.length hi-HT.kr xs.length 0 lo)
theorem E8 (xs:List V)(lo hi:Option Int):(GN xs lo hi).length<=xs.length:=by
 unfold GN;rw[length_take,length_drop];omega
inductive abL (K:Frag)(x:V)(lo:Option Int)(hi:Option Int)(H:Hp)(Q:VK):Prop
 |mk (a:_) (xs:_) (dC:x=.ref a) (dD:nR K H a xs) (eK:¬(HT.kr xs.length 0 lo=0/\HT.kr xs.length xs.length hi=xs.length)) (jj:∀ p,H p=none->Q (.ref p) (upd H p (.tup (GN xs lo hi)))):abL K x lo hi H Q
def agj (K:Frag):V->Option Int->Option Int->Hp->VK->Prop:=fun x lo hi H Q=>abL K x lo hi H Q
theorem Ys:SlR X (agj X.K):=by
 intro pins s σ H x v vl vu lo hi sl Q I rx hs pl pu h;obtain⟨a,xs,rfl,hx,hw,q⟩:=h;cases rx;obtain⟨its,r,ht,hz⟩:=I.tuple hx;have hlen:its.toArray.size=xs.length:=by rw[size_toArray];exact r.length.symm
 refine⟨"tuple",_,PyProof.Rows.slot_tuple_getitem.lookup,ht.typeIs,?_⟩;refine HT.Am ht hs pl pu (by rw[hlen];exact hw) ?_ (by rw[hlen];exact hz);rw[hlen];refine⟨.ref s.heap.objs.size,_,I.laid (t':=s.toks) (o:=.tup (GN xs lo hi)) (fun b ob q=>Heap.get?_push_of_some _ q) (Nat.le_refl _) ?_,rfl,q _ (I.hok.fresh (Nat.le_refl _))⟩;exact⟨Nat.le_trans (E8 xs lo hi) hz,_,(r.drop (HT.kr xs.length 0 lo)).take (HT.kr xs.length xs.length hi-HT.kr xs.length 0 lo),IsTup.new _ _⟩
end
end L2
namespace L2
open PySem PySem.Spec PyProof.Rows
def ixN (n:Nat)(i:Int):Option Nat:=if 0<=i then(if i<n then some i.toNat else none) else if -(n:Int)<=i then some (i+n).toNat else none
def atI {α:Type}(xs:List α)(i:Int):Option α:=(ixN xs.length i).bind fun j=>xs[j]?
theorem UR {n:Nat}{i:Int}{j:Nat}(h:ixN n i=some j):seqIndex? i n=some j/\j<n/\-(n:Int)<=i/\i<n:=by
 unfold ixN at h
 by_cases h0:0<=i
 ·rw[if_pos h0]at h
  by_cases h1:i<n
  ·rw[if_pos h1]at h;have e:i.toNat=j:=Option.some.inj h;exact⟨by rw[seqIndex_of h0 h1,e],by omega,by omega,h1⟩
  ·rw[if_neg h1]at h;cases h
 ·rw[if_neg h0]at h
  by_cases h1:-(n:Int)<=i
  ·rw[if_pos h1]at h;have e:(i+n).toNat=j:=Option.some.inj h;exact⟨by rw[seqIndex_neg (by omega) h1,e],by omega,h1,by omega⟩
  ·rw[if_neg h1]at h;cases h
theorem Mv {α:Type}{xs:List α}{i:Int}{v:α}(h:atI xs i=some v):∃ j,seqIndex? i xs.length=some j/\xs[j]? = some v/\j<xs.length/\-(xs.length:Int)<=i/\i<xs.length:=by
 unfold atI at h;cases e:ixN xs.length i with
 |none=>rw[e]at h;cases h
 |some j =>
  rw[e]at h;obtain⟨h1,h2,h3,h4⟩:=UR e;exact⟨j,h1,h,h2,h3,h4⟩
theorem An {α:Type}{xs:List α}{j:Nat}{v:α}(h:xs[j]? = some v):atI xs (j:Int)=some v:=by
 have hj:j<xs.length:=(List.getElem?_eq_some_iff.mp h).1;have e:ixN xs.length (j:Int)=some j:=by
  unfold ixN;rw[if_pos (by omega),if_pos (by omega)];simp
 unfold atI;rw[e];exact h
def aaB (b:Expr):Prop:=∀ o i,subscripted b false o i=operate [o,i] (getItem o i)
def IxR (X:Cx)(r:R2):Prop :=
 ∀(value slice:Expr)(pins:List (Addr×Obj)) (s:Shared) (σ:St) (H:Hp) (x y:V) (v u:Value) (Q:VK),Inv X pins σ H s->RelV x v->RelV y u->r x y H Q ->
  subscripted slice false v u=operate [v,u] (getItem v u)->wpAny (model X.prog X.w) X.A (subscriptTail value slice v u) (EP X pins σ Q) X.xe s
def MtR (X:Cx)(id:String)(r:V->List V->Hp->VK->Prop):Prop :=
 ∀(pins:List (Addr×Obj)) (s:Shared) (σ:St) (H:Hp) (x:V) (xs:List V) (v:Value) (us:List Value) (Q:VK),Inv X pins σ H s->RelV x v->Vals xs us->r x xs H Q ->
  wpAny (model X.prog X.w) X.A (call (.builtin id) (v::us)) (EP X pins σ Q) X.xe s
section
variable {X:Cx} {a b:Expr} {ta tb:TE} {pos:Pos}
theorem IxR.or {r r':R2}(h:IxR X r)(h':IxR X r'):IxR X (fun x y H Q=>r x y H Q\/r' x y H Q):=by
 intro value slice pins s σ H x y v u Q I rx ry q hs;rcases q with q|q
 ·exact h value slice pins s σ H x y v u Q I rx ry q hs
 ·exact h' value slice pins s σ H x y v u Q I rx ry q hs
theorem aW {r:R2}(hr:IxR X r)(ha:PE X a ta)(hb:PE X b tb)(hs:aaB b):PE X (.Subscript a b pos) (tOp r ta tb):=by
 intro pins s σ H Q I h;exact Subscript_ (acv ha hb I h fun v u s2 x y H2 I2 rx ry q=>hr a b pins s2 σ H2 x y v u Q I2 rx ry q (hs _ _))
inductive abN (K:Frag)(x:V)(y:V)(H:Hp)(Q:VK):Prop
 |mk (p:_) (xs:_) (i:_) (v:_) (dC:x=.ref p) (dD:y=.int i) (eK:aR K H p xs) (jj:atI xs i=some v) (pb:Q v H):abN K x y H Q
def P2 (K:Frag):R2:=fun x y H Q=>abN K x y H Q
inductive abO (K:Frag)(x:V)(y:V)(H:Hp)(Q:VK):Prop
 |mk (p:_) (xs:_) (i:_) (v:_) (dC:x=.ref p) (dD:y=.int i) (eK:nR K H p xs) (jj:atI xs i=some v) (pb:Q v H):abO K x y H Q
def P4 (K:Frag):R2:=fun x y H Q=>abO K x y H Q
inductive abP (x:V)(y:V)(H:Hp)(Q:VK):Prop
 |mk (z:_) (i:_) (c:_) (dC:x=.str z) (dD:y=.int i) (eK:z.length<=sizeLine) (jj:atI z.cps.toList i=some c) (pb:Q (.str ⟨#[c]⟩) H):abP x y H Q
def P5 :R2:=fun x y H Q=>abP x y H Q
theorem aaC:IxR X (P2 X.K):=by
 intro value slice pins s σ H x y v u Q I rx ry h hs;obtain⟨p,xs,i,z,rfl,rfl,hq,he,q⟩:=h;cases rx;obtain⟨t,rfl⟩:=ry;obtain⟨its,r,pl,hz⟩:=I.list hq;obtain⟨j,h1,h2,h3,h4,h5⟩:=Mv he;obtain⟨w,ew,rw'⟩:=r.get h2;have hl:=r.length;have hn:=Cw;have fin:EP X pins σ Q w s:=⟨z,H,I,rw',q⟩
 by_cases h0:0<=i
 ·have hj:i.toNat=j:=by
   rw[seqIndex_of h0 h5]at h1;exact Option.some.inj h1
  exact item_listR pl.isList h0 (by omega) (by rw[hj];simpa using ew) fin hs
 ·have hj:(i+(its.toArray.size:Int)).toNat=j:=by
   rw[seqIndex_neg (by omega) h4]at h1;rw[size_toArray,<-hl];exact Option.some.inj h1
  exact subscriptTail_builtinR (x:=w) pl.isList.typeIs slot_list_getitem.lookup
   (wpAny_getItem_list_neg (Q:=fun r s'=>r=w/\EP X pins σ Q r s') pl.isList (by omega) (by rw[size_toArray] <;> omega) (by omega) (by rw[hj];simpa using ew) ⟨rfl,fin⟩) hs
theorem acA:IxR X (P4 X.K):=by
 intro value slice pins s σ H x y v u Q I rx ry h hs;obtain⟨p,xs,i,z,rfl,rfl,hq,he,q⟩:=h;cases rx;obtain⟨t,rfl⟩:=ry;obtain⟨its,r,pl,hz⟩:=I.tuple hq;obtain⟨j,h1,h2,h3,h4,h5⟩:=Mv he;obtain⟨w,ew,rw'⟩:=r.get h2;have hl:=r.length;have hn:=Cw;have fin:EP X pins σ Q w s:=⟨z,H,I,rw',q⟩;exact subscriptTail_builtinR (x:=w) pl.typeIs slot_tuple_getitem.lookup
  (getItem_tuple (j:=j) (Q:=fun r s'=>r=w/\EP X pins σ Q r s') pl (by omega) (by omega) (by rw[size_toArray,<-hl];exact h1) (by simpa using ew) ⟨rfl,fin⟩) hs
theorem acB:IxR X P5:=by
 intro value slice pins s σ H x y v u Q I rx ry h hs;obtain⟨z,i,c,rfl,rfl,hz,he,q⟩:=h;obtain⟨t,rfl⟩:=rx;obtain⟨t',rfl⟩:=ry;obtain⟨j,h1,h2,h3,h4,h5⟩:=Mv he;have hl:z.cps.toList.length=z.length:=by simp[Str.length]
 rw[hl]at h1 h4 h5;have hn:=Cw;exact tail_any (typeIs_str s z t) slot_str_getitem.lookup (getItem_str (c:=c) (by
  have e1:decide (i < -(2 ^ 63:Int))=false:=decide_eq_false (by omega);have e2:decide (i ≥ 2 ^ 63)=false:=decide_eq_false (by omega);rw[e1,e2,Bool.or_false]) (by rw[h1];simpa using h2) ⟨.str ⟨#[c]⟩,H,I.tok _,⟨_,rfl⟩,q⟩) hs
def rIx (K:Frag):R2:=fun x y H Q=>P2 K x y H Q\/P4 K x y H Q\/P5 x y H Q
theorem aN:IxR X (rIx X.K):=aaC.or (acA.or acB)
theorem RV (its:List Value)(n j:Nat)(u:Value):Obj.mapSeq (·.setIfInBounds j u) { cls:=.type "list",data:=.seq its.toArray n } = { cls:=.type "list",data:=.seq (its.set j u).toArray n }:=by
 simp[Obj.mapSeq]
theorem Inv.lst {pins:List (Addr×Obj)}{σ:St}{H:Hp}{s:Shared}{p:Addr}{xs:List V}(I:Inv X pins σ H s)(h:H p=some (.lst xs)) :
  ∃(its:List Value)(n:Nat),Vals xs its/\s.heap.get? p=some { cls:=.type "list",data:=.seq its.toArray n }/\xs.length<=sizeLine:=by
 obtain⟨z,its,n,r,e⟩:=I.hok p _ h;exact⟨its,n,r,e,z⟩
theorem Inv.acC {pins:List (Addr×Obj)}{σ:St}{H:Hp}{s:Shared}{p:Addr}{xs ys:List V}{its its':List Value}{n n':Nat}{f:Obj->Obj}(I:Inv X pins σ H s)(h:H p=some (.lst xs))
  (ho:s.heap.get? p=some { cls:=.type "list",data:=.seq its.toArray n }) (hf:f { cls:=.type "list",data:=.seq its.toArray n } = { cls:=.type "list",data:=.seq its'.toArray n' }) (r:Vals ys its') (hz:ys.length<=sizeLine) (t:Nat) :
  Inv X pins σ (upd H p (.lst ys)) { s with heap:=s.heap.update p f,toks:=t }:=by
 have e:(s.heap.update p f).get? p=some { cls:=.type "list",data:=.seq its'.toArray n' }:=by
  rw[Heap.get?_update_self f ho (by rw[hf] <;> rfl),hf]
 refine I.write (x:=p) (e:=p) (by rw[h];trivial) (.inl rfl) (fun b u hb q=>(Heap.get?_update_other _ _ (Ne.symm hb)).trans q) ⟨_,e⟩ ?_;exact⟨hz,its',n',r,e⟩
inductive Yt (o:V)(i:V)(v:V)(H:Hp)(Q:(Hp->Prop)):Prop
 |mk (p:_) (xs:_) (k:_) (j:_) (dC:o=.ref p) (dD:i=.int k) (eK:H p=some (.lst xs)) (jj:ixN xs.length k=some j) (pb:Q (upd H p (.lst (xs.set j v)))):Yt o i v H Q
def aeh :V->V->V->Hp->(Hp->Prop)->Prop:=fun o i v H Q=>Yt o i v H Q
theorem set_list:ad3 X aeh:=by
 intro pins s σ H o i v ov iv u Q I ro ri rv h;obtain⟨p,xs,k,j,rfl,rfl,hp,hj,q⟩:=h;cases ro;obtain⟨t,rfl⟩:=ri;obtain⟨its,n,r,ho,hz⟩:=I.lst hp;obtain⟨h1,h2,h3,h4⟩:=UR hj;have hl:=r.length;have hn:=Cw;have I':Inv X pins σ (upd H p (.lst (xs.set j v))) { s with heap:=s.heap.update p (Obj.mapSeq (·.setIfInBounds j u)) } :=
  I.acC hp ho (RV its n j u) (r.set rv j) (by rw[List.length_set];exact hz) s.toks
 by_cases h0:0<=k
 ·have hk:k.toNat=j:=by
   rw[seqIndex_of h0 h4]at h1;exact Option.some.inj h1
  exact PySem.W.ki_setAt ho h0 (by omega) (by rw[size_toArray,<-hl];exact h4) (by rw[hk];exact⟨_,I',q⟩)
 ·have hk:(k+(its.toArray.size:Int)).toNat=j:=by
   rw[seqIndex_neg (by omega) h3]at h1;rw[size_toArray,<-hl];exact Option.some.inj h1
  exact PySem.W.ki_setBack ho (by omega) (by rw[size_toArray,<-hl];exact h3) (by omega) (by rw[hk];exact⟨_,I',q⟩)
theorem Mw (lo hi:Option Int)(n:Nat):(sliceBounds lo hi none n).1=((HT.kr n 0 lo:Nat):Int)/\(sliceBounds lo hi none n).2.1=((HT.kr n n hi:Nat):Int)/\(sliceBounds lo hi none n).2.2=1:=by
 refine⟨?_,?_,rfl⟩
 ·cases lo with
  |none=>simp[sliceBounds,HT.kr]
  |some i =>
   simp only [sliceBounds,HT.kr,Option.getD_none,show(1:Int) > 0 by decide,if_true]
   by_cases h:i<0
   ·simp only [h,if_true] <;> omega
   ·simp only [h,if_false] <;> omega
 ·cases hi with
  |none=>simp[sliceBounds,HT.kr]
  |some i =>
   simp only [sliceBounds,HT.kr,Option.getD_none,show(1:Int) > 0 by decide,if_true]
   by_cases h:i<0
   ·simp only [h,if_true] <;> omega
   ·simp only [h,if_false] <;> omega
theorem Kb (its:List Value)(lo hi:Option Int):slicePick its.toArray lo hi none=((its.drop (HT.kr its.length 0 lo)).take (HT.kr its.length its.length hi-HT.kr its.length 0 lo)).toArray:=by
 obtain⟨h1,h2,h3⟩:=Mw lo hi its.toArray.size;unfold slicePick;rw[h1,h2,h3];simp only [sliceRange_one,pick_run,size_toArray] <;> rfl
inductive abQ (K:Frag)(x:V)(lo:Option Int)(hi:Option Int)(H:Hp)(Q:VK):Prop
 |mk (a:_) (xs:_) (dC:x=.ref a) (dD:aR K H a xs) (eK:∀ p,H p=none->Q (.ref p) (upd H p (.lst (GN xs lo hi)))):abQ K x lo hi H Q
def agk (K:Frag):V->Option Int->Option Int->Hp->VK->Prop:=fun x lo hi H Q=>abQ K x lo hi H Q
theorem US:SlR X (agk X.K):=by
 intro pins s σ H x v vl vu lo hi sl Q I rx hs pl pu h;obtain⟨a,xs,rfl,hx,q⟩:=h;cases rx;obtain⟨its,r,ht,hz⟩:=I.list hx;have hlen:=r.length;refine⟨"list",_,slot_list_getitem.lookup,ht.isList.typeIs,?_⟩;refine wpAny_getItem_list_slice ht.isList hs pl pu .none (by simp) ?_ (by rw[size_toArray] <;> omega);rw[Kb,<-hlen];refine⟨.ref s.heap.objs.size,_,I.laid (t':=s.toks) (o:=.lst (GN xs lo hi)) (fun b ob q=>Heap.get?_push_of_some _ q) (Nat.le_refl _) ?_,rfl,q _ (I.hok.fresh (Nat.le_refl _))⟩;exact⟨Nat.le_trans (E8 xs lo hi) hz,_,0,(r.drop (HT.kr xs.length 0 lo)).take (HT.kr xs.length xs.length hi-HT.kr xs.length 0 lo),Heap.get?_push_size _ rfl⟩
def uh:V->Bool
 |.non=>true
 |.bl _=>true
 |.int _=>true
 |.str _=>true
 |_=>false
def UT:V->V->Bool
 |.non,.non=>true
 |.bl a,.bl b=>a==b
 |.bl a,.int b=>(if a then 1 else 0)==b
 |.int a,.bl b=>a==(if b then 1 else 0)
 |.int a,.int b=>a==b
 |.str a,.str b=>a==b
 |_,_=>false
theorem Yu {A:Around}{s:Shared}{y x:V}{u v:Value}(ry:RelV y u)(rx:RelV x v)(fy:uh y=true)(fx:uh x=true):SeqAt.EqAt A s u v (UT y x):=by
 cases y with
 |non =>
  cases ry;cases x with
  |non=>cases rx;exact SeqAt.EqAt.same _
  |bl b=>cases rx;exact SeqAt.EqAt.none_bool b
  |int b=>obtain⟨t,rfl⟩:=rx;exact SeqAt.EqAt.none_int b t
  |str b=>obtain⟨t,rfl⟩:=rx;exact SeqAt.EqAt.none_str b t
  |_=>exact absurd (show false=true from fx) Bool.false_ne_true
 |bl a =>
  cases ry;cases x with
  |non=>cases rx;exact SeqAt.EqAt.bool_none a
  |bl b=>cases rx;exact SeqAt.EqAt.bool_bool a b
  |int b=>obtain⟨t,rfl⟩:=rx;exact SeqAt.EqAt.bool_int a b t
  |str b=>obtain⟨t,rfl⟩:=rx;exact SeqAt.EqAt.bool_str a b t
  |_=>exact absurd (show false=true from fx) Bool.false_ne_true
 |int a =>
  obtain⟨t',rfl⟩:=ry;cases x with
  |non=>cases rx;exact SeqAt.EqAt.int_none a t'
  |bl b=>cases rx;exact SeqAt.EqAt.int_bool a t' b
  |int b=>obtain⟨t,rfl⟩:=rx;exact SeqAt.EqAt.int_int a t' b t
  |str b=>obtain⟨t,rfl⟩:=rx;exact SeqAt.EqAt.int_str a t' b t
  |_=>exact absurd (show false=true from fx) Bool.false_ne_true
 |str a =>
  obtain⟨t',rfl⟩:=ry;cases x with
  |non=>cases rx;exact SeqAt.EqAt.str_none a t'
  |bl b=>cases rx;exact SeqAt.EqAt.str_bool a t' b
  |int b=>obtain⟨t,rfl⟩:=rx;exact SeqAt.EqAt.str_int a t' b t
  |str b=>obtain⟨t,rfl⟩:=rx;exact SeqAt.EqAt.str_str a t' b t
  |_=>exact absurd (show false=true from fx) Bool.false_ne_true
 |_=>exact absurd (show false=true from fy) Bool.false_ne_true
def RW (x:V)(u:Value):Bool:=match u with
 |.none=>UT .non x
 |.bool b=>UT (.bl b) x
 |.int i _=>UT (.int i) x
 |.str z _=>UT (.str z) x
 |_=>false
theorem Yv {x y:V}{u:Value}(r:RelV y u)(f:uh y=true):RW x u=UT y x:=by
 cases y with
 |non=>cases r;rfl
 |bl b=>cases r;rfl
 |int i=>obtain⟨t,rfl⟩:=r;rfl
 |str z=>obtain⟨t,rfl⟩:=r;rfl
 |_=>exact absurd (show false=true from f) Bool.false_ne_true
theorem Ao {x:V}:∀{xs:List V} {us:List Value},Vals xs us->xs.all uh=true->us.any (RW x)=xs.any fun y=>UT y x
 |_,_,.nil,_=>rfl
 |y::xs,u::us,.cons r t,f=>by
  rw[List.all_cons,Bool.and_eq_true]at f;rw[List.any_cons,List.any_cons,Yv r f.1,Ao t f.2]
theorem uM {A:Around}{s:Shared}{x:V}{v:Value}(rx:RelV x v)(fx:uh x=true):∀{xs:List V} {us:List Value},Vals xs us->xs.all uh=true->∀ u∈us,SeqAt.EqAt A s u v (RW x u)
 |_,_,.nil,_=>fun u hu=>by cases hu
 |y::xs,u::us,.cons r t,f=>fun u' hu=>by
  rw[List.all_cons,Bool.and_eq_true]at f;rcases List.mem_cons.mp hu with rfl|hu
  ·rw[Yv r f.1];exact Yu r rx f.1 fx
  ·exact uM rx fx t f.2 u' hu
def inV (x:V)(xs:List V):Bool:=xs.any fun y=>UT y x
inductive aei (K:Frag)(neg:Bool)(x:V)(y:V)(H:Hp)(Q:VK):Prop
 |mk (p:_) (xs:_) (dC:y=.ref p) (dD:(aR K H p xs\/nR K H p xs)) (eK:uh x=true) (jj:xs.all uh=true) (pb:Q (.bl (if neg then !inV x xs else inV x xs)) H):aei K neg x y H Q
def rIn (K:Frag)(neg:Bool):R2:=fun x y H Q=>aei K neg x y H Q
theorem cF:rT X (compareOp .In) (rIn X.K false):=by
 intro pins s σ H x y v u Q I rx ry h;obtain⟨p,xs,rfl,hq,fx,fs,q⟩:=h;cases ry;rcases hq with hq|hq
 ·obtain⟨its,r,pl,hz⟩:=I.list hq;refine SeqAt.in_listAt (RW x) pl.isList (fun w hw=>uM rx fx r fs w (by simpa using hw)) ⟨.bl _,H,I,rfl,?_⟩;rw[show its.toArray.any (RW x)=its.any (RW x) by simp,Ao r fs];exact q
 ·obtain⟨its,r,pl,hz⟩:=I.tuple hq;refine SeqAt.in_tupleAt (RW x) pl (fun w hw=>uM rx fx r fs w (by simpa using hw)) ⟨.bl _,H,I,rfl,?_⟩;rw[show its.toArray.any (RW x)=its.any (RW x) by simp,Ao r fs];exact q
theorem Ap:rT X (compareOp .NotIn) (rIn X.K true):=by
 intro pins s σ H x y v u Q I rx ry h;obtain⟨p,xs,rfl,hq,fx,fs,q⟩:=h;cases ry;rcases hq with hq|hq
 ·obtain⟨its,r,pl,hz⟩:=I.list hq;refine SeqAt.notIn_listAt (RW x) pl.isList (fun w hw=>uM rx fx r fs w (by simpa using hw)) ⟨.bl _,H,I,rfl,?_⟩;rw[show its.toArray.any (RW x)=its.any (RW x) by simp,Ao r fs];exact q
 ·obtain⟨its,r,pl,hz⟩:=I.tuple hq;refine SeqAt.notIn_tupleAt (RW x) pl (fun w hw=>uM rx fx r fs w (by simpa using hw)) ⟨.bl _,H,I,rfl,?_⟩;rw[show its.toArray.any (RW x)=its.any (RW x) by simp,Ao r fs];exact q
theorem Aq:rT X (compareOp .NotIn) (fun x y H Q=>∃ i j,x=.str i/\y=.str j/\Q (.bl (!(!(Builtin.Str.occurrences j i 0 j.length 1).isEmpty))) H):=by
 intro pins s σ H x y v u Q I rx ry h;obtain⟨i,j,rfl,rfl,q⟩:=h;obtain⟨t,rfl⟩:=rx;obtain⟨t',rfl⟩:=ry;exact notIn_str ⟨.bl _,H,I,rfl,q⟩
theorem aD:jo X (.builtin "len") (fun xs H Q=>∃ p ys,xs=[.ref p]/\(aR X.K H p ys\/nR X.K H p ys)/\Q (.int ys.length) H):=by
 intro pins s σ H xs us Q I r h;obtain⟨p,ys,rfl,hq,q⟩:=h;obtain⟨u,rfl,rx⟩:=vals1 r;cases rx;have hn:=Cw;rcases hq with hq|hq
 ·obtain⟨its,r',pl,hz⟩:=I.list hq;have hlen:=r'.length;exact Calls.call_len_list pl.isList (by simp only [size_toArray] <;> omega) ⟨.int ys.length,H,I.tok _,⟨s.toks+1,by rw[size_toArray,hlen]⟩,q⟩
 ·obtain⟨its,r',pl,hz⟩:=I.tuple hq;have hlen:=r'.length;exact len_tuple pl (by simp only [size_toArray] <;> omega) ⟨.int ys.length,H,I.tok _,⟨s.toks+1,by rw[size_toArray,hlen]⟩,q⟩
theorem aE:jo X (.builtin "len") (fun xs H Q=>∃ z,xs=[.str z]/\z.length<=sizeLine/\Q (.int z.length) H):=by
 intro pins s σ H xs us Q I r h;obtain⟨z,rfl,hz,q⟩:=h;obtain⟨u,rfl,t,rfl⟩:=vals1 r;have hn:=Cw;exact len_str (by omega) ⟨.int z.length,H,I.tok _,⟨_,rfl⟩,q⟩
theorem jo.or {f:Value}{r r':List V->Hp->VK->Prop}(h:jo X f r)(h':jo X f r'):jo X f (fun xs H Q=>r xs H Q\/r' xs H Q):=by
 intro pins s σ H xs us Q I rs q;rcases q with q|q
 ·exact h pins s σ H xs us Q I rs q
 ·exact h' pins s σ H xs us Q I rs q
theorem Ar:jo X (.type "list") (fun xs H Q=>∃ p ys,xs=[.ref p]/\(aR X.K H p ys\/nR X.K H p ys)/\∀ l,H l=none->Q (.ref l) (upd H l (.lst ys))):=by
 intro pins s σ H xs us Q I r h;obtain⟨p,ys,rfl,hq,q⟩:=h;obtain⟨u,rfl,rx⟩:=vals1 r;cases rx;have fin:∀(its:List Value),Vals ys its->ys.length<=sizeLine->∀(h':Heap)(c':Nat),(∀ b o',s.heap.get? b=some o'->h'.get? b=some o') ->
   h'.get? s.heap.objs.size=some { cls:=.type "list",dict:=none,data:=.seq its.toArray c',slots:=#[] }->EP X pins σ Q (.ref s.heap.objs.size) { s with heap:=h' }:=fun its r' hz h' c' kp e =>
  ⟨.ref s.heap.objs.size,_,I.laid (t':=s.toks) kp (Nat.le_refl _) (show fi X.prog X.w _ h' _ (.lst ys) from⟨hz,its,c',r',e⟩),rfl,q _ (I.hok.fresh (Nat.le_refl _))⟩
 rcases hq with hq|hq
 ·obtain⟨its,r',pl,hz⟩:=I.list hq;have hlen:=r'.length;obtain⟨o,ho,hc,n,hd⟩:=pl.isList;exact call_list_seq p (.inl rfl) ho hc hd (fun h' c' kp e=>fin its r' hz h' c' kp e) (by simp only [size_toArray] <;> omega)
 ·obtain⟨its,r',pl,hz⟩:=I.tuple hq;have hlen:=r'.length;obtain⟨o,ho,hc,n,hd⟩:=pl;exact call_list_seq p (.inr rfl) ho hc hd (fun h' c' kp e=>fin its r' hz h' c' kp e) (by simp only [size_toArray] <;> omega)
def tyV (K:Frag)(T:String)(x:V)(H:Hp):Prop:=match x with
 |.str _=>T = "str"
 |.int _=>T = "int"
 |.ref p=>(T = "list"/\∃ xs,aR K H p xs)\/(T = "tuple"/\∃ o,K.lookup p=some o/\o.cls=.type "tuple"/\o.dict=none) \/
   (T = "dict"/\((∃ kvs,H p=some (.dK kvs))\/∃ kvs,H p=some (.dT kvs)))\/(T = "set"/\∃ S n,H p=some (.set S n))
 |_=>False
theorem Yw {pins:List (Addr×Obj)}{σ:St}{H:Hp}{s:Shared}{T:String}{x:V}{v:Value}(I:Inv X pins σ H s)(r:RelV x v)(ty:tyV X.K T x H) :
  s.TypeIs v T/\∀ a,v=.ref a->∃ ob,s.heap.get? a=some ob/\ob.dict=none:=by
 cases x with
 |str z =>
  obtain⟨t,rfl⟩:=r;cases (show T = "str" from ty);exact⟨typeIs_str s z t,fun _ e=>nomatch e⟩
 |int i =>
  obtain⟨t,rfl⟩:=r;cases (show T = "int" from ty);exact⟨typeIs_int s i t,fun _ e=>nomatch e⟩
 |ref p =>
  cases r;rcases ty with ⟨rfl,xs,hq⟩|⟨rfl,o,hk,hc,hd⟩|⟨rfl,hk⟩|⟨rfl,S,n,hk⟩
  ·obtain⟨its,_,pl,_⟩:=I.list hq;refine⟨pl.isList.typeIs,fun a e=>?_⟩;cases e;obtain⟨o,n,e,c,hd,_⟩:=pl;exact⟨o,e,hd⟩
  ·refine⟨⟨o,I.Ah p o hk,hc⟩,fun a e=>?_⟩;cases e;exact⟨o,I.Ah _ o hk,hd⟩
  ·have z:∃ o,s.heap.get? p=some o/\o.ExactDict:=by
    rcases hk with ⟨kvs,hk⟩|⟨kvs,hk⟩
    ·obtain⟨_,_,_,_,o,_,_,e,ex,_⟩:=I.hok p _ hk;exact⟨o,e,ex⟩
    ·obtain⟨_,_,_,_,o,_,_,e,ex,_⟩:=I.hok p _ hk;exact⟨o,e,ex⟩
   obtain⟨o,e,ex⟩:=z;refine⟨⟨o,e,ex.1⟩,fun a e2=>?_⟩;cases e2;exact⟨o,e,ex.2.1⟩
  ·obtain⟨o,_,_,_,e,ex,_⟩:=I.hok p _ hk;refine⟨⟨o,e,ex.1⟩,fun a e2=>?_⟩;cases e2;exact⟨o,e,ex.2.1⟩
 |_=>exact False.elim ty
def agm (K:Frag)(T:String)(r:V->List V->Hp->VK->Prop)(to:TE):TE:=fun σ H Q=>to σ H fun x H1=>tyV K T x H1/\r x [] H1 Q
def tBM (K:Frag)(T:String)(r:V->List V->Hp->VK->Prop)(to:TE)(t:TA):TE:=fun σ H Q=>to σ H fun x H1=>tyV K T x H1/\t σ H1 fun xs H2=>r x xs H2 Q
variable {o e:Expr} {es:List Expr} {to:TE} {t:TA} {name:Str} {apos cpos:Pos} {T id:String} {r:V->List V->Hp->VK->Prop}
theorem Mx (pa:PlainAttrs T)(slot:Slot T name id)(hty:typeOf (.builtin id)=pure (.type "method_descriptor"))(hm:MtR X id r)(ho:PE X o to)
  (hbase:attributeBase o name X.env (eval o X.env)=eval o X.env:=by rfl) (hline:(apos.endLine==cpos.line)=true:=by rfl):PE X (.Call (.Attribute o name apos) [] [] cpos) (agm X.K T r to):=by
 intro pins s σ H Q I h;refine wpAny_Call_method0_late hbase hline (cT (ho pins s σ H _ I h) fun v s1 ⟨x,H1,I1,r1,ty,q1⟩=>?_);obtain⟨h1,h2⟩:=Yw I1 r1 ty;exact⟨T,id,pa,slot,hty,h1,h2,Calls.callWith_builtin rfl (PySem.evalArgs_none (hm pins s1 σ H1 x [] v [] Q I1 r1 .nil q1))⟩
theorem dQ (pa:PlainAttrs T)(slot:Slot T name id)(hty:typeOf (.builtin id)=pure (.type "method_descriptor"))(hm:MtR X id r)(ho:PE X o to)(ha:PA X (e::es) t)
  (hbase:attributeBase o name X.env (eval o X.env)=eval o X.env:=by rfl)
  (hfew:((backTo cpos (starEach (e::es) X.env)).all (fun x=>!x.1)&&(backToKw cpos (keywordEach [] X.env)).all (fun x=>x.1.isSome)
   && decide ((e::es).length+([]:List Keyword).length+(if([]:List Keyword).isEmpty then 0 else 1)<30))=true:=by rfl)
  (hline:(apos.endLine==cpos.line)=true:=by rfl) (hs:starEach (e::es) X.env=(false,eval e X.env)::starEach es X.env:=by rfl) (hplain:(backTo cpos (starEach es X.env)).any (·.1)=false:=by rfl) :
  PE X (.Call (.Attribute o name apos) (e::es) [] cpos) (tBM X.K T r to t):=by
 intro pins s σ H Q I h;refine wpAny_Call_method_late hbase hfew hline rfl (cT (ho pins s σ H _ I h) fun v s1 ⟨x,H1,I1,r1,ty,q1⟩=>?_);obtain⟨h1,h2⟩:=Yw I1 r1 ty;refine⟨T,id,pa,slot,hty,h1,h2,?_⟩;have hA:=ha cpos pins s1 σ H1 _ I1 q1;rw[hs]at hA ⊢;refine Calls.callWith_builtin (by show(false||(backTo cpos (starEach es X.env)).any (·.1))=false;rw[hplain] <;> rfl) (Calls.evalArgs_plain ?_);exact cT hA fun us s2 ⟨vs,H2,I2,r2,q2⟩=>hm pins s2 σ H2 x vs v us Q I2 r1 r2 q2
end
end L2
namespace L2
open PySem PySem.Spec PyProof.Rows
def MtM (X:Cx)(id:String)(r:V->List V->Hp->VK->Prop):Prop :=
 ∀(pins:List (Addr×Obj)) (s:Shared) (σ:St) (H:Hp) (x:V) (xs:List V) (v:Value) (us:List Value) (Q:VK),Inv X pins σ H s->RelV x v->Vals xs us->r x xs H Q ->
  wpAny (model X.prog X.w) X.A (call (.builtin id) (v::us)) (EP X pins σ Q) X.xe s
theorem Vals.one:∀{x:V} {us:List Value},Vals [x] us->∃ u,us=[u]/\RelV x u
 |_,_,.cons r .nil=>⟨_,rfl,r⟩
theorem Vals.two:∀{x y:V} {us:List Value},Vals [x,y] us->∃ u v,us=[u,v]/\RelV x u/\RelV y v
 |_,_,_,.cons r (.cons q .nil)=>⟨_,_,rfl,r,q⟩
theorem Vals.zero:∀{us:List Value},Vals [] us->us=[]
 |_,.nil=>rfl
theorem Vals.dropLast {xs:List V}{us:List Value}(h:Vals xs us):Vals xs.dropLast us.dropLast:=by
 induction h with
 |nil=>exact .nil
 |cons r t ih =>
  cases t with
  |nil=>exact .nil
  |cons q t'=>exact .cons r ih
theorem Vals.reverse {xs:List V}{us:List Value}(h:Vals xs us):Vals xs.reverse us.reverse:=by
 induction h with
 |nil=>exact .nil
 |cons r t ih=>rw[List.reverse_cons,List.reverse_cons];exact Vals.append ih (.cons r .nil)
theorem Vals.rep {xs:List V}{us:List Value}(h:Vals xs us):∀ k:Nat,Vals (List.replicate k xs).flatten (List.replicate k us).flatten
 |0=>.nil
 |k+1=>by
  rw[List.replicate_succ,List.replicate_succ,List.flatten_cons,List.flatten_cons];exact Vals.append h (Vals.rep h k)
theorem RY {α:Type}(l:List α):l.eraseIdx (l.length-1)=l.dropLast:=by
 induction l with
 |nil=>rfl
 |cons a r ih =>
  cases r with
  |nil=>rfl
  |cons b r =>
   have e:(a::b::r).length-1=((b::r).length-1)+1:=by
    have h1:(a::b::r).length=r.length+2:=rfl;have h2:(b::r).length=r.length+1:=rfl;omega
   rw[e,List.eraseIdx_cons_succ,ih]
   all_goals rfl
theorem foldl_rep (its:List Value):∀(k:Nat)(acc:List Value),
  List.foldl (fun x1 x2=>x1++x2) acc.toArray (List.replicate k its.toArray)=(acc++(List.replicate k its).flatten).toArray
 |0,acc=>by simp
 |k+1,acc=>by
  have e:acc.toArray++its.toArray=(acc++its).toArray:=by simp
  have e2:(acc++its)++(List.replicate k its).flatten=acc++(List.replicate (k+1) its).flatten:=by
   rw[List.replicate_succ,List.flatten_cons,List.append_assoc]
  rw[<-e2,<-foldl_rep its k (acc++its),<-e,List.replicate_succ,List.foldl_cons]
section
variable {X:Cx} {pins:List (Addr×Obj)} {σ:St} {H:Hp} {s:Shared} {l b:Addr} {xs ys zs:List V}
theorem Inv.Yx {its its':List Value}{n:Nat}{f:Array Value->Array Value}{t':Nat}(I:Inv X pins σ H s)(hH:H l=some (.lst xs))
  (e:s.heap.get? l=some { cls:=.type "list",data:=.seq its.toArray n }) (hf:f its.toArray=its'.toArray) (hv:Vals ys its') (hz:ys.length<=sizeLine) :
  Inv X pins σ (upd H l (.lst ys)) { s with heap:=s.heap.update l (Obj.mapSeq f),toks:=t' }:=by
 have q:=PySem.IsL.update e f;rw[hf]at q;refine I.write (x:=l) (e:=l) (by rw[hH];exact trivial) (.inl rfl) (fun b' u hb hu=>(Heap.get?_update_other s.heap (Obj.mapSeq f) (Ne.symm hb)).trans hu) ⟨_,q⟩ ?_;exact⟨hz,its',_,hv,q⟩
theorem Inv.aej {its:List Value}{t':Nat}(I:Inv X pins σ H s)(hv:Vals ys its)(hz:ys.length<=sizeLine) :
  Inv X pins σ (upd H s.heap.objs.size (.lst ys)) { s with heap:=s.heap.push { cls:=.type "list",data:=.seq its.toArray },toks:=t' } :=
 I.laid (fun _ _ q=>Heap.get?_push_of_some _ q) (Nat.le_refl _) ⟨hz,its,0,hv,Heap.get?_push_size _ rfl⟩
theorem Inv.fresh (I:Inv X pins σ H s):H s.heap.objs.size=none:=I.hok.fresh (Nat.le_refl _)
theorem Inv.Kc (I:Inv X pins σ H s)(hH:H l=some (.lst xs)):xs.length<=sizeLine/\∃(its:List Value)(n:Nat),Vals xs its/\xs.length=its.length/\s.heap.get? l=some { cls:=.type "list",data:=.seq its.toArray n }:=by
 obtain⟨z,its,n,r,e⟩:=I.hok l _ hH;exact⟨z,its,n,r,r.length,e⟩
theorem GO {n:Nat}(h:n<=sizeLine):Builtin.List.listTooLong n=false:=by
 unfold Builtin.List.listTooLong;exact decide_eq_false (by omega)
end
section
variable {X:Cx}
inductive P6 (x:V)(vs:List V)(H:Hp)(Q:VK):Prop
 |mk (l:_) (xs:_) (y:_) (dC:x=.ref l) (dD:vs=[y]) (eK:H l=some (.lst xs)) (jj:xs.length<sizeLine) (pb:Q .non (upd H l (.lst (xs++[y])))):P6 x vs H Q
def aaE :V->List V->Hp->VK->Prop:=fun x vs H Q=>P6 x vs H Q
theorem aZ:MtM X "list.append" aaE:=by
 intro pins s σ H x vs v us Q I rx rv h;obtain⟨l,xs,y,rfl,rfl,hH,hz,q⟩:=h;cases rx;obtain⟨u,rfl,ru⟩:=rv.one;obtain⟨z,its,n,r,hl,e⟩:=I.Kc hH;refine call_meets F.slot_list_append ⟨_,e,rfl⟩ F.entry_list_append (F.args_list_append_2 _ _) (PySem.list_append l its.toArray n u (by rw[size_toArray];omega)) ⟨e,?_⟩;refine⟨.non,_,I.Yx (its':=its++[u]) hH e (by simp) (r.append (.cons ru .nil)) ?_,rfl,q⟩;rw[length_append,List.length_singleton];omega
inductive abR (x:V)(vs:List V)(H:Hp)(Q:VK):Prop
 |mk (l:_) (xs:_) (y:_) (dC:x=.ref l) (dD:vs=[]) (eK:H l=some (.lst xs)) (jj:xs[xs.length-1]? = some y) (pb:Q y (upd H l (.lst xs.dropLast))):abR x vs H Q
def agn :V->List V->Hp->VK->Prop:=fun x vs H Q=>abR x vs H Q
theorem Yy:MtM X "list.pop" agn:=by
 intro pins s σ H x vs v us Q I rx rv h;obtain⟨l,xs,y,rfl,rfl,hH,hy,q⟩:=h;cases rx;have hus:=rv.zero;subst hus;obtain⟨z,its,n,r,hl,e⟩:=I.Kc hH;obtain⟨u,hu,ru⟩:=r.get hy;have hy':its.toArray[its.toArray.size-1]? = some u:=by
  show its.toArray[its.length-1]? = some u;rw[<-Array.getElem?_toList,<-hl];exact hu
 refine call_meets F.slot_list_pop ⟨_,e,rfl⟩ F.entry_list_pop (F.args_list_pop_1 _) (MeetsSeq.list_pop_last l its.toArray n u hy' (by rw[size_toArray];omega)) ⟨e,?_⟩;refine⟨y,_,I.Yx (its':=its.dropLast) hH e ?_ r.dropLast ?_,ru,q⟩
 ·show its.toArray.eraseIdxIfInBounds (its.toArray.size-1)=its.dropLast.toArray;rw[size_toArray,List.eraseIdxIfInBounds_toArray,RY]
 ·rw[List.length_dropLast];omega
inductive Lw (x:V)(vs:List V)(H:Hp)(Q:VK):Prop
 |mk (l:_) (xs:_) (dC:x=.ref l) (dD:vs=[]) (eK:H l=some (.lst xs)) (jj:Q .non (upd H l (.lst xs.reverse))):Lw x vs H Q
def Yz :V->List V->Hp->VK->Prop:=fun x vs H Q=>Lw x vs H Q
theorem RZ:MtM X "list.reverse" Yz:=by
 intro pins s σ H x vs v us Q I rx rv h;obtain⟨l,xs,rfl,rfl,hH,q⟩:=h;cases rx;have hus:=rv.zero;subst hus;obtain⟨z,its,n,r,hl,e⟩:=I.Kc hH;refine call_meets F.slot_list_reverse ⟨_,e,rfl⟩ F.entry_list_reverse (F.args_list_reverse_1 _) (AutoSeq1.list_reverse_list_0 l its.toArray n (by rw[size_toArray];omega)) ⟨e,?_⟩;refine⟨.non,_,I.Yx (its':=its.reverse) hH e (by simp) r.reverse ?_,rfl,q⟩;rw[List.length_reverse];omega
inductive UU (x:V)(vs:List V)(H:Hp)(Q:VK):Prop
 |mk (l:_) (xs:_) (dC:x=.ref l) (dD:vs=[]) (eK:H l=some (.lst xs)) (jj:Q .non (upd H l (.lst []))):UU x vs H Q
def acD :V->List V->Hp->VK->Prop:=fun x vs H Q=>UU x vs H Q
theorem YA:MtM X "list.clear" acD:=by
 intro pins s σ H x vs v us Q I rx rv h;obtain⟨l,xs,rfl,rfl,hH,q⟩:=h;cases rx;have hus:=rv.zero;subst hus;obtain⟨z,its,n,r,hl,e⟩:=I.Kc hH;refine call_meets F.slot_list_clear ⟨_,e,rfl⟩ F.entry_list_clear (F.args_list_clear_1 _) (AutoSeq1.list_clear_list_0 l its.toArray n (by rw[size_toArray];omega)) ⟨e,?_⟩;exact⟨.non,_,I.Yx (its':=[]) (ys:=[]) hH e rfl .nil (Nat.zero_le _),rfl,q⟩
inductive abS (x:V)(y:V)(H:Hp)(Q:VK):Prop
 |mk (l:_) (b:_) (xs:_) (zs:_) (dC:x=.ref l) (dD:y=.ref b) (eK:H l=some (.lst xs)) (jj:H b=some (.lst zs)) (pb:xs.length+zs.length<=sizeLine) (RH:∀ p,H p=none->Q (.ref p) (upd H p (.lst (xs++zs)))):abS x y H Q
def ago :R2:=fun x y H Q=>abS x y H Q
theorem bq:rT X (binaryOp .Add) ago:=by
 intro pins s σ H x y v u Q I rx ry h;obtain⟨l,b,xs,zs,rfl,rfl,hH,hB,hz,q⟩:=h;cases rx;cases ry;obtain⟨z,its,n,r,hl,e⟩:=I.Kc hH;obtain⟨z2,its2,n2,r2,hl2,e2⟩:=I.Kc hB;refine PySem.P.add_list e e2 ?_ (by rw[size_toArray,size_toArray];omega);have ea:its.toArray++its2.toArray=(its++its2).toArray:=by simp
 rw[ea];exact⟨.ref _,_,I.aej (t':=s.toks) (r.append r2) (by rw[length_append];omega),rfl,q _ I.fresh⟩
def agp:R2:=fun x y H Q=>∃ l k xs,x=.ref l/\y=.int k/\H l=some (.lst xs)/\-(2 ^ 63)<=k/\k<2 ^ 63/\xs.length * k.toNat<=sizeLine /\
 ∀ p,H p=none->Q (.ref p) (upd H p (.lst (List.replicate k.toNat xs).flatten))
theorem len_rep {α:Type}(xs:List α)(k:Nat):(List.replicate k xs).flatten.length=k * xs.length:=by
 induction k with
 |zero=>simp
 |succ k ih=>rw[List.replicate_succ,List.flatten_cons,length_append,ih,Nat.succ_mul,Nat.add_comm]
theorem ma:rT X (binaryOp .Mult) agp:=by
 intro pins s σ H x y v u Q I rx ry h;obtain⟨l,k,xs,rfl,rfl,hH,h1,h2,hz,q⟩:=h;cases rx;obtain⟨t,rfl⟩:=ry;obtain⟨z,its,n,r,hl,e⟩:=I.Kc hH;have hlen:its.toArray.size * k.toNat<=sizeLine:=by rw[size_toArray,<-hl];exact hz
 have agq:¬ its.toArray.size * k.toNat > (2 ^ 63-1) / 8:=by
  have:(sizeLine:Nat)<=(2 ^ 63-1) / 8:=by decide
  omega
 have hfit:¬(!Builtin.List.listFitsIndex k)=true:=by
  rw[fitsIndex_both h1 h2];exact Bool.false_ne_true
 have aek:¬ Builtin.List.listTooLong (its.toArray.size * k.toNat)=true:=by
  rw[GO hlen];exact Bool.false_ne_true
 have hnew:List.foldl (fun x1 x2=>x1++x2) #[] (List.replicate (if its.toArray.isEmpty=true then 0 else k.toNat) its.toArray)=(List.replicate k.toNat its).flatten.toArray:=by
  have f0:∀ m:Nat,List.foldl (fun x1 x2=>x1++x2) #[] (List.replicate m its.toArray)=(List.replicate m its).flatten.toArray:=fun m=>by
   have:=foldl_rep its m [];rw[nil_append]at this;exact this
  rw[f0];cases its with
  |nil=>simp
  |cons a r'=>rw[if_neg (by simp)]
 refine wpAny_binaryOp_repeat_ref (T:="list") (U:="int") (by decide) ⟨_,e,rfl⟩ (fun s'=>typeIs_int s' k t) noFill_list_mul F.fills_int_mul F.slot_int_rmul repeat_list F.slot_int_index.lookup
  (call_meets F.slot_int_rmul (typeIs_int s k t) F.entry_int_rmul (F.args_int_rmul_2 _ _) (int___rmul___int_list k t l its.toArray n)
   ⟨e,rfl,⟨_,e,rfl⟩,call_meets F.slot_list_mul ⟨_,e,rfl⟩ F.entry_list_mul (F.args_list_mul_2 _ _) (AutoListH.list___mul___list_int_3 l its.toArray n k t hfit agq aek) ⟨e,?_⟩⟩)
 rw[hnew];exact⟨.ref _,_,I.aej (t':=s.toks) (r.rep k.toNat) (by rw[len_rep,Nat.mul_comm];exact hz),rfl,q _ I.fresh⟩
end
section
variable {prog:Program} {w:World} {A:Around} {E:Value->Shared->Prop} {s:Shared}
theorem VQ (its its2:List Value)(a c:Nat):its.toArray.extract 0 a++its2.toArray++its.toArray.extract c its.toArray.size=(its.take a++its2++its.drop c).toArray:=by
 apply Array.toList_inj.mp
 first
  |(simp;exact List.take_of_length_le (by simp))
  |simp[List.take_of_length_le]
  |simp
theorem R0 {a c n:Nat}(hac:a<=c)(hc:c<=n):sliceBounds (some (a:Int)) (some (c:Int)) none n=((a:Int),(c:Int),1):=by
 simp only [sliceBounds,Option.getD_none];have h1:¬((a:Int)<0):=by omega
 have h2:¬((c:Int)<0):=by omega
 simp only [h1,h2,if_false,show(1:Int) > 0 by decide,if_true]
 congr 1
 ·omega
 ·congr 1;omega
set_option maxRecDepth 100000 in
theorem Ke {l b sl:Addr}{items new:Array Value}{n n2:Nat}{vl vu:Value}{a c:Nat}{Q:Unit->Shared->Prop}
  (e:s.heap.get? l=some { cls:=.type "list",data:=.seq items n }) (e2:s.heap.get? b=some { cls:=.type "list",data:=.seq new n2 }) (hne:l≠b)
  (hs:s.heap.IsSliceOf sl vl vu .none) (pl:IsPart vl (some (a:Int))) (pu:IsPart vu (some (c:Int))) (hac:a<=c) (hc:c<=items.size)
  (hsz:items.size+new.size<=sizeLine) (h:Q () { s with heap:=s.heap.update l (Obj.mapSeq fun xs=>xs.extract 0 a++new++xs.extract c xs.size) }) :
  wpAny (model prog w) A (setItem (.ref l) (.ref sl) (.ref b)) Q E s:=by
 have hl:s.heap.IsList l items:=PySem.IsL.isList e;have hb:s.heap.IsList b new:=PySem.IsL.isList e2;obtain⟨os,hos,hcs,hds⟩:=id hs;have hTs:s.TypeIs (.ref sl) "slice":=⟨os,hos,hcs⟩;have hstep:¬((rawPart none==rawInt 0)=true):=Bool.false_ne_true;have hsame:Builtin.List.listSameRef (.ref l) (.ref b)=false:=by
  unfold Builtin.List.listSameRef;exact beq_eq_false_iff_ne.mpr hne
 have agr:(max (a:Int) (c:Int)).toNat=c:=by omega
 have hz':((fun xs:Array Value=>xs.extract 0 a++new++xs.extract c xs.size) items).size<=sizeLine+1:=by
  simp only [Array.size_append,Array.size_extract];omega
 unfold setItem
 try with_reducible refine wpAny_holding ?_
 first|refine wpAny_bind (wpAny_pure ?_)|skip
 refine wpAny_bind (wpAny_sequenceKey hl.typeIs (by decide) ?_);refine wpAny_bind (wpAny_callSpecial?_slot (name:=Str.ofString "__setitem__") hl.typeIs slot_list_setitem
  (wpAny_call_entry slot_list_setitem hl.typeIs entry_list_setitem ?_ (args_list_setitem _ _ _)))
 show wpAny _ _ (Builtin.List.listSubscript? (.ref sl) >>= _) _ _ s;refine wpAny_bind ?_;unfold Builtin.List.listSubscript?;refine wpAny_bind (wpAny_specialOf hTs slice_no_index ?_);simp only [Option.isNone_none,if_true];refine wpAny_pure ?_;show wpAny _ _ (typeOf (.ref sl) >>= _) _ _ s;refine wpAny_bind (wpAny_typeOf hTs ?_)
 first
  |rw[if_neg (by decide)]
  |refine PySem.W.KFB.if_not (by decide) ?_
 rw[listSliceParts_eq];refine wpAny_bind (wpAny_bind (wpAny_field hos hds (x:=.none) rfl (wpAny_bind (wpAny_listPart .none ?_))));rw[if_neg hstep];refine wpAny_bind (wpAny_field hos hds (x:=vl) rfl (wpAny_bind (wpAny_listPart pl ?_)));refine wpAny_bind (wpAny_field hos hds (x:=vu) rfl (wpAny_bind (wpAny_listPart pu (wpAny_pure ?_))))
 first
  |simp only [hsame,Bool.false_eq_true,if_false]
  |refine PySem.W.KFB.if_not hsame ?_
  |(dsimp only;rw[if_neg (by rw[hsame];exact Bool.false_ne_true)])
 refine wpAny_bind (m:=Builtin.List.listAllItems (.ref b) "must assign iterable to extended slice") ?_;unfold Builtin.List.listAllItems;refine wpAny_bind (wpAny_typeOf hb.typeIs ?_)
 first
  |refine PySem.W.KFB.if_so (by decide) ?_
  |rw[if_pos (by decide)]
  |simp only [beq_self_eq_true,Bool.true_or,if_true]
 unfold Builtin.List.listItems;refine wpAny_bind (wpAny_seqItems e2 rfl (wpAny_pure ?_));refine wpAny_bind (wpAny_bind (wpAny_seqItems e rfl (wpAny_pure ?_)));refine wpAny_bind (wpAny_of_eq ((sliceIndices_raw (some (a:Int)) (some (c:Int)) none items.size (by simp)).trans (congrArg (pure:Int×Int×Int->Sem (Int×Int×Int)) (R0 hac hc))) ?_);show wpAny _ _ (if((1:Int)==1)=true then _ else _) _ _ s;rw[if_pos (by decide)];refine wpAny_bind (wpAny_rule ?_)
 first
  |simp only [GO hsz,Bool.false_eq_true,if_false]
  |refine PySem.W.KFB.if_not (GO hsz) ?_
 first|refine wpAny_bind (wpAny_pure ?_)|skip
 show wpAny _ _ (updateSeq l (fun xs=>xs.extract 0 ((a:Int)).toNat++new++xs.extract (max (a:Int) (c:Int)).toNat xs.size) >>= _) _ _ s;rw[agr,Int.toNat_natCast];refine wpAny_bind (wpAny_updateSeq (hz:=Nat.le_trans (Nat.le_add_right _ _) hsz) (_hz':=hz') e rfl ?_);refine wpAny_bind (wpAny_letGo ?_)
 first
  |exact wpAny_bind (wpAny_pure (wpAny_pure ⟨.none,rfl,wpAny_pure h⟩))
  |exact wpAny_pure ⟨.none,rfl,wpAny_pure h⟩
end
section
variable {X:Cx}
theorem VR {pins:List (Addr×Obj)}{s:Shared}{σ:St}{H:Hp}{l b sl:Addr}{xs ys:List V}{a c:Int}{vl vu:Value}{Q:Unit->Shared->Prop}(I:Inv X pins σ H s)
  (hH:H l=some (.lst xs)) (hB:H b=some (.lst ys)) (hne:l≠b) (hs:s.heap.IsSliceOf sl vl vu .none) (ra:RelV (.int a) vl) (rc:RelV (.int c) vu) (h0:0<=a) (hac:a<=c) (hc:c<=xs.length)
  (hz:xs.length+ys.length<=sizeLine) (h:∀ s',Inv X pins σ (upd H l (.lst (xs.take a.toNat++ys++xs.drop c.toNat))) s'->Q () s') :
  wpAny (model X.prog X.w) X.A (setItem (.ref l) (.ref sl) (.ref b)) Q X.xe s:=by
 obtain⟨ta,rfl⟩:=ra;obtain⟨tc,rfl⟩:=rc;obtain⟨z,its,n,r,hl,e⟩:=I.Kc hH;obtain⟨z2,its2,n2,r2,hl2,e2⟩:=I.Kc hB;obtain⟨a',rfl⟩:=Int.eq_ofNat_of_zero_le h0;obtain⟨c',rfl⟩:=Int.eq_ofNat_of_zero_le (Int.le_trans h0 hac);simp only [Int.toNat_natCast]at h;refine Ke (a:=a') (c:=c') e e2 hne hs (.int _ _) (.int _ _) (by omega) (by rw[size_toArray];omega) (by rw[size_toArray,size_toArray];omega) (h _ ?_);refine I.Yx (its':=its.take a'++its2++its.drop c') (t':=s.toks) hH e ?_ (Vals.append (Vals.append (r.take _) r2) (r.drop _)) ?_
 ·exact VQ its its2 a' c'
 ·rw[length_append,length_append,length_take,length_drop];omega
end
end L2
namespace Att
open PySem PySem.W PySem.Calls PyProof.Rows
theorem FD {P:Params}{h:Heap}:∀(ns:List Int)(vs:List Value),WellAll P h vs (ns.map WData.int)->IntsAre vs ns:=by
 intro ns
 induction ns with
 |nil =>
  intro vs w;rw[List.map_nil]at w;cases w;exact .nil
 |cons n ns ih =>
  intro vs w;rw[map_cons]at w;cases w with
  |cons a b =>
   cases a;exact .cons _ _ (ih _ b)
theorem VS {l:OpenLaw}{n:Nat}(hn:l.most=some n){P:Params}{h:Heap}{args:List WData}{vals:List Value}
  (hpre:l.row.toRowW.claim.pre args=true) (hwl:WellAll P h vals args) :
  ∃ a vs ns,vals=[Value.ref a]/\args=[WData.list (ns.map WData.int)]/\h.get? a=some { cls:=.type "list",data:=.seq vs.toArray }/\IntsAre vs ns/\ns.length<=n:=by
 have hsh:WShape.hasAll [] args [.list .int]=true:=(pre_splitW hpre).1;have hc:l.pre.holds [] { args:=args } = true:=(pre_splitW hpre).2;obtain⟨d,r,rfl,h1,h2⟩:=hasAllW_cons hsh;obtain rfl:=hasAllW_nil h2;obtain⟨xs,rfl,h3⟩:=hasW_list h1;obtain⟨ns,rfl⟩:=items_int h3;have hlen:ns.length<=n:=by
  unfold OpenLaw.pre at hc;have h4:(WTm.not (.lt (.lit (.int (n:Int))) (.len (.arg 0)))).holds [] { args:=[.list (ns.map .int)] } = true:=by
   have h4:=(holds_andW hc).1;rw[hn]at h4;exact h4
  have h5:=condW_of h4 (w_not (w_lt w_lit (w_len_list (w_arg rfl))));rw[length_map]at h5;refine Nat.le_of_not_lt fun q=>?_;have q':(n:Int)<((ns.length:Nat):Int):=by omega
  first
   |(rw[decide_eq_true q']at h5;exact absurd h5 (by decide))
   |(simp at h5;omega)
 cases hwl with
 |cons w1 w2 =>
  cases w2;cases w1 with
  |list ho hall=>exact⟨_,_,ns,rfl,rfl,ho,FD ns _ hall,hlen⟩
theorem VT (l:OpenLaw)(args:List WData):l.row.toRowW.claim.post args (.bool true) args=true :=
 postW_of (r:=l.row.toRowW) (X:=(true==true))
  (show WShape.has [] (.bool true) .bool=true by first|rfl|decide|simp[WShape.has,WShape.arms,WShape.armsAll])
  (show(WTm.eq .res (.lit (.bool true))).value [] { args:=args,res:=some (.bool true),after:=args } = some (.bool (true==true)) from w_eq_bool (w_res rfl) w_lit) rfl
theorem P7 {l:OpenLaw}{n:Nat}{q:Program}{loose:List Str}{XP:(Str->Option Value)->Heap->Prop}{YP:World->Heap->Prop}{d:DefRec}
  (hn:l.most=some n) (hdf:d.params.defaults=[])
  (call:∀(w:World)(s₀ s₁:Shared)(mg mb:Str->Option Value)(fa:Addr)(o:Obj)(pm cd doc:Value)(a:Addr)(vs:List Value)(ns:List Int),
   Ground q loose [] XP w s₀ mg mb s₁.heap->YP w s₁.heap ->
   s₁.heap.get? fa=some o->o.data=.func (docDef d.name d.params d.body d.scope pm cd doc)->s₁.heap.CodeRec cd d.name->mg d.name=some (.ref fa) ->
   s₁.heap.get? a=some { cls:=.type "list",data:=.seq vs.toArray }->IntsAre vs ns->ns.length<=n->s₁.gens = #[] ->
   codeAny (model l.prog w) callerA (.call (.ref fa) ⟨[.ref a],[]⟩) (fun r s'=>r=.ok (.ret (.bool true))/\OldK s₁.heap s'.heap/\s'.os=s₁.os/\AllBare s'.gens) s₁) :
  WalkO q loose XP YP l.row.toRowW d [] (fun f vs=>PySem.call f vs):=by
 intro w s₀ s₁ mg mb G Y fa o pm cd doc dV kV ho hd hcd hD hmg hg args vals as hpre hlay hrd hwl hlo;obtain rfl:dV=.none:=Dflts.none hD hdf;obtain rfl:kV=.none:=Dflts.noKw hD;obtain⟨a,vs,ns,rfl,rfl,hobj,hints,hlen⟩:=VS hn hpre hwl;refine enter_call (codeAny_mono (call w s₀ s₁ mg mb fa o pm cd doc a vs ns G Y ho (fd_plain hd) hcd hmg hobj hints hlen hg) fun r s' hq=>?_);obtain⟨rfl,h2,h3,h4⟩:=hq;exact⟨.inl ⟨.bool true,.bool true,[],rfl,fun _=>rfl,.bool true,VT l _,fun _=>⟨List.Pairwise.nil,fun _ hm=>(nomatch hm)⟩⟩,h2,h3,h4⟩
section
variable {prog:Program} {w:World} {A:Around} {E:Value->Shared->Prop} {s:Shared} {K:Frag}
end
end Att
namespace L2
open PySem PySem.Spec PyProof.Rows
theorem Lx:∀{vs:List Value} {ns:List Int},IntsAre vs ns->Vals (ns.map V.int) vs
 |_,_,.nil=>.nil
 |_,_,.cons n t h=>.cons ⟨t,rfl⟩ (Lx h)
def Only (H:Hp):Prop:=∀ b,H b=none\/∃ o xs,H b=some (.UG o (.lst xs))
theorem YB {P:Program}{w:World}{K:Frag}{mg mb:Str->Option Value}{CX:Yn}{k:Nat}{fa a:Addr}{fd:FuncData}{x:Str}{sp:Sp}{s₁:Shared}{vs:List Value}{ns:List Int}
  (KX:K.In s₁.heap) (hns:s₁.heap.Ns mainGlobals mg) (hb:s₁.heap.Ns builtinsNs mb) (hbb:∀ x:Str,x ≠ "__name__"->mb x=bootBuiltins x) (hlim:s₁.heap.NoLimit) (hg:s₁.gens = #[])
  (ha:s₁.heap.get? a=some { cls:=.type "list",data:=.seq vs.toArray }) (hi:IntsAre vs ns) (hl:ns.length<=sizeLine) (hr:kn k callerA)
  (F:∀ base:Heap,K.In base->base.Ns mainGlobals mg->bg P w K mg base CX k fa fd [x] sp) (hbind:∀(s:Shared)(u:Value),BindsTo s fd ⟨[u],[]⟩ [(x,u)])
  (hsp:∀ H:Hp,Only H->aR K H a (ns.map V.int)->sp [.ref a] H (fun v _=>v=.bl true) fun _ _ _=>False)
  (hCX:∀ H e s',CX [] H s₁ (fun _ _ _=>False) e s'->False) :
  codeAny (model P w) callerA (.call (.ref fa) ⟨[.ref a],[]⟩) (fun r s'=>r=.ok (.ret (.bool true))/\OldK s₁.heap s'.heap/\s'.os=s₁.os/\AllBare s'.gens) s₁:=by
 have rv:=Lx hi;have lenV:=hi.length;have core:∀ H:Hp,Only H->aR K H a (ns.map V.int)->Ag P w H s₁.heap->(∀ b,H b≠none->b=a)->(H a≠none->K.lookup a=none) ->
   codeAny (model P w) callerA (.call (.ref fa) ⟨[.ref a],[]⟩) (fun r s'=>r=.ok (.ret (.bool true))/\OldK s₁.heap s'.heap/\s'.os=s₁.os/\AllBare s'.gens) s₁:=by
  intro H hO hS hok hA hK;have UW:∀{b:Addr} {o:Obj},s₁.heap.get? b=some o->H b=none->(Mp s₁.heap H).get? b=some o:=fun e n=>X7 e n;have noA:∀{b:Addr} {o:Obj} {es:Array DictEntry} {ep:Nat},s₁.heap.get? b=some o->o.data=.dict es ep->H b=none:=fun {b o es ep} e d=>by
   cases q:H b with
   |none=>rfl
   |some u =>
    have e':b=a:=hA b (by rw[q];simp);subst e';rw[ha]at e;cases e;have d':Data.seq vs.toArray _=Data.dict es ep:=d;cases d'
  have nsK:∀{b:Addr} {m:Str->Option Value},s₁.heap.Ns b m->(Mp s₁.heap H).Ns b m:=fun {b m} ⟨o,es,ep,e,d,r⟩=>⟨o,es,ep,UW e (noA e d),d,r⟩;have hKb:K.In (Mp s₁.heap H):=fun b o e=>UW (KX b o e) (by
   cases q:H b with
   |none=>rfl
   |some u =>
    have e':b=a:=hA b (by rw[q];simp);subst e';rw[hK (by rw[q];simp)]at e;cases e)
  have hM:Mod K mg (Mp s₁.heap H):=⟨hKb,nsK hns,⟨mb,nsK hb,hbb⟩,let ⟨mc,h1,h2⟩:=hlim;⟨mc,nsK h1,h2⟩⟩;have e0:RP P w K mg (Mp s₁.heap H) callerA [] s₁ H:=⟨rfl,hM,fun b o e=>aat e,Nat.le_of_eq (VD _ _),trivial,fun b hb=>absurd (show b∈([]:List Addr) from hb) (by simp),hok,.of_eq hg⟩;refine codeAny_mono ((F _ hKb (nsK hns)).run callerA [] s₁ H ⟨[.ref a],[]⟩ [.ref a] [.ref a] _ _ hr e0 (hbind s₁ (.ref a)) (.cons rfl .nil) (hsp H hO hS)) fun r s' h=>?_;cases r with
  |error e=>exact(hCX H e s' h).elim
  |ok fl =>
   cases fl with
   |next=>exact False.elim h
   |brk=>exact False.elim h
   |cont=>exact False.elim h
   |ret u =>
    obtain⟨v,H',os,bare,un,hok',r',q⟩:=h;have q':v=.bl true:=q;subst q';obtain rfl:u=Value.bool true:=r';refine⟨rfl,OldK.of_keep fun b o e=>?_,os,bare⟩;cases q:H b with
    |none=>exact un.keep b o e q (by intro z;exact absurd (show b∈([]:List Addr) from z) (by simp)) (by simp)
    |some u =>
     rcases hO b with z|⟨ob,xs,z⟩
     ·rw[q]at z;cases z
     ·have z2:=un.Ka b ob _ z;obtain⟨e1,_⟩:=hok b _ z;obtain⟨e2,_⟩:=hok' b _ z2;rw[e]at e1;cases e1;exact e2
 cases hk:K.lookup a with
 |some o =>
  have e:=KX a o hk;rw[ha]at e;cases e;refine core (fun _=>none) (fun _=>.inl rfl) (.inr ⟨_,vs.toArray,_,hk,rfl,rfl,rfl,by rw[size_toArray,lenV];exact hl,by simpa using rv⟩) (fun b u z=>by have z':(none:Option HO)=some u:=z;cases z') (fun b z=>absurd rfl z) fun z=>absurd rfl z
 |none =>
  refine core (fun b=>if b=a then some (.UG { cls:=.type "list",data:=.seq vs.toArray } (.lst (ns.map V.int))) else none) (fun b=>?_) (.inl (.inr ⟨{ cls:=.type "list",data:=.seq vs.toArray },if_pos rfl⟩)) (fun b u z=>?_) (fun b z=>?_) fun _=>hk
  ·by_cases hb:b=a
   ·exact .inr ⟨_,_,if_pos hb⟩
   ·exact .inl (if_neg hb)
  ·by_cases hb:b=a
   ·have z':=(if_pos hb).symm.trans z;cases z';subst hb;exact⟨ha,by rw[length_map];exact hl,vs,_,rv,ha⟩
   ·have z':=(if_neg hb).symm.trans z;cases z'
  ·by_cases hb:b=a
   ·exact hb
   ·exact absurd (if_neg hb) z
end L2
namespace L2
open PySem PySem.Spec PyProof.Rows
abbrev KOf {K:Frag}{h:Heap}(_:K.In h):Frag:=K
theorem aaF {l:OpenLaw}{n k:Nat}{q:Program}{loose:List Str}{XP:(Str->Option Value)->Heap->Prop}{YP:World->Heap->Prop}{d:DefRec}{K:Params->Frag}{CX:World->Yn}{sp:World->Sp}{x:Str}
  (hn:l.most=some n) (hn2:n<=sizeLine) (hdf:d.params.defaults=[]) (hr:kn k callerA)
  (hY:∀(w:World)(h:Heap),YP w h->(K w.params).In h)
  (F:∀(w:World)(mg:Str->Option Value)(fa:Addr)(h:Heap),(K w.params).In h->h.Ns mainGlobals mg->mg d.name=some (.ref fa) ->
   ∃ fd:FuncData,(∀(s:Shared)(u:Value),BindsTo s fd ⟨[u],[]⟩ [(x,u)]) /\
    ∀ base:Heap,(K w.params).In base->base.Ns mainGlobals mg->bg l.prog w (K w.params) mg base (CX w) k fa fd [x] (sp w))
  (hsp:∀(w:World)(H:Hp)(a:Addr)(ns:List Int),ns.length<=n->Only H->aR (K w.params) H a (ns.map V.int)->sp w [.ref a] H (fun v _=>v=.bl true) fun _ _ _=>False)
  (hCX:∀(w:World)(H:Hp)(s:Shared)(e:Value)(s':Shared),CX w [] H s (fun _ _ _=>False) e s'->False) :
  WalkO q loose XP YP l.row.toRowW d [] (fun f vs=>PySem.call f vs):=by
 refine Att.P7 hn hdf fun w s₀ s₁ mg mb fa o pm cd doc a vs ns G Y ho hd hcd hmg hobj hints hlen hg=>?_;have KX:=hY w _ Y;obtain⟨fd,hb,hF⟩:=F w mg fa _ KX G.T.g hmg;exact YB KX G.T.g G.T.b G.T.builtins G.T.nolimit hg hobj hints (Nat.le_trans hlen hn2) hr hF hb (fun H hO hS=>hsp w H a ns hlen hO hS) fun H e s'=>hCX w H s₁ e s'
end L2
namespace L2
open PySem PySem.Spec PyProof.Rows
def inClass (s:Stmt)(j:Nat):Stmt:=match s with
 |.ClassDef _ _ _ body _ _ _ _ _ _ _=>body.getD j (.Pass ⟨0,0,0,0⟩)
 |_=>.Pass ⟨0,0,0,0⟩
def aw (s:Stmt):Arguments:=match s with
 |.FunctionDef _ a _ _ _ _ _ _ _ _=>a
 |_=>{ posonlyargs:=[],args:=[],vararg:=none,kwonlyargs:=[],kw_defaults:=[],kwarg:=none,defaults:=[] }
def av (s:Stmt):List Stmt:=match s with
 |.FunctionDef _ _ b _ _ _ _ _ _ _=>b
 |_=>[]
def ah (s:Stmt):Scope:=match s with
 |.FunctionDef _ _ _ _ _ _ sc _ _ _=>sc
 |_=>{ kind:=.function,names:=[],isGenerator:=false,isCoroutine:=false }
abbrev fq:Yn:=fun _ _ _ _ _ _=>False
abbrev E0:XK:=fun _ _ _=>False
theorem au {X:Cx}:Passes fq X E0:=fun _ _ _ _ _ _ _ h=>h.elim
structure gZ (K:Frag)(x qual:Str)(st:Stmt)(f:Addr)(fd:FuncData):Prop where
 ex:∃(oc:Value)(od:Option Addr)(kV doc pm:Value)(an:Option Addr)(cdv ct:Value)(osl:Array (Option Value)),
  fd=fnOf x qual (aw st) (av st) (ah st) .none kV doc pm an cdv ct/\K.lookup f=some ⟨oc,od,.func fd,osl⟩/\codeIn K cdv qual=true
 kp:keepIn K (.ref f)=true
section
variable {P:Program} {w:World} {K:Frag} {mg:Str->Option Value} {base:Heap}
theorem gZ.ok {x qual:Str}{st:Stmt}{f:Addr}{fd:FuncData}{N ps:List Str}{k:Nat}{sp:Sp}(F:gZ K x qual st f fd)(S:az N ps (ah st))(len:∀ vs H Q E,sp vs H Q E->vs.length=ps.length)
  (hbody:∀(cdv:Value)(A:Around)(outer:List Env)(s:Shared)(H:Hp)(vs:List V)(Q:VK)(E:XK),kn k (A.deeper (envOfC qual (ah st) s.heap.objs.size f cdv))->sp vs H Q E ->
   ∃ t,RG (RS fq P w K mg base N qual (ah st) f cdv A outer s H E).nox (av st) t/\t { nx:=fun _ H'=>Q .non H',rt:=Q } (start N vs) H):bg P w K mg base fq (k+1) f fd ps sp:=by
 obtain⟨oc,od,kV,doc,pm,an,cdv,ct,osl,rfl,lk,hcd⟩:=F.ex;refine abJ lk hcd S len fun A outer s H vs Q E hr hsp=>?_;obtain⟨t,h,q⟩:=hbody cdv A outer s H vs Q E hr hsp;exact⟨t,h.nox,q⟩
theorem gZ.binds {x qual:Str}{st:Stmt}{f:Addr}{fd:FuncData}{ps:List Str}(F:gZ K x qual st f fd)
  (h:∀(kV doc pm:Value)(an:Option Addr)(cdv ct:Value)(us:List Value),us.length=ps.length->bindArgs (fnOf x qual (aw st) (av st) (ah st) .none kV doc pm an cdv ct) ⟨us,[]⟩=pure (ps.zip us)):Binds K fd ps []:=by
 obtain⟨oc,od,kV,doc,pm,an,cdv,ct,osl,rfl,lk,hcd⟩:=F.ex;exact .all (h kV doc pm an cdv ct)
theorem aP {x qual:Str}{st:Stmt}{f:Addr}{oc:Value}{od an:Option Addr}{osl:Array (Option Value)}{kV doc pm cdv ct:Value}(l:K.lookup f=some ⟨oc,od,.func (fnOf x qual (aw st) (av st) (ah st) .none kV doc pm an cdv ct),osl⟩)
  (c:codeIn K cdv qual=true) (k:keepIn K (.ref f)=true):gZ K x qual st f (fnOf x qual (aw st) (av st) (ah st) .none kV doc pm an cdv ct):=⟨⟨oc,od,kV,doc,pm,an,cdv,ct,osl,rfl,l,c⟩,k⟩
end
theorem Ly {A:Around}{k:Nat}(hr:kn k A):A.units+1<cLine:=Nat.lt_of_le_of_lt (Nat.add_le_add_left (by decide:1<=64) _) hr.units
theorem aK {n:Nat}(h:n<=1000):n<sizeLine:=Nat.lt_of_le_of_lt h (by decide)
section
variable {X:Cx}
theorem pv (i:Nat){x:Str}{pos:Pos}(hN:X.N[i]? = some x:=by rfl)(hv:Vis X.env.scope x:=by first|exact Or.inl rfl|exact Or.inr (Or.inl rfl)|exact Or.inr (Or.inr rfl))(hd:(x==("__debug__":Str))=false:=by decide)
  (hcd:(x==("__classdict__":Str))=false:=by decide):PE X (.Name x pos) (adX i):=acm hN hv hd hcd
end
theorem dR {A B:Prop}(h:B):if false=true then A else B:=by
 rw[if_neg Bool.false_ne_true];exact h
theorem qi {A B:Prop}(h:A):if true=true then A else B:=by
 rw[if_pos rfl];exact h
theorem aT {c A B:Prop}[Decidable c](h1:c->A)(h2:¬ c->B):if c then A else B:=by
 by_cases h:c
 ·rw[if_pos h];exact h1 h
 ·rw[if_neg h];exact h2 h
def aq (H H':Hp):Prop:=∀ b o,H b=some o->H' b=some o
theorem aq.refl (H:Hp):aq H H:=fun _ _ h=>h
theorem aq.trans {H H1 H2:Hp}(a:aq H H1)(b:aq H1 H2):aq H H2:=fun c o h=>b c o (a c o h)
theorem aq.free {H H':Hp}(e:aq H H'){l:Addr}(h:H' l=Option.none):H l=Option.none:=by
 cases q:H l with
 |none=>rfl
 |some o =>
  rw[e l o q]at h;cases h
theorem aq.seq {K:Frag}{H H':Hp}{a:Addr}{xs:List V}(e:aq H H')(h:aR K H a xs):aR K H' a xs:=by
 rcases h with (h|⟨o,h⟩)|h
 ·exact .inl (.inl (e _ _ h))
 ·exact .inl (.inr ⟨o,e _ _ h⟩)
 ·exact .inr h
end L2
set_option maxHeartbeats 4000000
namespace L2
open PySem PySem.Spec PyProof.Rows
def fH (env:Env):List (Str×NameKind)->List (Str×Addr)->List (Str×Addr)
 |[],acc=>acc
 |p::l,acc=>fH env l (if p.2 == .free then(p.1,(env.cells.lookup p.1).getD 0)::acc else acc)
theorem UX {env:Env}{scope:Scope}(h:∀ p∈scope.names,p.2=.free->∃ c,env.cells.lookup p.1=some c):closureFor scope env=pure (fH env scope.names []):=by
 have go:∀(l:List (Str×NameKind)) (acc:List (Str×Addr)),(∀ p∈l,p.2=.free->∃ c,env.cells.lookup p.1=some c) ->
   (forIn l acc fun(p:Str×NameKind) cs=>if(p.2==NameKind.free)=true then(cellOf env p.1 >>= fun a=>pure (ForInStep.yield ((p.1,a)::cs))) else pure (ForInStep.yield cs))=(pure (fH env l acc):Sem (List (Str×Addr))):=by
  intro l
  induction l with
  |nil=>intro acc _;rfl
  |cons p l ih =>
   intro acc hl;rw[List.forIn_cons];have hr:=fun q hq=>hl q (mem_cons_of_mem _ hq)
   by_cases hk:p.2=.free
   ·obtain⟨c,hc⟩:=hl p mem_cons_self hk;have e1:(p.2==NameKind.free)=true:=by rw[hk];rfl
    rw[if_pos e1];have e2:cellOf env p.1=pure c:=by unfold cellOf;rw[hc]
    rw[e2,pure_bind,pure_bind];show forIn l ((p.1,c)::acc) _=_;rw[ih _ hr];show _=pure (fH env l (if p.2 == .free then(p.1,(env.cells.lookup p.1).getD 0)::acc else acc));rw[if_pos e1,hc];rfl
   ·have e1:¬(p.2==NameKind.free)=true:=by intro z;exact hk (by simpa using z)
    rw[if_neg e1,pure_bind];show forIn l acc _=_;rw[ih _ hr];show _=pure (fH env l (if p.2 == .free then(p.1,(env.cells.lookup p.1).getD 0)::acc else acc));rw[if_neg e1]
 have e:=go scope.names [] h;unfold closureFor;show(forIn scope.names ([]:List (Str×Addr)) _ >>= fun r=>pure r)=_;rw[bind_pure];exact e
theorem Lz {env:Env}{x:Str}:∀(l:List (Str×NameKind)) (acc:List (Str×Addr)) {c:Addr},(fH env l acc).lookup x=some c->acc.lookup x=some c\/((x,NameKind.free)∈l/\c=(env.cells.lookup x).getD 0)
 |[],acc,c,h=>.inl h
 |p::l,acc,c,h=>by
  rcases Lz l _ h with z|⟨z,e⟩
  ·by_cases hk:(p.2==NameKind.free)=true
   ·rw[if_pos hk,List.lookup_cons]at z
    by_cases hx:(x==p.1)=true
    ·rw[hx]at z;have e:x=p.1:=by simpa using hx
     have e2:p.2=.free:=by simpa using hk
     refine .inr ⟨?_,?_⟩
     ·rw[e,<-e2];exact mem_cons_self
     ·rw[e];exact(Option.some.inj z).symm
    ·have hx':(x==p.1)=false:=by simpa using hx
     rw[hx']at z;exact .inl z
   ·rw[if_neg hk]at z;exact .inl z
  ·exact .inr ⟨mem_cons_of_mem _ z,e⟩
theorem GP {env:Env}{x:Str}:∀(l:List (Str×NameKind)) (acc:List (Str×Addr)),((acc.lookup x).isSome=true\/(x,NameKind.free)∈l)->((fH env l acc).lookup x).isSome=true
 |[],acc,h=>by
  rcases h with h|h
  ·exact h
  ·cases h
 |p::l,acc,h=>by
  refine GP l _ ?_;rcases h with h|h
  ·left
   by_cases hk:(p.2==NameKind.free)=true
   ·rw[if_pos hk,List.lookup_cons];cases (x==p.1) with
    |true=>rfl
    |false=>exact h
   ·rw[if_neg hk];exact h
  ·rcases List.mem_cons.mp h with e|h
   ·left
    have e1:p.1=x:=by rw[<-e]
    have e2:(p.2==NameKind.free)=true:=by rw[<-e];rfl
    rw[if_pos e2,List.lookup_cons,e1];simp
   ·exact .inr h
theorem nV {env:Env}{x:Str}{k:NameKind}:∀(l:List (Str×NameKind)),
  (l.map fun(n,k)=>if(k==NameKind.free&&env.scope.kind == .function&&env.kindOf n==some .cell) then(n,NameKind.cell) else(n,k)).lookup x=some k ->
   l.lookup x=some k\/(k=.cell/\l.lookup x=some .free)
 |[],h=>by cases h
 |(n,q)::l,h=>by
  rw[map_cons]at h;cases hx:(x==n) with
  |true =>
   rw[List.lookup_cons,hx]
   by_cases hc:(q==NameKind.free&&env.scope.kind == .function&&env.kindOf n==some .cell)=true
   ·simp only [hc,if_true,List.lookup_cons,hx]at h;have e:q=.free:=by
     have:=(Bool.and_eq_true_iff.mp (Bool.and_eq_true_iff.mp hc).1).1
     simpa using this
    right
    exact⟨(Option.some.inj h).symm,by rw[e]⟩
   ·have hc':(q==NameKind.free&&env.scope.kind == .function&&env.kindOf n==some .cell)=false:=by simpa using hc
    simp only [hc',Bool.false_eq_true,if_false,List.lookup_cons,hx]at h;exact .inl h
  |false =>
   rw[List.lookup_cons,hx];refine nV (env:=env) l ?_
   by_cases hc:(q==NameKind.free&&env.scope.kind == .function&&env.kindOf n==some .cell)=true
   ·simp only [hc,if_true,List.lookup_cons,hx]at h;exact h
   ·have hc':(q==NameKind.free&&env.scope.kind == .function&&env.kindOf n==some .cell)=false:=by simpa using hc
    simp only [hc',Bool.false_eq_true,if_false,List.lookup_cons,hx]at h;exact h
structure Bk where
 C:Addr
 s₂:Shared
 alc:Hp
 fp:List Addr
 xe:Value->Shared->Prop
def cG (X:Cx)(cn:List Str)(scope:Scope)(b:Bk):Cx where
 prog:=X.prog
 w:=X.w
 K:=X.K
 mg:=X.mg
 base:=X.base
 A:=X.A
 N:=cn++X.N
 s₀:=b.s₂
 H₀:=b.alc
 env:=compEnvC scope (fH X.env scope.names []) b.C X.env
 outer:=X.stack
 stack:=X.stack
 ex:=b.fp
 fn:=fun _=>false
 calm:=X.calm
 pn:=[]
 xe:=b.xe
def YC (sc:Scope)(N:List Str)(scope:Scope):Bool :=
 (scope.kind == .function) &&
 (scope.names.all fun p=>(p.2 != .cell)&&((p.2 != .free)||(sc.names.lookup p.1==some .cell)||(sc.names.lookup p.1==some .free))&&((p.2 != .local)||(scope.names.lookup p.1==some .local))) &&
 (N.all fun x=>scope.names.lookup x != some .local)
structure cz (sc:Scope)(N:List Str)(scope:Scope):Prop where
 kind:scope.kind=.function
 YD:∀ p∈scope.names,p.2≠.cell
 free:∀ p∈scope.names,p.2=.free->sc.names.lookup p.1=some .cell\/sc.names.lookup p.1=some .free
 loc:∀ p∈scope.names,p.2=.local->scope.names.lookup p.1=some .local
 apart:∀ x∈N,scope.names.lookup x≠some .local
theorem cz.of {sc:Scope}{N:List Str}{scope:Scope}(h:YC sc N scope=true):cz sc N scope:=by
 unfold YC at h;rw[Bool.and_eq_true,Bool.and_eq_true]at h;obtain⟨⟨h1,h2⟩,h3⟩:=h;rw[all_eq_true]at h2 h3;refine⟨by simpa using h1,fun p hp=>?_,fun p hp e=>?_,fun p hp e=>?_,fun x hx=>?_⟩
 ·have:=h2 p hp;rw[Bool.and_eq_true,Bool.and_eq_true]at this
  simpa using this.1.1
 ·have:=h2 p hp;rw[Bool.and_eq_true,Bool.and_eq_true]at this;have q:=this.1.2;rw[e]at q;rw[Bool.or_eq_true,Bool.or_eq_true]at q;rcases q with (q|q)|q
  ·exact absurd q (by decide)
  ·exact .inl (by simpa using q)
  ·exact .inr (by simpa using q)
 ·have:=h2 p hp;rw[Bool.and_eq_true,Bool.and_eq_true]at this;have q:=this.2;rw[e]at q;rw[Bool.or_eq_true]at q;rcases q with q|q
  ·exact absurd q (by decide)
  ·simpa using q
 ·have:=h3 x hx
  simpa using this
section
variable {X:Cx} {pins:List (Addr×Obj)} {σ:St} {H:Hp}
theorem uN {l:List (Str×NameKind)}{x:Str}{k:NameKind}(h:l.lookup x=some k):(x,k)∈l:=PySem.mem_of_lookup h
theorem Inv.block {s₂:Shared}{h₁:Heap}{tk:Nat}{cn:List Str}{scope:Scope}{fp:List Addr}{xe:Value->Shared->Prop}{C D:Addr}{m:Str->Option Value}
  (I:Inv X pins σ H s₂) (F:cz X.env.scope X.N scope) (hc:X.calm=true) (hf:∀ b∈fp,l8 X pins H b) (hfl:∀ b∈fp,b<s₂.heap.objs.size)
  (hC:s₂.heap.objs.size<=C) (hD:s₂.heap.objs.size<=D) (hDC:D≠C) (hn:h₁.Ns C m) (old:∀ b o,s₂.heap.get? b=some o->h₁.get? b=some o)
  (hacc:h₁.get? D=some { cls:=.type "list",data:=.seq ([]:List Value).toArray 0 }) :
  Inv (cG X cn scope ⟨C,s₂,H,fp,xe⟩) [] (List.replicate cn.length none++σ) (upd H D (.lst [])) { s₂ with heap:=h₁,toks:=tk }:=by
 have My:∀ x,((cG X cn scope ⟨C,s₂,H,fp,xe⟩).env.kindOf x=some .cell\/(cG X cn scope ⟨C,s₂,H,fp,xe⟩).env.kindOf x=some .free)->(x,NameKind.free)∈scope.names:=by
  intro x hx;have hx':(relabel scope X.env).names.lookup x=some .cell\/(relabel scope X.env).names.lookup x=some .free:=hx;rcases hx' with z|z
  ·rcases nV scope.names z with z|⟨_,z⟩
   ·exact absurd rfl (F.YD _ (uN z))
   ·exact uN z
  ·rcases nV scope.names z with z|⟨e,_⟩
   ·exact uN z
   ·cases e
 have UY:∀ x,(x,NameKind.free)∈scope.names->X.env.kindOf x=some .cell\/X.env.kindOf x=some .free:=fun x hx=>F.free _ hx rfl;have rV:∀ x c,(fH X.env scope.names []).lookup x=some c->X.env.cells.lookup x=some c:=by
  intro x c e;rcases Lz _ _ e with z|⟨z,e2⟩
  ·cases z
  ·obtain⟨c',hc'⟩:=I.ok.has x (UY x z);rw[hc']at e2 ⊢;rw[e2];rfl
 have aiH:(cG X cn scope ⟨C,s₂,H,fp,xe⟩).fs=frs X.stack:=rfl;have agt:∀ b∈fp,b ∉ frs X.stack:=by
  intro b hb z;obtain⟨_,f1,f2,_⟩:=hf b hb;rcases List.mem_cons.mp (I.RI b z) with e|e
  ·exact f1 e
  ·exact f2 e
 have acE:∀ x c,X.env.cells.lookup x=some c->c<s₂.heap.objs.size:=by
  intro x c e;obtain⟨v,o,ho,_⟩:=I.cell x c e;exact Heap.lt_size ho
 have ok:(cG X cn scope ⟨C,s₂,H,fp,xe⟩).Ok:=by
  refine⟨I.ok.mod,?_,I.ok.glob,I.ok.blt,hC,fun x y c h1 h2=>I.ok.inj x y c (rV x c h1) (rV y c h2),fun x hx=>?_,fun x c z=>?_,fun _=>I.ok.hd hc,I.ok.frames,.inl rfl,fun b hb=>⟨?_,fun x c e=>?_⟩,
   fun b o e=>I.bs b o e,Nat.le_trans I.ok.bsz I.sz,fun b o e hb=>?_,fun b hb=>?_,I.stack,I.UH⟩
  ·show(relabel scope X.env).kind=.function;exact F.kind
  ·have:=GP (env:=X.env) (x:=x) scope.names [] (.inr (My x hx));exact Option.isSome_iff_exists.mp this
  ·cases z
  ·exact Nat.ne_of_lt (Nat.lt_of_lt_of_le (hfl b hb) hC)
  ·exact(hf b hb).2.2.2.2.1 x c (rV x c e)
  ·have:X.base.objs.size<=X.s₀.heap.objs.size:=I.ok.bsz;rcases (hf b hb).2.2.2.1 with z|z
   ·exact I.ok.X8 b o e z
   ·exact absurd (Nat.lt_of_lt_of_le (Heap.lt_size e) (Nat.le_trans I.ok.bsz z)) (Nat.lt_irrefl _)
  ·exact agt b hb
 have hDn:H D=none:=I.hok.fresh hD;have agu:Ag X.prog X.w (upd H D (.lst [])) h₁:=I.hok.laid old hD ⟨Nat.zero_le _,[],0,.nil,hacc⟩;refine⟨ok,rfl,I.bare,Un.laid old hD hDn,⟨m,hn,fun i x v e1 e2 e3=>?_⟩,fun x c e=>?_,?_,fun x c e=>?_,fun p hp=>absurd (show p∈([]:List (Addr×Obj)) from hp) (by simp),agu,?_⟩
 ·have hi:¬ i<cn.length:=by
   intro hi;rw[getElem?_append_left (by simpa using hi),List.getElem?_replicate]at e2;split at e2 <;> cases e2
  rw[List.getElem?_append_right (by simpa using hi),List.length_replicate]at e2;have e1':(cn++X.N)[i]? = some x:=e1;rw[List.getElem?_append_right (by omega)]at e1';obtain⟨m0,hm0,hl⟩:=I.loc;have hxN:x∈X.N:=mem_of_getElem? e1';have hfr:(x,NameKind.free)∈scope.names:=by
   have e3':(relabel scope X.env).names.lookup x=some .local\/(relabel scope X.env).names.lookup x=some .cell\/(relabel scope X.env).names.lookup x=some .free:=e3;rcases e3' with z|z|z
   ·rcases nV scope.names z with z|⟨e,_⟩
    ·exact absurd z (F.apart x hxN)
    ·cases e
   ·exact My x (.inl z)
   ·exact My x (.inr z)
  have hk:=UY x hfr;have vis:Vis X.env.scope x:=by
   rcases hk with z|z
   ·exact .inr (.inl z)
   ·exact .inr (.inr z)
  obtain⟨u,r,lk⟩:=hl (i-cn.length) x v e1' e2 vis;refine⟨u,r,?_⟩;rcases lk with ⟨z,_⟩|⟨_,c,ec,z⟩
  ·rcases hk with q|q
   ·rw[z]at q;cases q
   ·rw[z]at q;cases q
  ·have hcl:(fH X.env scope.names []).lookup x=some c:=by
    obtain⟨c',e'⟩:=Option.isSome_iff_exists.mp (GP (env:=X.env) (x:=x) scope.names [] (.inr hfr));rw[e'];have:=rV x c' e';rw[ec]at this;exact this.symm
   refine .inr ⟨?_,c,hcl,?_⟩
   ·have e3':(relabel scope X.env).names.lookup x=some .local\/(relabel scope X.env).names.lookup x=some .cell\/(relabel scope X.env).names.lookup x=some .free:=e3;rcases e3' with y|y|y
    ·rcases nV scope.names y with y|⟨e,_⟩
     ·exact absurd y (F.apart x hxN)
     ·cases e
    ·exact .inl y
    ·exact .inr y
   ·obtain⟨o,ho,hd⟩:=z;exact⟨o,old c o ho,hd⟩
 ·obtain⟨v,o,ho,hd⟩:=I.cell x c (rV x c e);exact⟨v,o,old c o ho,hd⟩
 ·show upd H D (.lst []) C=none;rw[ak (Ne.symm hDC)];exact I.hok.fresh hC
 ·rw[ak (Nat.ne_of_lt (Nat.lt_of_lt_of_le (acE x c (rV x c e)) hD))];exact I.xV x c (rV x c e)
 ·show(List.replicate cn.length none++σ).length=(cn++X.N).length;rw[length_append,List.length_replicate,length_append,I.len]
theorem Inv.UZ {s₂ s':Shared}{h':Heap}{cn:List Str}{scope:Scope}{fp:List Addr}{xe:Value->Shared->Prop}{C:Addr}{H':Hp}{σ':St}{pl:List (Addr×Obj)}
  (I:Inv X pins σ H s₂) (hf:∀ b∈fp,l8 X pins H b) (hC:s₂.heap.objs.size<=C) (J:Inv (cG X cn scope ⟨C,s₂,H,fp,xe⟩) pl σ' H' s') (sb:Heap.SameBut C s'.heap h') :
  Inv X pins σ H' { s' with heap:=h' }:=by
 have neC:∀ b o,s₂.heap.get? b=some o->b≠C:=fun b o e=>Nat.ne_of_lt (Nat.lt_of_lt_of_le (Heap.lt_size e) hC);have u:Un (frs X.stack) fp H H' s₂.heap s'.heap:=J.base;have un:Un (frs X.stack) fp H H' s₂.heap h' :=
  ⟨fun b o e n hb hx=>(sb.2 b (neC b o e)).trans (u.keep b o e n hb hx),
   fun b o e n hb hx=>by
   obtain⟨sl,q⟩:=u.slot b o e n hb hx;exact⟨sl,(sb.2 b (neC b o e)).trans q⟩,
   u.free,fun b o e hx=>by
   obtain⟨o',q⟩:=u.there b o e hx;exact⟨o',(sb.2 b (neC b o e)).trans q⟩,u.tups,u.Ka,u.Mo⟩
 have fC:H' C=none:=J.free;have hok:Ag X.prog X.w H' h':=fun b o e=>by
  refine(J.hok b o e).stay (fun c v hc q=>(sb.2 c ?_).trans q) (fun _ q=>q) fun _ _ q=>q;rintro rfl;rcases hc with z|z
  ·rw[<-z,fC]at e;cases e
  ·rw[fC]at z;cases z
 have os:s'.os=s₂.os:=J.os;refine I.call' (s':={ s' with heap:=h' }) os un hok J.bare fun b hb=>?_;obtain⟨_,f1,_,f3,f4,f5⟩:=hf b hb;exact⟨f3,f1,f4,f5⟩
end
end L2
set_option maxHeartbeats 4000000
namespace L2
open PySem PySem.Spec PyProof.Rows
theorem VU {prog:Program}{w:World}{A:Around}{R:Result->Shared->Prop}{s:Shared}{elt tg iter:Expr}{ifs:List Expr}{scope:Scope}{pos:Pos}{it acc:Value}{env:Env}(J:Nat->Shared->Prop)
  (turn:∀ n s,J n s->wpAny (model prog w) A (pyNext it) (fun r s₁=>(r=none/\R (.ok .next) s₁)\/∃ v,r=some v /\
   wpAny (model prog w) A (letOwnedTupleGo tg it v) (fun _ s₂=>wpAny (model prog w) A (assign tg env v) (fun _ s₃ =>
    wpAny (model prog w) A (forIn ifs true fun c r=>if r=true then do let ok <-isTrue c env (eval c env);pure (ForInStep.yield ok) else pure (ForInStep.yield r)) (fun ok s₄ =>
     if ok=true then wpAny (model prog w) A (eval elt env) (fun x s₅=>wpAny (model prog w) A (call (.builtin "list.append") [acc,x]) (fun _ s₆=>∃ m,m<n/\J m s₆) (notedBy (model prog w) A env fun e s'=>R (.error e) s') s₅)
      (notedBy (model prog w) A env fun e s'=>R (.error e) s') s₄
     else ∃ m,m<n/\J m s₄) (notedBy (model prog w) A env fun e s'=>R (.error e) s') s₃) (notedBy (model prog w) A env fun e s'=>R (.error e) s') s₂) (notedBy (model prog w) A env fun e s'=>R (.error e) s') s₁)
   (notedBy (model prog w) A env fun e s'=>R (.error e) s') s)
  (n:Nat) (h:J n s):codeAny (model prog w) A (.compLoop (.ListComp elt [⟨tg,iter,ifs,0⟩] scope pos) 0 it acc env) R s:=by
 refine codeAny_loop rfl J (fun n s hJ=>?_) n h;refine wpAny_noted (A:=A) (m:=compTurn (.ListComp elt [⟨tg,iter,ifs,0⟩] scope pos) 0 it acc env) (env:=env) ?_;rw[compTurn_list];refine wpAny_bind (wpAny_standAt (wpAny_bind (cT (turn n s hJ) fun r s₁ h₁=>?_)));rcases h₁ with ⟨e,h₁⟩|⟨v,e,h₁⟩
 ·subst e;exact wpAny_pure h₁
 ·subst e;refine wpAny_bind (cT h₁ fun _ s₂ h₂=>wpAny_bind (cT h₂ fun _ s₃ h₃=>wpAny_bind (cT h₃ fun ok s₄ h₄=>?_)));cases ok with
  |false=>exact wpAny_pure ⟨rfl,h₄⟩
  |true=>exact wpAny_bind (wpAny_bind (cT h₄ fun x s₅ h₅=>wpAny_bind (cT h₅ fun _ s₆ h₆=>wpAny_pure (wpAny_pure ⟨rfl,h₆⟩))))
def PF (X:Cx)(ifs:List Expr)(t:TT):Prop :=
 ∀(pins:List (Addr×Obj)) (s:Shared) (σ:St) (H:Hp) (Q:Bool->Hp->Prop),Inv X pins σ H s->t σ H Q ->
  wpAny (model X.prog X.w) X.A (forIn ifs true fun c r=>if r=true then do let ok <-isTrue c X.env (eval c X.env);pure (ForInStep.yield ok) else pure (ForInStep.yield r)) (TP X pins σ Q) X.xe s
def acF:TT:=fun _ H Q=>Q true H
theorem iC {X:Cx}:PF X [] acF:=by
 intro pins s σ H Q I h;rw[List.forIn_nil];exact wpAny_pure ⟨H,I,h⟩
def R1 (X:Cx)(C:Addr)(e:Value)(s':Shared):Prop :=
 ∃ m,s'.heap.Ns C m/\∀ h',Heap.SameBut C s'.heap h'->∀ cenv:Env,cenv.locals=C->wpAny (model X.prog X.w) X.A (passOn "comprehension.variables-let-go" e cenv:Sem Value) (fun _ _=>False) X.xe { s' with heap:=h' }
def qW (X:Cx)(scope:Scope)(C:Addr):Value->Shared->Prop :=
 notedBy (model X.prog X.w) X.A (compEnvC scope (fH X.env scope.names []) C X.env) (R1 X C)
def YE (n:Nat)(wi:TI)(g:Bk->TG)(tc:Bk->TT)(te:Bk->TE):TE:=fun σ H Q=>wi σ H fun J H1=>∀(D:Addr)(b:Bk),H1 D=none->∃ W:Nat->Nat->List V->St->Hp->Prop,
 (∃ m,W 0 m [] (List.replicate n none++σ) (upd H1 D (.lst [])))/\∀ i m ys σ H,W i m ys σ H ->
  (J.stop i H/\Q (.ref D) H)\/(J.go i H/\∀ x H',J.X5 i H x H'->g b x σ H' fun σ2 H2=>tc b σ2 H2 fun ok H3 =>
   if ok=true then te b σ2 H3 fun y H4=>H4 D=some (.lst ys)/\ys.length<sizeLine/\∃ m',m'<m/\W (i+1) m' (ys++[y]) σ2 (upd H4 D (.lst (ys++[y])))
   else ∃ m',m'<m/\W (i+1) m' ys σ2 H3)
section
variable {X:Cx} {tg iter elt:Expr} {ifs:List Expr} {scope:Scope} {pos:Pos} {cn:List Str} {wi:TI} {g:Bk->TG} {tc:Bk->TT} {te:Bk->TE} {TH:Bk->Prop}
theorem P8 {pins:List (Addr×Obj)}{σ:St}{H:Hp}{s₂:Shared}{it:Addr}{fp:List Addr}{tn:Nat->Heap->Prop}{J:It}{RR:Value->Addr->Result->Shared->Prop}{QQ:Addr->Hp->Prop}{EE:Value->Shared->Prop}
  (hcalm:X.calm=true) (F:cz X.env.scope X.N scope) (hg:∀ b,TH b->PG (cG X cn scope b) tg (g b)) (ht:∀ b,TH b->PF (cG X cn scope b) ifs (tc b)) (he:∀ b,TH b->PE (cG X cn scope b) elt (te b))
  (hTH:∀ C,s₂.heap.objs.size<=C->TH ⟨C,s₂,H,fp,qW X scope C⟩)
  (I:Inv X pins σ H s₂) (T:Turn X.prog X.w X.K tg J fp it tn) (st:tn 0 s₂.heap) (hf:∀ b∈fp,l8 X pins H b)
  (h:∀(D:Addr)(b:Bk),H D=none->∃ W:Nat->Nat->List V->St->Hp->Prop,(∃ m,W 0 m [] (List.replicate cn.length none++σ) (upd H D (.lst [])))/\∀ i m ys σ H,W i m ys σ H ->
   (J.stop i H/\QQ D H)\/(J.go i H/\∀ x H',J.X5 i H x H'->g b x σ H' fun σ2 H2=>tc b σ2 H2 fun ok H3 =>
    if ok=true then te b σ2 H3 fun y H4=>H4 D=some (.lst ys)/\ys.length<sizeLine/\∃ m',m'<m/\W (i+1) m' (ys++[y]) σ2 (upd H4 D (.lst (ys++[y])))
    else ∃ m',m'<m/\W (i+1) m' ys σ2 H3))
  (hR:∀ C D σ' H' s',s₂.heap.objs.size<=C->Inv (cG X cn scope ⟨C,s₂,H,fp,qW X scope C⟩) [] σ' H' s'->QQ D H'->RR (.ref D) C (.ok .next) s')
  (hE:∀ C D e s',R1 X C e s'->RR (.ref D) C (.error e) s') :
  wpAny (model X.prog X.w) X.A (newList []) (fun acc s₃=>wpAny (model X.prog X.w) X.A (newFunctionEnv scope X.env.globals (fH X.env scope.names []) [] X.env.qual none .none (some X.env)) (fun cenv s₄ =>
   codeAny (model X.prog X.w) X.A (.compStart (.ListComp elt [⟨tg,iter,ifs,0⟩] scope pos) 0 (.ref it) acc { cenv with scope:=relabel scope X.env }) (RR acc cenv.locals) s₄) EE s₃) EE s₂:=by
 refine wpAny_newObj_type (wpAny_newFunctionEnv F.YD (by intro y hy;simp at hy) (fun h₁ hns₁ hsb₁=>?_) F.kind);dsimp only at hns₁ hsb₁ ⊢;generalize hH2:s₂.heap.push { cls:=.type "list",dict:=none,data:=.seq ([]:List Value).toArray } = H2 at hns₁ hsb₁ ⊢;have hC:H2.objs.size=s₂.heap.objs.size+1:=by rw[<-hH2,Heap.size_push]
 have hDC:s₂.heap.objs.size≠H2.objs.size:=by omega
 have hCle:s₂.heap.objs.size<=H2.objs.size:=by omega
 have hfl:∀ b∈fp,b<s₂.heap.objs.size:=fun b hb=>by
  obtain⟨o,e,_⟩:=T.obj 0 _ st b hb;exact Heap.lt_size e
 have agw:∀ b o,s₂.heap.get? b=some o->H2.get? b=some o:=fun b o e=>hH2 ▸ Heap.get?_push_of_some _ e;have old:∀ b o,s₂.heap.get? b=some o->h₁.get? b=some o:=fun b o e=>by
  have hb:=Heap.lt_size e;refine hsb₁.extBut b o (Nat.ne_of_lt (Nat.lt_of_lt_of_le hb hCle)) (Heap.get?_push_of_some _ (agw b o e))
 have hacc:h₁.get? s₂.heap.objs.size=some { cls:=.type "list",data:=.seq ([]:List Value).toArray 0 } :=
  hsb₁.extBut _ _ hDC (Heap.get?_push_of_some _ (hH2 ▸ Heap.get?_push_size _ rfl))
 have I0:=Inv.block (cn:=cn) (xe:=qW X scope H2.objs.size) (tk:=s₂.toks+([]:List (Str×Value)).length) I F hcalm hf hfl hCle (Nat.le_refl _) hDC hns₁ old hacc;have th:=hTH _ hCle;obtain⟨W,⟨m0,w0⟩,turn⟩:=h s₂.heap.objs.size ⟨H2.objs.size,s₂,H,fp,qW X scope H2.objs.size⟩ (I.hok.fresh (Nat.le_refl _));have fpx:∀{H':Hp},(∀ b∈fp,H' b=none)->∀ b∈fp,l8 (cG X cn scope ⟨H2.objs.size,s₂,H,fp,qW X scope H2.objs.size⟩) [] H' b:=fun {H'} hn b hb=>by
  refine⟨hn b hb,(I0.ok.exf b hb).1,I0.ok.X9 b hb,.inl hb,(I0.ok.exf b hb).2,fun p hp=>absurd (show p∈([]:List (Addr×Obj)) from hp) (by simp)⟩
 have abT:(cG X cn scope ⟨H2.objs.size,s₂,H,fp,qW X scope H2.objs.size⟩).calm=true:=hcalm;have loop:∀ s₃:Shared,s₃ = { s₂ with heap:=h₁,toks:=s₂.toks+([]:List (Str×Value)).length } ->
   codeAny (model X.prog X.w) X.A (.compLoop (.ListComp elt [⟨tg,iter,ifs,0⟩] scope pos) 0 (.ref it) (.ref s₂.heap.objs.size) (compEnvC scope (fH X.env scope.names []) H2.objs.size X.env))
    (RR (.ref s₂.heap.objs.size) H2.objs.size) s₃:=by
  rintro s₃ rfl;have toE:∀ e s',(cG X cn scope ⟨H2.objs.size,s₂,H,fp,qW X scope H2.objs.size⟩).xe e s' ->
    notedBy (model X.prog X.w) X.A (compEnvC scope (fH X.env scope.names []) H2.objs.size X.env) (fun e s'=>RR (.ref s₂.heap.objs.size) H2.objs.size (.error e) s') e s':=fun e s' z =>
   wpAny_mono (show notedBy (model X.prog X.w) X.A (compEnvC scope (fH X.env scope.names []) H2.objs.size X.env) (R1 X H2.objs.size) e s' from z) (fun _ _ q=>hE _ _ _ _ q) fun _ _ q=>hE _ _ _ _ q
  refine VU (env:=compEnvC scope (fH X.env scope.names []) H2.objs.size X.env)
   (fun n s'=>∃ i ys σ' H',Inv (cG X cn scope ⟨H2.objs.size,s₂,H,fp,qW X scope H2.objs.size⟩) [] σ' H' s'/\tn i s'.heap/\(∀ b∈fp,H' b=none)/\W i n ys σ' H') ?_ m0
   ⟨0,[],_,_,I0,T.keep _ _ _ st fun b _ o e=>old b o e,fun b hb=>?_,w0⟩
  ·rintro n s' ⟨i,ys,σ',H',I',st',fr',w'⟩;rcases turn i n ys σ' H' w' with ⟨stop,qn⟩|⟨go,step⟩
   ·refine wpAny_mono (T.done (cG X cn scope ⟨H2.objs.size,s₂,H,fp,qW X scope H2.objs.size⟩) rfl rfl rfl abT i [] s' σ' H' (fun _ _=>False) I' (fpx fr') st' stop) (fun r s4 ⟨hr,I4⟩=>?_) fun _ _ z=>z.elim;exact .inl ⟨hr,hR _ _ _ _ _ hCle I4 qn⟩
   ·refine wpAny_mono (T.item (cG X cn scope ⟨H2.objs.size,s₂,H,fp,qW X scope H2.objs.size⟩) rfl rfl rfl abT i [] s' σ' H' (fun _ _=>False) I' (fpx fr') st' go) (fun r s4 ⟨u,hr,h4⟩=>?_) fun _ _ z=>z.elim;refine .inr ⟨u,hr,wpAny_mono h4 (fun _ s5 ⟨x,H5,I5,r5,y5,st5,fr5⟩=>?_) fun _ _ z=>z.elim⟩;have I5':=I5.pinned (fpx fr5) (T.obj _ _ st5);refine wpAny_mono (hg _ th _ s5 σ' H5 x u _ I5' r5 (step x H5 y5)) (fun _ s6 ⟨σ6,H6,I6,q6⟩=>?_) toE;refine wpAny_mono (ht _ th _ s6 σ6 H6 _ I6 q6) (fun ok s7 ⟨H7,I7,q7⟩=>?_) toE;have back:∀{σ8:St} {H8:Hp} {s8:Shared},Inv (cG X cn scope ⟨H2.objs.size,s₂,H,fp,qW X scope H2.objs.size⟩) ([]++GJ fp s5.heap) σ8 H8 s8->tn (i+1) s8.heap/\∀ b∈fp,H8 b=none:=fun {σ8 H8 s8} I8=>by
     refine⟨T.keep _ _ _ st5 fun b hb o e=>(I8.pin (b,o) (mem_append_right _ (mem_append_right _ (rS hb e)))).1,fun b hb=>?_⟩;obtain⟨o,e,d⟩:=T.obj _ _ st5 b hb;exact(I8.pin (b,o) (mem_append_right _ (mem_append_right _ (rS hb e)))).2.1
    cases ok with
    |false =>
     rw[if_neg Bool.false_ne_true]at q7 ⊢;obtain⟨m',hm,w7⟩:=q7;obtain⟨t8,f8⟩:=back I7;exact⟨m',hm,i+1,ys,σ6,H7,I7.uK,t8,f8,w7⟩
    |true =>
     rw[if_pos rfl]at q7 ⊢;refine wpAny_mono (he _ th _ s7 σ6 H7 _ I7 q7) (fun v s8 ⟨y,H8,I8,r8,hl,hz,m',hm,w8⟩=>?_) toE;refine wpAny_mono (aZ (X:=cG X cn scope ⟨H2.objs.size,s₂,H,fp,qW X scope H2.objs.size⟩) _ s8 σ6 H8 (.ref s₂.heap.objs.size) [y] (.ref s₂.heap.objs.size) [v] (fun _ H9=>W (i+1) m' (ys++[y]) σ6 H9) I8 rfl (.cons r8 .nil) ⟨_,ys,y,rfl,rfl,hl,hz,w8⟩)
      (fun _ s9 ⟨_,H9,I9,_,w9⟩=>?_) toE
     obtain⟨t9,f9⟩:=back I9;exact⟨m',hm,i+1,_,σ6,H9,I9.uK,t9,f9,w9⟩
  ·rw[ak (Nat.ne_of_lt (hfl b hb))];exact(hf b hb).1
 exact codeAny_compStart_list (loop _ rfl) (T.self _ 0 _ _ _ (T.keep _ _ _ st fun b _ o e=>old b o e) (loop _ rfl))
theorem YF (hcalm:X.calm=true)(F:cz X.env.scope X.N scope)(hi:PI X tg iter wi)(hg:∀ b,TH b->PG (cG X cn scope b) tg (g b))(ht:∀ b,TH b->PF (cG X cn scope b) ifs (tc b))
  (he:∀ b,TH b->PE (cG X cn scope b) elt (te b))
  (hTH:∀ pins σ H s₂ fp C,Inv X pins σ H s₂->(∀ b∈fp,l8 X pins H b)->s₂.heap.objs.size<=C->TH ⟨C,s₂,H,fp,qW X scope C⟩)
  (hs:∀ x,foldedSetIterable iter X.env x=pure x:=by intro _;rfl):PE X (.ListComp elt [⟨tg,iter,ifs,0⟩] scope pos) (YE cn.length wi g tc te):=by
 intro pins s σ H Q I h;rw[eval_ListComp];have hcl:closureFor scope X.env=pure (fH X.env scope.names []):=UX fun p hp e=>I.ok.has p.1 (F.free p hp e);refine wpAny_comprehension_free (use:=none) rfl hs hcl F.kind F.loc (cT (hi pins s σ H _ I h) fun xv s₁ h₁=>cT h₁ fun itv s₂ h₂=>?_);obtain⟨it,fp,tn,J,H2,rfl,I2,T,st,f2,R⟩:=h₂;refine P8 (QQ:=fun D H'=>Q (.ref D) H') (RR:=fun acc C=>compPost (model X.prog X.w) X.A X.xe none (EP X pins σ Q) acc C) hcalm F hg ht he (fun C hC=>hTH pins σ H2 s₂ fp C I2 f2 hC) I2 T st f2 R ?_ ?_
 ·intro C D σ' H' s' hC I' q;obtain⟨m,hm,_⟩:=I'.loc;exact⟨m,hm,fun h' sb=>⟨.ref D,H',I2.UZ f2 hC I' sb,rfl,q⟩⟩
 ·intro C D e s' z;exact z
theorem fX (hcalm:X.calm=true)(F:cz X.env.scope X.N scope)(hi:PI X tg iter wi)(hg:∀ b,PG (cG X cn scope b) tg (g b))(ht:∀ b,PF (cG X cn scope b) ifs (tc b))(he:∀ b,PE (cG X cn scope b) elt (te b))
  (hs:∀ x,foldedSetIterable iter X.env x=pure x:=by intro _;rfl):PE X (.ListComp elt [⟨tg,iter,ifs,0⟩] scope pos) (YE cn.length wi g tc te) :=
 YF (TH:=fun _=>True) hcalm F hi (fun b _=>hg b) (fun b _=>ht b) (fun b _=>he b) (fun _ _ _ _ _ _ _ _ _=>trivial) hs
end
end L2
set_option maxHeartbeats 4000000
namespace L2
open PySem PySem.Spec PyProof.Rows
section
variable {X:Cx} {e:Expr} {es:List Expr} {te:TE} {pos:Pos}
abbrev TP1:=St->Hp->(Str->Hp->Prop)->Prop
abbrev TPs:=Str->St->Hp->(Str->Hp->Prop)->Prop
def agy (X:Cx)(pins:List (Addr×Obj))(σ:St)(Q:Str->Hp->Prop)(u:Value)(s':Shared):Prop:=∃ y t H',u=.str y t/\Inv X pins σ H' s'/\Q y H'
def PP (X:Cx)(e:Expr)(t:TP1):Prop :=
 ∀(pins:List (Addr×Obj)) (s:Shared) (σ:St) (H:Hp) (Q:Str->Hp->Prop),Inv X pins σ H s->t σ H Q->wpAny (model X.prog X.w) X.A (eval e X.env) (agy X pins σ Q) X.xe s
def PPs (X:Cx)(es:List Expr)(t:TPs):Prop :=
 ∀(pins:List (Addr×Obj)) (s:Shared) (σ:St) (H:Hp) (acc:Str) (Q:Str->Hp->Prop),Inv X pins σ H s->t acc σ H Q ->
  Joins (model X.prog X.w) X.A X.xe (evalEach es X.env) acc (fun out s₁=>∃ H',Inv X pins σ H' s₁/\Q out H') s
def tPC (x:Str):TP1:=fun _ H Q=>Q x H
def tPV (te:TE):TP1:=fun σ H Q=>te σ H fun v H1=>(∃ z,v=.str z/\z.length<=sizeLine/\Q z H1)\/∃ i:Int,v=.int i/\i.natAbs.log2<1920/\Q (toString i) H1
theorem hZ {x j}:PP X (.Constant (.str x) j pos) (tPC x):=fun _ _ _ H _ I h=>Calls.Constant_str ⟨x,_,H,rfl,I.tok _,h⟩
theorem md (he:PE X e te):PP X (.FormattedValue e (-1) none pos) (tPV te):=by
 intro pins s σ H Q I h;refine FormattedValue_plain (cT (he pins s σ H _ I h) fun v s1 ⟨x,H1,I1,r1,q1⟩=>?_);rcases q1 with ⟨z,rfl,hz,q⟩|⟨i,rfl,hi,q⟩
 ·obtain⟨t,rfl⟩:=r1;exact formatField_str (fun t' tk=>⟨z,t',H1,rfl,I1.tok _,q⟩) hz
 ·obtain⟨t,rfl⟩:=r1;exact formatField_int_small hi ⟨_,_,H1,rfl,I1.tok _,q⟩
def tJ0:TPs:=fun acc _ H Q=>Q acc H
def tJ (t:TP1)(u:TPs):TPs:=fun acc σ H Q=>t σ H fun y H1=>(acc++y).length<=sizeLine/\u (acc++y) σ H1 Q
theorem Mz:PPs X [] tJ0:=fun _ _ _ H _ _ I h=>⟨H,I,h⟩
theorem bJ {t:TP1}{u:TPs}(h1:PP X e t)(h2:PPs X es u):PPs X (e::es) (tJ t u):=by
 intro pins s σ H acc Q I h;refine wpAny_mono (h1 pins s σ H _ I h) (fun v s1 q=>?_) fun _ _ z=>z;obtain⟨y,tk,H1,rfl,I1,hz,q⟩:=q;exact⟨y,tk,rfl,hz,h2 pins s1 σ H1 _ Q I1 q⟩
def tF (u:TPs):TE:=fun σ H Q=>u Str.empty σ H fun out H1=>out.length<=sizeLine/\Q (.str out) H1
theorem MA {e2:Expr}{u:TPs}(h:PPs X (e::e2::es) u):PE X (.JoinedStr (e::e2::es) pos) (tF u):=by
 intro pins s σ H Q I hw;refine wpAny_JoinedStr ?_;have mono:∀(l:List (Sem Value)) (acc:Str) (Q1 Q2:Str->Shared->Prop) (s:Shared),(∀ o s,Q1 o s->Q2 o s)->Joins (model X.prog X.w) X.A X.xe l acc Q1 s->Joins (model X.prog X.w) X.A X.xe l acc Q2 s:=by
  intro l
  induction l with
  |nil=>intro acc Q1 Q2 s hm h;exact hm _ _ h
  |cons a l ih =>
   intro acc Q1 Q2 s hm h;refine wpAny_mono h (fun v s1 q=>?_) fun _ _ z=>z;obtain⟨y,t,e1,hz,q⟩:=q;exact⟨y,t,e1,hz,ih _ _ _ _ hm q⟩
 refine mono _ _ _ _ _ (fun out s1 q=>?_) (h pins s σ H _ _ I hw);obtain⟨H1,I1,hz,q⟩:=q;exact⟨hz,.str out,H1,I1.tok _,⟨_,rfl⟩,q⟩
theorem fu:jo X (.type "int") (fun xs H Q=>∃ z n,xs=[.str z]/\PySem.intText? z=some n/\z.length<=640/\Q (.int n) H):=by
 intro pins s σ H xs us Q I r h;obtain⟨z,n,rfl,hn,hl,q⟩:=h;obtain⟨u,rfl,t,rfl⟩:=r.one;exact PySem.W.KIN.call_text hn hl ⟨.int n,H,I.tok _,⟨_,rfl⟩,q⟩
theorem GQ {ys:List Str}:∀{us:List Value},Vals (ys.map V.str) us->StrsAre us ys:=by
 induction ys with
 |nil=>intro us r;rw[List.map_nil]at r;cases r;exact .nil
 |cons n ns ih =>
  intro us r;rw[map_cons]at r;cases r with
  |cons r1 r2 =>
   obtain⟨t,e⟩:=r1;subst e;exact .cons n t (ih r2)
def rJoin (K:Frag):V->List V->Hp->VK->Prop:=fun x vs H Q=>∃ sep a ys,x=.str sep/\vs=[.ref a]/\aR K H a (ys.map V.str)/\(ys.map (·.length)).sum+ys.length * sep.length<=16777216/\Q (.str (Str.join sep ys)) H
theorem Gz:MtM X "str.join" (rJoin X.K):=by
 intro pins s σ H x vs v us Q I rx rv h;obtain⟨sep,a,ys,rfl,rfl,hq,hz,q⟩:=h;obtain⟨t,rfl⟩:=rx;obtain⟨u,rfl,rfl⟩:=rv.one;obtain⟨its,r,p,_⟩:=I.list hq;refine join_list p.isList (GQ r) hz fun t' k=>⟨.str (Str.join sep ys),H,I.tok _,⟨t',?_⟩,q⟩;show Value.str (Builtin.Str.glued sep ys) t'=_;rw[StrLaws.glued_eq_join]
def agz:V->Option Int->Option Int->Hp->VK->Prop:=fun x lo hi H Q=>∃ z,x=.str z/\z.length<=sizeLine/\Q (.str (Txt.slice z lo hi)) H
theorem LB {v:Value}{o:Option Int}(p:IsPart v o):∃ l:Option (Int×Tok),v=partValue l/\l.map (·.1)=o:=by
 cases p with
 |none=>exact⟨none,rfl,rfl⟩
 |int i t=>exact⟨some (i,t),rfl,rfl⟩
theorem YG:SlR X agz:=by
 intro pins s σ H x v vl vu lo hi sl Q I rx hs pl pu h;obtain⟨z,rfl,hz,q⟩:=h;obtain⟨t,rfl⟩:=rx;obtain⟨l,rfl,el⟩:=LB pl;obtain⟨u,rfl,eu⟩:=LB pu;subst el eu;refine⟨"str",_,F.slot_str_getitem.lookup,typeIs_str _ _ _,?_⟩;obtain⟨o,ho,hc,hd⟩:=hs;refine wpAny_getItem_str_slice (l:=l) (u:=u) (st:=none) ⟨o,ho,hc,hd⟩ rfl ?_;exact post_val_or_str ⟨Nat.le_trans (Txt.slice_le z _ _) hz,fun t' k=>⟨.str _,H,I.tok _,⟨t',rfl⟩,q⟩⟩
def Its (z:Str):It:=⟨fun i _=>i<z.cps.size,fun i H x H'=>H'=H/\∃ c,z.cps[i]? = some c/\x=.str ⟨#[c]⟩,fun i _=>z.cps.size<=i⟩
def agB (tl:TE):TI:=fun σ H R=>tl σ H fun x H1=>∃ z,x=.str z/\R (Its z) H1
theorem P9 {P:Program}{w:World}{K:Frag}{tg:Expr}{z:Str}{it:Addr}{T:String}{t:Tok}(hT:["enumerate","zip","dict_itemiterator","dict_reverseitemiterator","odict_iterator","itertools.zip_longest","itertools.pairwise"].contains T=false)
  (W:∀ A:Around,A.handled=none->Walks P w A it [it] [it] z.cps.size (SignAt z) (fun i h=>h.IsStrIter it T z t i)) 
  (S:∀(A:Around)(i:Nat)(s:Shared)(Q:Value->Shared->Prop)(E:Value->Shared->Prop),s.heap.IsStrIter it T z t i->Q (.ref it) s->wpAny (model P w) A (pyIter (.ref it)) Q E s) :
  Turn P w K tg (Its z) [it] it (fun i h=>h.IsStrIter it T z t i/\i<=z.cps.size) where
 mem:=by simp
 obj:=fun i h st b hb=>by
  have e:b=it:=by simpa using hb
  subst e;obtain⟨⟨o,e,c,d⟩,_⟩:=st;exact⟨o,e,fun v q=>by rw[d]at q;cases q⟩
 keep:=fun i h h' st k=>⟨by
  obtain⟨⟨o,e,c,d⟩,_⟩:=st;exact⟨o,k it (by simp) o e,c,d⟩,st.2⟩
 item:=by
  intro X hP hw hK hc i pins s σ H E I hf st hg;subst hP hw hK;obtain⟨f0,f1,f2,f3,f4,f5⟩:=hf it (by simp);have hgi:i<z.cps.size:=hg;refine(W X.A (I.ok.hd hc)).item i s _ _ hgi st.1 fun v h' tk hv st' kk=>?_;obtain⟨c,u,hc',rfl⟩:=hv;have I1:Inv X pins σ H { s with heap:=h',toks:=tk }:=I.turned (fun b o hb e=>kk b o (by simpa using hb) e) f0 f1 f3 f4 f5;obtain⟨o,e,cc,d⟩:=id st';exact⟨_,rfl,UJ (s:={ s with heap:=h',toks:=tk }) e cc d hT ⟨.str ⟨#[c]⟩,H,I1,⟨u,rfl⟩,⟨rfl,c,hc',rfl⟩,⟨st',hgi⟩,fun b hb=>(hf b hb).1⟩⟩
 done:=by
  intro X hP hw hK hc i pins s σ H E I hf st hg;subst hP hw hK;obtain⟨f0,f1,f2,f3,f4,f5⟩:=hf it (by simp);have hge:z.cps.size<=i:=hg;have e:i=z.cps.size:=Nat.le_antisymm st.2 hge;subst e;exact(W X.A (I.ok.hd hc)).done s _ _ st.1 fun h' tk kk=>⟨rfl,I.turned (fun b o hb e=>kk b o (by simpa using hb) e) f0 f1 f3 f4 f5⟩
 self:=fun A i s Q E st h=>S A i s Q E st.1 h
theorem acH {tg l:Expr}{tl:TE}(hl:PE X l tl):PI X tg l (agB tl):=by
 intro pins s σ H R I h;refine cT (hl pins s σ H _ I h) fun v s1 ⟨x,H1,I1,r1,q1⟩=>?_;obtain⟨z,rfl,q⟩:=q1;obtain⟨t,rfl⟩:=r1;have fp:∀ b∈[s1.heap.objs.size],l8 X pins H1 b:=fun b hb=>by
  have e:b=s1.heap.objs.size:=by simpa using hb
  subst e;exact I1.Mq (Nat.le_refl _) (I1.hok.fresh (Nat.le_refl _))
 cases ha:z.cps.all (· < 128)
 ·refine wpAny_pyIter_wide ha ?_;refine⟨s1.heap.objs.size,[s1.heap.objs.size],_,_,H1,rfl,I1.kept (t':=s1.toks) fun b o e=>Heap.get?_push_of_some _ e,P9 (T:="str_iterator") (t:=t) (by decide) (fun A hA=>Walks.strWide hA _ z t)
   (fun A i s Q E st hq=>wpAny_pyIter_striter_wide st hq),⟨⟨_,Heap.get?_push_size _ rfl,rfl,rfl⟩,Nat.zero_le _⟩,fp,q⟩
 ·refine wpAny_pyIter_ascii ha ?_;refine⟨s1.heap.objs.size,[s1.heap.objs.size],_,_,H1,rfl,I1.kept (t':=s1.toks) fun b o e=>Heap.get?_push_of_some _ e,P9 (T:="str_ascii_iterator") (t:=t) (by decide) (fun A hA=>Walks.strAscii hA _ z t)
   (fun A i s Q E st hq=>wpAny_pyIter_striter_ascii st hq),⟨⟨_,Heap.get?_push_size _ rfl,rfl,rfl⟩,Nat.zero_le _⟩,fp,q⟩
theorem any_range:∀ bs:List Bool,(List.range bs.length).any (fun i=>bs.getD i false)=bs.any id
 |[]=>rfl
 |b::bs=>by
  rw[length_cons,List.range_succ_eq_map,List.any_cons,List.any_map,List.any_cons];have:((fun i=>(b::bs).getD i false) ∘ Nat.succ)=fun i=>bs.getD i false:=by
   funext i
   rfl
  rw[this,any_range bs];rfl
theorem Qa:jo X (.builtin "any") (fun xs H Q=>X.calm=true/\∃(a:Addr)(bs:List Bool),xs=[.ref a]/\aR X.K H a (bs.map V.bl)/\Q (.bl (bs.any id)) H):=by
 intro pins s σ H xs us Q I r h;obtain⟨hc,a,bs,rfl,hq,q⟩:=h;obtain⟨u,rfl,rfl⟩:=r.one;obtain⟨its,rv,p,hz⟩:=I.list hq;have hl:=rv.length;rw[length_map]at hl;have acI:∀(i:Nat)(v:Value),its.toArray[i]? = some v->v=Value.bool (bs.getD i false):=by
  intro i v hv;have hv':its[i]? = some v:=by simpa using hv
  have hi:i<its.length:=(List.getElem?_eq_some_iff.mp hv').1;have hb:i<bs.length:=by omega
  obtain⟨u,hu,ru⟩:=rv.get (i:=i) (x:=.bl (bs[i])) (by rw[getElem?_map,getElem?_eq_getElem hb];rfl);rw[hv']at hu;cases hu;have:v=.bool bs[i]:=ru;rw[this,List.getD_eq_getElem?_getD,getElem?_eq_getElem hb];rfl
 refine call_any_walk (wpAny_pyIter_list p.isList ?_);have ane:a≠s.heap.objs.size:=by
  obtain⟨o,ho,_⟩:=p.isList;exact Nat.ne_of_lt (Heap.lt_size ho)
 have hd:X.A.in1.handled=none:=I.ok.hd hc;refine⟨s.heap.objs.size,_,_,_,_,_,fun i=>bs.getD i false,rfl,Walks.list hd s.heap.objs.size a ane its.toArray,⟨⟨_,Heap.get?_push_size _ rfl,rfl,rfl⟩,p.isList.push _⟩,?_,?_⟩
 ·intro i v s' Q' E' hP hQ';rw[acI i v hP];exact wpAny_truthy_bool hQ'
 ·intro h' tk kk;have e:(List.range its.toArray.size).any (fun i=>bs.getD i false)=bs.any id:=by
   rw[size_toArray,<-hl];exact any_range bs
  rw[e];refine⟨.bl _,H,I.kept (t':=tk) fun b o e=>kk b o (fun z=>?_) (Heap.get?_push_of_some _ e),rfl,q⟩;have:b=s.heap.objs.size:=by simpa using z
  exact absurd (Heap.lt_size e) (by rw[this];exact Nat.lt_irrefl _)
end
end L2
set_option maxHeartbeats 4000000
namespace L2
open PySem PySem.Spec PyProof.Rows PySem.SeqAt
inductive YH (K:Frag)(H:Hp):Nat->V->V->Prop where
 |flat {n:Nat} {x:V} (f:uh x=true):YH K H n x x
 |tup {n:Nat} {a b:Addr} {xs ys:List V} (ha:nR K H a xs) (hb:nR K H b ys) (hl:xs.length=ys.length) (h:∀(i:Nat) x y,xs[i]? = some x->ys[i]? = some y->YH K H n x y):YH K H (n+1) (.ref a) (.ref b)
 |lst {n:Nat} {a b:Addr} {xs ys:List V} (ha:aR K H a xs) (hb:aR K H b ys) (hl:xs.length=ys.length) (h:∀(i:Nat) x y,xs[i]? = some x->ys[i]? = some y->YH K H n x y):YH K H (n+1) (.ref a) (.ref b)
section
variable {X:Cx} {pins:List (Addr×Obj)} {σ:St} {H:Hp} {s:Shared}
theorem YI:∀{x:V},uh x=true->UT x x=true:=by
 intro x f;cases x <;> first|(simp[UT];done)|(cases f)
theorem uO (n:Nat):(List.range n).all (fun _=>true)=true:=by simp
theorem YH.at {n:Nat}{x y:V}(d:YH X.K H n x y)(I:Inv X pins σ H s):∀{A:Around} {u v:Value},A.units+n<cLine->RelV x u->RelV y v ->
  EqAt A s u v true/\(∀ a b,x=.ref a->y=.ref b->RcAt A s u v true/\RcNeAt A s u v false):=by
 induction d with
 | @flat n x f =>
  intro A u v hu ru rv;refine⟨?_,fun a b e _=>?_⟩
  ·have:=Yu (A:=A) (s:=s) ru rv f f;rw[YI f]at this;exact this
  ·subst e;cases f
 | @tup n a b xs ys ha hb hl h ih =>
  intro A u v hu ru rv;cases ru;cases rv;obtain⟨its,r,p,_⟩:=I.tuple ha;obtain⟨its',r',p',_⟩:=I.tuple hb;have e1:=r.length;have e2:=r'.length;have he:∀ j (h1:j<its.toArray.size) (h2:j<its'.toArray.size),EqAt A.in1 s its.toArray[j] its'.toArray[j] true:=by
   intro j h1 h2;have h1':j<its.length:=by simpa using h1
   have h2':j<its'.length:=by simpa using h2
   have g1:xs[j]? = some xs[j]:=getElem?_eq_getElem (by omega);have g2:ys[j]? = some ys[j]:=getElem?_eq_getElem (by omega);obtain⟨u1,q1,k1⟩:=r.get g1;obtain⟨u2,q2,k2⟩:=r'.get g2;have z1:its.toArray[j]=u1:=by
    rw[getElem?_eq_getElem h1']at q1
    simpa using q1
   have z2:its'.toArray[j]=u2:=by
    rw[getElem?_eq_getElem h2']at q2
    simpa using q2
   rw[z1,z2];exact(ih j _ _ g1 g2 (by show A.units+1+n<cLine;omega) k1 k2).1
  have bt:((List.range (min its.toArray.size its'.toArray.size)).all (fun _=>true)&&its.toArray.size==its'.toArray.size)=true:=by
   rw[uO];simp;omega
  have rc:RcAt A s (.ref a) (.ref b) true:=by
   have:=RcAt.tuples (A:=A) (e:=fun _=>true) (show s.heap.IsTuple a its.toArray from p) (show s.heap.IsTuple b its'.toArray from p') (by omega) he;rw[bt]at this;exact this
  have rn:RcNeAt A s (.ref a) (.ref b) false:=by
   have:=RcNeAt.tuples (A:=A) (e:=fun _=>true) (show s.heap.IsTuple a its.toArray from p) (show s.heap.IsTuple b its'.toArray from p') (by omega) he;rw[bt]at this;exact this
  refine⟨?_,fun _ _ _ _=>⟨rc,rn⟩⟩
  by_cases e:a=b
  ·subst e;exact EqAt.same _
  ·exact EqAt.of_refs e rc
 | @lst n a b xs ys ha hb hl h ih =>
  intro A u v hu ru rv;cases ru;cases rv;obtain⟨its,r,p,_⟩:=I.list ha;obtain⟨its',r',p',_⟩:=I.list hb;have e1:=r.length;have e2:=r'.length;have he:∀ j (h1:j<its.toArray.size) (h2:j<its'.toArray.size),EqAt A.in1 s its.toArray[j] its'.toArray[j] true:=by
   intro j h1 h2;have h1':j<its.length:=by simpa using h1
   have h2':j<its'.length:=by simpa using h2
   have g1:xs[j]? = some xs[j]:=getElem?_eq_getElem (by omega);have g2:ys[j]? = some ys[j]:=getElem?_eq_getElem (by omega);obtain⟨u1,q1,k1⟩:=r.get g1;obtain⟨u2,q2,k2⟩:=r'.get g2;have z1:its.toArray[j]=u1:=by
    rw[getElem?_eq_getElem h1']at q1
    simpa using q1
   have z2:its'.toArray[j]=u2:=by
    rw[getElem?_eq_getElem h2']at q2
    simpa using q2
   rw[z1,z2];exact(ih j _ _ g1 g2 (by show A.units+1+n<cLine;omega) k1 k2).1
  have bt:(List.range its.toArray.size).all (fun _=>true)=true:=uO _;have rc:RcAt A s (.ref a) (.ref b) true:=by
   have:=RcAt.lists (A:=A) (e:=fun _=>true) p.isList p'.isList (by simp;omega) (by omega) he;rw[bt]at this;exact this
  have rn:RcNeAt A s (.ref a) (.ref b) false:=by
   have:=RcNeAt.lists (A:=A) (e:=fun _=>true) p.isList p'.isList (by simp;omega) (by omega) he;rw[bt]at this;exact this
  refine⟨?_,fun _ _ _ _=>⟨rc,rn⟩⟩
  by_cases e:a=b
  ·subst e;exact EqAt.same _
  ·exact EqAt.of_refs e rc
inductive abU (K:Frag)(b:Bool)(x:V)(y:V)(H:Hp)(Q:VK):Prop
 |mk (a:_) (c:_) (dC:x=.ref a) (dD:y=.ref c) (eK:YH K H 60 x y/\Q (.bl b) H):abU K b x y H Q
def aem (K:Frag)(b:Bool):R2:=fun x y H Q=>abU K b x y H Q
theorem a0 (hu:X.A.units+64<cLine):rT X (compareOp .Eq) (aem X.K true):=by
 intro pins s σ H x y v u Q I r1 r2 h;obtain⟨a,c,rfl,rfl,d,q⟩:=h;exact(((d.at I (A:=X.A) (by omega) r1 r2).2 a c rfl rfl).1) X.prog X.w X.xe _ ⟨.bl true,H,I,rfl,q⟩
theorem qj (hu:X.A.units+64<cLine):rT X (compareOp .NotEq) (aem X.K false):=by
 intro pins s σ H x y v u Q I r1 r2 h;obtain⟨a,c,rfl,rfl,d,q⟩:=h;exact(((d.at I (A:=X.A) (by omega) r1 r2).2 a c rfl rfl).2) X.prog X.w X.xe _ ⟨.bl false,H,I,rfl,q⟩
theorem dq:jo X (.builtin "isinstance") (fun xs H Q=>∃ x T t b,xs=[x,.ty T]/\hX X.K H x t/\kitOne X.K t (.type T)=some b/\Q (.bl b) H):=by
 intro pins s σ H xs us Q I r h;obtain⟨x,T,t,b,rfl,ty,e,q⟩:=h;obtain⟨u,v,rfl,r1,r2⟩:=r.two;cases r2;exact VO I r1 ty e fun tk=>⟨.bl b,H,I.tok _,rfl,q⟩
def Ite (K:Frag)(a:Addr):It :=
 ⟨fun i H=>∃ xs x,aR K H a xs/\xs[i]? = some x,fun i H x H'=>∃ y t,x=.ref t/\H t=none/\(∀ xs,aR K H a xs->xs[i]? = some y)/\H'=upd H t (.tup [.int i,y]),fun i H=>∃ xs,aR K H a xs/\xs.length<=i⟩
def Itz (K:Frag)(a b:Addr):It :=
 ⟨fun i H=>∃ xs ys x y,aR K H a xs/\aR K H b ys/\xs[i]? = some x/\ys[i]? = some y,
  fun i H p H'=>∃ x y t,p=.ref t/\H t=none/\(∀ xs,aR K H a xs->xs[i]? = some x)/\(∀ ys,aR K H b ys->ys[i]? = some y)/\H'=upd H t (.tup [x,y]),
  fun i H=>∃ xs ys,aR K H a xs/\aR K H b ys/\min xs.length ys.length=i⟩
theorem cb {a:Addr}{K:Frag}{X:Cx}{pins:List (Addr×Obj)}{σ:St}{H:Hp}{s:Shared}{xs:List V}{b:Addr}{o:Obj}(I:Inv X pins σ H s)(hq:aR X.K H a xs)(e:s.heap.get? b=some o)(hc:o.cls≠.type "list"):a≠b:=by
 rintro rfl;obtain⟨its,_,p,_⟩:=I.list hq;obtain⟨o',e',c',_⟩:=p.isList;rw[e]at e';cases e';exact hc c'
theorem Inv.Qb {tk:Nat}{h':Heap}{wr:List Addr}{T:Addr}{xs:List V}{vals:List Value}(I:Inv X pins σ H s)(hw:∀ b∈wr,l8 X pins H b)(hT:s.heap.objs.size<=T)(ht:h'.IsTuple T vals.toArray)(rv:Vals xs vals)(hz:xs.length<=sizeLine)
  (kk:∀ b o,b ∉ wr->s.heap.get? b=some o->h'.get? b=some o) (there:∀ b∈wr,∃ o,h'.get? b=some o):Inv X pins σ (upd H T (.tup xs)) { s with heap:=h',toks:=tk }:=by
 have YJ:H T=none:=I.hok.fresh hT;have nT:∀ b o,s.heap.get? b=some o->b≠T:=fun b o e=>Nat.ne_of_lt (Nat.lt_of_lt_of_le (Heap.lt_size e) hT);refine I.step (g':=s.gens) (d':=s.drawn) (ch:=wr) (fun b hb=>?_) (fun b o _ _ hc e _=>kk b o hc e) (fun b o _ _ hc e _=>⟨o.slots,kk b o hc e⟩) (fun b o _ e n=>by rw[ak (nT b o e)];exact n)
  (fun b o hc e=>⟨o,kk b o hc e⟩) (fun b ys e=>by rw[ak (ao e YJ)];exact e) (fun b o u e=>by rw[ak (ao e YJ)];exact e) (fun b ps e=>⟨#[],by rw[ak (ao e YJ),e];simp⟩) (fun m hm=>?_) (fun b u e=>?_) I.bare
 ·obtain⟨_,f1,_,f3,f4,f5⟩:=hw b hb;exact⟨f3,f1,f4,f5⟩
 ·obtain⟨o,es,ep,ho,r⟩:=hm;exact⟨o,es,ep,kk _ o (fun z=>(hw _ z).2.1 rfl) ho,r⟩
 ·by_cases hb:b=T
  ·subst hb;rw[ag]at e;cases e;exact⟨hz,vals,rv,ht⟩
  ·rw[ak hb]at e;refine(I.hok b u e).stay (fun c v hc q=>kk c v (fun z=>?_) q) (fun c q=>by rw[ak (ao q YJ)];exact q) fun c ys q=>by rw[ak (ao q YJ)];exact q
   have hn:=(hw c z).1;rcases hc with hc|hc
   ·rw[hc,e]at hn;cases hn
   ·rw[hc]at hn;cases hn
theorem Inv.iD {tk:Nat}{h':Heap}{wr:List Addr}(I:Inv X pins σ H s)(hw:∀ b∈wr,l8 X pins H b)(kk:∀ b o,b ∉ wr->s.heap.get? b=some o->h'.get? b=some o):Inv X pins σ H { s with heap:=h',toks:=tk }:=by
 refine I.step (g':=s.gens) (d':=s.drawn) (ch:=wr) (fun b hb=>?_) (fun b o _ _ hc e _=>kk b o hc e) (fun b o _ _ hc e _=>⟨o.slots,kk b o hc e⟩) (fun b o _ e n=>n)
  (fun b o hc e=>⟨o,kk b o hc e⟩) (fun b ys e=>e) (fun b o u e=>e) (fun b ps e=>⟨#[],by rw[e];simp⟩) (fun m hm=>?_) (fun b u e=>?_) I.bare
 ·obtain⟨_,f1,_,f3,f4,f5⟩:=hw b hb;exact⟨f3,f1,f4,f5⟩
 ·obtain⟨o,es,ep,ho,r⟩:=hm;exact⟨o,es,ep,kk _ o (fun z=>(hw _ z).2.1 rfl) ho,r⟩
 ·refine(I.hok b u e).stay (fun c v hc q=>kk c v (fun z=>?_) q) (fun c q=>q) fun c ys q=>q;have hn:=(hw c z).1;rcases hc with hc|hc
  ·rw[hc,e]at hn;cases hn
  ·rw[hc]at hn;cases hn
end
end L2
set_option maxHeartbeats 4000000
namespace L2
open PySem PySem.Spec PyProof.Rows PySem.SeqAt
section
variable {X:Cx}
theorem aM {k:Nat}{A:Around}(hr:kn k A):A.units+64<cLine:=hr.units
theorem bR:bootBuiltins "len"=some (.builtin "len"):=by lk
theorem acJ:bootBuiltins "min"=some (.builtin "min"):=by lk
theorem acK:bootBuiltins "max"=some (.builtin "max"):=by lk
theorem As:bootBuiltins "enumerate"=some (.type "enumerate"):=by lk
theorem YK:bootBuiltins "zip"=some (.type "zip"):=by lk
theorem a6:bootBuiltins "isinstance"=some (.builtin "isinstance"):=by lk
theorem yi:bootBuiltins "int"=some (.type "int"):=by lk
theorem U0:bootBuiltins "bool"=some (.type "bool"):=by lk
theorem R3:bootBuiltins "str"=some (.type "str"):=by lk
theorem jq:bootBuiltins "list"=some (.type "list"):=by lk
theorem Au:bootBuiltins "tuple"=some (.type "tuple"):=by lk
theorem YL:bootBuiltins "any"=some (.builtin "any"):=by lk
theorem acL:bootBuiltins "all"=some (.builtin "all"):=by lk
theorem MB:bootBuiltins "dict"=some (.type "dict"):=by lk
end
end L2
namespace L2
open PySem PySem.Spec PyProof.Rows
end L2
namespace L2
open PySem
theorem dS {K:Frag}{H:Hp}{a l:Addr}{o:HO}{xs:List V}(h:aR K H a xs)(hn:H l=none):aR K (upd H l o) a xs:=by
 have ne:∀{u},H a=some u->a≠l:=fun e=>ao e hn;rcases h with (h|⟨u,h⟩)|h
 ·exact .inl (.inl (by rw[ak (ne h)];exact h))
 ·exact .inl (.inr ⟨u,by rw[ak (ne h)];exact h⟩)
 ·exact .inr h
theorem aq.upd {H:Hp}{l:Addr}{o:HO}(hn:H l=none):aq H (upd H l o):=fun b u e=>by
 rw[ak (ao e hn)];exact e
end L2
namespace L2
theorem aO {X:Cx}{b:List PySem.Stmt}{t:TS}{D:Ends}{σ:St}{H:Hp}(h:RG X b t)(q:t D σ H):∃ t,RG X b t/\t D σ H:=⟨t,h,q⟩
theorem eC (i j:Int):decide (V.int i=V.int j)=decide (i=j):=by
 by_cases h:i=j
 ·subst h;simp
 ·rw[decide_eq_false h];exact decide_eq_false fun e=>h (V.int.inj e)
end L2
namespace L2
open PySem
theorem abV {X:Cx}:∀ cs:List (Str×Pos),PA X (cs.map fun c=>Expr.Constant (.str c.1) 0 c.2) (fun _ H Q=>Q (cs.map fun c=>V.str c.1) H)
 |[]=>ae
 |c::cs=>aa aY (abV cs)
end L2
namespace L2
open PySem
theorem YM {X:Cx}{i:Nat}{x:Str}{pos pos' p:Pos}(cs:List (Str×Pos))(hN:X.N.Nodup)(hi:X.N[i]? = some x)(hx:Loc X.env.scope x)(hf:X.fn x=true\/X.env.scope.names.lookup x=some .local:=by first|exact .inl rfl|exact .inr rfl|assumption) :
  PS X (.Assign [.Name x pos'] (.List (cs.map fun c=>Expr.Constant (.str c.1) 0 c.2) p) pos) (aaw (aed (fun _ H Q=>Q (cs.map fun c=>V.str c.1) H)) (Lq i)):=aL hN hi hx (b5 (abV cs)) rfl hf
end L2
set_option maxHeartbeats 4000000
namespace L2
open PySem PySem.Spec PyProof.Rows
section
variable {X:Cx} {tg:Expr}
theorem qX {pins:List (Addr×Obj)}{σ:St}{H:Hp}{s:Shared}{a:Addr}{xs:List V}{i:Nat}{y:V}(I:Inv X pins σ H s)(hq:aR X.K H a xs)(hy:xs[i]? = some y):∀ ys,aR X.K H a ys->ys[i]? = some y:=fun ys h=>by
 rw[I.PR h hq];exact hy
theorem VW {P:Program}{w:World}{K:Frag}{es:List Expr}{k:Nat}{tp:Pos}(a e it:Addr)(hei:e≠it) :
  Turn P w K (.Tuple es k tp) (Ite K a) [e,it] e (fun i h=>(∃ old,IsEnum h e it i old)/\h.IsListIter it a i) where
 mem:=by simp
 obj:=fun i h st b hb=>by
  obtain⟨⟨old,he⟩,o,e2,c,d⟩:=st;rcases List.mem_cons.mp hb with rfl|hb
  ·exact⟨_,he,fun v z=>by
    have z':Data.fields _=Data.cell v:=z;cases z'⟩
  ·have:b=it:=by simpa using hb
   subst this;exact⟨o,e2,fun v z=>by rw[d]at z;cases z⟩
 keep:=fun i h h' st kp=>by
  obtain⟨⟨old,he⟩,hit⟩:=st;exact⟨⟨old,kp e (by simp) _ he⟩,hit.at fun o x=>kp it (by simp) o x⟩
 item:=by
  intro X hP hw hK hc i pins s σ H E I hf st hg;subst hP hw hK;obtain⟨xs,x,hq,hx⟩:=hg;obtain⟨its,rv,p,hz⟩:=I.list hq;obtain⟨u,hu,ru⟩:=rv.get hx;obtain⟨⟨old,he⟩,hit⟩:=st;have hle:a≠e:=cb (K:=X.K) I hq he (by intro z;injection z with z;exact absurd z (by decide));have hli:a≠it:=by
   obtain⟨o,e2,c,_⟩:=hit;exact cb (K:=X.K) I hq e2 (by rw[c];intro z;injection z with z;exact absurd z (by decide))
  have hiu:i<its.toArray.size:=by
   have:=(List.getElem?_eq_some_iff.mp hu).1
   simpa using this
  have W:=WalksT.enumerate (prog:=X.prog) (w:=X.w) (I.ok.hd hc) e it a hei hle hli its.toArray;refine W.item i s _ _ hiu ⟨⟨old,he⟩,hit,p.isList⟩ fun T vals h' tk hv hT ht mid kk=>?_;refine⟨_,rfl,?_⟩;obtain⟨t,x',hx',rfl⟩:=hv;have ex:x'=u:=by
   have:its[i]? = some x':=by simpa using hx'
   rw[hu]at this;exact(Option.some.inj this).symm
  subst ex;have fw:∀ b∈[e,it],l8 X pins H b:=hf;have I1:Inv X pins σ (upd H T (.tup [.int i,x])) { s with heap:=h',toks:=tk }:=by
   refine I.Qb (vals:=[.int i t,x']) fw hT (by simpa using ht) (.cons ⟨t,rfl⟩ (.cons ru .nil)) (by show 2<=sizeLine;decide) kk fun b hb=>?_;obtain⟨⟨xx,ho⟩,⟨o,e2,_⟩,_⟩:=mid;rcases List.mem_cons.mp hb with rfl|hb
   ·exact⟨_,ho⟩
   ·have:b=it:=by simpa using hb
    subst this;exact⟨o,e2⟩
  have YJ:H T=none:=I.hok.fresh hT;have neT:∀ b∈[e,it],b≠T:=fun b hb z=>by
   subst z;exact W.apart i b _ mid hb
  refine W.go es k tp i T _ _ _ mid fun h'' st'' acM=>?_;have hf2:∀ b∈[e,it],l8 X pins (upd H T (.tup [.int i,x])) b:=fun b hb=>by
   obtain⟨f0,fr⟩:=hf b hb;exact⟨by rw[ak (neT b hb)];exact f0,fr⟩
  refine⟨.ref T,upd H T (.tup [.int i,x]),I1.iD (tk:=tk) hf2 acM,rfl,⟨x,T,rfl,YJ,qX I hq hx,rfl⟩,⟨st''.1,st''.2.1⟩,fun b hb=>(hf2 b hb).1⟩
 done:=by
  intro X hP hw hK hc i pins s σ H E I hf st hg;subst hP hw hK;obtain⟨xs,hq,hx⟩:=hg;obtain⟨its,rv,p,hz⟩:=I.list hq;obtain⟨⟨old,he⟩,hit⟩:=st;have hl:=rv.length;refine wpAny_pyNext_enum_end (I.ok.hd hc) he hit p.isList (Array.getElem?_eq_none (by simp;omega)) fun h' hx'=>?_;exact⟨rfl,I.iD (tk:=s.toks) hf fun b o hb q=>hx' b o (fun z=>hb (by simp[z])) q⟩
 self:=fun _ _ _ _ _ st h=>by
  obtain⟨⟨old,he⟩,_⟩:=st;exact wpAny_pyIter_enum he h
theorem acN {l:Expr}{tl:TE}(hl:PE X l tl)(hs:starEach [l] X.env=[(false,eval l X.env)])(pos:Pos)(pins:List (Addr×Obj))(s:Shared)(σ:St)(H:Hp){Q:VK}(I:Inv X pins σ H s)(h:tl σ H Q) :
  wpAny (model X.prog X.w) X.A (spliced (backTo pos (starEach [l] X.env))) (fun us s1=>∃ v u H1,Inv X pins σ H1 s1/\us=[u]/\RelV v u/\Q v H1) X.xe s:=by
 have ha:PA X [l] (fun σ H Q=>tl σ H fun x H1=>Q [x] H1):=aa hl ae hs;have mono:wpAny (model X.prog X.w) X.A (spliced (backTo pos (starEach [l] X.env))) (AP X pins σ fun vs H1=>∃ v,vs=[v]/\Q v H1) X.xe s:=by
  have he:PE X l (fun σ' H' Q'=>σ'=σ/\H'=H/\∀ v H1,Q v H1->Q' v H1):=by
   intro pins s σ' H' Q' I' hw;obtain⟨rfl,rfl,hm⟩:=hw;exact cT (hl pins s σ' H' Q I' h) fun u s1 ⟨v,H1,I1,r,q⟩=>⟨v,H1,I1,r,hm v H1 q⟩
  exact aa he ae hs pos pins s σ H _ I ⟨rfl,rfl,fun v H1 q=>⟨v,rfl,q⟩⟩
 refine cT mono fun us s1 ⟨vs,H1,I1,r,v,e,q⟩=>?_;subst e;obtain⟨u,rfl,ru⟩:=r.one;exact⟨v,u,H1,I1,rfl,ru,q⟩
inductive YN (K:Frag)(R:(It->Hp->Prop))(x:V)(H1:Hp):Prop
 |mk (a:_) (dC:x=.ref a) (dD:(∃ xs,aR K H1 a xs)/\R (Ite K a) H1):YN K R x H1
def aep (K:Frag)(tl:TE):TI:=fun σ H R=>tl σ H fun x H1=>YN K R x H1
theorem U1 {l:Expr}{tl:TE}{p pos tp:Pos}{es:List Expr}{k:Nat}(hg:Gl X "enumerate")(hm:X.mg "enumerate"=none)(hl:PE X l tl)(hs:starEach [l] X.env=[(false,eval l X.env)]:=by rfl) :
  PI X (.Tuple es k tp) (.Call (.Name "enumerate" p) [l] [] pos) (aep X.K tl):=by
 intro pins s σ H R I h;refine Call_ (qg I hg hm As (PyProof.Rows.callWith_type1 (cT (acN hl hs pos pins s σ H I h) fun us s1 ⟨v,u,H1,I1,e1,r1,q1⟩=>?_) (by rw[hs];rfl) (by rfl)))
 ·obtain⟨a,rfl,⟨xs,hq⟩,q⟩:=q1;subst e1;cases r1;obtain⟨its,rv,pl,hz⟩:=I1.list hq;refine call_enumerate_list pl.isList fun h' he hit hsz kk=>?_;have hee:s1.heap.objs.size+1≠s1.heap.objs.size:=Nat.succ_ne_self _;refine wpAny_pyIter_enum he ?_;refine⟨s1.heap.objs.size+1,[s1.heap.objs.size+1,s1.heap.objs.size],_,_,H1,rfl,I1.kept (t':=s1.toks) kk,VW a _ _ hee,⟨⟨.none,he⟩,hit⟩,fun b hb=>?_,q⟩;have hb':s1.heap.objs.size<=b:=by
   rcases List.mem_cons.mp hb with rfl|hb
   ·exact Nat.le_succ _
   ·have:b=s1.heap.objs.size:=by simpa using hb
    rw[this];exact Nat.le_refl _
  exact I1.Mq hb' (I1.hok.fresh hb')
end
end L2
set_option maxHeartbeats 4000000
namespace L2
open PySem PySem.Spec PyProof.Rows
structure yj (z TI TO i1 i2:Addr):Prop where
 TIz:TI≠z
 TOz:TO≠z
 i1z:i1≠z
 i2z:i2≠z
 TITO:TI≠TO
 TIi1:TI≠i1
 TIi2:TI≠i2
 TOi1:TO≠i1
 TOi2:TO≠i2
 i12:i1≠i2
section
variable {X:Cx}
def U3 (z TI TO i1 i2 a b:Addr)(i:Nat)(h:Heap):Prop:=IsZip h z TI TO .none/\IsPair h TI (.ref i1) (.ref i2)/\(∃ x y,IsPair h TO x y)/\h.IsListIter i1 a i/\h.IsListIter i2 b i
theorem LC {pins:List (Addr×Obj)}{σ:St}{H:Hp}{s:Shared}{z TI TO i1 i2 a b:Addr}{i:Nat}{xs ys:List V}(I:Inv X pins σ H s)(O:yj z TI TO i1 i2)(st:U3 z TI TO i1 i2 a b i s.heap)(ha:aR X.K H a xs)(hb:aR X.K H b ys) :
  ZipApart z TI TO i1 i2 a b:=by
 obtain⟨hz,hTI,⟨x,y,hTO⟩,⟨o1,e1,c1,_⟩,⟨o2,e2,c2,_⟩⟩:=st;have nz:∀{c:Addr} {zs:List V},aR X.K H c zs->c≠z:=fun h=>cb (K:=X.K) I h hz (by intro q;injection q with q;exact absurd q (by decide));have nT:∀{c:Addr} {zs:List V},aR X.K H c zs->c≠TO:=fun h=>cb (K:=X.K) I h hTO (by intro q;injection q with q;exact absurd q (by decide));have n1:∀{c:Addr} {zs:List V},aR X.K H c zs->c≠i1:=fun h=>cb (K:=X.K) I h e1 (by rw[c1];intro q;injection q with q;exact absurd q (by decide));have n2:∀{c:Addr} {zs:List V},aR X.K H c zs->c≠i2:=fun h=>cb (K:=X.K) I h e2 (by rw[c2];intro q;injection q with q;exact absurd q (by decide));exact⟨O.TIz,O.TOz,O.i1z,O.i2z,O.TITO,O.TIi1,O.TIi2,O.TOi1,O.TOi2,O.i12,nz ha,nT ha,n1 ha,n2 ha,nz hb,nT hb,n1 hb,n2 hb⟩
theorem YO {P:Program}{w:World}{K:Frag}{es:List Expr}{k:Nat}{tp:Pos}{z TI TO i1 i2:Addr}(a b:Addr)(O:yj z TI TO i1 i2) :
  Turn P w K (.Tuple es k tp) (Itz K a b) [z,TI,TO,i1,i2] z (U3 z TI TO i1 i2 a b) where
 mem:=by simp
 obj:=fun i h st c hc=>by
  obtain⟨hz,hTI,⟨x,y,hTO⟩,⟨o1,e1,_,d1⟩,⟨o2,e2,_,d2⟩⟩:=st;have hc':c=z\/c=TI\/c=TO\/c=i1\/c=i2:=by simpa using hc
  rcases hc' with rfl|rfl|rfl|rfl|rfl
  ·exact⟨_,hz,fun v q=>by
    have q':Data.fields _=Data.cell v:=q;cases q'⟩
  ·exact⟨_,hTI,fun v q=>by
    have q':Data.seq _ _=Data.cell v:=q;cases q'⟩
  ·exact⟨_,hTO,fun v q=>by
    have q':Data.seq _ _=Data.cell v:=q;cases q'⟩
  ·exact⟨o1,e1,fun v q=>by rw[d1]at q;cases q⟩
  ·exact⟨o2,e2,fun v q=>by rw[d2]at q;cases q⟩
 keep:=fun i h h' st kp=>by
  obtain⟨hz,hTI,⟨x,y,hTO⟩,h1,h2⟩:=st;exact⟨kp z (by simp) _ hz,kp TI (by simp) _ hTI,⟨x,y,kp TO (by simp) _ hTO⟩,h1.at fun o q=>kp i1 (by simp) o q,h2.at fun o q=>kp i2 (by simp) o q⟩
 item:=by
  intro X hP hw hK hc i pins s σ H E I hf st hg;subst hP hw hK;obtain⟨xs,ys,x,y,hq,hq2,hx,hy⟩:=hg;have D:=LC I O st hq hq2;obtain⟨its,rv,p,_⟩:=I.list hq;obtain⟨its2,YQ,p2,_⟩:=I.list hq2;obtain⟨u,hu,ru⟩:=rv.get hx;obtain⟨u2,hu2,ru2⟩:=YQ.get hy;have h1:i<its.length:=(List.getElem?_eq_some_iff.mp hu).1;have h2:i<its2.length:=(List.getElem?_eq_some_iff.mp hu2).1;have W:=WalksT.zip2 (prog:=X.prog) (w:=X.w) (I.ok.hd hc) z TI TO i1 i2 a b D its.toArray its2.toArray;obtain⟨hz,hTI,hTO,g1,g2⟩:=st;refine W.item i s _ _ (by simp;omega) ⟨hz,hTI,hTO,g1,g2,p.isList,p2.isList⟩ fun T vals h' tk hv hT ht mid kk=>?_;refine⟨_,rfl,?_⟩;obtain⟨x',y',hx',hy',rfl⟩:=hv;have ex:x'=u:=by
   have:its[i]? = some x':=by simpa using hx'
   rw[hu]at this;exact(Option.some.inj this).symm
  have ey:y'=u2:=by
   have:its2[i]? = some y':=by simpa using hy'
   rw[hu2]at this;exact(Option.some.inj this).symm
  subst ex ey;have sub:∀ c∈[z,TO,i1,i2],c∈[z,TI,TO,i1,i2]:=fun c hc=>by
   have:c=z\/c=TO\/c=i1\/c=i2:=by simpa using hc
   simp;rcases this with r|r|r|r <;> simp[r]
  have fw:∀ c∈[z,TO,i1,i2],l8 X pins H c:=fun c hc=>hf c (sub c hc);have I1:Inv X pins σ (upd H T (.tup [x,y])) { s with heap:=h',toks:=tk }:=by
   refine I.Qb (vals:=[x',y']) fw hT (by simpa using ht) (.cons ru (.cons ru2 .nil)) (by show 2<=sizeLine;decide) kk fun c hc=>?_;obtain⟨m1,_,⟨_,_,m2⟩,⟨o1,m3,_⟩,⟨o2,m4,_⟩,_⟩:=mid;have:c=z\/c=TO\/c=i1\/c=i2:=by simpa using hc
   rcases this with rfl|rfl|rfl|rfl
   ·exact⟨_,m1⟩
   ·exact⟨_,m2⟩
   ·exact⟨_,m3⟩
   ·exact⟨_,m4⟩
  have YJ:H T=none:=I.hok.fresh hT;have neT:∀ c∈[z,TI,TO,i1,i2],c≠T:=fun c hc q=>by
   subst q;have:c=TI\/c∈[z,TO,i1,i2]:=by
    have:c=z\/c=TI\/c=TO\/c=i1\/c=i2:=by simpa using hc
    simp;rcases this with r|r|r|r|r <;> simp[r]
   rcases this with r|r
   ·subst r;exact absurd (Nat.lt_of_lt_of_le (Heap.lt_size hTI) hT) (Nat.lt_irrefl _)
   ·exact W.apart i c _ mid r
  refine W.go es k tp i T _ _ _ mid fun h'' st'' acM=>?_;have hf2:∀ c∈[z,TI,TO,i1,i2],l8 X pins (upd H T (.tup [x,y])) c:=fun c hc=>by
   obtain⟨f0,fr⟩:=hf c hc;exact⟨by rw[ak (neT c hc)];exact f0,fr⟩
  obtain⟨s1,s2,s3,s4,s5,_⟩:=st'';refine⟨.ref T,upd H T (.tup [x,y]),I1.iD (tk:=tk) (fun c hc=>hf2 c (sub c hc)) acM,rfl,⟨x,y,T,rfl,YJ,qX I hq hx,qX I hq2 hy,rfl⟩,⟨s1,s2,s3,s4,s5⟩,fun c hc=>(hf2 c hc).1⟩
 done:=by
  intro X hP hw hK hc i pins s σ H E I hf st hg;subst hP hw hK;obtain⟨xs,ys,hq,hq2,hx⟩:=hg;have D:=LC I O st hq hq2;obtain⟨its,rv,p,_⟩:=I.list hq;obtain⟨its2,YQ,p2,_⟩:=I.list hq2;have W:=WalksT.zip2 (prog:=X.prog) (w:=X.w) (I.ok.hd hc) z TI TO i1 i2 a b D its.toArray its2.toArray;obtain⟨hz,hTI,hTO,g1,g2⟩:=st;have e:min its.toArray.size its2.toArray.size=i:=by
   rw[size_toArray,size_toArray,<-rv.length,<-YQ.length];exact hx
  refine W.done s _ _ (by rw[e];exact⟨hz,hTI,hTO,g1,g2,p.isList,p2.isList⟩) fun h' tk kk=>?_;refine⟨rfl,I.iD (tk:=tk) (wr:=[z,TO,i1,i2]) (fun c hc=>hf c ?_) kk⟩;have:c=z\/c=TO\/c=i1\/c=i2:=by simpa using hc
  simp;rcases this with r|r|r|r <;> simp[r]
 self:=fun _ i s _ _ st h=>by
  obtain⟨hz,_⟩:=st;exact wpAny_pyIter_zip hz h
inductive abW (K:Frag)(R:(It->Hp->Prop))(x:V)(y:V)(H2:Hp):Prop
 |mk (a:_) (b:_) (dC:x=.ref a) (dD:y=.ref b) (eK:(∃ xs,aR K H2 a xs)/\(∃ ys,aR K H2 b ys)/\R (Itz K a b) H2):abW K R x y H2
def agE (K:Frag)(tl tm:TE):TI:=fun σ H R=>tl σ H fun x H1=>tm σ H1 fun y H2=>abW K R x y H2
theorem YR {l m:Expr}{tl tm:TE}(hl:PE X l tl)(hm:PE X m tm)(hs:starEach [l,m] X.env=[(false,eval l X.env),(false,eval m X.env)])(hs2:starEach [m] X.env=[(false,eval m X.env)])(pos:Pos)(pins:List (Addr×Obj))(s:Shared)(σ:St)(H:Hp){Q:V->V->Hp->Prop}(I:Inv X pins σ H s)(h:tl σ H fun x H1=>tm σ H1 fun y H2=>Q x y H2) :
  wpAny (model X.prog X.w) X.A (spliced (backTo pos (starEach [l,m] X.env))) (fun us s1=>∃ x y u v H1,Inv X pins σ H1 s1/\us=[u,v]/\RelV x u/\RelV y v/\Q x y H1) X.xe s:=by
 have he:PE X l (fun σ' H' Q'=>σ'=σ/\H'=H/\∀ x H1,(tm σ H1 fun y H2=>Q x y H2)->Q' x H1):=by
  intro pins s σ' H' Q' I' hw;obtain⟨rfl,rfl,k⟩:=hw;exact cT (hl pins s σ' H' _ I' h) fun u s1 ⟨v,H1,I1,r,q⟩=>⟨v,H1,I1,r,k v H1 q⟩
 have hf:PE X m (fun σ' H' Q'=>∃ x,σ'=σ/\(tm σ H' fun y H2=>Q x y H2)/\∀ y H2,Q x y H2->Q' y H2):=by
  intro pins s σ' H' Q' I' hw;obtain⟨x,rfl,hh,k⟩:=hw;exact cT (hm pins s σ' H' _ I' hh) fun u s1 ⟨v,H1,I1,r,q⟩=>⟨v,H1,I1,r,k v H1 q⟩
 have main:=aa he (aa hf ae hs2) (by rw[hs,hs2]) pos pins s σ H (fun vs H2=>∃ x y,vs=[x,y]/\Q x y H2) I ⟨rfl,rfl,fun x H1 q=>⟨x,rfl,q,fun y H2 q2=>⟨x,y,rfl,q2⟩⟩⟩;refine cT main fun us s1 ⟨vs,H1,I1,r,x,y,e,q⟩=>?_;subst e;obtain⟨u,v,rfl,r1,r2⟩:=r.two;exact⟨x,y,u,v,H1,I1,rfl,r1,r2,q⟩
theorem acO {l m:Expr}{tl tm:TE}{p pos tp:Pos}{es:List Expr}{k:Nat}(hg:Gl X "zip")(hz:X.mg "zip"=none)(hl:PE X l tl)(hm:PE X m tm)(hs:starEach [l,m] X.env=[(false,eval l X.env),(false,eval m X.env)]:=by rfl)(hs2:starEach [m] X.env=[(false,eval m X.env)]:=by rfl) :
  PI X (.Tuple es k tp) (.Call (.Name "zip" p) [l,m] [] pos) (agE X.K tl tm):=by
 intro pins s σ H R I h;refine Call_ (qg I hg hz YK (PyProof.Rows.callWith_type1 (cT (YR hl hm hs hs2 pos pins s σ H I h) fun us s1 ⟨x,y,u,v,H1,I1,e1,r1,r2,q1⟩=>?_) (by rw[hs,hs2]) (by rw[hs2];rfl)));obtain⟨a,b,rfl,rfl,⟨xs,hq⟩,⟨ys,hq2⟩,q⟩:=q1;subst e1;cases r1;cases r2;obtain⟨its,rv,pl,_⟩:=I1.list hq;obtain⟨its2,YQ,pl2,_⟩:=I1.list hq2;refine call_zip_2 pl.isList pl2.isList fun h' z1 z2 z3 z4 z5 hsz kk=>?_;refine wpAny_pyIter_zip z1 ?_;have O:yj (s1.heap.objs.size+4) (s1.heap.objs.size+2) (s1.heap.objs.size+3) s1.heap.objs.size (s1.heap.objs.size+1):=by
  constructor <;> exact(by intro q;have q':(_:Nat)=_:=q;omega)
 refine⟨_,[s1.heap.objs.size+4,s1.heap.objs.size+2,s1.heap.objs.size+3,s1.heap.objs.size,s1.heap.objs.size+1],_,_,H1,rfl,I1.kept (t':=s1.toks) kk,YO a b O,⟨z1,z2,⟨_,_,z3⟩,z4,z5⟩,fun c hc=>?_,q⟩;have hc':s1.heap.objs.size<=c:=by
  have:c=s1.heap.objs.size+4\/c=s1.heap.objs.size+2\/c=s1.heap.objs.size+3\/c=s1.heap.objs.size\/c=s1.heap.objs.size+1:=by simpa using hc
  rcases this with r|r|r|r|r <;> (rw[r];first|exact Nat.le_add_right _ _|exact Nat.le_refl _)
 exact I1.Mq hc' (I1.hok.fresh hc')
end
end L2
set_option maxHeartbeats 4000000
namespace L2
open PySem
abbrev YS (J:It)(g:TG)(tc:TT)(te:TE)(D:Addr)(R:Hp->Prop)(σ:St)(H:Hp):Prop:=∃ W:Nat->Nat->List V->St->Hp->Prop,(∃ m,W 0 m [] σ H)/\∀ i m ys σ H,W i m ys σ H ->
  (J.stop i H/\R H)\/(J.go i H/\∀ x H',J.X5 i H x H'->g x σ H' fun σ2 H2=>tc σ2 H2 fun ok H3 =>
   if ok=true then te σ2 H3 fun y H4=>H4 D=some (.lst ys)/\ys.length<sizeLine/\∃ m',m'<m/\W (i+1) m' (ys++[y]) σ2 (upd H4 D (.lst (ys++[y])))
   else ∃ m',m'<m/\W (i+1) m' ys σ2 H3)
abbrev LF (g:TG)(tc:TT)(te:TE)(D:Addr)(ys:List V)(x:V)(σ:St)(H:Hp)(N:List V->St->Hp->Prop):Prop :=
 g x σ H fun σ2 H2=>tc σ2 H2 fun ok H3=>if ok=true then te σ2 H3 fun y H4=>H4 D=some (.lst ys)/\ys.length<sizeLine/\N (ys++[y]) σ2 (upd H4 D (.lst (ys++[y]))) else N ys σ2 H3
theorem GR {lo:Int}{n:Nat}{g:TG}{tc:TT}{te:TE}{D:Addr}{R:Hp->Prop}{σ:St}{H:Hp}(Pv:Nat->List V->St->Hp->Prop)(h0:Pv 0 [] σ H)
  (hs:∀ i ys σ H,i<n->Pv i ys σ H->∀ N:List V->St->Hp->Prop,(∀ ys σ H,Pv (i+1) ys σ H->N ys σ H)->LF g tc te D ys (.int (lo+i)) σ H N) (hd:∀ ys σ H,Pv n ys σ H->R H):YS (Itr lo n) g tc te D R σ H:=by
 refine⟨fun i m ys σ H=>m=n-i/\i<=n/\Pv i ys σ H,⟨n,by simp,Nat.zero_le _,h0⟩,?_⟩;rintro i m ys σ H ⟨rfl,hi,p⟩
 by_cases hlt:i<n
 ·refine .inr ⟨hlt,fun x H' y=>?_⟩;obtain⟨e,y⟩:=y;subst e y;exact hs i ys σ _ hlt p (fun ys' σ' H'=>∃ m',m'<n-i/\m'=n-(i+1)/\i+1<=n/\Pv (i+1) ys' σ' H') fun ys' σ' H' q=>⟨n-(i+1),by omega,rfl,hlt,q⟩
 ·have e:i=n:=by omega
  subst e;exact .inl ⟨Nat.le_refl _,hd ys σ H p⟩
theorem dH {K:Frag}{a:Addr}{xs:List V}{g:TG}{tc:TT}{te:TE}{D:Addr}{R:Hp->Prop}{σ:St}{H:Hp}(Pv:Nat->List V->St->Hp->Prop)(h0:Pv 0 [] σ H)(hl:∀ i ys σ H,Pv i ys σ H->aR K H a xs)
  (hs:∀ i ys x σ H,xs[i]? = some x->Pv i ys σ H->∀ N:List V->St->Hp->Prop,(∀ ys σ H,Pv (i+1) ys σ H->N ys σ H)->LF g tc te D ys x σ H N) (hd:∀ ys σ H,Pv xs.length ys σ H->R H):YS (Itl K a) g tc te D R σ H:=by
 refine⟨fun i m ys σ H=>m=xs.length-i/\i<=xs.length/\Pv i ys σ H,⟨xs.length,by simp,Nat.zero_le _,h0⟩,?_⟩;rintro i m ys σ H ⟨rfl,hi,p⟩;have q:=hl i ys σ H p
 by_cases hlt:i<xs.length
 ·refine .inr ⟨⟨xs,xs[i],q,by simp[hlt]⟩,fun x H' y=>?_⟩;obtain⟨e,y⟩:=y;subst e;exact hs i ys x σ _ (y xs q) p (fun ys' σ' H'=>∃ m',m'<xs.length-i/\m'=xs.length-(i+1)/\i+1<=xs.length/\Pv (i+1) ys' σ' H') fun ys' σ' H' q=>⟨xs.length-(i+1),by omega,rfl,hlt,q⟩
 ·have e:i=xs.length:=by omega
  subst e;exact .inl ⟨⟨xs,q,Nat.le_refl _⟩,hd ys σ H p⟩
theorem YT {z:Str}{g:TG}{tc:TT}{te:TE}{D:Addr}{R:Hp->Prop}{σ:St}{H:Hp}(Pv:Nat->List V->St->Hp->Prop)(h0:Pv 0 [] σ H)
  (hs:∀ i ys c σ H,z.cps[i]? = some c->Pv i ys σ H->∀ N:List V->St->Hp->Prop,(∀ ys σ H,Pv (i+1) ys σ H->N ys σ H)->LF g tc te D ys (.str ⟨#[c]⟩) σ H N) (hd:∀ ys σ H,Pv z.cps.size ys σ H->R H):YS (Its z) g tc te D R σ H:=by
 refine⟨fun i m ys σ H=>m=z.cps.size-i/\i<=z.cps.size/\Pv i ys σ H,⟨z.cps.size,by simp,Nat.zero_le _,h0⟩,?_⟩;rintro i m ys σ H ⟨rfl,hi,p⟩
 by_cases hlt:i<z.cps.size
 ·refine .inr ⟨hlt,fun x H' y=>?_⟩;obtain⟨e,c,hc,y⟩:=y;subst e y;exact hs i ys c σ _ hc p (fun ys' σ' H'=>∃ m',m'<z.cps.size-i/\m'=z.cps.size-(i+1)/\i+1<=z.cps.size/\Pv (i+1) ys' σ' H') fun ys' σ' H' q=>⟨z.cps.size-(i+1),by omega,rfl,hlt,q⟩
 ·have e:i=z.cps.size:=by omega
  subst e;exact .inl ⟨Nat.le_refl _,hd ys σ H p⟩
theorem Qc {K:Frag}{a:Addr}{xs:List V}{g:TG}{tb:TS}{D:Ends}{σ:St}{H:Hp}(Pv:Nat->St->Hp->Prop)(h0:Pv 0 σ H)(hl:∀ i σ H,Pv i σ H->aR K H a xs)
  (hs:∀ i x t σ H,xs[i]? = some x->Pv i σ H->H t=none->g (.ref t) σ (upd H t (.tup [.int i,x])) fun σ2 H2=>tb { D with nx:=Pv (i+1),ct:=Pv (i+1),bk:=D.nx } σ2 H2) (hd:∀ σ H,Pv xs.length σ H->D.nx σ H) :
  ∃ W:Nat->Nat->St->Hp->Prop,(∃ m,W 0 m σ H)/\∀ i m σ H,W i m σ H ->
   ((Ite K a).stop i H/\D.nx σ H)\/((Ite K a).go i H/\∃ N:St->Hp->Prop,(∀ σ' H',N σ' H'->∃ m',m'<m/\W (i+1) m' σ' H')/\∀ x H',(Ite K a).X5 i H x H'->g x σ H' fun σ2 H2=>tb { D with nx:=N,ct:=N,bk:=D.nx } σ2 H2):=by
 refine⟨fun i m σ H=>m=xs.length-i/\i<=xs.length/\Pv i σ H,⟨xs.length,by simp,Nat.zero_le _,h0⟩,?_⟩;rintro i m σ H ⟨rfl,hi,p⟩;have q:=hl i σ H p
 by_cases hlt:i<xs.length
 ·refine .inr ⟨⟨xs,xs[i],q,by simp[hlt]⟩,Pv (i+1),fun σ' H' p'=>⟨xs.length-(i+1),by omega,rfl,hlt,p'⟩,fun x H' y=>?_⟩;obtain⟨y0,t,rfl,hn,hy,rfl⟩:=y;exact hs i y0 t σ H (hy xs q) p hn
 ·have e:i=xs.length:=by omega
  subst e;exact .inl ⟨⟨xs,q,Nat.le_refl _⟩,hd σ H p⟩
theorem aaG {K:Frag}{a b:Addr}{xs ys:List V}{g:TG}{tb:TS}{D:Ends}{σ:St}{H:Hp}(Pv:Nat->St->Hp->Prop)(he:xs.length=ys.length)(h0:Pv 0 σ H)(hl:∀ i σ H,Pv i σ H->aR K H a xs/\aR K H b ys)
  (hs:∀ i x y t σ H,xs[i]? = some x->ys[i]? = some y->Pv i σ H->H t=none->g (.ref t) σ (upd H t (.tup [x,y])) fun σ2 H2=>tb { D with nx:=Pv (i+1),ct:=Pv (i+1),bk:=D.nx } σ2 H2) (hd:∀ σ H,Pv xs.length σ H->D.nx σ H) :
  ∃ W:Nat->Nat->St->Hp->Prop,(∃ m,W 0 m σ H)/\∀ i m σ H,W i m σ H ->
   ((Itz K a b).stop i H/\D.nx σ H)\/((Itz K a b).go i H/\∃ N:St->Hp->Prop,(∀ σ' H',N σ' H'->∃ m',m'<m/\W (i+1) m' σ' H')/\∀ x H',(Itz K a b).X5 i H x H'->g x σ H' fun σ2 H2=>tb { D with nx:=N,ct:=N,bk:=D.nx } σ2 H2):=by
 refine⟨fun i m σ H=>m=xs.length-i/\i<=xs.length/\Pv i σ H,⟨xs.length,by simp,Nat.zero_le _,h0⟩,?_⟩;rintro i m σ H ⟨rfl,hi,p⟩;obtain⟨q,q2⟩:=hl i σ H p
 by_cases hlt:i<xs.length
 ·have hlt2:i<ys.length:=by omega
  refine .inr ⟨⟨xs,ys,xs[i],ys[i],q,q2,by simp[hlt],by simp[hlt2]⟩,Pv (i+1),fun σ' H' p'=>⟨xs.length-(i+1),by omega,rfl,hlt,p'⟩,fun x H' y=>?_⟩;obtain⟨x0,y0,t,rfl,hn,hx,hy,rfl⟩:=y;exact hs i x0 y0 t σ H (hx xs q) (hy ys q2) p hn
 ·have e:i=xs.length:=by omega
  subst e;exact .inl ⟨⟨xs,ys,q,q2,by omega⟩,hd σ H p⟩
end L2
namespace L2
open PySem
theorem cH {j:Nat}{te:TE}{D:Addr}{ys:List V}{x:V}{σ:St}{H:Hp}{N:List V->St->Hp->Prop}
  (h:te (σ.set j (some x)) H fun y H4=>H4 D=some (.lst ys)/\ys.length<sizeLine/\N (ys++[y]) (σ.set j (some x)) (upd H4 D (.lst (ys++[y])))):LF (Lq j) acF te D ys x σ H N:=by
 unfold LF Lq acF;exact(if_pos (rfl:true=true)).mpr h
end L2
set_option maxHeartbeats 4000000
namespace L2
open PySem PySem.Spec PyProof.Rows
open Sem (wp)
abbrev yk (h:Heap)(z TI TO:Addr)(f0 f1:Value):Prop :=
 h.get? z=some { cls:=.type "zip",dict:=none,data:=.fields #[f0,f1,.bool false,.ref TI,.ref TO],slots:=#[] }
def Loose (f0 f1:Value):Prop:=(f0=.none\/∃ a:Nat,f0=rawInt (a:Int))/\∃ b,f1=.bool b
section
variable {prog:Program} {w:World} {A:Around} {E:Value->Shared->Prop} {s:Shared}
theorem VX {a:Addr}{Q:Option Obj->Shared->Prop}(h:∀ o,Q o s):wpAny (model prog w) A (loadIfAlive a) Q E s:=fun _ _ _=>h _
theorem Qd {z TI TO:Addr}{f0 f1:Value}{Q:Bool->Shared->Prop}(hz:yk s.heap z TI TO f0 f1)(hf:Loose f0 f1)
  (hQ:∀(r:Bool)(h':Heap)(g1:Value),yk h' z TI TO f0 g1->Loose f0 g1->Heap.SameBut z s.heap h'->Q r { s with heap:=h' }) :
  wpAny (model prog w) A (Builtin.SmallTypes.ownedTupleIsFree (.ref z)) Q E s:=by
 unfold Builtin.SmallTypes.ownedTupleIsFree;refine wpAny_bind (wpAny_field hz rfl (x:=f0) rfl ?_);obtain⟨hf0,b,rfl⟩:=hf;rcases hf0 with rfl|⟨a,rfl⟩
 ·exact wpAny_pure (hQ true s.heap _ hz ⟨.inl rfl,b,rfl⟩ ⟨rfl,fun _ _=>rfl⟩)
 ·show wpAny _ _ (loadIfAlive ((a:Int).toNat) >>= _) _ _ _;refine wpAny_bind (VX fun o=>?_);cases o with
  |none =>
   simp only [Option.isNone_none,if_true];exact wpAny_pure (hQ true s.heap _ hz ⟨.inr ⟨a,rfl⟩,b,rfl⟩ ⟨rfl,fun _ _=>rfl⟩)
  |some o =>
   simp only [Option.isNone_some,Bool.false_eq_true,if_false];refine wpAny_bind (wpAny_field hz rfl (x:=.bool b) rfl ?_);cases b with
   |true =>
    exact wpAny_pure (hQ false s.heap _ hz ⟨.inr ⟨a,rfl⟩,true,rfl⟩ ⟨rfl,fun _ _=>rfl⟩)
   |false =>
    show wpAny _ _ (setField (.ref z) 1 (.bool true) >>= _) _ _ _;refine wpAny_bind (wpAny_setField_rec hz (by simp) fun h₁ hz₁ hs₁=>?_);exact wpAny_pure (hQ false h₁ _ hz₁ ⟨.inr ⟨a,rfl⟩,true,rfl⟩ hs₁)
theorem VY {z TI TO i1 i2 l1 l2:Addr}{k1 k2:Nat}{xs ys:Array Value}{x y a b f0 f1:Value}{Q:Value->Shared->Prop}(D:ZipApart z TI TO i1 i2 l1 l2)
  (hz:yk s.heap z TI TO f0 f1) (hf:Loose f0 f1) (hTI:IsPair s.heap TI (.ref i1) (.ref i2)) (hTO:IsPair s.heap TO a b)
  (h1:s.heap.IsListIter i1 l1 k1) (h2:s.heap.IsListIter i2 l2 k2) (hl1:s.heap.IsList l1 xs) (hl2:s.heap.IsList l2 ys) (hx:xs[k1]? = some x) (hy:ys[k2]? = some y)
  (hQ:∀ h',(∃ g0 g1,yk h' z TI TO g0 g1/\Loose g0 g1)->(∃ a b,IsPair h' TO a b)->h'.IsListIter i1 l1 (k1+1)->h'.IsListIter i2 l2 (k2+1)->IsPair h' s.heap.objs.size x y->h'.objs.size=s.heap.objs.size+1 ->
   (∀ c o,c≠z->c≠TO->c≠i1->c≠i2->s.heap.get? c=some o->h'.get? c=some o)->Q (.ref s.heap.objs.size) { s with heap:=h' }) :
  wpAny (model prog w) A (Builtin.«zip.__next__» ⟨[.ref z],[]⟩) (fun fin s'=>∃ v,fin=.done (.ret v)/\Q v s') E s:=by
 show wpAny _ _ (field (.ref z) 2 >>= _) _ _ _;refine wpAny_bind (wpAny_field hz rfl (x:=.bool false) rfl ?_);show wpAny _ _ (field (.ref z) 3 >>= _) _ _ _;refine wpAny_bind (wpAny_field hz rfl (x:=.ref TI) rfl ?_);refine wpAny_bind (wpAny_seqItems hTI rfl ?_);show wpAny _ _ (Builtin.SmallTypes.ownedTupleIsFree (.ref z) >>= _) _ _ _;refine wpAny_bind (Qd hz hf fun r h₀ g1 adJ hl₀ hs₀=>?_);cases r with
 |true =>
  simp only [if_true];refine wpAny_bind (wpAny_rule ?_);refine wpAny_bind (wpAny_field adJ rfl (x:=.ref TO) rfl ?_);refine wpAny_bind (wpAny_setField_rec adJ (by simp) fun h₁ hz₁ YU=>?_)
  replace hz₁:yk h₁ z TI TO .ellipsis g1:=hz₁
  have hs₁:Heap.SameBut z s.heap h₁:=⟨YU.1.trans hs₀.1,fun c hc=>(YU.2 c hc).trans (hs₀.2 c hc)⟩;refine wpAny_bind ?_;simp only [List.zipIdx_cons,List.zipIdx_nil,List.forIn_cons,List.forIn_nil];refine wpAny_bind (wpAny_bind (wpAny_onRaise ?_));show wpAny _ _ (Builtin.SmallTypes.nextOf (.ref i1) >>= _) _ _ _;refine wpAny_bind (wpAny_nextOf_list_item (h1.extBut hs₁.extBut D.i1z) (hl1.extBut hs₁.extBut D.l1z) hx fun h₂ h1₂ hs₂=>wpAny_pure ?_);have hTO₂:IsPair h₂ TO a b:=hs₂.extBut _ _ D.TOi1 (hs₁.extBut _ _ D.TOz hTO);refine wpAny_bind (wpAny_seqItems hTO₂ rfl ?_);refine wpAny_bind (wpAny_updateSeq_pair hTO₂ fun h₃ hTO₃ hs₃=>?_)
  replace hTO₃:IsPair h₃ TO x b:=hTO₃
  refine wpAny_bind (wpAny_letGo (wpAny_pure ?_));refine wpAny_bind (wpAny_bind (wpAny_onRaise ?_));show wpAny _ _ (Builtin.SmallTypes.nextOf (.ref i2) >>= _) _ _ _;refine wpAny_bind (wpAny_nextOf_list_item (((h2.extBut hs₁.extBut D.i2z).extBut hs₂.extBut D.i12.symm).extBut hs₃.extBut D.TOi2.symm)
   (((hl2.extBut hs₁.extBut D.l2z).extBut hs₂.extBut D.l2i1).extBut hs₃.extBut D.l2TO) hy fun h₄ h2₄ hs₄=>wpAny_pure ?_)
  have hTO₄:IsPair h₄ TO x b:=hs₄.extBut _ _ D.TOi2 hTO₃;refine wpAny_bind (wpAny_seqItems hTO₄ rfl ?_);refine wpAny_bind (wpAny_updateSeq_pair hTO₄ fun h₅ hTO₅ hs₅=>?_)
  replace hTO₅:IsPair h₅ TO x y:=hTO₅
  refine wpAny_bind (wpAny_letGo (wpAny_pure (wpAny_pure ?_)));refine wpAny_bind (wpAny_seqItems hTO₅ rfl ?_);refine wpAny_bind (wpAny_newTuple ?_);have hsz:h₅.objs.size=s.heap.objs.size:=by rw[hs₅.1,hs₄.1,hs₃.1,hs₂.1,hs₁.1]
  have hz₅:yk h₅ z TI TO .ellipsis g1:=hs₅.extBut _ _ D.TOz.symm (hs₄.extBut _ _ D.i2z.symm (hs₃.extBut _ _ D.TOz.symm (hs₂.extBut _ _ D.i1z.symm hz₁)));have hk₅:∀ c o,c≠z->c≠TO->c≠i1->c≠i2->s.heap.get? c=some o->h₅.get? c=some o:=fun c o c1 c2 c3 c4 e =>
   hs₅.extBut _ _ c2 (hs₄.extBut _ _ c4 (hs₃.extBut _ _ c2 (hs₂.extBut _ _ c3 (hs₁.extBut _ _ c1 e))))
  have h1₅:h₅.IsListIter i1 l1 (k1+1):=((h1₂.extBut hs₃.extBut D.TOi1.symm).extBut hs₄.extBut D.i12).extBut hs₅.extBut D.TOi1.symm;have h2₅:h₅.IsListIter i2 l2 (k2+1):=h2₄.extBut hs₅.extBut D.TOi2.symm;have hzlt:z<h₅.objs.size:=Heap.lt_size hz₅;show wpAny _ _ (Builtin.SmallTypes.ownedTupleHandOut (.ref z) (.ref h₅.objs.size) >>= _) _ _ _;refine wpAny_bind ?_;unfold Builtin.SmallTypes.ownedTupleHandOut;have hz₆:yk (h₅.push { cls:=.type "tuple",data:=.seq #[x,y] }) z TI TO .ellipsis g1:=Heap.get?_push_of_some _ hz₅;refine wpAny_bind (wpAny_setField_rec hz₆ (by simp) fun h₇ hz₇ hs₇=>?_)
  replace hz₇:yk h₇ z TI TO (rawInt h₅.objs.size) g1:=hz₇
  refine wpAny_setField_rec hz₇ (by simp) fun h₈ hz₈ hs₈=>?_
  replace hz₈:yk h₈ z TI TO (rawInt h₅.objs.size) (.bool false):=hz₈
  have up:∀ c o,c≠z->h₅.get? c=some o->h₈.get? c=some o:=fun c o c1 e=>hs₈.extBut _ _ c1 (hs₇.extBut _ _ c1 (Heap.get?_push_of_some _ e));have hT₈:IsPair h₈ h₅.objs.size x y:=hs₈.extBut _ _ (Nat.ne_of_gt hzlt) (hs₇.extBut _ _ (Nat.ne_of_gt hzlt) (Heap.get?_push_size _ rfl));have hz8:h₈.objs.size=h₅.objs.size+1:=by rw[hs₈.1,hs₇.1,Heap.size_push]
  have hloose:∃ g0 g1,yk h₈ z TI TO g0 g1/\Loose g0 g1:=⟨_,_,hz₈,.inr ⟨_,rfl⟩,_,rfl⟩;rw[hsz]at hT₈ hz8;refine wpAny_pure ⟨_,rfl,?_⟩;show Q (.ref h₅.objs.size) _;rw[hsz];exact hQ h₈ hloose ⟨_,_,up _ _ D.TOz hTO₅⟩ (h1₅.at fun o e=>up _ o D.i1z e) (h2₅.at fun o e=>up _ o D.i2z e) hT₈ hz8 fun c o c1 c2 c3 c4 e=>up c o c1 (hk₅ c o c1 c2 c3 c4 e)
 |false =>
  simp only [Bool.false_eq_true,if_false];have hs₁:=hs₀;refine wpAny_bind ?_;rw[<-Array.forIn_toList];simp only [List.forIn_cons,List.forIn_nil];refine wpAny_bind (wpAny_bind (wpAny_holding ?_));show wpAny _ _ (Builtin.SmallTypes.nextOf (.ref i1) >>= _) _ _ _;refine wpAny_bind (wpAny_nextOf_list_item (h1.extBut hs₁.extBut D.i1z) (hl1.extBut hs₁.extBut D.l1z) hx fun h₂ h1₂ hs₂=>wpAny_pure (wpAny_pure ?_));refine wpAny_bind (wpAny_bind (wpAny_holding ?_));show wpAny _ _ (Builtin.SmallTypes.nextOf (.ref i2) >>= _) _ _ _;refine wpAny_bind (wpAny_nextOf_list_item ((h2.extBut hs₁.extBut D.i2z).extBut hs₂.extBut D.i12.symm)
   ((hl2.extBut hs₁.extBut D.l2z).extBut hs₂.extBut D.l2i1) hy fun h₄ h2₄ hs₄=>wpAny_pure (wpAny_pure (wpAny_pure ?_)))
  have hsz:h₄.objs.size=s.heap.objs.size:=by rw[hs₄.1,hs₂.1,hs₁.1]
  refine wpAny_bind (wpAny_newTuple (hsz:=by show 2<=sizeLine;decide) ?_);have up:∀ c o,c≠z->c≠i1->c≠i2->s.heap.get? c=some o->(h₄.push { cls:=.type "tuple",data:=.seq #[x,y] }).get? c=some o:=fun c o c1 c3 c4 e =>
   Heap.get?_push_of_some _ (hs₄.extBut _ _ c4 (hs₂.extBut _ _ c3 (hs₁.extBut _ _ c1 e)))
  have hz₄:yk (h₄.push { cls:=.type "tuple",data:=.seq #[x,y] }) z TI TO f0 g1:=Heap.get?_push_of_some _ (hs₄.extBut _ _ D.i2z.symm (hs₂.extBut _ _ D.i1z.symm adJ));have hT₈:IsPair (h₄.push { cls:=.type "tuple",data:=.seq #[x,y] }) h₄.objs.size x y:=Heap.get?_push_size _ rfl;have hz8:(h₄.push { cls:=.type "tuple",data:=.seq #[x,y] }).objs.size=h₄.objs.size+1:=Heap.size_push ..;refine wpAny_pure ⟨_,rfl,?_⟩;show Q (.ref h₄.objs.size) { s with heap:=h₄.push { cls:=.type "tuple",data:=.seq #[x,y] } };rw[hsz]at hT₈ hz8 ⊢;exact hQ _ ⟨_,_,hz₄,hl₀⟩ ⟨a,b,up _ _ D.TOz D.TOi1 D.TOi2 hTO⟩ ((h1₂.extBut hs₄.extBut D.i12).at fun o e=>Heap.get?_push_of_some _ e) (h2₄.at fun o e=>Heap.get?_push_of_some _ e) hT₈ hz8 fun c o c1 _ c3 c4 e=>up c o c1 c3 c4 e
theorem YV {z TI TO i1 i2 l1 l2:Addr}{k1:Nat}{xs:Array Value}{a b f0 f1:Value}{Q:Fin->Shared->Prop}(hh:A.handled=none)(D:ZipApart z TI TO i1 i2 l1 l2)
  (hz:yk s.heap z TI TO f0 f1) (hf:Loose f0 f1) (hTI:IsPair s.heap TI (.ref i1) (.ref i2)) (hTO:IsPair s.heap TO a b)
  (h1:s.heap.IsListIter i1 l1 k1) (hl1:s.heap.IsList l1 xs) (hend:xs[k1]? = none)
  (hE:∀ h' e,(∀ c o,c≠z->c≠TO->c≠i1->c≠i2->s.heap.get? c=some o->h'.get? c=some o)->(∃ o,h'.get? e=some o/\o.cls=.type "StopIteration")->E (.ref e) { s with heap:=h' }) :
  wpAny (model prog w) A (Builtin.«zip.__next__» ⟨[.ref z],[]⟩) Q E s:=by
 show wpAny _ _ (field (.ref z) 2 >>= _) _ _ _;refine wpAny_bind (wpAny_field hz rfl (x:=.bool false) rfl ?_);show wpAny _ _ (field (.ref z) 3 >>= _) _ _ _;refine wpAny_bind (wpAny_field hz rfl (x:=.ref TI) rfl ?_);refine wpAny_bind (wpAny_seqItems hTI rfl ?_);show wpAny _ _ (Builtin.SmallTypes.ownedTupleIsFree (.ref z) >>= _) _ _ _;refine wpAny_bind (Qd hz hf fun r h₀ g1 adJ hl₀ hs₀=>?_);cases r with
 |true =>
  simp only [if_true];refine wpAny_bind (wpAny_rule ?_);refine wpAny_bind (wpAny_field adJ rfl (x:=.ref TO) rfl ?_);refine wpAny_bind (wpAny_setField_rec adJ (by simp) fun h₁ hz₁ YU=>?_)
  replace hz₁:yk h₁ z TI TO .ellipsis g1:=hz₁
  have hs₁:Heap.SameBut z s.heap h₁:=⟨YU.1.trans hs₀.1,fun c hc=>(YU.2 c hc).trans (hs₀.2 c hc)⟩;refine wpAny_bind ?_;simp only [List.zipIdx_cons,List.zipIdx_nil,List.forIn_cons,List.forIn_nil];refine wpAny_bind (wpAny_bind (wpAny_onRaise ?_));show wpAny _ _ (Builtin.SmallTypes.nextOf (.ref i1) >>= _) _ _ _;refine wpAny_bind (wpAny_nextOf_list_end hh (h1.extBut hs₁.extBut D.i1z) (hl1.extBut hs₁.extBut D.l1z) hend fun h₂ e hs₂ he=>?_);obtain⟨oe,hoe,hce⟩:=he;have hz₂:yk h₂ z TI TO .ellipsis g1:=hs₂ _ _ D.i1z.symm hz₁;have hez:e≠z:=fun x=>by subst x;rw[hz₂]at hoe;cases hoe;simp at hce
  refine wpAny_setField_rec hz₂ (by simp) fun h₃ _ hs₃=>hE h₃ e (fun c o c1 _ c3 _ x=>hs₃.extBut _ _ c1 (hs₂ _ _ c3 (hs₁.extBut _ _ c1 x))) ⟨oe,hs₃.extBut _ _ hez hoe,hce⟩
 |false =>
  simp only [Bool.false_eq_true,if_false];refine wpAny_bind ?_;rw[<-Array.forIn_toList];simp only [List.forIn_cons,List.forIn_nil];refine wpAny_bind (wpAny_bind (wpAny_holding ?_));show wpAny _ _ (Builtin.SmallTypes.nextOf (.ref i1) >>= _) _ _ _;exact wpAny_bind (wpAny_nextOf_list_end hh (h1.extBut hs₀.extBut D.i1z) (hl1.extBut hs₀.extBut D.l1z) hend fun h₂ e hs₂ he=>hE h₂ e (fun c o c1 _ c3 _ x=>hs₂ _ _ c3 (hs₀.extBut _ _ c1 x)) he)
def YW (z TI TO i1 i2 a b:Addr)(i:Nat)(h:Heap):Prop:=(∃ f0 f1,yk h z TI TO f0 f1/\Loose f0 f1)/\IsPair h TI (.ref i1) (.ref i2)/\(∃ x y,IsPair h TO x y)/\h.IsListIter i1 a i/\h.IsListIter i2 b i
theorem aaH {e z TI TO i1 i2 l1 l2:Addr}{i:Nat}{xs ys:Array Value}{x y old:Value}{Q:Option Value->Shared->Prop}(D:ZipApart z TI TO i1 i2 l1 l2)(hne:∀ c∈[z,TI,TO,i1,i2],e≠c)
  (he:IsEnum s.heap e z i old) (hst:YW z TI TO i1 i2 l1 l2 i s.heap) (hl1:s.heap.IsList l1 xs) (hl2:s.heap.IsList l2 ys) (hx:xs[i]? = some x) (hy:ys[i]? = some y)
  (hQ:∀ h' tk,IsEnumOut h' e z ((i:Int)+1) (.ref s.heap.objs.size) (s.heap.objs.size+1)->YW z TI TO i1 i2 l1 l2 (i+1) h'->IsPair h' s.heap.objs.size x y ->
   h'.get? (s.heap.objs.size+1)=some { cls:=.type "tuple",data:=.seq #[.int i tk,.ref s.heap.objs.size] } ->
   (∀ c o,c ∉ [e,z,TO,i1,i2]->s.heap.get? c=some o->h'.get? c=some o)->Q (some (.ref (s.heap.objs.size+1))) { s with heap:=h',toks:=tk+1 }) :
  wpAny (model prog w) A (pyNext (.ref e)) Q E s:=by
 have hT:s.TypeIs (.ref e) "enumerate":=⟨_,he,rfl⟩;unfold pyNext;refine wpAny_bind (wpAny_attempt (wpAny_callSpecial?_slot (name:=Str.ofString "__next__") hT slot_enumerate_next
  (wpAny_call_entry slot_enumerate_next hT PySem.F.entry_enumerate_next ?_ (PySem.F.args_enumerate_next_1 _))))
 obtain⟨hp,g,d,tk,os⟩:=s;obtain⟨⟨f0,f1,hz,hlo⟩,hTI,⟨ta,tb,hTO⟩,g1,g2⟩:=hst;have ne:=fun c hc=>(hne c hc);have ez:e≠z:=hne z (by simp);have eTI:e≠TI:=hne TI (by simp);have eTO:e≠TO:=hne TO (by simp);have ei1:e≠i1:=hne i1 (by simp);have ei2:e≠i2:=hne i2 (by simp);show wpAny _ _ (field (.ref e) 2 >>= _) _ _ _;refine wpAny_bind (wpAny_field he rfl (x:=.ref z) rfl ?_);refine wpAny_bind ?_;have hTz:Shared.TypeIs ⟨hp,g,d,tk,os⟩ (.ref z) "zip":=⟨_,hz,rfl⟩;unfold Builtin.SmallTypes.nextOf;refine wpAny_bind (wpAny_callSpecial?_slot (name:=Str.ofString "__next__") hTz slot_zip_next
  (wpAny_call_entry slot_zip_next hTz entry_zip_next (VY D hz hlo hTI hTO g1 g2 hl1 hl2 hx hy fun h₁ q1 q2 q3 q4 q5 q6 q7=>wpAny_pure ?_) (PySem.F.args_zip_next_1 _)))
 replace q5:IsPair h₁ hp.objs.size x y:=q5
 replace q6:h₁.objs.size=hp.objs.size+1:=q6
 replace q7:∀ c o,c≠z->c≠TO->c≠i1->c≠i2->hp.get? c=some o->h₁.get? c=some o:=q7
 have he₁:IsEnum h₁ e z i old:=q7 e _ ez eTO ei1 ei2 he;have st₁:YW z TI TO i1 i2 l1 l2 (i+1) h₁:=⟨q1,q7 TI _ D.TIz D.TITO D.TIi1 D.TIi2 hTI,q2,q3,q4⟩;show wpAny _ _ (field (.ref e) 3 >>= _) _ _ ⟨h₁,g,d,tk,os⟩;refine wpAny_bind (wpAny_field he₁ rfl (x:=rawInt i) rfl ?_);show wpAny _ _ (field (.ref e) 4 >>= _) _ _ ⟨h₁,g,d,tk,os⟩;refine wpAny_bind (wpAny_field he₁ rfl (x:=.none) rfl ?_);show wpAny _ _ (mkInt i >>= _) _ _ ⟨h₁,g,d,tk,os⟩;refine wpAny_bind (wpAny_mkInt ?_);show wpAny _ _ (setField (.ref e) 3 (rawInt ((i:Int)+1)) >>= _) _ _ ⟨h₁,g,d,tk+1,os⟩;refine wpAny_bind (wpAny_setField_rec he₁ (by simp) fun h₂ he₂ hs₂=>?_)
 replace hs₂:Heap.SameBut e h₁ h₂:=hs₂
 replace he₂:IsEnum h₂ e z ((i:Int)+1) old:=he₂
 show wpAny _ _ (setField (.ref e) 4 .none >>= _) _ _ ⟨h₂,g,d,tk+1,os⟩;refine wpAny_bind (wpAny_setField_rec he₂ (by simp) fun h₃ he₃ hs₃=>?_)
 replace hs₃:Heap.SameBut e h₂ h₃:=hs₃
 replace he₃:IsEnum h₃ e z ((i:Int)+1) old:=he₃
 show wpAny _ _ (newTuple [.int i tk,.ref hp.objs.size] >>= _) _ _ ⟨h₃,g,d,tk+1,os⟩;refine wpAny_bind (wpAny_newTuple ?_);have he₄:IsEnum (h₃.push { cls:=.type "tuple",data:=.seq #[.int i tk,.ref hp.objs.size] }) e z ((i:Int)+1) old:=Heap.get?_push_of_some _ he₃;have hsz:h₃.objs.size=hp.objs.size+1:=by rw[hs₃.1,hs₂.1,q6]
 have hel:e<hp.objs.size:=Heap.lt_size he;have ht₄:(h₃.push { cls:=.type "tuple",data:=.seq #[.int i tk,.ref hp.objs.size] }).get? (hp.objs.size+1)=some { cls:=.type "tuple",data:=.seq #[.int i tk,.ref hp.objs.size] }:=by rw[<-hsz];exact Heap.get?_push_size _ rfl
 have ahI:∀ c o,c≠e->h₁.get? c=some o->(h₃.push { cls:=.type "tuple",data:=.seq #[.int i tk,.ref hp.objs.size] }).get? c=some o:=fun c o hc q =>
  Heap.get?_push_of_some _ (hs₃.extBut c o hc (hs₂.extBut c o hc q))
 generalize h₃.push { cls:=.type "tuple",data:=.seq #[.int i tk,.ref hp.objs.size] } = h₄ at he₄ ht₄ ahI;show wpAny _ _ (Builtin.SmallTypes.ownedTupleIsFree (.ref e) >>= _) _ _ ⟨h₄,g,d,tk+1,os⟩;rw[hsz];refine wpAny_bind ?_;unfold Builtin.SmallTypes.ownedTupleIsFree;refine wpAny_bind (wpAny_field he₄ rfl (x:=.none) rfl (wpAny_pure ?_));simp only [if_true];refine wpAny_bind (wpAny_rule ?_);refine wpAny_bind (wpAny_field he₄ rfl (x:=old) rfl ?_);refine wpAny_bind (wpAny_setField_rec he₄ (by simp) fun h₅ he₅ hs₅=>?_)
 replace hs₅:Heap.SameBut e h₄ h₅:=hs₅
 replace he₅:IsEnum h₅ e z ((i:Int)+1) (.ref hp.objs.size):=he₅
 show wpAny _ _ (Builtin.SmallTypes.ownedTupleHandOut (.ref e) (.ref (hp.objs.size+1)) >>= _) _ _ ⟨h₅,g,d,tk+1,os⟩;refine wpAny_bind ?_;unfold Builtin.SmallTypes.ownedTupleHandOut;refine wpAny_bind (wpAny_setField_rec he₅ (by simp) fun h₆ he₆ hs₆=>?_)
 replace hs₆:Heap.SameBut e h₅ h₆:=hs₆
 replace he₆:IsEnumOut h₆ e z ((i:Int)+1) (.ref hp.objs.size) (hp.objs.size+1):=he₆
 refine wpAny_setField_rec he₆ (by simp) fun h₇ he₇ hs₇=>?_
 replace hs₇:Heap.SameBut e h₆ h₇:=hs₇
 replace he₇:IsEnumOut h₇ e z ((i:Int)+1) (.ref hp.objs.size) (hp.objs.size+1):=he₇
 have up:∀ c o,c≠e->h₁.get? c=some o->h₇.get? c=some o:=fun c o hc q=>hs₇.extBut c o hc (hs₆.extBut c o hc (hs₅.extBut c o hc (ahI c o hc q)));have nT:(hp.objs.size:Nat)≠e:=Nat.ne_of_gt hel;have nT1:(hp.objs.size+1:Nat)≠e:=Nat.ne_of_gt (Nat.lt_succ_of_lt hel);refine wpAny_bind (wpAny_letGo (wpAny_pure ⟨_,rfl,wpAny_pure (hQ h₇ tk he₇ ?_ (up _ _ nT q5) ?_ ?_)⟩))
 ·obtain⟨⟨u0,u1,u2,u3⟩,u4,⟨u5,u6,u7⟩,u8,u9⟩:=st₁;exact⟨⟨u0,u1,up _ _ ez.symm u2,u3⟩,up _ _ eTI.symm u4,⟨u5,u6,up _ _ eTO.symm u7⟩,u8.at fun o q=>up _ o ei1.symm q,u9.at fun o q=>up _ o ei2.symm q⟩
 ·exact hs₇.extBut _ _ nT1 (hs₆.extBut _ _ nT1 (hs₅.extBut _ _ nT1 ht₄))
 ·intro c o hc q;have hc':c≠e/\c≠z/\c≠TO/\c≠i1/\c≠i2:=by simpa using hc
  exact up c o hc'.1 (q7 c o hc'.2.1 hc'.2.2.1 hc'.2.2.2.1 hc'.2.2.2.2 q)
theorem acP {e z TI TO i1 i2 l1 l2:Addr}{i:Nat}{xs:Array Value}{old:Value}{Q:Option Value->Shared->Prop}(hh:A.handled=none)(D:ZipApart z TI TO i1 i2 l1 l2)
  (he:IsEnum s.heap e z i old) (hst:YW z TI TO i1 i2 l1 l2 i s.heap) (hl1:s.heap.IsList l1 xs) (hx:xs[i]? = none)
  (hQ:∀ h',(∀ c o,c ∉ [e,z,TO,i1,i2]->s.heap.get? c=some o->h'.get? c=some o)->Q none { s with heap:=h' }):wpAny (model prog w) A (pyNext (.ref e)) Q E s:=by
 have hT:s.TypeIs (.ref e) "enumerate":=⟨_,he,rfl⟩;obtain⟨⟨f0,f1,hz,hlo⟩,hTI,⟨ta,tb,hTO⟩,g1,g2⟩:=hst;unfold pyNext;refine wpAny_bind (wpAny_attempt (wpAny_callSpecial?_slot (name:=Str.ofString "__next__") hT slot_enumerate_next
  (wpAny_call_entry slot_enumerate_next hT PySem.F.entry_enumerate_next ?_ (PySem.F.args_enumerate_next_1 _))))
 show wpAny _ _ (field (.ref e) 2 >>= _) _ _ _;refine wpAny_bind (wpAny_field he rfl (x:=.ref z) rfl ?_);refine wpAny_bind ?_;have hTz:s.TypeIs (.ref z) "zip":=⟨_,hz,rfl⟩;unfold Builtin.SmallTypes.nextOf;refine wpAny_bind (wpAny_callSpecial?_slot (name:=Str.ofString "__next__") hTz slot_zip_next
  (wpAny_call_entry slot_zip_next hTz entry_zip_next (YV hh D hz hlo hTI hTO g1 hl1 hx fun h' x hk hx'=>?_) (PySem.F.args_zip_next_1 _)))
 obtain⟨o,ho,hc⟩:=hx';refine wpAny_bind (wpAny_isInstance (T:="StopIteration") (b:=true) ⟨o,ho,hc⟩ isSubtype_stop ?_);refine wpAny_pure (hQ _ fun c o hc q=>?_);have hc':c≠e/\c≠z/\c≠TO/\c≠i1/\c≠i2:=by simpa using hc
 exact hk c o hc'.2.1 hc'.2.2.1 hc'.2.2.2.1 hc'.2.2.2.2 q
theorem uP (z TI TO:Addr) :
  Meets (Builtin.«enumerate.__new__» ⟨[.type "enumerate",.ref z],[]⟩) (fun _ R s=>IsZip s.heap z TI TO .none /\
   R (.ok (.ret (.ref s.heap.objs.size)))
    { s with heap:=s.heap.push { cls:=.type "enumerate",data:=.fields #[.none,.bool false,.ref z,rawInt 0,.none,.none] } }) :=
 .of_wp fun prog w A R s h=>by
  obtain⟨hp,g,d,tk,os⟩:=s;obtain⟨hl,h⟩:=h;have hsub:=sub_enumerate;have hL:IsZip (Shared.heap ⟨hp,g,d,tk,os⟩) z TI TO .none:=hl
  wp_walk using wpAny_loadPart' hl
  refine wpAny_stack_any fun st=>wpAny_pure ?_;split
  ·rename_i c _ _ _ _ _
   cases (c==Value.type "enumerate")
   ·wp_walk using wpAny_loadPart' hl,wpAny_pyIter_zip hL
    exact⟨_,rfl,h⟩
   ·wp_walk using wpAny_loadPart' hl,wpAny_pyIter_zip hL
    exact⟨_,rfl,h⟩
  ·wp_walk using wpAny_loadPart' hl,wpAny_pyIter_zip hL
   exact⟨_,rfl,h⟩
theorem ym {z TI TO:Addr}{Q:Value->Shared->Prop}(hz:IsZip s.heap z TI TO .none)
  (h:∀ h',IsEnum h' s.heap.objs.size z 0 .none->(∀ b o,s.heap.get? b=some o->h'.get? b=some o)->Q (.ref s.heap.objs.size) { s with heap:=h' }) :
  wpAny (model prog w) A (call (.type "enumerate") [.ref z]) Q E s:=by
 refine callType_new PySem.F.called_enumerate (by decide) (PySem.F.typeCall_enumerate_1 _) (PySem.F.newCall_enumerate_1 _) (fun obj=>PySem.F.args_object_init_2 obj _) PySem.F.entry_enumerate_new
  (uP z TI TO) ⟨hz,?_⟩
 show _/\_;have he:IsEnum (s.heap.push { cls:=.type "enumerate",data:=.fields #[.none,.bool false,.ref z,rawInt 0,.none,.none] }) s.heap.objs.size z 0 .none:=Heap.get?_push_size _ rfl;exact⟨⟨_,he,rfl⟩,h _ he fun b o x=>Heap.get?_push_of_some _ x⟩
end
end L2
set_option maxHeartbeats 4000000
namespace L2
open PySem PySem.Spec PyProof.Rows
section
variable {X:Cx} {pins:List (Addr×Obj)} {σ:St} {H:Hp} {s:Shared}
theorem Inv.aaI {tk:Nat}{h':Heap}{wr:List Addr}{T U:Addr}{xs ys:List V}{vals vals2:List Value}(I:Inv X pins σ H s)(hw:∀ b∈wr,l8 X pins H b)(hT:s.heap.objs.size<=T)(hU:s.heap.objs.size<=U)(hTU:T≠U)
  (ht:h'.IsTuple T vals.toArray) (rv:Vals xs vals) (hz:xs.length<=sizeLine) (hu:h'.IsTuple U vals2.toArray) (YQ:Vals ys vals2) (hz2:ys.length<=sizeLine)
  (kk:∀ b o,b ∉ wr->s.heap.get? b=some o->h'.get? b=some o) (there:∀ b∈wr,∃ o,h'.get? b=some o):Inv X pins σ (upd (upd H T (.tup xs)) U (.tup ys)) { s with heap:=h',toks:=tk }:=by
 have YJ:H T=none:=I.hok.fresh hT;have hUn:H U=none:=I.hok.fresh hU;have nT:∀ b o,s.heap.get? b=some o->b≠T:=fun b o e=>Nat.ne_of_lt (Nat.lt_of_lt_of_le (Heap.lt_size e) hT);have nU:∀ b o,s.heap.get? b=some o->b≠U:=fun b o e=>Nat.ne_of_lt (Nat.lt_of_lt_of_le (Heap.lt_size e) hU);have up:∀{b:Addr} {o:HO},H b=some o->upd (upd H T (.tup xs)) U (.tup ys) b=some o:=fun e=>by
  rw[ak (ao e hUn),ak (ao e YJ)];exact e
 refine I.step (g':=s.gens) (d':=s.drawn) (ch:=wr) (fun b hb=>?_) (fun b o _ _ hc e _=>kk b o hc e) (fun b o _ _ hc e _=>⟨o.slots,kk b o hc e⟩) (fun b o _ e n=>by rw[ak (nU b o e),ak (nT b o e)];exact n)
  (fun b o hc e=>⟨o,kk b o hc e⟩) (fun b ys e=>up e) (fun b o u e=>up e) (fun b ps e=>⟨#[],by rw[up e];simp⟩) (fun m hm=>?_) (fun b u e=>?_) I.bare
 ·obtain⟨_,f1,_,f3,f4,f5⟩:=hw b hb;exact⟨f3,f1,f4,f5⟩
 ·obtain⟨o,es,ep,ho,r⟩:=hm;exact⟨o,es,ep,kk _ o (fun z=>(hw _ z).2.1 rfl) ho,r⟩
 ·by_cases hb:b=U
  ·subst hb;rw[ag]at e;cases e;exact⟨hz2,vals2,YQ,hu⟩
  ·rw[ak hb]at e
   by_cases hb2:b=T
   ·subst hb2;rw[ag]at e;cases e;exact⟨hz,vals,rv,ht⟩
   ·rw[ak hb2]at e;refine(I.hok b u e).stay (fun c v hc q=>kk c v (fun z=>?_) q) (fun c q=>up q) fun c ys q=>up q;have hn:=(hw c z).1;rcases hc with hc|hc
    ·rw[hc,e]at hn;cases hn
    ·rw[hc]at hn;cases hn
def VZ (K:Frag)(a b:Addr):It :=
 ⟨fun i H=>∃ xs ys x y,aR K H a xs/\aR K H b ys/\xs[i]? = some x/\ys[i]? = some y,
  fun i H p H'=>∃ x y t0 t1,p=.ref t1/\H t0=none/\H t1=none/\t0≠t1/\(∀ xs,aR K H a xs->xs[i]? = some x)/\(∀ ys,aR K H b ys->ys[i]? = some y)/\H'=upd (upd H t0 (.tup [x,y])) t1 (.tup [.int i,.ref t0]),
  fun i H=>∃ xs ys,aR K H a xs/\aR K H b ys/\xs.length<=i⟩
theorem aaJ {P:Program}{w:World}{K:Frag}{es:List Expr}{k:Nat}{tp:Pos}{e z TI TO i1 i2:Addr}(a b:Addr)(O:yj z TI TO i1 i2)(hne:∀ c∈[z,TI,TO,i1,i2],e≠c) :
  Turn P w K (.Tuple es k tp) (VZ K a b) [e,z,TI,TO,i1,i2] e (fun i h=>(∃ old,IsEnum h e z i old)/\YW z TI TO i1 i2 a b i h) where
 mem:=by simp
 obj:=fun i h st c hc=>by
  obtain⟨⟨old,he⟩,⟨f0,f1,hz,_⟩,hTI,⟨x,y,hTO⟩,⟨o1,e1,_,d1⟩,⟨o2,e2,_,d2⟩⟩:=st;have hc':c=e\/c=z\/c=TI\/c=TO\/c=i1\/c=i2:=by simpa using hc
  rcases hc' with rfl|rfl|rfl|rfl|rfl|rfl
  ·exact⟨_,he,fun v q=>by
    have q':Data.fields _=Data.cell v:=q;cases q'⟩
  ·exact⟨_,hz,fun v q=>by
    have q':Data.fields _=Data.cell v:=q;cases q'⟩
  ·exact⟨_,hTI,fun v q=>by
    have q':Data.seq _ _=Data.cell v:=q;cases q'⟩
  ·exact⟨_,hTO,fun v q=>by
    have q':Data.seq _ _=Data.cell v:=q;cases q'⟩
  ·exact⟨o1,e1,fun v q=>by rw[d1]at q;cases q⟩
  ·exact⟨o2,e2,fun v q=>by rw[d2]at q;cases q⟩
 keep:=fun i h h' st kp=>by
  obtain⟨⟨old,he⟩,⟨f0,f1,hz,hl⟩,hTI,⟨x,y,hTO⟩,h1,h2⟩:=st;exact⟨⟨old,kp e (by simp) _ he⟩,⟨f0,f1,kp z (by simp) _ hz,hl⟩,kp TI (by simp) _ hTI,⟨x,y,kp TO (by simp) _ hTO⟩,h1.at fun o q=>kp i1 (by simp) o q,h2.at fun o q=>kp i2 (by simp) o q⟩
 item:=by
  intro X hP hw hK hc i pins s σ H E I hf st hg;subst hP hw hK;obtain⟨xs,ys,x,y,hq,hq2,hx,hy⟩:=hg;obtain⟨⟨old,he⟩,stz⟩:=st;have D:ZipApart z TI TO i1 i2 a b:=by
   obtain⟨⟨f0,f1,hz,_⟩,hTI,⟨x,y,hTO⟩,⟨o1,e1,c1,_⟩,⟨o2,e2,c2,_⟩⟩:=stz;have nz:∀{c:Addr} {zs:List V},aR X.K H c zs->c≠z:=fun h=>cb (K:=X.K) I h hz (by intro q;injection q with q;exact absurd q (by decide));have nT:∀{c:Addr} {zs:List V},aR X.K H c zs->c≠TO:=fun h=>cb (K:=X.K) I h hTO (by intro q;injection q with q;exact absurd q (by decide));have n1:∀{c:Addr} {zs:List V},aR X.K H c zs->c≠i1:=fun h=>cb (K:=X.K) I h e1 (by rw[c1];intro q;injection q with q;exact absurd q (by decide));have n2:∀{c:Addr} {zs:List V},aR X.K H c zs->c≠i2:=fun h=>cb (K:=X.K) I h e2 (by rw[c2];intro q;injection q with q;exact absurd q (by decide));exact⟨O.TIz,O.TOz,O.i1z,O.i2z,O.TITO,O.TIi1,O.TIi2,O.TOi1,O.TOi2,O.i12,nz hq,nT hq,n1 hq,n2 hq,nz hq2,nT hq2,n1 hq2,n2 hq2⟩
  obtain⟨its,rv,p,_⟩:=I.list hq;obtain⟨its2,YQ,p2,_⟩:=I.list hq2;obtain⟨u,hu,ru⟩:=rv.get hx;obtain⟨u2,hu2,ru2⟩:=YQ.get hy;refine aaH D hne he stz p.isList p2.isList (x:=u) (y:=u2) (by simpa using hu) (by simpa using hu2) fun h' tk q1 q2 q3 q4 kk=>?_;refine⟨_,rfl,?_⟩;have sub:∀ c∈[e,z,TO,i1,i2],c∈[e,z,TI,TO,i1,i2]:=fun c hc=>by
   have:c=e\/c=z\/c=TO\/c=i1\/c=i2:=by simpa using hc
   simp;rcases this with r|r|r|r|r <;> simp[r]
  have fw:∀ c∈[e,z,TO,i1,i2],l8 X pins H c:=fun c hc=>hf c (sub c hc);have I1:Inv X pins σ (upd (upd H s.heap.objs.size (.tup [x,y])) (s.heap.objs.size+1) (.tup [.int i,.ref s.heap.objs.size])) { s with heap:=h',toks:=tk+1 }:=by
   refine I.aaI (vals:=[u,u2]) (vals2:=[.int i tk,.ref s.heap.objs.size]) fw (Nat.le_refl _) (Nat.le_succ _) (Nat.ne_of_lt (Nat.lt_succ_self _)) ⟨_,q3,rfl,_,rfl⟩ (.cons ru (.cons ru2 .nil)) (by show 2<=sizeLine;decide)
    ⟨_,q4,rfl,_,rfl⟩ (.cons ⟨tk,rfl⟩ (.cons rfl .nil)) (by show 2<=sizeLine;decide) kk fun c hc=>?_
   obtain⟨⟨f0,f1,m1,_⟩,_,⟨_,_,m2⟩,⟨o1,m3,_⟩,⟨o2,m4,_⟩⟩:=q2;have:c=e\/c=z\/c=TO\/c=i1\/c=i2:=by simpa using hc
   rcases this with rfl|rfl|rfl|rfl|rfl
   ·exact⟨_,q1⟩
   ·exact⟨_,m1⟩
   ·exact⟨_,m2⟩
   ·exact⟨_,m3⟩
   ·exact⟨_,m4⟩
  have hT0:H s.heap.objs.size=none:=I.hok.fresh (Nat.le_refl _);have hT1:H (s.heap.objs.size+1)=none:=I.hok.fresh (Nat.le_succ _);have lt:∀ c∈[e,z,TI,TO,i1,i2],c<s.heap.objs.size:=fun c hc=>by
   obtain⟨⟨f0,f1,m1,_⟩,m5,⟨_,_,m2⟩,⟨o1,m3,_⟩,⟨o2,m4,_⟩⟩:=stz;have hc':c=e\/c=z\/c=TI\/c=TO\/c=i1\/c=i2:=by simpa using hc
   rcases hc' with rfl|rfl|rfl|rfl|rfl|rfl
   ·exact Heap.lt_size he
   ·exact Heap.lt_size m1
   ·exact Heap.lt_size m5
   ·exact Heap.lt_size m2
   ·exact Heap.lt_size m3
   ·exact Heap.lt_size m4
  refine wpAny_letOwnedTupleGo_enum q1 fun h'' agH hs''=>?_;have hf2:∀ c∈[e,z,TI,TO,i1,i2],l8 X pins (upd (upd H s.heap.objs.size (.tup [x,y])) (s.heap.objs.size+1) (.tup [.int i,.ref s.heap.objs.size])) c:=fun c hc=>by
   obtain⟨f0,fr⟩:=hf c hc;have l:=lt c hc;exact⟨by rw[ak (Nat.ne_of_lt (Nat.lt_succ_of_lt l)),ak (Nat.ne_of_lt l)];exact f0,fr⟩
  have kk2:∀ c o,c ∉ [e]->h'.get? c=some o->h''.get? c=some o:=fun c o hc q=>hs''.extBut c o (fun r=>hc (by simp[r])) q;have up:∀{c:Addr} {o:Obj},c∈[z,TI,TO,i1,i2]->h'.get? c=some o->h''.get? c=some o:=fun hc q=>hs''.extBut _ _ (hne _ hc).symm q;have fe:∀ c∈[e],l8 X pins (upd (upd H s.heap.objs.size (.tup [x,y])) (s.heap.objs.size+1) (.tup [.int i,.ref s.heap.objs.size])) c:=fun c hc=>by
   have:c=e:=by simpa using hc
   exact hf2 c (by simp[this])
  refine⟨.ref (s.heap.objs.size+1),_,I1.iD (tk:=tk+1) (wr:=[e]) fe kk2,rfl,⟨x,y,s.heap.objs.size,s.heap.objs.size+1,rfl,hT0,hT1,Nat.ne_of_lt (Nat.lt_succ_self _),qX I hq hx,qX I hq2 hy,rfl⟩,?_,fun c hc=>(hf2 c hc).1⟩;obtain⟨⟨f0,f1,m1,m1'⟩,m5,⟨_,_,m2⟩,m3,m4⟩:=q2;exact⟨⟨_,by simpa using agH⟩,⟨f0,f1,up (by simp) m1,m1'⟩,up (by simp) m5,⟨_,_,up (by simp) m2⟩,m3.at fun o q=>up (by simp) q,m4.at fun o q=>up (by simp) q⟩
 done:=by
  intro X hP hw hK hc i pins s σ H E I hf st hg;subst hP hw hK;obtain⟨xs,ys,hq,hq2,hx⟩:=hg;obtain⟨⟨old,he⟩,stz⟩:=st;have D:ZipApart z TI TO i1 i2 a b:=by
   obtain⟨⟨f0,f1,hz,_⟩,hTI,⟨x,y,hTO⟩,⟨o1,e1,c1,_⟩,⟨o2,e2,c2,_⟩⟩:=stz;have nz:∀{c:Addr} {zs:List V},aR X.K H c zs->c≠z:=fun h=>cb (K:=X.K) I h hz (by intro q;injection q with q;exact absurd q (by decide));have nT:∀{c:Addr} {zs:List V},aR X.K H c zs->c≠TO:=fun h=>cb (K:=X.K) I h hTO (by intro q;injection q with q;exact absurd q (by decide));have n1:∀{c:Addr} {zs:List V},aR X.K H c zs->c≠i1:=fun h=>cb (K:=X.K) I h e1 (by rw[c1];intro q;injection q with q;exact absurd q (by decide));have n2:∀{c:Addr} {zs:List V},aR X.K H c zs->c≠i2:=fun h=>cb (K:=X.K) I h e2 (by rw[c2];intro q;injection q with q;exact absurd q (by decide));exact⟨O.TIz,O.TOz,O.i1z,O.i2z,O.TITO,O.TIi1,O.TIi2,O.TOi1,O.TOi2,O.i12,nz hq,nT hq,n1 hq,n2 hq,nz hq2,nT hq2,n1 hq2,n2 hq2⟩
  obtain⟨its,rv,p,_⟩:=I.list hq;have hl:=rv.length;refine acP (I.ok.hd hc) D he stz p.isList (Array.getElem?_eq_none (by simp;omega)) fun h' kk=>?_;refine⟨rfl,I.iD (tk:=s.toks) (wr:=[e,z,TO,i1,i2]) (fun c hc=>hf c ?_) kk⟩;have:c=e\/c=z\/c=TO\/c=i1\/c=i2:=by simpa using hc
  simp;rcases this with r|r|r|r|r <;> simp[r]
 self:=fun _ _ _ _ _ st h=>by
  obtain⟨⟨old,he⟩,_⟩:=st;exact wpAny_pyIter_enum he h
inductive aer (K:Frag)(R:(It->Hp->Prop))(x:V)(y:V)(H2:Hp):Prop
 |mk (a:_) (b:_) (dC:x=.ref a) (dD:y=.ref b) (eK:(∃ xs,aR K H2 a xs)/\(∃ ys,aR K H2 b ys)/\R (VZ K a b) H2):aer K R x y H2
def iEz (K:Frag)(tl tm:TE):TI:=fun σ H R=>tl σ H fun x H1=>tm σ H1 fun y H2=>aer K R x y H2
theorem aaK {l m:Expr}{tl tm:TE}{p pos:Pos}(hg:Gl X "zip")(hz:X.mg "zip"=none)(hl:PE X l tl)(hm:PE X m tm)(hs:starEach [l,m] X.env=[(false,eval l X.env),(false,eval m X.env)])(hs2:starEach [m] X.env=[(false,eval m X.env)])
  {R:V->V->Hp->Prop} (I:Inv X pins σ H s) (h:tl σ H fun x H1=>tm σ H1 fun y H2=>R x y H2) (hR:∀ x y H1,R x y H1->∃ a b,x=.ref a/\y=.ref b/\(∃ xs,aR X.K H1 a xs)/\∃ ys,aR X.K H1 b ys) :
  wpAny (model X.prog X.w) X.A (eval (.Call (.Name "zip" p) [l,m] [] pos) X.env) (fun v s1=>∃ a b z TI TO i1 i2 H1,R (.ref a) (.ref b) H1/\v=.ref z/\Inv X pins σ H1 s1/\yj z TI TO i1 i2/\IsZip s1.heap z TI TO .none/\U3 z TI TO i1 i2 a b 0 s1.heap/\∀ c∈[z,TI,TO,i1,i2],l8 X pins H1 c) X.xe s:=by
 refine Call_ (qg I hg hz YK (PyProof.Rows.callWith_type1 (cT (YR hl hm hs hs2 pos pins s σ H I h) fun us s1 ⟨x,y,u,v,H1,I1,e1,r1,r2,q1⟩=>?_) (by rw[hs,hs2]) (by rw[hs2];rfl)));obtain⟨a,b,rfl,rfl,⟨xs,hq⟩,⟨ys,hq2⟩⟩:=hR _ _ _ q1;subst e1;cases r1;cases r2;obtain⟨its,rv,pl,_⟩:=I1.list hq;obtain⟨its2,YQ,pl2,_⟩:=I1.list hq2;refine call_zip_2 pl.isList pl2.isList fun h' z1 z2 z3 z4 z5 hsz kk=>?_;have O:yj (s1.heap.objs.size+4) (s1.heap.objs.size+2) (s1.heap.objs.size+3) s1.heap.objs.size (s1.heap.objs.size+1):=by
  constructor <;> exact(by intro q;have q':(_:Nat)=_:=q;omega)
 refine⟨a,b,_,_,_,_,_,H1,q1,rfl,I1.kept (t':=s1.toks) kk,O,z1,⟨z1,z2,⟨_,_,z3⟩,z4,z5⟩,fun c hc=>?_⟩;have hc':s1.heap.objs.size<=c:=by
  have:c=s1.heap.objs.size+4\/c=s1.heap.objs.size+2\/c=s1.heap.objs.size+3\/c=s1.heap.objs.size\/c=s1.heap.objs.size+1:=by simpa using hc
  rcases this with r|r|r|r|r <;> (rw[r];first|exact Nat.le_add_right _ _|exact Nat.le_refl _)
 exact I1.Mq hc' (I1.hok.fresh hc')
theorem aes {l m:Expr}{tl tm:TE}{p p2 pos pos2 tp:Pos}{es:List Expr}{k:Nat}(hg:Gl X "zip")(hz:X.mg "zip"=none)(hg2:Gl X "enumerate")(hm2:X.mg "enumerate"=none)(hl:PE X l tl)(hm:PE X m tm)
  (hs:starEach [l,m] X.env=[(false,eval l X.env),(false,eval m X.env)]:=by rfl) (hs2:starEach [m] X.env=[(false,eval m X.env)]:=by rfl)
  (hs3:starEach [Expr.Call (.Name "zip" p) [l,m] [] pos] X.env=[(false,eval (.Call (.Name "zip" p) [l,m] [] pos) X.env)]:=by rfl) :
  PI X (.Tuple es k tp) (.Call (.Name "enumerate" p2) [.Call (.Name "zip" p) [l,m] [] pos] [] pos2) (iEz X.K tl tm):=by
 intro pins s σ H R I h;have hev:wpAny (model X.prog X.w) X.A (spliced (backTo pos2 (starEach [Expr.Call (.Name "zip" p) [l,m] [] pos] X.env))) (fun us s1=>∃ a b z TI TO i1 i2 H1,R (VZ X.K a b) H1/\us=[.ref z]/\Inv X pins σ H1 s1/\yj z TI TO i1 i2/\IsZip s1.heap z TI TO .none/\U3 z TI TO i1 i2 a b 0 s1.heap/\∀ c∈[z,TI,TO,i1,i2],l8 X pins H1 c) X.xe s:=by
  rw[hs3];refine Calls.spliced_cons (cT (aaK hg hz hl hm hs hs2 I h fun x y H1 ⟨a,b,e1,e2,q1,q2,_⟩=>⟨a,b,e1,e2,q1,q2⟩) fun v s1 ⟨a,b,z,TI,TO,i1,i2,H1,q,e,I1,O,g1,g2,g3⟩=>Calls.spliced_nil ?_);obtain⟨a',b',e1,e2,_,_,q⟩:=q;cases e1;cases e2;exact⟨a,b,z,TI,TO,i1,i2,H1,q,by rw[e],I1,O,g1,g2,g3⟩
 refine Call_ (qg I hg2 hm2 As (PyProof.Rows.callWith_type1 (cT hev fun us s1 ⟨a,b,z,TI,TO,i1,i2,H1,q,e,I1,O,g1,g2,g3⟩=>?_) (by rw[hs3];rfl) (by rfl)));subst e;refine ym g1 fun h' he kk=>?_;refine wpAny_pyIter_enum he ?_;obtain⟨y1,y2,⟨y3,y4,y5⟩,y6,y7⟩:=g2;have hne:∀ c∈[z,TI,TO,i1,i2],s1.heap.objs.size≠c:=fun c hc=>by
  have hc':c=z\/c=TI\/c=TO\/c=i1\/c=i2:=by simpa using hc
  rcases hc' with rfl|rfl|rfl|rfl|rfl
  ·exact Nat.ne_of_gt (Heap.lt_size y1)
  ·exact Nat.ne_of_gt (Heap.lt_size y2)
  ·exact Nat.ne_of_gt (Heap.lt_size y5)
  ·obtain⟨_,y,_⟩:=y6;exact Nat.ne_of_gt (Heap.lt_size y)
  ·obtain⟨_,y,_⟩:=y7;exact Nat.ne_of_gt (Heap.lt_size y)
 refine⟨s1.heap.objs.size,[s1.heap.objs.size,z,TI,TO,i1,i2],_,_,H1,rfl,I1.kept (t':=s1.toks) kk,aaJ a b O hne,⟨⟨.none,he⟩,⟨.none,.bool false,kk _ _ y1,.inl rfl,false,rfl⟩,kk _ _ y2,⟨y3,y4,kk _ _ y5⟩,y6.at fun o q=>kk _ _ q,y7.at fun o q=>kk _ _ q⟩,fun c hc=>?_,q⟩;rcases List.mem_cons.mp hc with rfl|hc
 ·exact I1.Mq (Nat.le_refl _) (I1.hok.fresh (Nat.le_refl _))
 ·exact g3 c hc
end
theorem acQ {K:Frag}{a b:Addr}{xs ys:List V}{g:TG}{tb:TS}{D:Ends}{σ:St}{H:Hp}(Pv:Nat->St->Hp->Prop)(he:xs.length=ys.length)(h0:Pv 0 σ H)(hl:∀ i σ H,Pv i σ H->aR K H a xs/\aR K H b ys)
  (hs:∀ i x y t u σ H,xs[i]? = some x->ys[i]? = some y->Pv i σ H->H t=none->H u=none->t≠u->g (.ref u) σ (upd (upd H t (.tup [x,y])) u (.tup [.int i,.ref t])) fun σ2 H2=>tb { D with nx:=Pv (i+1),ct:=Pv (i+1),bk:=D.nx } σ2 H2) (hd:∀ σ H,Pv xs.length σ H->D.nx σ H) :
  ∃ W:Nat->Nat->St->Hp->Prop,(∃ m,W 0 m σ H)/\∀ i m σ H,W i m σ H ->
   ((VZ K a b).stop i H/\D.nx σ H)\/((VZ K a b).go i H/\∃ N:St->Hp->Prop,(∀ σ' H',N σ' H'->∃ m',m'<m/\W (i+1) m' σ' H')/\∀ x H',(VZ K a b).X5 i H x H'->g x σ H' fun σ2 H2=>tb { D with nx:=N,ct:=N,bk:=D.nx } σ2 H2):=by
 refine⟨fun i m σ H=>m=xs.length-i/\i<=xs.length/\Pv i σ H,⟨xs.length,by simp,Nat.zero_le _,h0⟩,?_⟩;rintro i m σ H ⟨rfl,hi,p⟩;obtain⟨q,q2⟩:=hl i σ H p
 by_cases hlt:i<xs.length
 ·have hlt2:i<ys.length:=by omega
  refine .inr ⟨⟨xs,ys,xs[i],ys[i],q,q2,by simp[hlt],by simp[hlt2]⟩,Pv (i+1),fun σ' H' p'=>⟨xs.length-(i+1),by omega,rfl,hlt,p'⟩,fun x H' y=>?_⟩;obtain⟨x0,y0,t,u,rfl,hn,hn2,tu,hx,hy,rfl⟩:=y;exact hs i x0 y0 t u σ H (hx xs q) (hy ys q2) p hn hn2 tu
 ·have e:i=xs.length:=by omega
  subst e;exact .inl ⟨⟨xs,ys,q,q2,Nat.le_refl _⟩,hd σ H p⟩
end L2
set_option maxHeartbeats 4000000
namespace L2
open PySem PySem.Spec PyProof.Rows
structure MC (K:Frag)(x qual:Str)(st:Stmt)(f:Addr)(fd:FuncData)(dV:Value):Prop where
 ex:∃(oc:Value)(od:Option Addr)(kV doc pm:Value)(an:Option Addr)(cdv ct:Value)(osl:Array (Option Value)),
  fd=fnOf x qual (aw st) (av st) (ah st) dV kV doc pm an cdv ct/\K.lookup f=some ⟨oc,od,.func fd,osl⟩/\codeIn K cdv qual=true
 kp:keepIn K (.ref f)=true
section
variable {P:Program} {w:World} {K:Frag} {mg:Str->Option Value} {base:Heap}
theorem MC.ok {x qual:Str}{st:Stmt}{f:Addr}{fd:FuncData}{dV:Value}{N ps:List Str}{k:Nat}{sp:Sp}(F:MC K x qual st f fd dV)(S:az N ps (ah st))(len:∀ vs H Q E,sp vs H Q E->vs.length=ps.length)
  (hbody:∀(cdv:Value)(A:Around)(outer:List Env)(s:Shared)(H:Hp)(vs:List V)(Q:VK)(E:XK),kn k (A.deeper (envOfC qual (ah st) s.heap.objs.size f cdv))->sp vs H Q E ->
   ∃ t,RG (RS fq P w K mg base N qual (ah st) f cdv A outer s H E).nox (av st) t/\t { nx:=fun _ H'=>Q .non H',rt:=Q } (start N vs) H):bg P w K mg base fq (k+1) f fd ps sp:=by
 obtain⟨oc,od,kV,doc,pm,an,cdv,ct,osl,rfl,lk,hcd⟩:=F.ex;refine abJ lk hcd S len fun A outer s H vs Q E hr hsp=>?_;obtain⟨t,h,q⟩:=hbody cdv A outer s H vs Q E hr hsp;exact⟨t,h.nox,q⟩
theorem MC.binds {x qual:Str}{st:Stmt}{f:Addr}{fd:FuncData}{T:Addr}{o:Obj}{items:Array Value}{n:Nat}{ps:List Str}{ds:List Value}(F:MC K x qual st f fd (.ref T))(lk:K.lookup T=some o)(hs:o.data=.seq items n)
  (h:∀(kV doc pm:Value)(an:Option Addr)(cdv ct:Value)(us:List Value),(us++ds).length=ps.length->∃ k,bindArgs (fnOf x qual (aw st) (av st) (ah st) (.ref T) kV doc pm an cdv ct) ⟨us,[]⟩=seqItems? (.ref T) >>= k/\k (some items)=pure (ps.zip (us++ds))):Binds K fd ps ds:=by
 obtain⟨oc,od,kV,doc,pm,an,cdv,ct,osl,rfl,lkf,hcd⟩:=F.ex;intro s us KI hl;obtain⟨k,h1,h2⟩:=h kV doc pm an cdv ct us hl;exact BindsTo.of_defaults rfl (KI _ _ lk) hs h1 h2
theorem GA {x qual:Str}{st:Stmt}{f:Addr}{oc:Value}{od an:Option Addr}{osl:Array (Option Value)}{dV kV doc pm cdv ct:Value}(l:K.lookup f=some ⟨oc,od,.func (fnOf x qual (aw st) (av st) (ah st) dV kV doc pm an cdv ct),osl⟩)
  (c:codeIn K cdv qual=true) (k:keepIn K (.ref f)=true):MC K x qual st f (fnOf x qual (aw st) (av st) (ah st) dV kV doc pm an cdv ct) dV:=⟨⟨oc,od,kV,doc,pm,an,cdv,ct,osl,rfl,l,c⟩,k⟩
end
inductive R4 (w:World):List DictEntry->List (Str×V)->Prop
 |nil:R4 w [] []
 |cons {x:Str} {t:Tok} {u:Value} {v:V} {es:List DictEntry} {kvs:List (Str×V)}:RelV v u->R4 w es kvs->R4 w (⟨PyData.keyHash w.params x,.str x t,u⟩::es) ((x,v)::kvs)
structure KD (K:Frag)(w:World)(a:Addr)(kvs:List (Str×V)):Prop where
 sys:(a==sysModules)=false
 ok:∃ es n,K.lookup a=some ⟨.type "dict",none,.dict es n,#[]⟩/\R4 w es.toList kvs/\(kvs.map (·.1)).Nodup
theorem R4.vs (P:Program){w:World}:∀{es:List DictEntry} {kvs:List (Str×V)},R4 w es kvs->∃ vs:List (Key×Value),Pairs (bY P w) es vs/\vs.map (·.1)=kvs.map (fun p=>(Sum.inr p.1:Key)) /\
  (∀ e∈es,∃ k,(bY P w).is k e.key=true/\e.hash=(bY P w).hash k)/\∀ x,qU (kvs.lookup x) (valueAt vs (Sum.inr x))
 |_,_,.nil=>⟨[],.nil,rfl,fun e h=>by simp at h,fun x=>True.intro⟩
 |_,_,.cons (x:=x) (t:=t) (u:=u) (v:=v) r q=>by
  obtain⟨vs,h1,h2,h3,h4⟩:=R4.vs P q;refine⟨(Sum.inr x,u)::vs,.cons (iV P w x t) rfl h1,by rw[map_cons,map_cons,h2],fun e he=>?_,fun y=>?_⟩
  ·rcases List.mem_cons.mp he with rfl|he
   ·exact⟨Sum.inr x,iV P w x t,rfl⟩
   ·exact h3 e he
  ·by_cases hy:y=x
   ·subst hy;unfold valueAt;simp only [List.lookup_cons,List.find?_cons];simp;exact r
   ·unfold valueAt;have h5:=h4 y;unfold valueAt at h5;have e1:(y==x)=false:=by simpa using hy
    have e2:decide ((Sum.inr x:Key)=Sum.inr y)=false:=decide_eq_false fun e=>hy (Sum.inr.inj e).symm;simp only [List.lookup_cons,e1,List.find?_cons,e2];exact h5
theorem CA:∀{l:List Str},l.Nodup->(l.map (fun p=>(Sum.inr p:Key))).Nodup
 |[],_=>.nil
 |x::l,h=>by
  rw[map_cons,List.nodup_cons];obtain⟨h1,h2⟩:=List.nodup_cons.mp h;refine⟨fun z=>?_,CA h2⟩;obtain⟨y,hy,e⟩:=mem_map.mp z;cases e;exact h1 hy
theorem KD.dict (P:Program){K:Frag}{w:World}{a:Addr}{kvs:List (Str×V)}{h:Heap}(d:KD K w a kvs)(hi:K.In h):∃ vs,h.DictOf (bY P w) a vs/\∀ x,qU (kvs.lookup x) (valueAt vs (Sum.inr x)):=by
 obtain⟨es,n,lk,ok,nd⟩:=d.ok;obtain⟨vs,h1,h2,h3,h4⟩:=ok.vs P;refine⟨vs,⟨_,es,n,hi _ _ lk,⟨rfl,rfl,rfl⟩,rfl,fun e he=>h3 e (by simpa using he),h1,?_⟩,h4⟩;rw[h2];have:=CA nd;rw[List.map_map]at this;exact this
theorem qU.aaL {o:Option V}{u:Option Value}(r:qU o u):o.isSome=u.isSome:=by
 cases o <;> cases u <;> first|rfl|exact False.elim r
theorem qU.aet {o:Option V}{u:Option Value}{d:V}{d':Value}(r:qU o u)(rd:RelV d d'):RelV (o.getD d) (u.getD d'):=by
 cases o with
 |none=>cases u with
  |none=>exact rd
  |some _=>exact False.elim r
 |some v=>cases u with
  |none=>exact False.elim r
  |some _=>exact r
section
variable {X:Cx}
theorem YX:rT X (compareOp .In) (fun x y H Q=>∃ a z kvs,x=.str z/\y=.ref a/\KD X.K X.w a kvs/\Q (.bl (kvs.lookup z).isSome) H):=by
 intro pins s σ H x y v u Q I rx ry h;obtain⟨a,z,kvs,rfl,rfl,d,q⟩:=h;obtain⟨t,rfl⟩:=rx;cases ry;obtain⟨vs,dd,rel⟩:=d.dict X.prog I.Ah;refine wpAny_in_of (knd:=bY X.prog X.w) (k:=Sum.inr z) (iV _ _ z t) d.sys dd.mapOf ?_;rw[<-(rel z).aaL];exact⟨.bl _,H,I.tok _,rfl,q⟩
theorem abX:IxR X (fun x y H Q=>∃ a z kvs r,x=.ref a/\y=.str z/\KD X.K X.w a kvs/\kvs.lookup z=some r/\Q r H):=by
 intro value slice pins s σ H x y v u Q I rx ry h hs;obtain⟨a,z,kvs,r,rfl,rfl,d,l,q⟩:=h;cases rx;obtain⟨t,rfl⟩:=ry;obtain⟨vs,dd,rel⟩:=d.dict X.prog I.Ah;have hr:=rel z;rw[l]at hr;cases hv:valueAt vs (Sum.inr z) with
 |none=>rw[hv]at hr;exact False.elim hr
 |some rv =>
  rw[hv]at hr;exact subscriptTail_builtinR (x:=rv) dd.typeIs PySem.F.slot_dict_getitem.lookup
   (wpAny_getItem_of (knd:=bY X.prog X.w) (k:=Sum.inr z) (iV _ _ z t) dd.mapOf hv ⟨rfl,⟨r,H,I.tok _,hr,q⟩⟩) hs
def acR (K:Frag)(w:World)(td ty tx:TE):TE:=fun σ H Q=>td σ H fun x H1=>∃ a kvs,x=.ref a/\KD K w a kvs/\ty σ H1 fun y H2=>tx σ H2 fun z H3=>∃ k,y=.str k/\Q ((kvs.lookup k).getD z) H3
theorem YY {o e f:Expr}{apos cpos:Pos}{td ty tx:TE}(ho:PE X o td)(he:PE X e ty)(hf:PE X f tx)
  (base:attributeBase o "get" X.env (eval o X.env)=eval o X.env:=by rfl)
  (few:((backTo cpos (starEach [e,f] X.env)).all (fun x=>!x.1)&&(backToKw cpos (keywordEach [] X.env)).all (fun x=>x.1.isSome)
   && decide (([e,f]:List Expr).length+([]:List Keyword).length+(if([]:List Keyword).isEmpty then 0 else 1)<30))=true:=by rfl)
  (line:(apos.endLine==cpos.line)=true:=by rfl) (trees:backTo cpos (starEach [e,f] X.env)=[(false,eval e X.env),(false,eval f X.env)]:=by rfl) :
  PE X (.Call (.Attribute o "get" apos) [e,f] [] cpos) (acR X.K X.w td ty tx):=by
 intro pins s σ H Q I h;refine wpAny_Call_method base few line PySem.F.plainAttrs_dict slot_dict_get PySem.F.type_dict_get (cT (ho pins s σ H _ I h) fun u s1 ⟨x,H1,I1,rx,a,kvs,ex,d,q1⟩=>?_);subst ex;obtain rfl:u=Value.ref a:=rx;obtain⟨vs,dd,rel⟩:=d.dict X.prog I1.Ah;refine⟨dd.typeIs,fun b q=>?_,?_⟩
 ·cases q;obtain⟨ob,_,_,h1,h2,_⟩:=dd;exact⟨ob,h1,h2.2.1⟩
 rw[trees];refine Calls.callWith_builtin rfl (Calls.evalArgs_plain (Calls.spliced_cons (cT (he pins s1 σ H1 _ I1 q1) fun iv s2 ⟨y,H2,I2,ry,q2⟩ =>
  Calls.spliced_cons (cT (hf pins s2 σ H2 _ I2 q2) fun fv s3 ⟨z,H3,I3,rz,k,ek,q3⟩=>Calls.spliced_nil ?_))))
 subst ek;obtain⟨t,rfl⟩:=ry;obtain⟨vs3,dd3,agI⟩:=d.dict X.prog I3.Ah;exact call_meetsIn slot_dict_get dd3.typeIs PySem.F.entry_dict_get (PySem.F.args_dict_get_3 _ _ _) (meets_dict_get_default (bY X.prog X.w) a (iV _ _ k t) d.sys fv) ⟨_,dd3.mapOf,_,H3,I3.tok _,(agI k).aet rz,q3⟩
end
end L2
set_option maxHeartbeats 4000000
namespace L2
open PySem PySem.Spec PyProof.Rows
def aeu (t:TE):TE:=fun σ H Q=>∃ R:V->Hp->Prop,t σ H R/\∀ v H',R v H'->Q v H'
def aev (t:TT):TT:=fun σ H Q=>∃ R:Bool->Hp->Prop,t σ H R/\∀ v H',R v H'->Q v H'
def aew (t:TS):TS:=fun D σ H=>∃ R:St->Hp->Prop,t { D with nx:=R } σ H/\∀ σ' H',R σ' H'->D.nx σ' H'
section
variable {X:Cx}
theorem cI {e:Expr}{t:TE}(h:PE X e t):PE X e (aeu t):=by
 intro pins s σ H Q I ⟨R,hR,hQ⟩;exact cT (h pins s σ H R I hR) fun u s1 ⟨v,H1,I1,r,q⟩=>⟨v,H1,I1,r,hQ v H1 q⟩
theorem cf {e:Expr}{t:TT}(h:PT X e t):PT X e (aev t):=by
 intro pins s σ H Q I ⟨R,hR,hQ⟩;exact cT (h pins s σ H R I hR) fun u s1 ⟨H1,I1,q⟩=>⟨H1,I1,hQ u H1 q⟩
theorem me {st:Stmt}{t:TS}(h:PS X st t):PS X st (aew t):=by
 intro pins s σ H D I ⟨R,hR,hQ⟩;refine cT (h pins s σ H _ I hR) fun f s1 q=>?_;cases f with
 |next=>exact let ⟨σ',H',I',q'⟩:=q;⟨σ',H',I',hQ _ _ q'⟩
 |brk=>exact q
 |cont=>exact q
 |ret u=>exact q
end
theorem GS {t:TE}{σ:St}{H:Hp}{Q:VK}(v:V)(h:t σ H fun x H1=>x=v/\H1=H)(q:Q v H):∃ R:V->Hp->Prop,t σ H R/\∀ v H',R v H'->Q v H':=⟨_,h,by rintro _ _ ⟨rfl,rfl⟩;exact q⟩
theorem nW {t:TT}{σ:St}{H:Hp}{Q:Bool->Hp->Prop}(b:Bool)(h:t σ H fun x H1=>x=b/\H1=H)(q:Q b H):∃ R:Bool->Hp->Prop,t σ H R/\∀ v H',R v H'->Q v H':=⟨_,h,by rintro _ _ ⟨rfl,rfl⟩;exact q⟩
theorem YZ {t:TS}{σ:St}{H:Hp}{D:Ends}(σ':St)(H':Hp)(h:t { D with nx:=fun σ1 H1=>σ1=σ'/\H1=H' } σ H)(q:D.nx σ' H'):∃ R:St->Hp->Prop,t { D with nx:=R } σ H/\∀ σ' H',R σ' H'->D.nx σ' H' :=
 ⟨_,h,by rintro _ _ ⟨rfl,rfl⟩;exact q⟩
theorem m7 {x v:V}{H:Hp}(e:x=v):x=v/\H=H:=⟨e,rfl⟩
theorem dE {x v:Bool}{H:Hp}(e:x=v):x=v/\H=H:=⟨e,rfl⟩
end L2
set_option maxHeartbeats 4000000
namespace L2
open PySem PySem.Spec PyProof.Rows
abbrev Cx.names (X:Cx)(N:List Str):Cx:={ X with N:=N }
section
variable {X:Cx} {pins:List (Addr×Obj)} {σ:St} {H:Hp} {s:Shared}
end
end L2
set_option maxHeartbeats 4000000
namespace L2
open PySem PySem.Spec PyProof.Rows
section
variable {X:Cx} {tg iter elt:Expr} {ifs:List Expr} {scope:Scope} {pos:Pos} {cn:List Str} {wi:TI} {g:Bk->TG} {tc:Bk->TT} {te:Bk->TE}
theorem R5 {i:Nat}{x:Str}{pos' spos:Pos}(hN:X.N.Nodup)(hix:X.N[i]? = some x)(hx:X.env.scope.names.lookup x=some .local)(hcalm:X.calm=true)(F:cz X.env.scope X.N scope)(hi:PI X tg iter wi)
  (hg:∀ b,PG (cG X cn scope b) tg (g b)) (ht:∀ b,PF (cG X cn scope b) ifs (tc b)) (he:∀ b,PE (cG X cn scope b) elt (te b))
  (hsw:swapsWith (.ListComp elt [⟨tg,iter,ifs,0⟩] scope pos) (some (.Name x pos')) spos.line X.env=pure true:=by rfl)
  (hs:∀ x,foldedSetIterable iter X.env x=pure x:=by intro _;rfl):PS X (.Assign [.Name x pos'] (.ListComp elt [⟨tg,iter,ifs,0⟩] scope pos) spos) (aaw (YE cn.length wi g tc te) (Lq i)):=by
 intro pins s σ H D I h;rw[exec_Assign_Name_used _ _ _ _ hsw];refine wpAny_bind (wpAny_standAt (wpAny_bind ?_));rw[arm_evalThenUse_ListComp];refine wpAny_bind ?_;have hcl:closureFor scope X.env=pure (fH X.env scope.names []):=UX fun p hp e=>I.ok.has p.1 (F.free p hp e);refine wpAny_comprehension_free (use:=some (assign (.Name x pos') X.env)) rfl hs hcl F.kind F.loc (cT (hi pins s σ H _ I h) fun xv s₁ h₁=>cT h₁ fun itv s₂ h₂=>?_);obtain⟨it,fp,tn,J,H2,rfl,I2,T,st,f2,R⟩:=h₂;refine P8 (TH:=fun _=>True) (QQ:=fun D' H'=>D.nx (σ.set i (some (.ref D'))) H') (RR:=fun acc C=>compPost (model X.prog X.w) X.A X.xe (some (assign (.Name x pos') X.env)) _ acc C) hcalm F (fun b _=>hg b) (fun b _=>ht b) (fun b _=>he b) (fun _ _=>trivial) I2 T st f2 R ?_ ?_
 ·intro C D' σ' H' s' hC I' q;obtain⟨m,hm,_⟩:=I'.loc;have hCn:H' C=none:=I'.free;have fC:l8 X pins H' C:=I2.Mq hC hCn;have I3:Inv X pins σ H' s':=I2.UZ f2 hC I' ⟨rfl,fun _ _=>rfl⟩;show wpAny (model X.prog X.w) X.A (assign (.Name x pos') X.env (.ref D')) _ X.xe s';refine wpAny_assign_Name (Lp I3 hN hix (.inl hx) (v:=.ref D') rfl (fun s'' I4 ⟨a,sa,ha⟩=>?_) (.inr hx));have hne:C≠a:=by
   rcases ha with e|e
   ·rw[e];exact fC.2.1
   ·exact fun z=>fC.2.2.2.2.1 _ _ e z.symm
  obtain⟨o,es,ep,ho,r⟩:=hm;refine⟨m,⟨o,es,ep,(sa.2 C hne).trans ho,r⟩,fun h' sb=>?_⟩;refine wpAny_pure (wpAny_pure ⟨_,H',?_,q⟩);exact I4.iD (tk:=s''.toks) (wr:=[C]) (fun b hb=>by
   have:b=C:=by simpa using hb
   rw[this];exact fC) fun b o hb e=>(sb.2 b (fun z=>hb (by simp[z]))).trans e
 ·intro C D' e s' z;exact z
end
end L2
set_option maxHeartbeats 4000000
namespace L2
open PySem PySem.Spec PyProof.Rows PySem.SeqAt
section
variable {X:Cx}
inductive abY (K:Frag)(neg:Bool)(x:V)(y:V)(H:Hp)(Q:VK):Prop
 |mk (a:_) (c:_) (xs:_) (dC:x=.ref a) (dD:y=.ref c) (eK:aR K H a xs) (jj:aR K H c []) (pb:Q (.bl (if neg then !xs.isEmpty else xs.isEmpty)) H):abY K neg x y H Q
def agJ (K:Frag)(neg:Bool):R2:=fun x y H Q=>abY K neg x y H Q
theorem acS {pins:List (Addr×Obj)}{σ:St}{H:Hp}{s:Shared}{a c:Addr}{xs:List V}(hu:X.A.units+64<cLine)(I:Inv X pins σ H s)(ha:aR X.K H a xs)(hc:aR X.K H c []):RcAt X.A s (.ref a) (.ref c) xs.isEmpty/\RcNeAt X.A s (.ref a) (.ref c) (!xs.isEmpty):=by
 obtain⟨its,r,p,_⟩:=I.list ha;obtain⟨its',r',p',_⟩:=I.list hc;have e1:=r.length;have e2:=r'.length;simp at e2;cases xs with
 |nil =>
  simp at e1;have z1:its=[]:=by simpa using e1.symm
  have z2:its'=[]:=by simpa using e2.symm
  subst z1 z2;constructor
  ·have:=RcAt.lists (A:=X.A) (e:=fun _=>true) p.isList p'.isList rfl (by omega) (fun j h1 _=>absurd h1 (by simp))
   simpa using this
  ·have:=RcNeAt.lists (A:=X.A) (e:=fun _=>true) p.isList p'.isList rfl (by omega) (fun j h1 _=>absurd h1 (by simp))
   simpa using this
 |cons x t =>
  have hne:(its.toArray.size != its'.toArray.size)=true:=by
   simp at e1;have z2:its'=[]:=by simpa using e2.symm
   subst z2;have:its.length≠0:=by omega
   simpa using this
  exact⟨RcAt.lists_lengths p.isList p'.isList hne (by omega),RcNeAt.lists_lengths p.isList p'.isList hne (by omega)⟩
theorem R6 (hu:X.A.units+64<cLine):rT X (compareOp .Eq) (agJ X.K false):=by
 intro pins s σ H x y v u Q I r1 r2 h;obtain⟨a,c,xs,rfl,rfl,ha,hc,q⟩:=h;cases r1;cases r2;exact(acS hu I ha hc).1 X.prog X.w X.xe _ ⟨.bl _,H,I,rfl,q⟩
end
end L2
set_option maxHeartbeats 4000000
namespace L2
open PySem PySem.Spec PyProof.Rows
structure PEw (X:Cx)(e:Expr)(t:TE):Prop where
 out:PE X e t
structure PAw (X:Cx)(es:List Expr)(t:TA):Prop where
 out:PA X es t
end L2
set_option maxHeartbeats 4000000
namespace L2
open PySem PySem.Spec PyProof.Rows
abbrev XSt:=St->Value->Hp->Prop
section
variable {X:Cx} {pins:List (Addr×Obj)} {σ:St} {H H':Hp} {s s':Shared}
end
section
variable {P:Program} {w:World} {K:Frag} {mg:Str->Option Value} {base:Heap}
end
inductive aaM (C:Addr)(m:Str)(sp:Sp)(Ai:List V)(XS:XSt)(t:TA)(σ:St)(Q:VK)(x:V)(H1:Hp):Prop
 |mk (a:_) (dx:_) (fs:_) (dC:x=.ref a) (dD:H1 a=some (.ins C dx fs)) (eK:fs.lookup m=none) (jj:t σ H1 fun vs H2=>sp (x::(vs++Ai)) H2 Q fun cls _ H'=>XS σ cls H'):aaM C m sp Ai XS t σ Q x H1
section
variable {X:Cx} {W:Value->Shared->Prop} {XS:XSt} {k:Nat} {f C:Addr} {fd:FuncData} {ps:List Str} {sp:Sp} {Ai:List V} {ds:List Value} {x m:Str} {p pos apos:Pos} {e o:Expr} {es:List Expr} {ta:TE} {t:TA}
end
abbrev aex:List Value:=[.type "ValueError",.type "Exception",.type "BaseException",.type "object"]
def ExC (K:Frag)(C:Addr):Prop:=excIn K C aex "ValueError.__new__" = true
abbrev Cx.pnd (X:Cx)(pn:List (Addr×Obj)):Cx:={ X with pn:=pn }
abbrev Cx.hand (X:Cx)(a:Addr):Cx:={ X with A:=X.A.mark (some (.ref a)),calm:=false,xe:=fun _ _=>False }
section
variable {X:Cx} {pins Ya:List (Addr×Obj)} {σ:St} {H H':Hp} {s:Shared}
end
end L2
set_option maxHeartbeats 4000000
namespace L2
open PySem PySem.Spec PyProof.Rows
structure ExA (K:Frag)(C:Addr):Prop where
 exc:ExC K C
 ga:findIn K (.ref C) "__getattribute__"=some (some (.builtin "BaseException.__getattribute__"))
 aiV:findIn K (.ref C) "__getattr__"=some none
 cl:findIn K (.ref C) "__class__"=some (some (.builtin "object.__class__"))
section
variable {prog:Program} {w:World} {A:Around} {E:Value->Shared->Prop} {h:Heap} {g:Array GenState} {d:Drawn} {t:Nat} {os:OsState} {a:Addr} {o:Obj} {vs:Array Value} {K:Frag}
 {nm q:Str} {C N:Addr} {bs bm:List Value} {hdct:Bool} {sn:List Str} {sub:List Value} {ab:Bool} {col:Option Bool} {dd:Option Addr} {k0 k1 k2 k3 k5:Option Value} {newId:String}
end
section
variable {X:Cx}
end
end L2
set_option maxHeartbeats 4000000
namespace L2
open PySem PySem.Spec PyProof.Rows
section
variable {P:Program} {w:World} {K:Frag} {mg:Str->Option Value} {base:Heap}
end
section
variable {X:Cx} {tg iter elt:Expr} {ifs:List Expr} {scope:Scope} {pos:Pos} {cn:List Str} {wi:TI} {g:Bk->TG} {tc:Bk->TT} {te:Bk->TE} {TH:Bk->Prop}
end
end L2
set_option maxHeartbeats 4000000
namespace L2
open PySem PySem.Spec PyProof.Rows
def acT (to:TE)(tl th:St->Hp->(Option Int->Hp->Prop)->Prop):TG:=fun v σ H Q=>to σ H fun x H1=>tl σ H1 fun l H2=>th σ H2 fun u H3 =>
 ∃(p b:Addr)(xs ys:List V)(a c:Int),x=.ref p/\v=.ref b/\l=some a/\u=some c/\H3 p=some (.lst xs)/\H3 b=some (.lst ys)/\p≠b/\0<=a/\a<=c/\c<=xs.length/\xs.length+ys.length<=sizeLine/\Q σ (upd H3 p (.lst (xs.take a.toNat++ys++xs.drop c.toNat)))
theorem Qe {X:Cx}{o:Expr}{lo hi:Option Expr}{p2 pos:Pos}{to:TE}{tl th:St->Hp->(Option Int->Hp->Prop)->Prop}(ho:PE X o to)(hl:PO X lo tl)(hu:PO X hi th)
  (ha:∀ v,assign (.Subscript o (.Slice lo hi none p2) pos) X.env v=(do
   let ov <-holding [v] (eval o X.env)
   let iv <-holding [v,ov] (eval (.Slice lo hi none p2) X.env)
   standAt pos
   holding [v,ov,iv] (setItem ov iv v)
   release [iv,v,ov] []):=by intro _;rfl):PG X (.Subscript o (.Slice lo hi none p2) pos) (acT to tl th):=by
 intro pins s σ H v u Q I r h;rw[ha];refine wpAny_bind (wpAny_holding (cT (ho pins s σ H _ I h) fun ov s1 ⟨x,H1,I1,r1,q1⟩=>?_));refine wpAny_bind (wpAny_holding ?_);refine wpAny_Slice (cT (hl pins s1 σ H1 _ I1 q1) fun vl s2 ⟨l,H2,I2,pl,q2⟩=>cT (hu pins s2 σ H2 _ I2 q2) fun vu s3 ⟨uu,H3,I3,pu,q3⟩=>?_);rw[evalPart_none];refine wpAny_pure ?_;have I4:Inv X pins σ H3 { s3 with heap:=s3.heap.push { cls:=.type "slice",data:=.fields #[vl,vu,.none] } }:=I3.kept (t':=s3.toks) fun b ob q=>Heap.get?_push_of_some _ q;obtain⟨p,b,xs,ys,a,c,rfl,rfl,rfl,rfl,hp,hb,hne,h0,hac,hc,hz,q4⟩:=q3;cases r1;cases r;refine wpAny_bind (wpAny_standAt (wpAny_bind (wpAny_holding ?_)));refine VR I4 hp hb hne (Heap.IsSliceOf.new ..) (by cases pl;exact⟨_,rfl⟩) (by cases pu;exact⟨_,rfl⟩) h0 hac hc hz fun s5 I5=>?_;exact wpAny_release ⟨σ,_,I5,q4⟩
end L2
namespace L2
open PySem PySem.Spec PyProof.Rows
section
variable {X:Cx}
theorem all_range:∀ bs:List Bool,(List.range bs.length).all (fun i=>bs.getD i false)=bs.all id
 |[]=>rfl
 |b::bs=>by
  rw[length_cons,List.range_succ_eq_map,List.all_cons,List.all_map,List.all_cons];have:((fun i=>(b::bs).getD i false) ∘ Nat.succ)=fun i=>bs.getD i false:=by
   funext i
   rfl
  rw[this,all_range bs];rfl
theorem Y0:jo X (.builtin "all") (fun xs H Q=>X.calm=true/\∃(a:Addr)(bs:List Bool),xs=[.ref a]/\aR X.K H a (bs.map V.bl)/\Q (.bl (bs.all id)) H):=by
 intro pins s σ H xs us Q I r h;obtain⟨hc,a,bs,rfl,hq,q⟩:=h;obtain⟨u,rfl,rfl⟩:=r.one;obtain⟨its,rv,p,hz⟩:=I.list hq;have hl:=rv.length;rw[length_map]at hl;have acI:∀(i:Nat)(v:Value),its.toArray[i]? = some v->v=Value.bool (bs.getD i false):=by
  intro i v hv;have hv':its[i]? = some v:=by simpa using hv
  have hi:i<its.length:=(List.getElem?_eq_some_iff.mp hv').1;have hb:i<bs.length:=by omega
  obtain⟨u,hu,ru⟩:=rv.get (i:=i) (x:=.bl (bs[i])) (by rw[getElem?_map,getElem?_eq_getElem hb];rfl);rw[hv']at hu;cases hu;have:v=.bool bs[i]:=ru;rw[this,List.getD_eq_getElem?_getD,getElem?_eq_getElem hb];rfl
 refine call_all_walk (wpAny_pyIter_list p.isList ?_);have ane:a≠s.heap.objs.size:=by
  obtain⟨o,ho,_⟩:=p.isList;exact Nat.ne_of_lt (Heap.lt_size ho)
 have hd:X.A.in1.handled=none:=I.ok.hd hc;refine⟨s.heap.objs.size,_,_,_,_,_,fun i=>bs.getD i false,rfl,Walks.list hd s.heap.objs.size a ane its.toArray,⟨⟨_,Heap.get?_push_size _ rfl,rfl,rfl⟩,p.isList.push _⟩,?_,?_⟩
 ·intro i v s' Q' E' hP hQ';rw[acI i v hP];exact wpAny_truthy_bool hQ'
 ·intro h' tk kk;have e:(List.range its.toArray.size).all (fun i=>bs.getD i false)=bs.all id:=by
   rw[size_toArray,<-hl];exact all_range bs
  rw[e];refine⟨.bl _,H,I.kept (t':=tk) fun b o e=>kk b o (fun z=>?_) (Heap.get?_push_of_some _ e),rfl,q⟩;have:b=s.heap.objs.size:=by simpa using z
  exact absurd (Heap.lt_size e) (by rw[this];exact Nat.lt_irrefl _)
def Itd (lo:Int)(n:Nat):It:={ go:=fun i _=>i<n,X5:=fun i H x H'=>H'=H/\x=V.int (lo-(i:Int)),stop:=fun i _=>n<=i }
theorem V0 {P:Program}{w:World}{K:Frag}{tg:Expr}(it:Addr)(lo:Int)(n:Nat):Turn P w K tg (Itd lo n) [it] it (fun i h=>IsRangeIter h it (lo+(i:Nat) * (-1)) ((n:Int)-(i:Nat)) (-1)) where
 mem:=by simp
 obj:=fun i h st b hb=>by
  have e:b=it:=by simpa using hb
  subst e;exact⟨_,st,fun v z=>by
   have z':Data.fields _=Data.cell v:=z;cases z'⟩
 keep:=fun i h h' st k=>k it (by simp) _ st
 item:=by
  intro X hP hw hK hc i pins s σ H E I hf st hg;subst hP hw hK;obtain⟨f0,f1,f2,f3,f4,f5⟩:=hf it (by simp);have W:=Walks.range (prog:=X.prog) (w:=X.w) (I.ok.hd hc) it lo (-1) n;refine W.item i s _ _ hg st fun v h' tk hv st' kk=>?_;obtain⟨t,rfl⟩:=hv;have I1:Inv X pins σ H { s with heap:=h',toks:=tk }:=I.turned (fun b o hb e=>kk b o (by simpa using hb) e) f0 f1 f3 f4 f5;refine⟨_,rfl,UJ (s:={ s with heap:=h',toks:=tk }) (n:="range_iterator") st' rfl rfl (by decide) ⟨.int (lo-i),H,I1,⟨t,?_⟩,⟨rfl,rfl⟩,st',fun b hb=>(hf b hb).1⟩⟩;have:lo+(i:Int) * (-1)=lo-i:=by omega
  rw[this]
 done:=by
  intro X hP hw hK hc i pins s σ H E I hf st hg;subst hP hw hK;obtain⟨f0,f1,f2,f3,f4,f5⟩:=hf it (by simp);exact wpAny_pyNext_range_end (I.ok.hd hc) st (by have:n<=i:=hg;omega) fun h' eb=>⟨rfl,I.turned (t':=s.toks) (fun b o hb e=>eb b o hb e) f0 f1 f3 f4 f5⟩
 self:=fun _ _ _ _ _ st h=>wpAny_pyIter_rangeiter st h
theorem rangeSize_down (a b:Int):Builtin.Range.rangeSize a b (-1)=if b<a then a-b else 0:=by
 unfold Builtin.Range.rangeSize;rw[if_neg (by decide)]
 by_cases h:a > b
 ·rw[if_pos h,if_pos h];show(a-b-1) / 1+1=a-b;omega
 ·rw[if_neg h,if_neg h]
theorem small_down {a b:Int}(h1:-(2 ^ 62)<=a)(h2:a<2 ^ 62)(h3:-(2 ^ 62)<=b)(h4:b<2 ^ 62):Builtin.Range.small a b (-1)=true:=by
 unfold Builtin.Range.small;rw[rangeSize_down];have f:∀ x:Int,-(2 ^ 63)<=x->x<2 ^ 63->Builtin.Range.rangeFitsLong x=true:=fun x p q=>by
  unfold Builtin.Range.rangeFitsLong;simp;omega
 rw[f a (by omega) (by omega),f b (by omega) (by omega),f (-1) (by omega) (by omega),f _ (by split <;> omega) (by split <;> omega),if_neg (show ¬((-1:Int) > 0) by decide),f (b+(-1+1)) (by omega) (by omega)];simp
theorem aaN {tg:Expr}{pins:List (Addr×Obj)}{σ:St}{H:Hp}{s:Shared}{R:It->Hp->Prop}{E:Value->Shared->Prop}{lo hi:Int}{t u v:Tok}{tk:Nat}(I:Inv X pins σ H s)(h1:-(2 ^ 62)<=lo)(h2:lo<2 ^ 62)(h3:-(2 ^ 62)<=hi)(h4:hi<2 ^ 62)
  (q:R (Itd lo (lo-hi).toNat) H):wpAny (model X.prog X.w) X.A (pyIter (.ref s.heap.objs.size)) (PIE X pins σ tg R) E { s with heap:=s.heap.push { cls:=.type "range",data:=.fields #[.int lo t,.int hi u,.int (-1) v] },toks:=tk }:=by
 refine wpAny_pyIter_range (IsRange.new ..) (small_down h1 h2 h3 h4) ?_;have I1:Inv X pins σ H { s with heap:=s.heap.push { cls:=.type "range",data:=.fields #[.int lo t,.int hi u,.int (-1) v] },toks:=tk }:=I.kept fun b o e=>Heap.get?_push_of_some _ e;refine⟨(s.heap.push { cls:=.type "range",data:=.fields #[.int lo t,.int hi u,.int (-1) v] }).objs.size,[(s.heap.push { cls:=.type "range",data:=.fields #[.int lo t,.int hi u,.int (-1) v] }).objs.size],_,_,H,rfl,
  I1.kept (t':=tk) fun b o e=>Heap.get?_push_of_some _ e,V0 _ lo (lo-hi).toNat,?_,fun b hb=>?_,q⟩
 ·have e1:lo+((0:Nat):Int) * (-1)=lo:=by simp
  have e2:(((lo-hi).toNat:Nat):Int)-((0:Nat):Int)=Builtin.Range.rangeSize lo hi (-1):=by rw[rangeSize_down];split <;> omega
  show IsRangeIter _ _ (lo+((0:Nat):Int) * (-1)) ((((lo-hi).toNat:Nat):Int)-((0:Nat):Int)) (-1);rw[e1,e2];exact Heap.get?_push_size _ rfl
 ·have e:b=(s.heap.push { cls:=.type "range",data:=.fields #[.int lo t,.int hi u,.int (-1) v] }).objs.size:=by simpa using hb
  subst e;exact I1.Mq (Nat.le_refl _) (I1.hok.fresh (Nat.le_refl _))
def aey (ta:TA):TI:=fun σ H R=>ta σ H fun vs H1=>∃ i j:Int,vs=[.int i,.int j,.int (-1)]/\(-(2 ^ 62)<=i/\i<2 ^ 62/\-(2 ^ 62)<=j/\j<2 ^ 62)/\R (Itd i (i-j).toNat) H1
theorem V1 {tg:Expr}{a b c:Expr}{ta:TA}{p pos:Pos}(hg:Gl X "range")(hm:X.mg "range"=none)(ha:PA X [a,b,c] ta)(hs:starEach [a,b,c] X.env=[(false,eval a X.env),(false,eval b X.env),(false,eval c X.env)]:=by rfl)(hs2:starEach [b,c] X.env=[(false,eval b X.env),(false,eval c X.env)]:=by rfl) :
  PI X tg (.Call (.Name "range" p) [a,b,c] [] pos) (aey ta):=by
 intro pins s σ H R I h;refine Call_ (qg I hg hm boot_range (PyProof.Rows.callWith_type1 (cT (ha pos pins s σ H _ I h) fun us s1 ⟨vs,H1,I1,r1,q1⟩=>?_) (by rw[hs,hs2]) (by rw[hs2];rfl)));obtain⟨i,j,e,⟨q1,q2,q3,q4⟩,q⟩:=q1;subst e;cases r1 with
 |cons r rr =>
  cases rr with
  |cons r' rr =>
   cases rr with
   |cons r'' rr =>
    cases rr;obtain⟨t,rfl⟩:=r;obtain⟨t',rfl⟩:=r';obtain⟨t'',rfl⟩:=r'';exact call_range_3 (by decide) (aaN I1 q1 q2 q3 q4 q) (.inl rfl)
theorem Y1 {lo:Int}{n:Nat}{g:TG}{tb:TS}{D:Ends}{σ:St}{H:Hp}(Pv:Nat->St->Hp->Prop)(h0:Pv 0 σ H)
  (hs:∀ i σ H,i<n->Pv i σ H->g (.int (lo-i)) σ H fun σ2 H2=>tb { D with nx:=Pv (i+1),ct:=Pv (i+1),bk:=D.nx } σ2 H2) (hd:∀ σ H,Pv n σ H->D.nx σ H) :
  ∃ W:Nat->Nat->St->Hp->Prop,(∃ m,W 0 m σ H)/\∀ i m σ H,W i m σ H ->
   ((Itd lo n).stop i H/\D.nx σ H)\/((Itd lo n).go i H/\∃ N:St->Hp->Prop,(∀ σ' H',N σ' H'->∃ m',m'<m/\W (i+1) m' σ' H')/\∀ x H',(Itd lo n).X5 i H x H'->g x σ H' fun σ2 H2=>tb { D with nx:=N,ct:=N,bk:=D.nx } σ2 H2):=by
 refine⟨fun i m σ H=>m=n-i/\i<=n/\Pv i σ H,⟨n,by simp,Nat.zero_le _,h0⟩,?_⟩;rintro i m σ H ⟨rfl,hi,p⟩
 by_cases hlt:i<n
 ·refine .inr ⟨hlt,Pv (i+1),fun σ' H' p'=>⟨n-(i+1),by omega,rfl,hlt,p'⟩,fun x H' y=>?_⟩;obtain⟨e,y⟩:=y;subst e y;exact hs i σ _ hlt p
 ·have e:i=n:=by omega
  subst e;exact .inl ⟨Nat.le_refl _,hd _ _ p⟩
def aaO:TE:=fun _ _ _=>False
theorem Y2 {e:Expr}:PE X e aaO:=fun _ _ _ _ _ _ h=>h.elim
end
end L2
namespace L2
open PySem PySem.Spec PyProof.Rows
section
variable {κ:Type} [DecidableEq κ]
def uD (kvs:List (κ×V))(k:κ):Option V:=(kvs.find? fun kv=>decide (kv.1=k)).map (·.2)
def putK (kvs:List (κ×V))(k:κ)(v:V):List (κ×V) :=
 if(kvs.any fun kv=>decide (kv.1=k))=true then kvs.map (fun kv=>if kv.1=k then(kv.1,v) else kv) else kvs++[(k,v)]
theorem GU {p:κ×V}{r:List (κ×V)}{k:κ}(e:p.1=k):uD (p::r) k=some p.2:=by simp[uD,List.find?_cons,e]
theorem GW {p:κ×V}{r:List (κ×V)}{k:κ}(e:¬ p.1=k):uD (p::r) k=uD r k:=by simp[uD,List.find?_cons,e]
theorem GX (k:κ):∀ kvs:List (κ×V),(kvs.any fun kv=>decide (kv.1=k))=(uD kvs k).isSome
 |[]=>rfl
 |p::r=>by
  rw[List.any_cons]
  by_cases e:p.1=k
  ·simp only [GU e,decide_eq_true e,Bool.true_or,Option.isSome_some]
  ·rw[GW e,decide_eq_false e,Bool.false_or];exact GX k r
theorem Qf (kvs:List (κ×V))(k:κ)(v:V):(putK kvs k v).length<=kvs.length+1:=by
 unfold putK;split
 ·rw[length_map];omega
 ·rw[length_append,length_cons,List.length_nil];omega
theorem Y3 {kvs:List (κ×V)}{k:κ}(v:V)(h:uD kvs k=none):putK kvs k v=kvs++[(k,v)]:=by
 unfold putK;rw[GX,h];exact if_neg (by decide)
theorem KV.val {kvs:List (κ×V)}{vs:List (κ×Value)}(r:KV kvs vs)(k:κ):qU (uD kvs k) (valueAt vs k):=by
 unfold KV at r
 induction r with
 |nil=>exact True.intro
 | @cons p q ps qs h t ih =>
  obtain⟨h1,h2⟩:=h
  by_cases e:p.1=k
  ·have e':q.1=k:=h1.symm.trans e;have b:valueAt (q::qs) k=some q.2:=by simp[valueAt,List.find?_cons,e']
   rw[GU e,b];exact h2
  ·have e':¬ q.1=k:=fun z=>e (h1.trans z);have b:valueAt (q::qs) k=valueAt qs k:=by simp[valueAt,List.find?_cons,e']
   rw[GW e,b];exact ih
theorem KV.any {kvs:List (κ×V)}{vs:List (κ×Value)}(r:KV kvs vs)(k:κ):(kvs.any fun kv=>decide (kv.1=k))=vs.any fun kv=>decide (kv.1=k):=by
 unfold KV at r
 induction r with
 |nil=>rfl
 |cons h t ih=>rw[List.any_cons,List.any_cons,ih,h.1]
theorem KV.repl {kvs:List (κ×V)}{vs:List (κ×Value)}(r:KV kvs vs)(k:κ){y:V}{u:Value}(ry:RelV y u) :
  KV (kvs.map fun kv=>if kv.1=k then(kv.1,y) else kv) (vs.map fun kv=>if kv.1=k then(kv.1,u) else kv):=by
 unfold KV at r ⊢
 induction r with
 |nil=>exact .nil
 | @cons p q ps qs h t ih =>
  rw[map_cons,map_cons];refine .cons ?_ ih;obtain⟨h1,h2⟩:=h
  by_cases e:p.1=k
  ·rw[if_pos e,if_pos (h1.symm.trans e)];exact⟨h1,ry⟩
  ·rw[if_neg e,if_neg (fun z=>e (h1.trans z))];exact⟨h1,h2⟩
theorem KV.put {kvs:List (κ×V)}{vs:List (κ×Value)}(r:KV kvs vs)(k:κ){y:V}{u:Value}(ry:RelV y u):KV (putK kvs k y) (stored vs k u):=by
 unfold putK stored;rw[r.any k]
 by_cases e:(vs.any fun kv=>decide (kv.1=k))=true
 ·rw[if_pos e,if_pos e];exact r.repl k ry
 ·rw[if_neg e,if_neg e];exact Paired.snoc r ⟨rfl,ry⟩
theorem KV.keys {kvs:List (κ×V)}{vs:List (κ×Value)}(r:KV kvs vs):kvs.map (·.1)=vs.map (·.1):=by
 unfold KV at r
 induction r with
 |nil=>rfl
 |cons h t ih=>rw[map_cons,map_cons,ih,h.1]
theorem KV.length {kvs:List (κ×V)}{vs:List (κ×Value)}(r:KV kvs vs):kvs.length=vs.length:=Paired.length r
end
theorem Y4 {P:Program}{w:World}{k:Key}{u:Value}(r:RelV (kV k) u):(bY P w).is k u=true:=by
 cases k with
 |inl i=>obtain⟨t,e⟩:=(show ∃ t,u=Value.int i t from r);subst e;exact PN P w i t
 |inr x=>obtain⟨t,e⟩:=(show ∃ t,u=Value.str x t from r);subst e;exact iV P w x t
theorem LG {P:Program}{w:World}:∀{ks:List Key} {us:List Value},Vals (ks.map kV) us->ItemsAre (bY P w) ks us
 |[],_,r=>by rw[List.map_nil]at r;cases r;exact .nil
 |k::ks,_,r=>by
  rw[map_cons]at r;cases r with
  |cons h t=>exact .cons (Y4 h) (LG t)
abbrev KT (H:Hp):List (List Key×V)->List (List Key×Addr×Value)->Prop:=Paired fun p q=>p.1=q.1/\H q.2.1=some (.tup (p.1.map kV))/\RelV p.2 q.2.2
theorem KT.val {H:Hp}{kvs:List (List Key×V)}{xs:List (List Key×Addr×Value)}(r:KT H kvs xs)(k:List Key):qU (uD kvs k) ((atKey xs k).map (·.2)):=by
 induction r with
 |nil=>exact True.intro
 | @cons p q ps qs h t ih =>
  obtain⟨h1,_,h2⟩:=h
  by_cases e:p.1=k
  ·have e':q.1=k:=h1.symm.trans e;have b:atKey (q::qs) k=some q.2:=by simp[atKey,List.find?_cons,e']
   rw[GU e,b];exact h2
  ·have e':¬ q.1=k:=fun z=>e (h1.trans z);have b:atKey (q::qs) k=atKey qs k:=by simp[atKey,List.find?_cons,e']
   rw[GW e,b];exact ih
section
variable {P:Program} {w:World} {H:Hp} {h:Heap} {a:Addr}
theorem abZ {u:HO}(ok:Ag P w H h)(e:Rd H a u):fi P w H h a u:=e.ok ok
theorem Y5 {kvs:List (Key×V)}(ok:Ag P w H h)(e:Rd H a (.dK kvs)):kvs.length<=sizeLine/\(a==sysModules)=false/\∃ vs,KV kvs vs/\h.DictOf (bY P w) a vs :=
 show fi P w H h a (.dK kvs) from abZ ok e
theorem Y6 {ks:List Key}(ok:Ag P w H h)(e:H a=some (.tup (ks.map kV))):(tupleKind (bY P w)).is h ks a:=by
 obtain⟨_,its,r,o,h1,h2,n,h3⟩:=(show fi P w H h a (.tup (ks.map kV)) from ok a _ e);exact⟨o,its.toArray,n,h1,h2,h3,by simpa using LG r⟩
theorem ab0 {kvs:List (List Key×V)}(ok:Ag P w H h)(e:Rd H a (.dT kvs)):kvs.length<=sizeLine/\(a==sysModules)=false /\
  ∃ xs,KT H kvs xs/\h.DictOfH (tupleKind (bY P w)) a xs:=by
 obtain⟨z,y,xs,r,o,es,ep,h1,h2,h3,h4,h5⟩:=(show fi P w H h a (.dT kvs) from abZ ok e);refine⟨z,y,xs,r,o,es,ep,h1,h2,h3,h4,fun x hx=>?_,h5⟩;have all:∀{l:List (List Key×V)} {m:List (List Key×Addr×Value)},KT H l m->∀ x∈m,(tupleKind (bY P w)).is h x.1 x.2.1:=by
  intro l m q
  induction q with
  |nil=>intro x hx;exact nomatch hx
  | @cons p q ps qs hq t ih =>
   intro x hx;rcases List.mem_cons.mp hx with e|hx
   ·subst e;exact Y6 ok (by rw[<-hq.1];exact hq.2.1)
   ·exact ih x hx
 exact all r x hx
end
def GY (H:Hp)(a:Addr)(y:V)(r:Option V):Prop :=
 (∃ kvs k,Rd H a (.dK kvs)/\y=kV k/\r=uD kvs k)\/∃ kvs k b,Rd H a (.dT kvs)/\y=.ref b/\H b=some (.tup (k.map kV))/\r=uD kvs k
theorem GY.k {H:Hp}{a:Addr}{kvs:List (Key×V)}{k:Key}(e:H a=some (.dK kvs)):GY H a (kV k) (uD kvs k):=.inl ⟨kvs,k,.inl e,rfl,rfl⟩
section
variable {X:Cx} {pins:List (Addr×Obj)} {σ:St} {H:Hp} {s:Shared} {a:Addr} {y v:V} {u r:Value} {o:Option V} {A:Around} {E:Value->Shared->Prop}
theorem Inv.big (I:Inv X pins σ H s):sysModules<s.heap.objs.size:=by
 have h:mainGlobals<s.heap.objs.size:=(I.mod.glob.keeps I.bk).lt;exact Nat.lt_trans (by decide) h
theorem V2 {Q:Value->Shared->Prop}(hu:A.units+1<cLine)(I:Inv X pins σ H s)(g:GY H a y (some v))(ry:RelV y u)(h:∀ w' s',Inv X pins σ H s'->RelV v w'->Q w' s') :
  wpAny (model X.prog X.w) A (getItem (.ref a) u) Q E s:=by
 rcases g with ⟨kvs,k,e,ey,l⟩|⟨kvs,k,b,e,ey,eb,l⟩
 ·subst ey;obtain⟨z,hd,vs,rel,dd⟩:=Y5 I.hok e;obtain⟨w',hw,rw'⟩:=qU.some_of (v:=v) (o:=valueAt vs k) (by rw[l];exact rel.val k);exact wpAny_getItem_of (Y4 ry) dd.mapOf hw (h w' _ (I.tok _) rw')
 ·subst ey;cases (show u=Value.ref b from ry);obtain⟨z,hd,xs,rel,dd⟩:=ab0 I.hok e;obtain⟨w',hw,rw'⟩:=qU.some_of (v:=v) (o:=(atKey xs k).map (·.2)) (by rw[l];exact rel.val k);obtain⟨p,hp,hp2⟩:=Option.map_eq_some_iff.mp hw;refine wpAny_getItem_heap (tupleKind_room_in1 hu) (Y6 I.hok eb) dd hp ?_;rw[hp2];exact h w' _ (I.tok _) rw'
theorem acU {P:Program}{w:World}{H':Hp}{h':Heap}{kvs:List (Key×V)}{vs:List (Key×Value)}(z:kvs.length<=sizeLine)(hd:(a==sysModules)=false)(rel:KV kvs vs)(dd:h'.DictOf (bY P w) a vs) :
  fi P w H' h' a (.dK kvs):=⟨z,hd,vs,rel,dd⟩
end
section
variable {X:Cx} {pins:List (Addr×Obj)} {σ:St} {H:Hp} {s:Shared} {a:Addr} {kvs:List (Key×V)} {k:Key} {u:Value} {A:Around} {E:Value->Shared->Prop}
end
def aez (i:Expr):Prop:=∀ ov iv,subscripted i false ov iv=operate [ov,iv] (getItem ov iv)
theorem aaP {prog:Program}{w:World}{A:Around}{E:Value->Shared->Prop}{s:Shared}{env:Env}{value slice:Expr}{pos:Pos}{T id:String}{Q:Value->Shared->Prop}
  (hl:typeLookup (.type T) "__getitem__"=pure (some (.builtin id))) (hs:aez slice)
  (h:wpAny (model prog w) A (eval value env) (fun o s₁=>wpAny (model prog w) A (eval slice env) (fun i s₂=>s₂.TypeIs o T/\wpAny (model prog w) A (getItem o i) Q E s₂) E s₁) E s) :
  wpAny (model prog w) A (eval (.Subscript value slice pos) env) Q E s:=by
 refine Subscript_ (wpAny_mono h (fun o s₁ h₁=>wpAny_mono h₁ (fun i s₂ h₂=>?_) fun _ _ x=>x) fun _ _ x=>x);obtain⟨hT,h₂⟩:=h₂;unfold subscriptTail;refine wpAny_bind ?_;rw[getitemInPython_of_ne hT.not_modules];refine wpAny_bind (wpAny_specialOf hT hl ?_);have fin:wpAny (model prog w) A (subscripted slice false o i) (fun r s₃=>wpAny (model prog w) A (letTemporaryGo value o r >>= fun _=>pure r) Q E s₃) E s₂:=by
  rw[hs o i];exact wpAny_operating (wpAny_mono h₂ (fun r s₃ h₃=>wpAny_bind (wpAny_letTemporaryGo (wpAny_pure h₃))) fun _ _ x=>x)
 first
  |exact wpAny_pure (wpAny_bind fin)
  |exact wpAny_bind (wpAny_pure (wpAny_bind fin))
  |exact wpAny_bind fin
theorem Qg {X:Cx}{pins:List (Addr×Obj)}{σ:St}{H:Hp}{s:Shared}{a:Addr}{y:V}{o:Option V}(I:Inv X pins σ H s)(g:GY H a y o):s.TypeIs (.ref a) "dict":=by
 rcases g with ⟨kvs,k,e,_,_⟩|⟨kvs,k,b,e,_,_,_⟩
 ·obtain⟨_,_,vs,_,dd⟩:=Y5 I.hok e;exact dd.typeIs
 ·obtain⟨_,_,xs,_,dd⟩:=ab0 I.hok e;exact dd.typeIs
def aeA (td ty:TE):TE:=fun σ H Q=>td σ H fun x H1=>ty σ H1 fun y H2=>∃ a v,x=.ref a/\GY H2 a y (some v)/\Q v H2
section
variable {X:Cx} {o i e value:Expr} {pos pos' tpos:Pos} {td ty tv:TE}
theorem xr (hu:X.A.units+1<cLine)(ho:PE X o td)(hi:PE X i ty)(hs:aez i):PE X (.Subscript o i pos) (aeA td ty):=by
 intro pins s σ H Q I h;refine aaP PySem.F.slot_dict_getitem.lookup hs (cT (ho pins s σ H _ I h) fun u s1 ⟨x,H1,I1,rx,q1⟩=>cT (hi pins s1 σ H1 _ I1 q1) fun iv s2 ⟨y,H2,I2,ry,a,v,ex,g,q2⟩=>?_);subst ex;obtain rfl:u=Value.ref a:=rx;exact⟨Qg I2 g,V2 hu I2 g ry fun w' s3 I3 rw'=>⟨v,H2,I3,rw',q2⟩⟩
end
section
variable {X:Cx} {pos:Pos}
end
abbrev VV:List (V×V)->List (Value×Value)->Prop:=Paired fun p q=>RelV p.1 q.1/\RelV p.2 q.2
def ku (kvs more:List (Key×V)):List (Key×V):=more.foldl (fun acc kv=>putK acc kv.1 kv.2) kvs
theorem KV.merge:∀{more:List (Key×V)} {rs:List (Key×Value)} {kvs:List (Key×V)} {vs:List (Key×Value)},KV more rs->KV kvs vs->KV (ku kvs more) (merged vs rs):=by
 intro more rs kvs vs r;unfold KV at r
 induction r generalizing kvs vs with
 |nil=>intro q;exact q
 | @cons p q ps qs h t ih =>
  intro r0;have e:KV (putK kvs p.1 p.2) (stored vs q.1 q.2):=by
   have:=r0.put p.1 h.2;rw[<-h.1];exact this
  exact ih e
theorem xX:∀(more kvs:List (Key×V)),(ku kvs more).length<=kvs.length+more.length
 |[],kvs=>by show kvs.length<=kvs.length+0;omega
 |p::r,kvs=>by
  have h1:=xX r (putK kvs p.1 p.2);have h2:=Qf kvs p.1 p.2;show(ku (putK kvs p.1 p.2) r).length<=_;rw[length_cons];omega
structure M1 (X:Cx)(o:Expr)(m:Str)(apos:Pos)(e:Expr)(cpos:Pos):Prop where
 base:attributeBase o m X.env (eval o X.env)=eval o X.env
 few:((backTo cpos (starEach [e] X.env)).all (fun x=>!x.1)&&(backToKw cpos (keywordEach [] X.env)).all (fun x=>x.1.isSome)
  && decide (([e]:List Expr).length+([]:List Keyword).length+(if([]:List Keyword).isEmpty then 0 else 1)<30))=true
 line:(apos.endLine==cpos.line)=true
 trees:backTo cpos (starEach [e] X.env)=[(false,eval e X.env)]
structure M2 (X:Cx)(o:Expr)(m:Str)(apos:Pos)(e f:Expr)(cpos:Pos):Prop where
 base:attributeBase o m X.env (eval o X.env)=eval o X.env
 few:((backTo cpos (starEach [e,f] X.env)).all (fun x=>!x.1)&&(backToKw cpos (keywordEach [] X.env)).all (fun x=>x.1.isSome)
  && decide (([e,f]:List Expr).length+([]:List Keyword).length+(if([]:List Keyword).isEmpty then 0 else 1)<30))=true
 line:(apos.endLine==cpos.line)=true
 trees:backTo cpos (starEach [e,f] X.env)=[(false,eval e X.env),(false,eval f X.env)]
section
variable {X:Cx} {pins:List (Addr×Obj)} {σ:St} {H:Hp} {s:Shared} {a:Addr} {y d:V} {u r:Value} {o:Option V} {A:Around} {E:Value->Shared->Prop}
end
section
variable {X:Cx} {o e f:Expr} {apos cpos:Pos} {td ty tx:TE}
end
section
variable {X:Cx} {pins:List (Addr×Obj)} {σ:St} {H:Hp} {s:Shared} {a:Addr} {kvs:List (Key×V)} {A:Around} {E:Value->Shared->Prop}
end
section
variable {X:Cx} {pins:List (Addr×Obj)} {σ:St} {H:Hp} {s:Shared} {a:Addr} {y:V} {u:Value} {A:Around} {E:Value->Shared->Prop}
end
end L2
namespace L2
open PySem PySem.Spec PyProof.Rows
section
variable {X:Cx}
end
section
variable {κ:Type} [DecidableEq κ]
theorem aaQ {kvs:List (κ×V)}{k:κ}{v:V}(h:uD kvs k=some v):k∈kvs.map (·.1):=by
 have q:(kvs.any fun kv=>decide (kv.1=k))=true:=by
  rw[GX,h]
  all_goals rfl
 obtain⟨p,hp,e⟩:=any_eq_true.mp q;exact mem_map.mpr ⟨p,hp,of_decide_eq_true e⟩
end
end L2
set_option maxHeartbeats 4000000
namespace L2
open PySem PySem.Spec PyProof.Rows
theorem aeB {P:Program}{w:World}{k:Key}{u:Value}(h:(bY P w).is k u=true):RelV (kV k) u:=by
 rcases de (show GG k u=true from h) with ⟨i,t,rfl,rfl⟩|⟨x,t,rfl,rfl⟩
 ·exact⟨t,rfl⟩
 ·exact⟨t,rfl⟩
theorem ab1:∀{xs:List V} {us:List Value},xs.length=us.length->(∀(i:Nat)(x:V)(u:Value),xs[i]? = some x->us[i]? = some u->RelV x u)->Vals xs us
 |[],[],_,_=>.nil
 |x::xs,u::us,hl,h=>.cons (h 0 x u rfl rfl) (ab1 (by simpa using hl) fun i y v e1 e2=>h (i+1) y v (by simpa using e1) (by simpa using e2))
 |[],_::_,hl,_=>by simp at hl
 |_::_,[],hl,_=>by simp at hl
section
variable {X:Cx}
theorem yn:jo X (.type "list") (fun xs H Q=>X.calm=true/\∃ p kvs,xs=[.ref p]/\Rd H p (.dK kvs)/\∀ l,H l=none->Q (.ref l) (upd H l (.lst (kvs.map fun kv=>kV kv.1)))):=by
 intro pins s σ H xs us Q I r h;obtain⟨hc,p,kvs,rfl,hp,q⟩:=h;obtain⟨u,rfl,rx⟩:=vals1 r;cases rx;obtain⟨z,hd,vs,rel,dd⟩:=Y5 I.hok hp;obtain⟨ep,da⟩:=dd.dictAt;have hl:=rel.length;refine PySem.W.kdl_call (PySem.W.kdl_dict (knd:=bY X.prog X.w) (kvs:=vs) (ep:=ep) hd) (I.ok.hd hc) da (by omega) fun h' tk acc' c' kp e it=>?_;refine⟨.ref s.heap.objs.size,_,I.laid (t':=tk) kp (Nat.le_refl _) (show fi X.prog X.w _ h' _ (.lst (kvs.map fun kv=>kV kv.1)) from⟨by rw[length_map];exact z,acc'.toList,c',?_,by rw[Array.toArray_toList];exact e⟩),rfl,q _ (I.hok.fresh (Nat.le_refl _))⟩;have hk:=rel.keys;have h1:acc'.toList.length=vs.length:=by rw[Array.length_toList];exact it.1
 refine ab1 (by rw[length_map,h1,hl]) fun i x u e1 e2=>?_;obtain⟨k,y,e3,e4⟩:=it.2 i u (by rw[<-Array.getElem?_toList];exact e2);have e5:(kvs.map (·.1))[i]? = some k:=by rw[hk,getElem?_map,e3];rfl
 have e6:(kvs.map fun kv=>kV kv.1)[i]? = some (kV k):=by
  rw[getElem?_map]at e5 ⊢;cases e7:kvs[i]? with
  |none=>rw[e7]at e5;cases e5
  |some w=>rw[e7]at e5;cases e5;rfl
 rw[e6]at e1;cases e1;exact aeB e4
end
section
variable {P:Program} {w:World} {K:Frag} {mg:Str->Option Value} {base:Heap}
end
end L2
set_option maxHeartbeats 4000000
namespace L2
open PySem PySem.Spec PyProof.Rows
theorem MD:typeLookup (.type "list") "keys"=pure none:=by rw[typeLookup_type,builtinLookup_eq_fast];kernel_rfl
theorem E9:entryFor table "dict.update.loop" = some Builtin.«dict.update.loop»:=entryFor_of_tree (by kernel_rfl)
theorem pd:plainId "dict.update.loop" = true:=by lk
theorem acV {α:Type}{xs:List α}{i:Nat}{y:α}(h:xs[i]? = some y):xs.drop i=y::xs.drop (i+1):=by
 obtain⟨h1,h2⟩:=List.getElem?_eq_some_iff.mp h;rw[List.drop_eq_getElem_cons h1,h2]
theorem Kf {K:Type}[DecidableEq K](kvs:List (K×Value))(k:K)(v:Value):(stored kvs k v).length<=kvs.length+1:=by
 unfold stored;split
 ·simp
 ·simp
section
variable {prog:Program} {w:World} {A:Around} {E:Value->Shared->Prop} {s:Shared}
theorem acW {a:Addr}{o:Obj}{xs:Array Value}{k:Nat}{Q:Option Value->Shared->Prop}(hx:s.heap.get? a=some o)(hc:o.cls=.type "list")(hdat:o.data=.seq xs k)(hd:o.dict=none)(hA:A.handled=none)
  (h:∀ h' tk,(∀ b ob,s.heap.get? b=some ob->h'.get? b=some ob)->Q none { s with heap:=h',toks:=tk }):wpAny (model prog w) A (getAttr? (.ref a) "keys") Q E s:=by
 obtain⟨oc,od,dt,sl⟩:=o;simp only at hc hdat hd;subst hc hdat hd;obtain⟨hp,g,d,tk,os⟩:=s;have hT:∀ tk',(⟨hp,g,d,tk',os⟩:Shared).TypeIs (.ref a) "list":=fun _=>⟨_,hx,rfl⟩;have f1:=sub_AttributeError;have f3:=F.slot_list_getattribute.lookup;have f4:=F.slot_list_getattribute.bind (.ref a);have f5:=am_list_getattr_none;unfold getAttr? getAttrBy? getAttrBy
 repeat (any_goals (first|assumption|exact hT _|((with_reducible show wpAny _ _ (call (Value.builtin "list.__getattribute__") _ _) _ _ _);refine call_meets F.slot_list_getattribute (hT _) am_entry_list_getattribute (F.args_list_getattribute_2 _ _) (meets_getattribute_miss_list a xs k sl "keys" _ MD (by lk) (by size_fits)) ⟨hx,hA,fun h' tk' e hx'=>?_⟩)|wp_step))
 obtain⟨t',u',he⟩:=hx'.there;show wpAny _ _ (getattributeRaised _ _ _ _ _ _ _) _ _ _;unfold getattributeRaised
 repeat (any_goals (first|assumption|wp_step))
 exact h _ _ hx'.keeps
theorem aeC {K:Type}[DecidableEq K]{knd:KeyKind prog w K}{I d:Addr}{fp wr:List Addr}{n:Nat}{P:Nat->Value->Prop}{St:Nat->Heap->Prop}(W:Walks prog w A.in1 I fp wr n P St)(hdf:d ∉ fp)(hn:n<=1000)(h0:Heap)(ps:List (K×Value))(hl:ps.length=n){R:Result->Shared->Prop}
  (hP:∀ i v,i<n->P i v->∃ p o k key u m,ps[i]? = some (k,u)/\v=.ref p/\h0.get? p=some o/\o.cls=.type "tuple"/\o.data=.seq #[key,u] m/\knd.is k key=true/\p≠d/\p ∉ wr) :
  ∀(j i:Nat)(s:Shared)(kvs:List (K×Value)),n-i=j->i<=n->St i s.heap->s.heap.DictOf knd d kvs->kvs.length<=i->(∀ b o,b≠d->b ∉ wr->h0.get? b=some o->s.heap.get? b=some o) ->
  (∀ h' tk,h'.DictOf knd d ((ps.drop i).foldl (fun acc q=>stored acc q.1 q.2) kvs)->(∀ b o,b≠d->b ∉ wr->h0.get? b=some o->h'.get? b=some o)->R (.ok (.ret .none)) { s with heap:=h',toks:=tk }) ->
  codeAny (model prog w) A (.builtin "dict.update.loop" ⟨[.ref d,.ref I,rawInt i,.none],[]⟩) R s:=by
 have hdw:d ∉ wr:=fun h=>hdf (W.sub _ h);intro j
 induction j with
 |zero =>
  intro i s kvs hk hi hst hD hlen hkp hR;have hin:i=n:=by omega
  subst hin;refine codeAny_builtin E9 ?_;rw[Around.under_plainId pd _];show wpAny _ A.in1 (pyNext (.ref I) >>= _) _ _ s;refine wpAny_bind (W.done s _ _ hst fun h' tk hm=>?_);show wpAny _ _ (Builtin.Dict.addKeywords d [] >>= _) _ _ _;refine wpAny_bind (wpAny_pure (wpAny_pure ?_));refine hR h' tk ?_ fun b o hb hb' e=>hm b o hb' (hkp b o hb hb' e);rw[List.drop_eq_nil_of_le (by omega)];obtain⟨o,es,ep,e,r⟩:=hD;exact⟨o,es,ep,hm d o hdw e,r⟩
 |succ j ih =>
  intro i s kvs hk hi hst hD hlen hkp hR;have hlt:i<n:=by omega
  refine codeAny_builtin E9 ?_;rw[Around.under_plainId pd _];show wpAny _ A.in1 (pyNext (.ref I) >>= _) _ _ s;refine wpAny_bind (W.item i s _ _ hlt hst fun v h' tk hPv hst' hm=>?_);obtain⟨p,o,k,key,u,m,hps,rfl,hp,hc,hdt,hkey,hpd,hpw⟩:=hP i v hlt hPv;have hp':h'.get? p=some o:=hm p o hpw (hkp p o hpd hpw hp);have hD':h'.DictOf knd d kvs:=by
   obtain⟨o,es,ep,e,r⟩:=hD;exact⟨o,es,ep,hm d o hdw e,r⟩
  refine wpAny_bind (wpAny_holding (wpAny_bind (wpAny_tryCatch ?_)));unfold Builtin.Dict.pairItems;refine wpAny_bind (wpAny_typeOf (T:="tuple") ⟨o,hp',hc⟩ ?_);rw[if_pos (by decide)];refine wpAny_bind (wpAny_seqItems hp' hdt ?_);refine wpAny_pure ?_;show wpAny _ _ (holding [key,u] (dictSet d key u)) _ _ _;refine wpAny_holding (wpAny_dictSet_pairs (knd:=knd) hkey hD' (fun h'' hd'' hs''=>?_) (by rw[sizeLine_eq];omega));refine wpAny_pure ⟨plainId_quiet pd _,?_⟩;have aeD:St (i+1) h'':=W.frame _ _ _ hst' fun b hb o e=>(hs''.2 b fun z=>hdf (z ▸ hb)).trans e;refine ih (i+1) { s with heap:=h'',toks:=tk+1 } (stored kvs k u) (by omega) hlt aeD hd'' (by have:=Kf kvs k u;omega) (fun b o hb hb' e=>(hs''.2 b hb).trans (hm b o hb' (hkp b o hb hb' e))) fun h3 tk3 V3 hk3=>?_;refine hR h3 tk3 ?_ hk3;rw[acV hps];exact V3
end
section
variable {X:Cx}
theorem yo:jo X (.type "dict") (fun xs H Q=>X.calm=true/\∃(p:Addr)(ys:List V)(kvs:List (Key×V)),xs=[.ref p]/\aR X.K H p ys/\Paired (fun y kv=>∃ q,y=.ref q/\H q=some (.tup [kV kv.1,kv.2])) ys kvs/\kvs.length<=900/\∀ l,H l=none->Q (.ref l) (upd H l (.dK (ku [] kvs)))):=by
 intro pins s σ H xs us Q I r h;obtain⟨hcalm,p,ys,kvs,rfl,hp,hy,hz,q⟩:=h;obtain⟨u,rfl,rx⟩:=vals1 r;cases rx;obtain⟨its,ri,⟨ol,nl,hol,hcl,hdl,hdat⟩,hsz⟩:=I.list hp;have aiW:=hy.length;have aiX:=ri.length;have build:∀{ys:List V} {kvs:List (Key×V)} {its:List Value},Paired (fun y kv=>∃ q,y=.ref q/\H q=some (.tup [kV kv.1,kv.2])) ys kvs->Vals ys its->∃ ps:List (Key×Value),KV kvs ps/\ps.length=its.length /\
   ∀(i:Nat) v,its[i]? = some v->∃ p o k key u m,ps[i]? = some (k,u)/\v=.ref p/\s.heap.get? p=some o/\o.cls=.type "tuple"/\o.data=.seq #[key,u] m/\(bY X.prog X.w).is k key=true:=by
  intro ys kvs its h1
  induction h1 generalizing its with
  |nil =>
   intro h2;cases h2;exact⟨[],.nil,rfl,fun i v e=>by simp at e⟩
  | @cons y kv ys kvs r _ ih =>
   intro h2;cases h2 with
   | @cons _ u _ us ry rt =>
    obtain⟨q,rfl,hq⟩:=r;obtain rfl:u=Value.ref q:=ry;obtain⟨tv,rv,⟨o,ho,hc,m,hd⟩,_⟩:=I.tuple (nR.of hq);obtain⟨k1,hk1⟩:∃ a b,tv=[a,b]:=by
     have:=rv.length
     match tv,this with
     |[a,b],_=>exact⟨a,b,rfl⟩
    obtain⟨u1,rfl⟩:=hk1;cases rv with
    |cons r1 YQ =>
     cases YQ with
     |cons r2 _ =>
      obtain⟨ps,h3,h4,h5⟩:=ih rt;refine⟨(kv.1,u1)::ps,.cons ⟨rfl,r2⟩ h3,by simp[h4],fun i v e=>?_⟩
      match i,e with
      |0,e =>
       simp at e;subst e;exact⟨q,o,kv.1,k1,u1,m,rfl,rfl,ho,hc,hd,Y4 r1⟩
      |i+1,e =>
       simp at e;obtain⟨p,o,k,key,u,m,z1,z2⟩:=h5 i v e;exact⟨p,o,k,key,u,m,by simpa using z1,z2⟩
 obtain⟨ps,rel,lps,hps⟩:=build hy ri;refine callType_codes (Q₁:=fun obj s₁=>obj=.ref s.heap.objs.size/\s₁ = { s with heap:=s.heap.push { cls:=.type "dict",data:=.dict #[] } }) PySem.F.kt_called_dict (PySem.F.kt_typeCall_dict_1 _) PySem.F.entry_dict_init (kt_code_dict_new _ ⟨rfl,rfl⟩) ?_;rintro obj s₁ ⟨rfl,rfl⟩;have hnew:(s.heap.push { cls:=.type "dict",data:=.dict #[] }).DictOf (bY X.prog X.w) s.heap.objs.size []:=Heap.DictOf.new s.heap;have up:∀ b o,s.heap.get? b=some o->(s.heap.push { cls:=.type "dict",data:=.dict #[] }).get? b=some o:=fun b o e=>Heap.get?_push_of_some _ e;refine⟨hnew.typeIs,PySem.F.args_dict_init_2 _ _,?_⟩;unfold Builtin.«dict.__init__»;refine wpAny_bind ?_;unfold Builtin.Dict.selfAndRest;refine wpAny_bind (wpAny_notOrdered_dict hnew.typeIs ?_);show wpAny _ _ (pure (s.heap.objs.size,[Value.ref p])) _ _ _;refine wpAny_pure ?_;show wpAny _ _ (Builtin.Dict.updateFrom "dict.__init__" s.heap.objs.size (.ref p) [] .none) _ _ _;unfold Builtin.Dict.updateFrom;refine wpAny_bind (wpAny_typeOf (T:="list") ⟨ol,up _ _ hol,hcl⟩ ?_);rw[if_pos (by decide)];have hA:X.A.handled=none:=I.ok.hd hcalm;refine wpAny_bind (acW (up _ _ hol) hcl hdat hdl hA fun h1 tk1 kp1=>?_);rw[if_pos (show(none:Option Value).isNone=true from rfl)];refine wpAny_bind (wpAny_rule ?_);have up1:∀ b o,s.heap.get? b=some o->h1.get? b=some o:=fun b o e=>kp1 b o (up b o e);have il:h1.IsList p its.toArray:=⟨ol,up1 _ _ hol,hcl,nl,hdat⟩;refine wpAny_bind (wpAny_pyIter_list il ?_);have hsz1:s.heap.objs.size<h1.objs.size:=Heap.lt_size (kp1 _ _ (Heap.get?_push_size _ rfl));have hpI:p≠h1.objs.size:=Nat.ne_of_lt (Heap.lt_size (up1 _ _ hol));have hD1:h1.DictOf (bY X.prog X.w) s.heap.objs.size []:=by
  obtain⟨o,es,ep,e,r⟩:=hnew;exact⟨o,es,ep,kp1 _ _ e,r⟩
 have lt0:∀{b o},s.heap.get? b=some o->b<s.heap.objs.size:=fun e=>Heap.lt_size e;refine wpAny_pure ⟨plainId_quiet pd _,?_⟩;have W:Walks X.prog X.w X.A.in1.in1 h1.objs.size [h1.objs.size,p] [h1.objs.size] its.toArray.size (fun i v=>its.toArray[i]? = some v) (fun i h=>h.IsListIter h1.objs.size p i/\h.IsList p its.toArray):=Walks.list (show X.A.in1.in1.handled=none from hA) h1.objs.size p hpI its.toArray;have hn:its.toArray.size<=1000:=by rw[size_toArray];omega
 refine aeC (knd:=bY X.prog X.w) W (d:=s.heap.objs.size) ?_ hn s.heap ps (by rw[size_toArray];exact lps) ?_ _ 0 _ [] rfl (Nat.zero_le _) ⟨⟨_,Heap.get?_push_size _ rfl,rfl,rfl⟩,?_⟩ ?_ (Nat.zero_le _) ?_ ?_
 ·intro z;rcases List.mem_cons.mp z with z|z
  ·exact absurd z (Nat.ne_of_lt hsz1)
  ·exact absurd (mem_singleton.mp z) (Nat.ne_of_gt (lt0 hol))
 ·intro i v hi e;obtain⟨p',o,k,key,u,m,z1,z2,z3,z4,z5,z6⟩:=hps i v (by simpa using e);exact⟨p',o,k,key,u,m,z1,z2,z3,z4,z5,z6,Nat.ne_of_lt (lt0 z3),fun z=>absurd (mem_singleton.mp z) (Nat.ne_of_lt (Nat.lt_trans (lt0 z3) hsz1))⟩
 ·exact il.push _
 ·obtain⟨o,es,ep,e,r⟩:=hD1;exact⟨o,es,ep,Heap.get?_push_of_some _ e,r⟩
 ·exact fun b o hb hb' e=>Heap.get?_push_of_some _ (up1 b o e)
 ·intro h' tk hd' hk';refine⟨rfl,.ref s.heap.objs.size,_,I.laid (a:=s.heap.objs.size) (o:=.dK (ku [] kvs)) (t':=tk) (fun b o e=>?_) (Nat.le_refl _) (acU ?_ (beq_eq_false_iff_ne.mpr (Ne.symm (Nat.ne_of_lt I.big))) (rel.merge .nil) hd'),rfl,q _ (I.hok.fresh (Nat.le_refl _))⟩
  ·exact hk' b o (Nat.ne_of_lt (lt0 e)) (fun z=>absurd (mem_singleton.mp z) (Nat.ne_of_lt (Nat.lt_trans (lt0 e) hsz1))) e
  ·have h1:=xX kvs [];rw[List.length_nil]at h1;rw[sizeLine_eq];omega
end
end L2
set_option maxHeartbeats 1000000
namespace ME
open PySem L2
inductive Kd where
 |G|D|R|s|d|r|dot|three|two
 deriving DecidableEq,Repr
def Kd.str:Kd->Str
 |.G=>"G" | .D=>"D" | .R=>"R" | .s=>"s" | .d=>"d" | .r=>"r" | .dot=>"." | .three=>"3" | .two=>"2"
def Kd.cp:Kd->Nat
 |.G=>71|.D=>68|.R=>82|.s=>115|.d=>100|.r=>114|.dot=>46|.three=>51|.two=>50
def Kd.great:Kd->Bool
 |.G=>true|.D=>true|.R=>true|_=>false
def Kd.small:Kd->Bool
 |.s=>true|.d=>true|.r=>true|_=>false
def Kd.parting:Kd->Bool
 |.dot=>true|.three=>true|.two=>true|_=>false
def Kd.meas:Kd->Bool
 |.three=>true|.two=>true|_=>false
def Kd.iE:Kd->Bool
 |.G=>true|.D=>true|.s=>true|.d=>true|_=>false
def ph:Option Kd->Str
 |some k=>k.str
 |none=>""
abbrev Sg:=Kd×Int
def X6 (x y:Str):Bool:=!(Builtin.Str.occurrences y x 0 y.length 1).isEmpty
theorem aeE (k:Kd):k.str=⟨#[k.cp]⟩:=by cases k <;> decide +kernel
theorem str_inj {a b:Kd}:a.str=b.str ↔ a=b:=by
 constructor
 ·revert a b
  have:∀ a b:Kd,a.str=b.str->a=b:=by
   intro a b;cases a <;> cases b <;> first|(intro _;rfl)|(intro h;exact absurd h (by lk))
  exact fun {a b}=>this a b
 ·exact fun h=>by rw[h]
theorem Qh {a b:Option Kd}:ph a=ph b ↔ a=b:=by
 constructor
 ·have:∀ a b:Option Kd,ph a=ph b->a=b:=by
   intro a b;cases a with
   |none=>cases b with
    |none=>intro _;rfl
    |some b=>cases b <;> (intro h;exact absurd h (by lk))
   |some a=>cases b with
    |none=>cases a <;> (intro h;exact absurd h (by lk))
    |some b=>intro h;exact congrArg some (str_inj.mp h)
  exact fun h=>this a b h
 ·exact fun h=>by rw[h]
theorem aaS (a b:Str):decide (V.str a=V.str b)=decide (a=b):=by
 by_cases h:a=b
 ·rw[h];simp
 ·rw[decide_eq_false h];exact decide_eq_false fun e=>h (V.str.inj e)
theorem V4 (a b:Kd):decide (V.str a.str=V.str b.str)=decide (a=b):=by
 rw[aaS];exact decide_eq_decide.mpr str_inj
theorem aeF (a b:Option Kd):decide (V.str (ph a)=V.str (ph b))=decide (a=b):=by
 rw[aaS];exact decide_eq_decide.mpr Qh
theorem o_G (o:Option Kd):decide (V.str (ph o)=V.str "G")=decide (o=some .G):=aeF o (some .G)
theorem k_G (k:Kd):decide (V.str k.str=V.str "G")=decide (k=.G):=V4 k .G
theorem k_D (k:Kd):decide (V.str k.str=V.str "D")=decide (k=.D):=V4 k .D
theorem o_s (o:Option Kd):decide (V.str (ph o)=V.str "s")=decide (o=some .s):=aeF o (some .s)
theorem k_s (k:Kd):decide (V.str k.str=V.str "s")=decide (k=.s):=V4 k .s
theorem aeG (k:Kd):decide (V.str k.str=V.str ".")=decide (k=.dot):=V4 k .dot
theorem MF (k:Kd):decide (V.str k.str=V.str "3")=decide (k=.three):=V4 k .three
theorem Y7 (k:Kd):decide (V.str k.str=V.str "2")=decide (k=.two):=V4 k .two
def R7 (H:Hp)(v:V)(s:Sg):Prop:=∃ p,v=.ref p/\H p=some (.tup [.str s.1.str,.int s.2])
theorem R7.same {H H':Hp}{v:V}{s:Sg}(e:aq H H')(h:R7 H v s):R7 H' v s:=by
 obtain⟨p,rfl,q⟩:=h;exact⟨p,rfl,e _ _ q⟩
abbrev kx (H:Hp):List V->List Sg->Prop:=Paired (R7 H)
theorem kx.same {H H':Hp}(e:aq H H'):∀{xs:List V} {ss:List Sg},kx H xs ss->kx H' xs ss
 |_,_,.nil=>.nil
 |_,_,.cons a b=>.cons (a.same e) (kx.same e b)
theorem qY {α β:Type}{F:α->β->Prop}:∀{xs:List α} {ys:List β} {i:Nat} {x:α},Paired F xs ys->xs[i]? = some x->∃ y,ys[i]? = some y/\F x y
 |_,_,_,_,.nil,e=>by simp at e
 |_,_,0,_,.cons r _,e=>by simp at e;subst e;exact⟨_,rfl,r⟩
 |_,_,i+1,x,.cons _ t,e=>by
  obtain⟨u,h1,h2⟩:=qY (i:=i) (x:=x) t (by simpa using e);exact⟨u,by simpa using h1,h2⟩
theorem Av {α β:Type}{F:α->β->Prop}:∀{xs:List α} {ys:List β} {i:Nat} {y:β},Paired F xs ys->ys[i]? = some y->∃ x,xs[i]? = some x/\F x y
 |_,_,_,_,.nil,e=>by simp at e
 |_,_,0,_,.cons r _,e=>by simp at e;subst e;exact⟨_,rfl,r⟩
 |_,_,i+1,x,.cons _ t,e=>by
  obtain⟨u,h1,h2⟩:=Av (i:=i) t (by simpa using e);exact⟨u,by simpa using h1,h2⟩
theorem bL {α β:Type}{F:α->β->Prop}{xs:List α}{ys:List β}(h:Paired F xs ys):xs.length=ys.length:=Paired.length h
theorem lP {α β:Type}{F:α->β->Prop}:∀{xs:List α} {ys:List β} {x:α} {y:β},Paired F xs ys->F x y->Paired F (xs++[x]) (ys++[y])
 |_,_,_,_,.nil,h=>.cons h .nil
 |_,_,_,_,.cons a b,h=>.cons a (lP b h)
theorem R8 {α β:Type}{F:α->β->Prop}:∀{xs:List α} {ys:List β} {xs':List α} {ys':List β},Paired F xs ys->Paired F xs' ys'->Paired F (xs++xs') (ys++ys')
 |_,_,_,_,.nil,h=>h
 |_,_,_,_,.cons a b,h=>.cons a (R8 b h)
theorem U5 {α β:Type}{F:α->β->Prop}:∀{xs:List α} {ys:List β} (n:Nat),Paired F xs ys->Paired F (xs.drop n) (ys.drop n)
 |_,_,0,h=>h
 |_,_,n+1,.nil=>.nil
 |_,_,n+1,.cons a b=>U5 n b
theorem Qi {α β:Type}{F:α->β->Prop}:∀{xs:List α} {ys:List β} (n:Nat),Paired F xs ys->Paired F (xs.take n) (ys.take n)
 |_,_,0,h=>.nil
 |_,_,n+1,.nil=>.nil
 |_,_,n+1,.cons a b=>.cons a (Qi n b)
theorem cA {α β:Type}{F G:α->β->Prop}(h:∀ x y,F x y->G x y):∀{xs:List α} {ys:List β},Paired F xs ys->Paired G xs ys
 |_,_,.nil=>.nil
 |_,_,.cons a b=>.cons (h _ _ a) (cA h b)
theorem dU {H0 H:Hp}{l:Addr}{o:HO}(s:aq H0 H)(hl:H0 l=none):aq H0 (upd H l o):=fun b u e=>by
 rw[ak (ao e hl)];exact s b u e
theorem Qj {H:Hp}{D:Addr}{o:HO}{zs:List V}{v:V}{s:Sg}(hD:H D=some (.lst zs))(h:R7 H v s):R7 (upd H D o) v s:=by
 obtain⟨p,e,q⟩:=h;exact⟨p,e,by rw[ak (uG q hD (by intro z;cases z))];exact q⟩
theorem MG {H:Hp}{D:Addr}{o:HO}{zs:List V}{xs:List V}{ss:List Sg}(hD:H D=some (.lst zs))(h:kx H xs ss):kx (upd H D o) xs ss:=cA (fun _ _ q=>Qj hD q) h
theorem CC {ms:List Int}{i:Nat}{x:V}(h:(ms.map V.int)[i]? = some x):∃ z,ms[i]? = some z/\x=V.int z:=by
 rw[getElem?_map]at h;cases e:ms[i]? with
 |none=>rw[e]at h;cases h
 |some z=>rw[e]at h;exact⟨z,rfl,(Option.some.inj h).symm⟩
section
variable {K:Frag} {H:Hp} {p:Addr} {Q:VK}
theorem ix0 {a b:V}(h:H p=some (.tup [a,b]))(q:Q a H):P2 K (.ref p) (.int 0) H Q\/P4 K (.ref p) (.int 0) H Q\/P5 (.ref p) (.int 0) H Q:=.inr (.inl ⟨p,_,0,a,rfl,rfl,nR.of h,rfl,q⟩)
theorem ix1 {a b:V}(h:H p=some (.tup [a,b]))(q:Q b H):P2 K (.ref p) (.int 1) H Q\/P4 K (.ref p) (.int 1) H Q\/P5 (.ref p) (.int 1) H Q:=.inr (.inl ⟨p,_,1,b,rfl,rfl,nR.of h,rfl,q⟩)
theorem ixL {xs:List V}{i:Int}{n:Nat}{v:V}(h:aR K H p xs)(hn:i=n)(e:xs[n]? = some v)(q:Q v H):P2 K (.ref p) (.int i) H Q\/P4 K (.ref p) (.int i) H Q\/P5 (.ref p) (.int i) H Q:=.inl ⟨p,xs,i,v,rfl,rfl,h,by rw[hn];exact An e,q⟩
theorem Kg {xs:List V}{ss:List Sg}{i:Int}{n:Nat}{s:Sg}(h:aR K H p xs)(g:kx H xs ss)(hn:i=n)(e:ss[n]? = some s)(q:∀ b,H b=some (.tup [.str s.1.str,.int s.2])->Q (.ref b) H) :
  P2 K (.ref p) (.int i) H Q\/P4 K (.ref p) (.int i) H Q\/P5 (.ref p) (.int i) H Q:=by
 obtain⟨x,hx,b,rfl,hb⟩:=Av g e;exact ixL h hn hx (q b hb)
theorem Y8 {ns:List Int}{i:Int}{n:Nat}{z:Int}(h:aR K H p (ns.map V.int))(hn:i=n)(e:ns[n]? = some z)(q:Q (.int z) H):P2 K (.ref p) (.int i) H Q\/P4 K (.ref p) (.int i) H Q\/P5 (.ref p) (.int i) H Q :=
 ixL h hn (by rw[getElem?_map,e];rfl) q
end
set_option maxHeartbeats 1000000
def nm (m:Int):Kd->Int
 |.three=>3
 |.two=>2
 |_=>m
def Ms (m:Int):Prop:=m=3\/m=2
theorem Ms.nm {m:Int}(h:Ms m)(k:Kd):Ms (nm m k):=by
 cases k <;> first|exact h|exact .inl rfl|exact .inr rfl
def fY (m:Int):List Kd->List Int
 |[]=>[]
 |k::t=>nm m k::fY (nm m k) t
theorem CF (m:Int)(ks:List Kd):(fY m ks).length=ks.length:=by
 induction ks generalizing m with
 |nil=>rfl
 |cons k t ih=>simp[fY,ih]
def pw:Kd->Int->Int
 |.G,m=>if m=2 then 2 else 3
 |.R,m=>if m=2 then 2 else 3
 |.D,_=>2
 |.s,_=>1
 |.d,_=>1
 |.r,_=>1
 |_,_=>0
def bw (m:Int)(k:Kd)(n:Option Kd):Int:=if m=2/\k=.G/\n=some .dot then 3 else pw k m
def gn (m:Int):List Kd->List Int
 |[]=>[]
 |k::t=>bw (nm m k) k t.head? :: gn (nm m k) t
def yp:List Kd->List Int->List Int
 |k::t,m::ms=>bw m k t.head? :: yp t ms
 |_,_=>[]
theorem Qk (m:Int)(ks:List Kd):yp ks (fY m ks)=gn m ks:=by
 induction ks generalizing m with
 |nil=>rfl
 |cons k t ih=>simp[fY,yp,gn,ih]
theorem qZ (m:Int)(ks:List Kd):(gn m ks).length=ks.length:=by
 induction ks generalizing m with
 |nil=>rfl
 |cons k t ih=>simp[gn,ih]
def inR (m:Int)(k:Kd):Bool:=decide (m≠2)&&k.small
def h9 (m:Int):List Kd->List Bool
 |[]=>[]
 |k::t=>inR (nm m k) k::h9 (nm m k) t
theorem nX (m:Int)(ks:List Kd):(h9 m ks).length=ks.length:=by
 induction ks generalizing m with
 |nil=>rfl
 |cons k t ih=>simp[h9,ih]
def Ql:List Kd->List Int->List Bool
 |k::t,m::ms=>inR m k::Ql t ms
 |_,_=>[]
theorem R9 (m:Int)(ks:List Kd):Ql ks (fY m ks)=h9 m ks:=by
 induction ks generalizing m with
 |nil=>rfl
 |cons k t ih=>simp[fY,Ql,h9,ih]
def dF (at' first:Nat):List Bool->List (Nat×Nat)
 |[]=>if first<at' then [(first,at')] else []
 |true::t=>dF (at'+1) first t
 |false::t=>(if first<at' then [(first,at')] else [])++dF (at'+1) (at'+1) t
def ui (m:Int)(ks:List Kd):List (Nat×Nat):=dF 0 0 (h9 m ks)
def MH (ks:List Kd)(i:Int):Option Kd:=if 0<=i then ks[i.toNat]? else none
theorem pj (ks:List Kd)(n:Nat):MH ks (n:Int)=ks[n]?:=by
 unfold MH;rw[if_pos (by omega)];rfl
def qk:Option Kd->Bool
 |some k=>k.great
 |none=>false
def ia (ks:List Kd)(f:List Int)(a:Nat):Bool:=decide (MH ks ((a:Int)-1)=some .G)&&decide (f.getD (a-1) 0=3)
def eV (ks:List Kd)(z:Nat):Bool:=decide (ks[z]? = some .G) && !qk ks[z+1]?
def Aw (ks:List Kd)(f:List Int)(a z:Nat):Bool×List Int:=if ia ks f a then(true,f.set (a-1) 2) else if eV ks z then(true,f.set z 2) else(false,f)
def Ax (ks:List Kd)(f:List Int)(a z:Nat):Bool×List Int:=if qk ks[z]? && decide (ks[z-1]? = some .s) then(true,f.set (z-1) 2) else if ia ks f a&&eV ks z then(true,(f.set (a-1) 2).set z 2) else(false,f)
def settle (ks:List Kd)(f:List Int)(a z:Nat):Bool×List Int:=if(z-a) % 3=1 then Aw ks f a z else if(z-a) % 3=2 then Ax ks f a z else(true,f)
theorem yq (ks:List Kd)(f:List Int)(a z:Nat):(settle ks f a z).2.length=f.length:=by
 unfold settle Aw Ax
 repeat' split
 all_goals simp
abbrev RdS:=List Int×List (Nat×Nat)
def qm (ks:List Kd)(c:RdS)(p:Nat×Nat):RdS:=((settle ks c.1 p.1 p.2).2,if(settle ks c.1 p.1 p.2).1 then c.2 else c.2++[p])
def iW (m:Int)(ks:List Kd):RdS:=(ui m ks).foldl (qm ks) (gn m ks,[])
theorem Y9 (ks:List Kd)(rs:List (Nat×Nat))(c:RdS):(rs.foldl (qm ks) c).1.length=c.1.length:=by
 induction rs generalizing c with
 |nil=>rfl
 |cons p t ih=>rw[List.foldl_cons,ih];exact yq ..
theorem xt (m:Int)(ks:List Kd):(iW m ks).1.length=ks.length:=by
 unfold iW;rw[Y9,qZ]
theorem GZ:∀(bs:List Bool)(at' first:Nat),first<=at'->∀ p∈dF at' first bs,first<=p.1/\p.1<p.2/\p.2<=at'+bs.length
 |[],at',first,h,p,hp=>by
  unfold dF at hp;split at hp
  ·have:p=(first,at'):=by simpa using hp
   subst this;exact⟨Nat.le_refl _,by assumption,by simp⟩
  ·cases hp
 |true::t,at',first,h,p,hp=>by
  have:=GZ t (at'+1) first (by omega) p hp
  simp only [length_cons];omega
 |false::t,at',first,h,p,hp=>by
  unfold dF at hp;simp only [length_cons];rcases mem_append.mp hp with hp|hp
  ·split at hp
   ·have:p=(first,at'):=by simpa using hp
    subst this;exact⟨Nat.le_refl _,by assumption,by simp⟩
   ·cases hp
  ·have:=GZ t (at'+1) (at'+1) (Nat.le_refl _) p hp;omega
theorem Za (m:Int)(ks:List Kd):∀ p∈ui m ks,p.1<p.2/\p.2<=ks.length:=by
 intro p hp;have:=GZ (h9 m ks) 0 0 (Nat.le_refl _) p hp;rw[nX]at this;omega
theorem lQ:∀(bs:List Bool)(at' first:Nat),(dF at' first bs).length<=bs.length+1
 |[],at',first=>by unfold dF;split <;> simp
 |true::t,at',first=>by
  unfold dF;have:=lQ t (at'+1) first
  simp only [length_cons];omega
 |false::t,at',first=>by
  unfold dF;have:=lQ t (at'+1) (at'+1);simp only [length_cons,length_append];split <;> simp <;> omega
def V5 (H:Hp)(v:V)(q:Nat×Nat):Prop:=∃ p,v=.ref p/\H p=some (.tup [.int (q.1:Int),.int (q.2:Int)])
abbrev Sa (H:Hp):List V->List (Nat×Nat)->Prop:=Paired (V5 H)
theorem V5.same {H H':Hp}{v:V}{q:Nat×Nat}(e:aq H H')(h:V5 H v q):V5 H' v q:=by
 obtain⟨p,rfl,z⟩:=h;exact⟨p,rfl,e _ _ z⟩
theorem pq {H H':Hp}(e:aq H H'){xs:List V}{qs:List (Nat×Nat)}(h:Sa H xs qs):Sa H' xs qs:=cA (fun _ _ z=>z.same e) h
theorem Qm {H:Hp}{D:Addr}{o:HO}{zs:List V}{v:V}{q:Nat×Nat}(hD:H D=some (.lst zs))(h:V5 H v q):V5 (upd H D o) v q:=by
 obtain⟨p,e,z⟩:=h;exact⟨p,e,by rw[ak (uG z hD (by intro z;cases z))];exact z⟩
theorem nY {H:Hp}{D:Addr}{o:HO}{zs:List V}{xs:List V}{qs:List (Nat×Nat)}(hD:H D=some (.lst zs))(h:Sa H xs qs):Sa (upd H D o) xs qs:=cA (fun _ _ q=>Qm hD q) h
theorem Ay {H:Hp}{a:Addr}{o:HO}(h:H a=some o):upd H a o=H:=by
 funext b
 unfold upd;split
 ·rename_i e;rw[e,h]
 ·rfl
theorem CG {ks:List Kd}{f:List Int}{a:Nat}(h:ia ks f a=true):1<=a/\a-1<ks.length:=by
 unfold ia at h;have h1:=of_decide_eq_true (Bool.and_eq_true_iff.mp h).1;unfold MH at h1;split at h1
 ·have:=(List.getElem?_eq_some_iff.mp h1).1;omega
 ·cases h1
theorem yr {ks:List Kd}{z:Nat}(h:eV ks z=true):z<ks.length:=by
 unfold eV at h;have h1:=of_decide_eq_true (Bool.and_eq_true_iff.mp h).1;exact(List.getElem?_eq_some_iff.mp h1).1
theorem px {n:Nat}{i:Int}{j:Nat}(e:i=j)(h:j<n):ixN n i=some j:=by
 unfold ixN;subst e;rw[if_pos (by omega),if_pos (by omega)];rfl
theorem m8 {α:Type}{l:List α}{i:Nat}{x:α}(h:l[i]? = some x):l.drop i=x::l.drop (i+1):=by
 obtain⟨hi,e⟩:=List.getElem?_eq_some_iff.mp h;rw[List.drop_eq_getElem_cons hi,e]
theorem uQ {α β:Type}{l:List α}{f:α->β}{i:Nat}{x:α}(h:l[i]? = some x):(l.map f)[i]? = some (f x):=by rw[getElem?_map,h];rfl
abbrev ba (ss:List Sg):List Kd:=ss.map Prod.fst
theorem lI {fs:List Int}{j:Nat}{v:Int}:(fs.map V.int).set j (V.int v)=(fs.set j v).map V.int:=by rw[List.map_set]
theorem big {n:Nat}(h:n<=1000):n<=sizeLine:=Nat.le_of_lt (aK h)
theorem head_drop {α:Type}(l:List α)(i:Nat):(l.drop i).head? = l[i]?:=by
 rw[List.head?_drop]
def iF (m:Int):List Kd->List Bool
 |[]=>[]
 |k::t=>decide (nm m k=3)::iF (nm m k) t
theorem Sb (m:Int)(ks:List Kd):(iF m ks).length=ks.length:=by
 induction ks generalizing m with
 |nil=>rfl
 |cons k t ih=>simp[iF,ih]
def lead:List Bool->Nat
 |true::t=>lead t+1
 |_=>0
theorem U7:∀ bs:List Bool,lead bs<=bs.length
 |[]=>Nat.le_refl _
 |true::t=>by simp only [lead,length_cons];have:=U7 t;omega
 |false::t=>Nat.zero_le _
theorem G0:∀(bs:List Bool)(at' first:Nat),first<at'+lead bs\/lead bs=0->first<=at'->dF at' first bs=(if first<at'+lead bs then [(first,at'+lead bs)] else [])++dF (at'+lead bs) (at'+lead bs) (bs.drop (lead bs))
 |[],at',first,_,h=>by
  show(if first<at' then [(first,at')] else [])=(if first<at' then [(first,at')] else [])++dF at' at' [];rw[show dF at' at' []=[] by unfold dF;rw[if_neg (Nat.lt_irrefl _)],append_nil]
 |true::t,at',first,h0,h=>by
  have ih:=G0 t (at'+1) first (.inl (by omega)) (by omega)
  have e:at'+1+lead t=at'+(lead t+1):=by omega
  rw[e]at ih;simp only [dF,lead,List.drop_succ_cons];exact ih
 |false::t,at',first,_,h=>by
  show(if first<at' then [(first,at')] else [])++dF (at'+1) (at'+1) t=(if first<at' then [(first,at')] else [])++((if at'<at' then [(at',at')] else [])++dF (at'+1) (at'+1) t);rw[if_neg (Nat.lt_irrefl at'),nil_append]
theorem Va {m:Int}(h:Ms m):∀(ks:List Kd)(i:Nat)(k:Kd),ks[i]? = some k->∃ b,(iF m ks)[i]? = some b/\(h9 m ks)[i]? = some (k.small&&b)
 |[],i,k,e=>by simp at e
 |c::t,0,k,e=>by
  have:c=k:=by simpa using e
  subst this;refine⟨decide (nm m c=3),rfl,?_⟩;simp only [h9,List.getElem?_cons_zero,inR];have hm:=h.nm c;rcases hm with e|e <;> rw[e] <;> cases c <;> rfl
 |c::t,i+1,k,e=>by
  obtain⟨b,h1,h2⟩:=Va (h.nm c) t i k (by simpa using e);exact⟨b,by simpa [iF] using h1,by simpa [h9] using h2⟩
theorem Vb:∀(bs:List Bool)(j:Nat),j<=lead bs->(j<lead bs ↔ bs[j]? = some true)
 |[],j,h=>by simp[lead]
 |true::t,0,h=>by simp[lead]
 |true::t,j+1,h=>by
  have:=Vb t j (by simp only [lead]at h;omega);simp only [lead,List.getElem?_cons_succ];rw[<-this];omega
 |false::t,j,h=>by
  have:j=0:=by simp only [lead]at h;omega
  subst this;simp[lead]
theorem acY {m:Int}{ks:List Kd}{low j:Nat}:((h9 m ks).drop low)[j]? = (h9 m ks)[low+j]?:=by rw[List.getElem?_drop]
set_option maxHeartbeats 1000000
theorem aeH (xs:List V)(n:Nat):GN xs none (some (n:Int))=xs.take n:=by
 unfold GN;have e:HT.kr xs.length xs.length (some (n:Int))=min n xs.length:=HT.UN xs.length xs.length n;rw[HT.P0,e,Nat.sub_zero,List.drop_zero];rcases Nat.le_total n xs.length with h|h
 ·rw[Nat.min_eq_left h]
 ·rw[Nat.min_eq_right h,take_length,List.take_of_length_le h]
theorem aaT (xs:List V)(n:Nat)(h:n<=xs.length):GN xs (some (n:Int)) none=xs.drop n:=by
 unfold GN;have e:HT.kr xs.length 0 (some (n:Int))=min n xs.length:=HT.UN xs.length 0 n;rw[HT.P0,e,Nat.min_eq_left h];exact List.take_of_length_le (by rw[length_drop];omega)
theorem aeI {K:Frag}{H:Hp}{p p2:Addr}{s:Sg}(n:Nat)(h1:H p=some (.tup [.str s.1.str,.int s.2]))(h2:H p2=some (.tup [.str s.1.str,.int s.2])):YH K H (n+1) (.ref p) (.ref p2):=by
 refine .tup (nR.of h1) (nR.of h2) rfl fun i x y e1 e2=>?_;have e:x=y:=Option.some.inj (e1.symm.trans e2);subst e
 match i,e1 with
 |0,e1=>cases e1;exact .flat rfl
 |1,e1=>cases e1;exact .flat rfl
 |n+2,e1=>simp at e1
def PrI (H:Hp)(v:V)(q:Int×Int):Prop:=∃ p,v=.ref p/\H p=some (.tup [.int q.1,.int q.2])
abbrev ai4 (H:Hp):List V->List (Int×Int)->Prop:=Paired (PrI H)
structure agM (H0 H:Hp)(l:Addr)(xs:List V)(ss:List Sg):Prop where
 same:aq H0 H
 new:H0 l=none
 at':H l=some (.lst xs)
 sg:kx H xs ss
def G1 (K:Frag):Sp:=fun vs H Q _=>∃(a:Addr)(ns:List Int),vs=[.ref a]/\aR K H a (ns.map V.int)/\ns.length<=63/\∀ H',Q (.bl true) H'
theorem V6 {K:Frag}{H:Hp}{a:Addr}{ns:List Int}(hl:ns.length<=63)(_:Only H)(hS:aR K H a (ns.map V.int)):G1 K [.ref a] H (fun v _=>v=.bl true) fun _ _ _=>False :=
 ⟨a,ns,rfl,hS,hl,fun _=>rfl⟩
set_option maxHeartbeats 1000000
theorem qo {k:Str}{v:V}{r:List (Str×V)}:((k,v)::r).lookup k=some v:=by simp[List.lookup]
theorem aB {k g:Str}{v:V}{r:List (Str×V)}(h:¬ g=k):((k,v)::r).lookup g=r.lookup g:=by
 have:(g==k)=false:=beq_eq_false_iff_ne.mpr h;simp[List.lookup,this]
theorem iq {k g:Str}{x y:V}{r:List (Str×V)}(h:¬ g=k):km k y ((g,x)::r)=(g,x)::km k y r:=if_neg h
def voF (n:Str)(tm:V)(L:Addr):List (Str×V):=[("name",V.str n),("terms",tm),("signs",V.ref L)]
theorem Qn (n:Str)(tm:V)(L:Addr):(voF n tm L).lookup ("name":Str)=some (V.str n):=qo
theorem xu (n:Str)(tm:V)(L:Addr):(voF n tm L).lookup ("terms":Str)=some (tm):=(aB (by lk)).trans (qo)
theorem CH (n:Str)(tm:V)(L:Addr):(voF n tm L).lookup ("signs":Str)=some (V.ref L):=(aB (by lk)).trans ((aB (by lk)).trans (qo))
theorem MI (v0:V):km "name" v0 ([]:List (Str×V))=([("name",v0)]:List (Str×V)):=rfl
theorem Vc (v0 v1:V):km "terms" v1 ([("name",v0)]:List (Str×V))=([("name",v0),("terms",v1)]:List (Str×V)):=(iq (by lk)).trans (congrArg _ (rfl))
theorem aaU (v0 v1 v2:V):km "signs" v2 ([("name",v0),("terms",v1)]:List (Str×V))=([("name",v0),("terms",v1),("signs",v2)]:List (Str×V)):=(iq (by lk)).trans (congrArg _ ((iq (by lk)).trans (congrArg _ (rfl))))
def LH (T:Addr)(at_:Int)(B A:Addr):List (Str×V):=[("things",V.ref T),("at",V.int at_),("before",V.ref B),("after",V.ref A)]
theorem G2 (T:Addr)(at_:Int)(B A:Addr):(LH T at_ B A).lookup ("things":Str)=some (V.ref T):=qo
theorem MJ (T:Addr)(at_:Int)(B A:Addr):(LH T at_ B A).lookup ("at":Str)=some (V.int at_):=(aB (by lk)).trans (qo)
theorem G3 (T:Addr)(at_:Int)(B A:Addr):(LH T at_ B A).lookup ("before":Str)=some (V.ref B):=(aB (by lk)).trans ((aB (by lk)).trans (qo))
theorem LI (T:Addr)(at_:Int)(B A:Addr):(LH T at_ B A).lookup ("after":Str)=some (V.ref A):=(aB (by lk)).trans ((aB (by lk)).trans ((aB (by lk)).trans (qo)))
theorem LJ (T:Addr)(at_:Int)(B A:Addr):(LH T at_ B A).lookup ("do":Str)=none:=(aB (by lk)).trans ((aB (by lk)).trans ((aB (by lk)).trans ((aB (by lk)).trans (rfl))))
theorem Qo (T:Addr)(at_:Int)(B A:Addr):(LH T at_ B A).lookup ("undo":Str)=none:=(aB (by lk)).trans ((aB (by lk)).trans ((aB (by lk)).trans ((aB (by lk)).trans (rfl))))
theorem GB (v0:V):km "things" v0 ([]:List (Str×V))=([("things",v0)]:List (Str×V)):=rfl
theorem MK (v0 v1:V):km "at" v1 ([("things",v0)]:List (Str×V))=([("things",v0),("at",v1)]:List (Str×V)):=(iq (by lk)).trans (congrArg _ (rfl))
theorem Vd (v0 v1 v2:V):km "before" v2 ([("things",v0),("at",v1)]:List (Str×V))=([("things",v0),("at",v1),("before",v2)]:List (Str×V)):=(iq (by lk)).trans (congrArg _ ((iq (by lk)).trans (congrArg _ (rfl))))
theorem aaV (v0 v1 v2 v3:V):km "after" v3 ([("things",v0),("at",v1),("before",v2)]:List (Str×V))=([("things",v0),("at",v1),("before",v2),("after",v3)]:List (Str×V)):=(iq (by lk)).trans (congrArg _ ((iq (by lk)).trans (congrArg _ ((iq (by lk)).trans (congrArg _ (rfl))))))
def Aj (V_ D U:Addr):List (Str×V):=[("voices",V.ref V_),("done",V.ref D),("undone",V.ref U)]
theorem iG (V_ D U:Addr):(Aj V_ D U).lookup ("voices":Str)=some (V.ref V_):=qo
theorem Az (V_ D U:Addr):(Aj V_ D U).lookup ("done":Str)=some (V.ref D):=(aB (by lk)).trans (qo)
theorem rW (V_ D U:Addr):(Aj V_ D U).lookup ("undone":Str)=some (V.ref U):=(aB (by lk)).trans ((aB (by lk)).trans (qo))
theorem ky (V_ D U:Addr):(Aj V_ D U).lookup ("add_voice":Str)=none:=(aB (by lk)).trans ((aB (by lk)).trans ((aB (by lk)).trans (rfl)))
theorem CI (V_ D U:Addr):(Aj V_ D U).lookup ("add_canon":Str)=none:=(aB (by lk)).trans ((aB (by lk)).trans ((aB (by lk)).trans (rfl)))
theorem Qp (V_ D U:Addr):(Aj V_ D U).lookup ("drop":Str)=none:=(aB (by lk)).trans ((aB (by lk)).trans ((aB (by lk)).trans (rfl)))
theorem Sd (V_ D U:Addr):(Aj V_ D U).lookup ("put":Str)=none:=(aB (by lk)).trans ((aB (by lk)).trans ((aB (by lk)).trans (rfl)))
theorem Fb (V_ D U:Addr):(Aj V_ D U).lookup ("undo":Str)=none:=(aB (by lk)).trans ((aB (by lk)).trans ((aB (by lk)).trans (rfl)))
theorem Qq (V_ D U:Addr):(Aj V_ D U).lookup ("redo":Str)=none:=(aB (by lk)).trans ((aB (by lk)).trans ((aB (by lk)).trans (rfl)))
theorem jr (V_ D U:Addr):(Aj V_ D U).lookup ("names":Str)=none:=(aB (by lk)).trans ((aB (by lk)).trans ((aB (by lk)).trans (rfl)))
theorem iX (V_ D U:Addr):(Aj V_ D U).lookup ("line":Str)=none:=(aB (by lk)).trans ((aB (by lk)).trans ((aB (by lk)).trans (rfl)))
theorem Fc (V_ D U:Addr):(Aj V_ D U).lookup ("kept":Str)=none:=(aB (by lk)).trans ((aB (by lk)).trans ((aB (by lk)).trans (rfl)))
theorem js (V_ D U:Addr):(Aj V_ D U).lookup ("canon":Str)=none:=(aB (by lk)).trans ((aB (by lk)).trans ((aB (by lk)).trans (rfl)))
theorem nZ (V_ D U:Addr):(Aj V_ D U).lookup ("perform":Str)=none:=(aB (by lk)).trans ((aB (by lk)).trans ((aB (by lk)).trans (rfl)))
theorem xY (V_ D U:Addr):(Aj V_ D U).lookup ("put_in":Str)=none:=(aB (by lk)).trans ((aB (by lk)).trans ((aB (by lk)).trans (rfl)))
theorem pA (V_ D U:Addr):(Aj V_ D U).lookup ("refuse_new":Str)=none:=(aB (by lk)).trans ((aB (by lk)).trans ((aB (by lk)).trans (rfl)))
theorem c0 (V_ D U:Addr):(Aj V_ D U).lookup ("voice_called":Str)=none:=(aB (by lk)).trans ((aB (by lk)).trans ((aB (by lk)).trans (rfl)))
theorem n0 (V_ D U:Addr):(Aj V_ D U).lookup ("plain_voice":Str)=none:=(aB (by lk)).trans ((aB (by lk)).trans ((aB (by lk)).trans (rfl)))
theorem ML (v0:V):km "voices" v0 ([]:List (Str×V))=([("voices",v0)]:List (Str×V)):=rfl
theorem Ve (v0 v1:V):km "done" v1 ([("voices",v0)]:List (Str×V))=([("voices",v0),("done",v1)]:List (Str×V)):=(iq (by lk)).trans (congrArg _ (rfl))
theorem aaW (v0 v1 v2:V):km "undone" v2 ([("voices",v0),("done",v1)]:List (Str×V))=([("voices",v0),("done",v1),("undone",v2)]:List (Str×V)):=(iq (by lk)).trans (congrArg _ ((iq (by lk)).trans (congrArg _ (rfl))))
set_option maxHeartbeats 1000000
theorem yt {a b:TS}{D:Ends}{σ:St}{H:Hp}(h:∀ N:St->Hp->Prop,(∀ σ H,b D σ H->N σ H)->a { D with nx:=N } σ H):ad1 a b D σ H:=h (b D) fun _ _ z=>z
structure Vx where
 o:Addr
 d:Addr
 n:Str
 tm:V
 l:Addr
def aaX (C:Addr)(H:Hp)(v:V)(a:Vx):Prop:=v=.ref a.o/\H a.o=some (.ins C a.d (voF a.n a.tm a.l))
structure Dd where
 o:Addr
 d:Addr
 T:Addr
 i:Nat
 B:Addr
 A:Addr
 bs:List V
 as:List V
def lR (C:Addr)(H:Hp)(v:V)(e:Dd):Prop:=v=.ref e.o/\H e.o=some (.ins C e.d (LH e.T (e.i:Int) e.B e.A))/\H e.B=some (.lst e.bs)/\H e.A=some (.lst e.as)
abbrev MM:=Addr->List V
def putAt (S:MM)(T:Addr)(zs:List V):MM:=fun b=>if b=T then zs else S b
theorem gp {S:MM}{T:Addr}{zs:List V}:putAt S T zs T=zs:=if_pos rfl
theorem lS {S:MM}{T b:Addr}{zs:List V}(h:b≠T):putAt S T zs b=S b:=if_neg h
def uj (e:Dd)(S:MM):MM:=putAt S e.T ((S e.T).take e.i++e.as++(S e.T).drop (e.i+e.bs.length))
def unD (e:Dd)(S:MM):MM:=putAt S e.T ((S e.T).take e.i++e.bs++(S e.T).drop (e.i+e.as.length))
def Fits (e:Dd)(S:MM):Prop:=e.i+e.bs.length<=(S e.T).length/\((S e.T).drop e.i).take e.bs.length=e.bs
theorem aeJ {α:Type}{xs bs as:List α}{i:Nat}(h:i+bs.length<=xs.length):(xs.take i++as++xs.drop (i+bs.length)).take i=xs.take i/\(xs.take i++as++xs.drop (i+bs.length)).drop (i+as.length)=xs.drop (i+bs.length):=by
 have h1:(xs.take i).length=i:=by rw[length_take];omega
 constructor
 ·rw[List.append_assoc];exact List.take_left' h1
 ·exact List.drop_left' (by rw[length_append,h1])
theorem aeK {e:Dd}{S:MM}(h:Fits e S):unD e (uj e S)=S:=by
 funext b
 unfold unD
 by_cases hb:b=e.T
 ·subst hb;rw[gp];unfold uj;rw[gp,(aeJ h.1).1,(aeJ h.1).2];have h2:e.bs++(S e.T).drop (e.i+e.bs.length)=(S e.T).drop e.i:=by
   rw[<-List.drop_drop];have:=List.take_append_drop e.bs.length ((S e.T).drop e.i);rw[h.2]at this;exact this
  rw[List.append_assoc,h2,List.take_append_drop]
 ·rw[lS hb];unfold uj;rw[lS hb]
theorem aaY {e:Dd}{S:MM}(h:Fits e S):e.i+e.as.length<=(uj e S e.T).length:=by
 unfold uj;rw[gp,length_append,length_append,length_take];have:=h.1;omega
inductive Path:List MM->List Dd->MM->Prop
 |nil {M:MM}:Path [] [] M
 |snoc {Ps:List MM} {es:List Dd} {S:MM} {e:Dd}:Path Ps es S->Fits e S->Path (Ps++[S]) (es++[e]) (uj e S)
inductive Zb:MM->List Dd->List MM->Prop
 |nil {M:MM}:Zb M [] []
 |snoc {M:MM} {us:List Dd} {Fs:List MM} {e:Dd}:Fits e M->Zb (uj e M) us Fs->Zb M (us++[e]) (Fs++[uj e M])
theorem uR {α:Type}{a b:List α}{x y:α}(h:a++[x]=b++[y]):a=b/\x=y:=by
 have:=List.append_inj' h rfl;exact⟨this.1,by simpa using this.2⟩
theorem Path.last {Ps:List MM}{es:List Dd}{e:Dd}{M:MM}(h:Path Ps (es++[e]) M):∃ Ps' S,Ps=Ps'++[S]/\Path Ps' es S/\Fits e S/\M=uj e S:=by
 generalize he:es++[e]=es' at h;cases h with
 |nil=>simp at he
 |snoc p f =>
  obtain⟨rfl,rfl⟩:=uR he;exact⟨_,_,rfl,p,f,rfl⟩
theorem Zb.last {us:List Dd}{e:Dd}{M:MM}{Fs:List MM}(h:Zb M (us++[e]) Fs):∃ Fs',Fs=Fs'++[uj e M]/\Fits e M/\Zb (uj e M) us Fs':=by
 generalize he:us++[e]=us' at h;cases h with
 |nil=>simp at he
 |snoc f p =>
  obtain⟨rfl,rfl⟩:=uR he;exact⟨_,rfl,f,p⟩
theorem Path.len {Ps:List MM}{es:List Dd}{M:MM}(h:Path Ps es M):Ps.length=es.length:=by
 induction h with
 |nil=>rfl
 |snoc _ _ ih=>rw[length_append,length_append,ih];rfl
theorem Zb.len {us:List Dd}{M:MM}{Fs:List MM}(h:Zb M us Fs):Fs.length=us.length:=by
 induction h with
 |nil=>rfl
 |snoc _ _ ih=>rw[length_append,length_append,ih];rfl
def iY (s:Sg):Prop:=(s.1.iE=true->0<=s.2/\s.2<100)/\(s.1.iE=false->s.2=0)
def GV (H:Hp)(v:V):Prop:=∃ s,R7 H v s/\iY s
structure WF (H:Hp)(L:Addr)(all:List Vx)(S:MM):Prop where
 vs:∃ vx:List Vx,Paired (fun v a=>v=V.ref a.o/\a∈all) (S L) vx
 ln:∀ a∈all,(S a.l).length<=200/\∀ v∈S a.l,GV H v
 len:(S L).length<=12
 out:∀ b,b≠L->(∀ a∈all,b≠a.l)->S b=[]
inductive Th where
 |pl (ss:List Sg)
 |cn (ld:Str) (lt sl:Int) (tn:Bool)
abbrev Vw:=List (Str×Th)
def Zc (H:Hp)(S:MM)(a:Vx):Th->Prop
 |.pl ss=>a.tm=.non/\kx H (S a.l) ss
 |.cn ld lt sl tn=>∃ p,a.tm=.ref p/\H p=some (.tup [.str ld,.int lt,.int sl,.bl tn])
def Se (H:Hp)(all:List Vx)(S:MM)(v:V)(q:Str×Th):Prop:=∃ a∈all,v=.ref a.o/\a.n=q.1/\Zc H S a q.2
abbrev Is (H:Hp)(L:Addr)(all:List Vx)(S:MM)(vw:Vw):Prop:=Paired (Se H all S) (S L) vw
structure rX (vw:Vw):Prop where
 nd:(vw.map (·.1)).Nodup
 ld:∀ n ld lt sl tn,(n,Th.cn ld lt sl tn)∈vw->(∃ ss,(ld,Th.pl ss)∈vw)/\0<=lt/\lt<=999/\1<=sl/\sl<=9
 gd:∀ n ss,(n,Th.pl ss)∈vw->ss.length<=200/\∀ s∈ss,iY s
 len:vw.length<=12
structure Kh (CB CV CD:Addr)(H:Hp)(x L D U:Addr)(all:List Vx)(M:MM)(Ps Fs:List MM)(es us:List Dd):Prop where
 hx:∃ dx,H x=some (.ins CB dx (Aj L D U))
 hL:H L=some (.lst (M L))
 hD:∃ xs,H D=some (.lst xs)/\Paired (lR CD H) xs es
 hU:∃ xs,H U=some (.lst xs)/\Paired (lR CD H) xs us
 ha:∀ a∈all,H a.o=some (.ins CV a.d (voF a.n a.tm a.l))/\H a.l=some (.lst (M a.l))
 LD:L≠D
 LU:L≠U
 DU:D≠U
 nl:∀ a∈all,a.l≠L/\a.l≠D/\a.l≠U
 ni:∀ a∈all,∀ b∈all,a.l=b.l->a=b
 no:∀ a∈all,∀ b∈all,a.o=b.o->a=b
 dd:∀ e,e∈es\/e∈us->(e.T=L\/∃ a∈all,e.T=a.l)/\(e.B≠L/\e.B≠D/\e.B≠U/\∀ a∈all,e.B≠a.l)/\(e.A≠L/\e.A≠D/\e.A≠U/\∀ a∈all,e.A≠a.l)/\e.bs.length<=1/\e.as.length<=1
 past:Path Ps es M
 fut:Zb M us Fs
 wf:∀ S,S∈Ps\/S=M\/S∈Fs->WF H L all S
structure Qr (F:Addr->Prop)(L D U:Addr)(all:List Vx)(es us:List Dd):Prop where
 L:F L
 D:F D
 U:F U
 l:∀ a∈all,F a.l
 d:∀ e,e∈es\/e∈us->F e.B/\F e.A
structure Bk (CB CV CD:Addr)(H:Hp)(x:Addr)(F:Addr->Prop)(vw:Vw)(ps fs:List Vw):Prop where
 ex:∃(L D U:Addr)(all:List Vx)(M:MM)(Ps Fs:List MM)(es us:List Dd),Kh CB CV CD H x L D U all M Ps Fs es us/\Is H L all M vw/\Paired (Is H L all) Ps ps/\Paired (Is H L all) Fs fs/\Qr F L D U all es us
 wv:∀ v,v∈ps\/v=vw\/v∈fs->rX v
def Kept (F:Addr->Prop)(H H':Hp):Prop:=∀ y o,H y=some o->(F y\/∀ xs,o≠.lst xs)->H' y=some o
theorem Kept.same {F:Addr->Prop}{H H':Hp}(s:aq H H'):Kept F H H':=fun y o e _=>s y o e
section
variable {CB CV CD:Addr} {H H':Hp} {x L D U:Addr} {all:List Vx} {M S:MM} {Ps Fs:List MM} {es us:List Dd} {F:Addr->Prop} {vw:Vw} {ps fs:List Vw}
theorem Kept.sgs (k:Kept F H H'){xs:List V}{ss:List Sg}(h:kx H xs ss):kx H' xs ss:=cA (fun _ _ ⟨p,e1,e2⟩=>⟨p,e1,k _ _ e2 (.inr fun _ z=>nomatch z)⟩) h
theorem Kept.gv (k:Kept F H H'){v:V}(h:GV H v):GV H' v:=by
 obtain⟨s,⟨p,e1,e2⟩,g⟩:=h;exact⟨s,⟨p,e1,k _ _ e2 (.inr fun _ z=>nomatch z)⟩,g⟩
theorem WF.kept (k:Kept F H H')(h:WF H L all S):WF H' L all S:=⟨h.vs,fun a ha=>⟨(h.ln a ha).1,fun v hv=>k.gv ((h.ln a ha).2 v hv)⟩,h.len,h.out⟩
theorem Se.kept (k:Kept F H H'){v:V}{q:Str×Th}(h:Se H all S v q):Se H' all S v q:=by
 obtain⟨a,ha,e1,e2,t⟩:=h;refine⟨a,ha,e1,e2,?_⟩;cases hq:q.2 with
 |pl ss=>rw[hq]at t;exact⟨t.1,k.sgs t.2⟩
 |cn ld lt sl tn =>
  rw[hq]at t;obtain⟨p,e3,e4⟩:=t;exact⟨p,e3,k _ _ e4 (.inr fun _ z=>nomatch z)⟩
theorem Is.kept (k:Kept F H H')(h:Is H L all S vw):Is H' L all S vw:=cA (fun _ _ q=>Se.kept k q) h
theorem gJ (k:Kept F H H'){v:V}{e:Dd}(f:F e.B/\F e.A)(h:lR CD H v e):lR CD H' v e:=⟨h.1,k _ _ h.2.1 (.inr fun _ z=>nomatch z),k _ _ h.2.2.1 (.inl f.1),k _ _ h.2.2.2 (.inl f.2)⟩
theorem qp {α β:Type}{F G:α->β->Prop}:∀{xs:List α} {ys:List β},(∀ x y,y∈ys->F x y->G x y)->Paired F xs ys->Paired G xs ys
 |_,_,_,.nil=>.nil
 |_,_,h,.cons a b=>.cons (h _ _ (mem_cons_self ..) a) (qp (fun x y hy=>h x y (mem_cons_of_mem _ hy)) b)
theorem Kh.kept (h:Kh CB CV CD H x L D U all M Ps Fs es us)(f:Qr F L D U all es us)(k:Kept F H H'):Kh CB CV CD H' x L D U all M Ps Fs es us :=
 {
  h with
  hx:=let ⟨dx,e⟩:=h.hx;⟨dx,k _ _ e (.inr fun _ z=>nomatch z)⟩
  hL:=k _ _ h.hL (.inl f.L)
  hD:=let ⟨xs,e,p⟩:=h.hD;⟨xs,k _ _ e (.inl f.D),qp (fun _ e he q=>gJ k (f.d e (.inl he)) q) p⟩
  hU:=let ⟨xs,e,p⟩:=h.hU;⟨xs,k _ _ e (.inl f.U),qp (fun _ e he q=>gJ k (f.d e (.inr he)) q) p⟩
  ha:=fun a m=>⟨k _ _ (h.ha a m).1 (.inr fun _ z=>nomatch z),k _ _ (h.ha a m).2 (.inl (f.l a m))⟩
  wf:=fun S hS=>(h.wf S hS).kept k }
theorem Bk.kept (h:Bk CB CV CD H x F vw ps fs)(k:Kept F H H'):Bk CB CV CD H' x F vw ps fs:=by
 obtain⟨L,D,U,all,M,Ps,Fs,es,us,b,i,pp,pf,f⟩:=h.ex;exact⟨⟨L,D,U,all,M,Ps,Fs,es,us,b.kept f k,Is.kept k i,cA (fun _ _ q=>Is.kept k q) pp,cA (fun _ _ q=>Is.kept k q) pf,f⟩,h.wv⟩
theorem Bk.same (h:Bk CB CV CD H x F vw ps fs)(s:aq H H'):Bk CB CV CD H' x F vw ps fs:=h.kept (.same s)
theorem Kh.yu (b:Kh CB CV CD H x L D U all M Ps Fs es us)(i:Is H L all M vw):∃ vx:List Vx,Paired (aaX CV H) (M L) vx/\Paired (fun a q=>a∈all/\a.n=q.1/\Zc H M a q.2) vx vw:=by
 have go:∀{xs:List V} {vw:Vw},Paired (Se H all M) xs vw->∃ vx:List Vx,Paired (aaX CV H) xs vx/\Paired (fun a q=>a∈all/\a.n=q.1/\Zc H M a q.2) vx vw:=by
  intro xs vw h
  induction h with
  |nil=>exact⟨[],.nil,.nil⟩
  |cons q _ ih =>
   obtain⟨a,ha,e1,e2,e3⟩:=q;obtain⟨vx,p1,p2⟩:=ih;exact⟨a::vx,.cons ⟨e1,(b.ha a ha).1⟩ p1,.cons ⟨ha,e2,e3⟩ p2⟩
 exact go i
def V7 (L D U:Addr)(all:List Vx)(e:Dd):Prop:=(e.T=L\/∃ a∈all,e.T=a.l)/\(e.B≠L/\e.B≠D/\e.B≠U/\∀ a∈all,e.B≠a.l)/\(e.A≠L/\e.A≠D/\e.A≠U/\∀ a∈all,e.A≠a.l)/\e.bs.length<=1/\e.as.length<=1
theorem Kh.lists (b:Kh CB CV CD H x L D U all M Ps Fs es us){T:Addr}(tg:T=L\/∃ a∈all,T=a.l):H T=some (.lst (M T))/\T≠D/\T≠U:=by
 rcases tg with rfl|⟨a,ha,rfl⟩
 ·exact⟨b.hL,b.LD,b.LU⟩
 ·exact⟨(b.ha a ha).2,(b.nl a ha).2.1,(b.nl a ha).2.2⟩
theorem Kh.chg (b:Kh CB CV CD H x L D U all M Ps Fs es us){T:Addr}(tg:T=L\/∃ a∈all,T=a.l){H2:Hp}(fr:∀ y o,H y=some o->y≠T->y≠D->y≠U->H2 y=some o){M':MM}(m1:∀ c,c≠T->M' c=M c)(hT:H2 T=some (.lst (M' T)))
  {dx:List V} {es':List Dd} (hD:H2 D=some (.lst dx)) (pD:Paired (lR CD H) dx es') {ux:List V} {us':List Dd} (hU:H2 U=some (.lst ux)) (pU:Paired (lR CD H) ux us') (dd':∀ e,e∈es'\/e∈us'->V7 L D U all e)
  {Ps' Fs':List MM} (aeL:Path Ps' es' M') (agP:Zb M' us' Fs') (wf':∀ S,S∈Ps'\/S=M'\/S∈Fs'->WF H L all S):Kh CB CV CD H2 x L D U all M' Ps' Fs' es' us'/\Kept (fun _=>False) H H2:=by
 obtain⟨hT0,TD,TU⟩:=b.lists tg;obtain⟨dx0,Sf,_⟩:=b.hD;obtain⟨ux0,PM,_⟩:=b.hU;have kN:∀ y o,H y=some o->(∀ zs,o≠.lst zs)->H2 y=some o:=fun y o hy hn=>fr y o hy
  (fun e=>by rw[e,hT0]at hy;cases hy;exact hn _ rfl) (fun e=>by rw[e,Sf]at hy;cases hy;exact hn _ rfl) (fun e=>by rw[e,PM]at hy;cases hy;exact hn _ rfl)
 have k:Kept (fun _=>False) H H2:=fun y o hy h=>kN y o hy (h.elim False.elim id);have dk:∀{v e},V7 L D U all e->lR CD H v e->lR CD H2 v e:=fun {v e} ok h=>by
  have nT:∀{c:Addr},c≠L/\c≠D/\c≠U/\(∀ a∈all,c≠a.l)->c≠T:=fun {c} q z=>by
   rcases tg with rfl|⟨a,ha,rfl⟩
   ·exact q.1 z
   ·exact q.2.2.2 a ha z
  exact⟨h.1,kN _ _ h.2.1 (fun _ z=>nomatch z),fr _ _ h.2.2.1 (nT ok.2.1) ok.2.1.2.1 ok.2.1.2.2.1,fr _ _ h.2.2.2 (nT ok.2.2.1) ok.2.2.1.2.1 ok.2.2.1.2.2.1⟩
 have at_:∀{c:Addr},(c=L\/∃ a∈all,c=a.l)->H2 c=some (.lst (M' c)):=fun {c} hc=>by
  by_cases e:c=T
  ·rw[e];exact hT
  ·obtain⟨h1,h2,h3⟩:=b.lists hc;rw[m1 c e];exact fr _ _ h1 e h2 h3
 refine⟨{
      hx:=let ⟨dx,e⟩:=b.hx;⟨dx,kN _ _ e (fun _ z=>nomatch z)⟩
      hL:=at_ (.inl rfl)
      hD:=⟨_,hD,qp (fun _ e he q=>dk (dd' e (.inl he)) q) pD⟩
      hU:=⟨_,hU,qp (fun _ e he q=>dk (dd' e (.inr he)) q) pU⟩
      ha:=fun a ha=>⟨kN _ _ (b.ha a ha).1 (fun _ z=>nomatch z),at_ (.inr ⟨a,ha,rfl⟩)⟩
      LD:=b.LD,LU:=b.LU,DU:=b.DU,nl:=b.nl,ni:=b.ni,no:=b.no,dd:=dd'
      past:=aeL
      fut:=agP
      wf:=fun S hS=>(wf' S hS).kept k },k⟩
theorem Kh.grow (b:Kh CB CV CD H x L D U all M Ps Fs es us){a:Vx}{H1:Hp}(s:aq H H1)(n1:H a.o=none)(n2:H a.l=none)(h1:H1 a.o=some (.ins CV a.d (voF a.n a.tm a.l)))(h2:H1 a.l=some (.lst [])):Kh CB CV CD H1 x L D U (all++[a]) M Ps Fs es us:=by
 have b1:=b.kept (F:=fun _=>True) ⟨trivial,trivial,trivial,fun _ _=>trivial,fun _ _=>⟨trivial,trivial⟩⟩ (.same s);obtain⟨dx0,Sf,pD0⟩:=b.hD;obtain⟨ux0,PM,pU0⟩:=b.hU;have nL:a.l≠L:=Ne.symm (ao b.hL n2);have nD:a.l≠D:=Ne.symm (ao Sf n2);have nU:a.l≠U:=Ne.symm (ao PM n2);have nA:∀ c∈all,a.l≠c.l:=fun c hc=>Ne.symm (ao (b.ha c hc).2 n2);have nO:∀ c∈all,a.o≠c.o:=fun c hc=>Ne.symm (ao (b.ha c hc).1 n1);have mem:∀{c:Vx},c∈all++[a]->c∈all\/c=a:=fun h=>by simpa using h
 have wf2:∀ S,WF H1 L all S->WF H1 L (all++[a]) S:=fun S w =>
  {
   vs:=let ⟨vx,p⟩:=w.vs;⟨vx,cA (fun _ _ q=>⟨q.1,mem_append_left _ q.2⟩) p⟩
   ln:=fun c hc=>by
    rcases mem hc with hc|rfl
    ·exact w.ln c hc
    ·have e:S c.l=[]:=w.out c.l nL fun d hd=>nA d hd;rw[e];exact⟨Nat.zero_le _,fun _ z=>nomatch z⟩
   len:=w.len
   out:=fun c h h'=>w.out c h fun d hd=>h' d (mem_append_left _ hd) }
 have dds:∀{v e},lR CD H v e->e.B≠a.l/\e.A≠a.l:=fun h=>⟨ao h.2.2.1 n2,ao h.2.2.2 n2⟩;have ddn:∀ e,e∈es\/e∈us->e.B≠a.l/\e.A≠a.l:=fun e he=>by
  rcases he with he|he
  ·obtain⟨i,hi⟩:=getElem?_of_mem he;obtain⟨v,_,q⟩:=Av pD0 hi;exact dds q
  ·obtain⟨i,hi⟩:=getElem?_of_mem he;obtain⟨v,_,q⟩:=Av pU0 hi;exact dds q
 exact { b1 with
  ha:=fun c hc=>by
   rcases mem hc with hc|rfl
   ·exact b1.ha c hc
   ·refine⟨h1,?_⟩;rw[(b.wf M (.inr (.inl rfl))).out c.l nL fun d hd=>nA d hd];exact h2
  nl:=fun c hc=>by
   rcases mem hc with hc|rfl
   ·exact b1.nl c hc
   ·exact⟨nL,nD,nU⟩
  ni:=fun c hc d hd e=>by
   rcases mem hc with z1|z1 <;> rcases mem hd with z2|z2
   ·exact b1.ni c z1 d z2 e
   ·rw[z2]at e;exact absurd e.symm (nA c z1)
   ·rw[z1]at e;exact absurd e (nA d z2)
   ·rw[z1,z2]
  no:=fun c hc d hd e=>by
   rcases mem hc with z1|z1 <;> rcases mem hd with z2|z2
   ·exact b1.no c z1 d z2 e
   ·rw[z2]at e;exact absurd e.symm (nO c z1)
   ·rw[z1]at e;exact absurd e (nO d z2)
   ·rw[z1,z2]
  dd:=fun e he=>by
   obtain⟨q1,q2,q3,q4⟩:=b1.dd e he;refine⟨q1.imp id fun⟨c,hc,z⟩=>⟨c,mem_append_left _ hc,z⟩,⟨q2.1,q2.2.1,q2.2.2.1,fun c hc=>?_⟩,⟨q3.1,q3.2.1,q3.2.2.1,fun c hc=>?_⟩,q4⟩
   ·rcases mem hc with hc|rfl
    ·exact q2.2.2.2 c hc
    ·exact(ddn e he).1
   ·rcases mem hc with hc|rfl
    ·exact q3.2.2.2 c hc
    ·exact(ddn e he).2
  wf:=fun S hS=>wf2 S (b1.wf S hS) }
theorem Is.grow {a:Vx}(h:Is H L all S vw):Is H L (all++[a]) S vw:=cA (fun _ _ ⟨c,hc,q⟩=>⟨c,mem_append_left _ hc,q⟩) h
end
set_option maxHeartbeats 1000000
section
variable {CB CV CD:Addr} {H H1 H2 H':Hp} {x L D U:Addr} {all:List Vx} {M S:MM} {Ps Fs:List MM} {es us:List Dd} {F:Addr->Prop} {vw vw':Vw} {ps fs:List Vw}
theorem Bk.deed (b:Kh CB CV CD H1 x L D U all M Ps Fs es us)(i:Is H1 L all M vw)(pp:Paired (Is H1 L all) Ps ps)(f:Qr F L D U all es us)(wv:∀ v,v∈ps\/v=vw->rX v){e:Dd}(hd:lR CD H1 (.ref e.o) e)(ok:V7 L D U all e)(ft:Fits e M)(w:WF H1 L all (uj e M))
  (i':Is H1 L all (uj e M) vw') (wv':rX vw') {dx:List V} (pD:Paired (lR CD H1) dx es) (fr:∀ y o,H1 y=some o->y≠e.T->y≠D->y≠U->H2 y=some o) (hT:H2 e.T=some (.lst (uj e M e.T))) (hD2:H2 D=some (.lst (dx++[.ref e.o]))) (hU2:H2 U=some (.lst [])) :
  Bk CB CV CD H2 x (fun y=>F y\/y=e.B\/y=e.A) vw' (ps++[vw]) []:=by
 obtain⟨b2,k⟩:=b.chg ok.1 fr (M':=uj e M) (fun c hc=>lS hc) hT hD2 (lP pD hd) hU2 .nil (fun e' he=>by
  rcases he with he|he
  ·rcases mem_append.mp he with he|he
   ·exact b.dd e' (.inl he)
   ·rw[mem_singleton.mp he];exact ok
  ·cases he) (b.past.snoc ft) .nil (fun S hS=>by
  rcases hS with hS|hS|hS
  ·rcases mem_append.mp hS with hS|hS
   ·exact b.wf S (.inl hS)
   ·exact b.wf S (.inr (.inl (mem_singleton.mp hS)))
  ·rw[hS];exact w
  ·cases hS)
 refine⟨⟨L,D,U,all,_,_,_,_,_,b2,Is.kept k i',lP (cA (fun _ _ q=>Is.kept k q) pp) (Is.kept k i),.nil,⟨.inl f.L,.inl f.D,.inl f.U,fun a ha=>.inl (f.l a ha),fun e' he=>?_⟩⟩,fun v hv=>?_⟩
 ·rcases he with he|he
  ·rcases mem_append.mp he with he|he
   ·exact⟨.inl (f.d e' (.inl he)).1,.inl (f.d e' (.inl he)).2⟩
   ·rw[mem_singleton.mp he];exact⟨.inr (.inl rfl),.inr (.inr rfl)⟩
  ·cases he
 ·rcases hv with hv|hv|hv
  ·rcases mem_append.mp hv with hv|hv
   ·exact wv v (.inl hv)
   ·exact wv v (.inr (mem_singleton.mp hv))
  ·rw[hv];exact wv'
  ·cases hv
theorem G4 {α β:Type}{F:α->β->Prop}:∀{xs:List α} {x:α} {zs:List β},Paired F (xs++[x]) zs->∃ ys y,zs=ys++[y]/\Paired F xs ys/\F x y
 |[],_,_,.cons r .nil=>⟨[],_,rfl,.nil,r⟩
 |_::_,_,_,.cons r t=>by
  obtain⟨ys,y,rfl,p,q⟩:=G4 t;exact⟨_::ys,y,rfl,.cons r p,q⟩
theorem Bk.ac1 (b:Kh CB CV CD H x L D U all M Ps Fs es us)(i:Is H L all M vw)(pp:Paired (Is H L all) Ps ps)(pf:Paired (Is H L all) Fs fs)(f:Qr F L D U all es us)(wv:∀ v,v∈ps\/v=vw\/v∈fs->rX v){e:Dd}{es0:List Dd}(he:es=es0++[e]){dx ux:List V}(pD:Paired (lR CD H) dx es0)(hd:lR CD H (.ref e.o) e)(pU:Paired (lR CD H) ux us)
  (fr:∀ y o,H y=some o->y≠e.T->y≠D->y≠U->H2 y=some o) (hT:H2 e.T=some (.lst (unD e M e.T))) (hD2:H2 D=some (.lst dx)) (hU2:H2 U=some (.lst (ux++[.ref e.o]))) :
  ∃ Ki v,ps=Ki++[v]/\Bk CB CV CD H2 x F v Ki (fs++[vw]):=by
 subst he;obtain⟨Ps0,S,rfl,p0,ft,rfl⟩:=b.past.last;have ok:=b.dd e (.inl (mem_append_right _ (List.mem_singleton_self _)));rw[aeK ft]at hT;obtain⟨b2,k⟩:=b.chg ok.1 fr (M':=S) (fun c hc=>(lS hc).symm) hT hD2 pD hU2 (lP pU hd) (fun e' he=>by
  rcases he with he|he
  ·exact b.dd e' (.inl (mem_append_left _ he))
  ·rcases mem_append.mp he with he|he
   ·exact b.dd e' (.inr he)
   ·rw[mem_singleton.mp he];exact ok) p0 (Zb.snoc ft b.fut) (fun T hT=>by
  rcases hT with hT|hT|hT
  ·exact b.wf T (.inl (mem_append_left _ hT))
  ·exact b.wf T (.inl (mem_append_right _ (mem_singleton.mpr hT)))
  ·rcases mem_append.mp hT with hT|hT
   ·exact b.wf T (.inr (.inr hT))
   ·exact b.wf T (.inr (.inl (mem_singleton.mp hT))))
 obtain⟨Ki,v,rfl,pp0,iv⟩:=G4 pp;refine⟨Ki,v,rfl,⟨⟨L,D,U,all,_,_,_,_,_,b2,Is.kept k iv,cA (fun _ _ q=>Is.kept k q) pp0,lP (cA (fun _ _ q=>Is.kept k q) pf) (Is.kept k i),⟨f.L,f.D,f.U,f.l,fun e' he=>?_⟩⟩,fun u hu=>?_⟩⟩
 ·rcases he with he|he
  ·exact f.d e' (.inl (mem_append_left _ he))
  ·rcases mem_append.mp he with he|he
   ·exact f.d e' (.inr he)
   ·rw[mem_singleton.mp he];exact f.d e (.inl (mem_append_right _ (List.mem_singleton_self _)))
 ·rcases hu with hu|hu|hu
  ·exact wv u (.inl (mem_append_left _ hu))
  ·exact wv u (.inl (mem_append_right _ (mem_singleton.mpr hu)))
  ·rcases mem_append.mp hu with hu|hu
   ·exact wv u (.inr (.inr hu))
   ·exact wv u (.inr (.inl (mem_singleton.mp hu)))
theorem Bk.ac2 (b:Kh CB CV CD H x L D U all M Ps Fs es us)(i:Is H L all M vw)(pp:Paired (Is H L all) Ps ps)(pf:Paired (Is H L all) Fs fs)(f:Qr F L D U all es us)(wv:∀ v,v∈ps\/v=vw\/v∈fs->rX v){e:Dd}{us0:List Dd}(he:us=us0++[e]){dx ux:List V}(pD:Paired (lR CD H) dx es)(hd:lR CD H (.ref e.o) e)(pU:Paired (lR CD H) ux us0)
  (fr:∀ y o,H y=some o->y≠e.T->y≠D->y≠U->H2 y=some o) (hT:H2 e.T=some (.lst (uj e M e.T))) (hD2:H2 D=some (.lst (dx++[.ref e.o]))) (hU2:H2 U=some (.lst ux)) :
  ∃ Zd v,fs=Zd++[v]/\Bk CB CV CD H2 x F v (ps++[vw]) Zd:=by
 subst he;obtain⟨Fs0,rfl,ft,p0⟩:=b.fut.last;have ok:=b.dd e (.inr (mem_append_right _ (List.mem_singleton_self _)));obtain⟨b2,k⟩:=b.chg ok.1 fr (M':=uj e M) (fun c hc=>lS hc) hT hD2 (lP pD hd) hU2 pU (fun e' he=>by
  rcases he with he|he
  ·rcases mem_append.mp he with he|he
   ·exact b.dd e' (.inl he)
   ·rw[mem_singleton.mp he];exact ok
  ·exact b.dd e' (.inr (mem_append_left _ he))) (b.past.snoc ft) p0 (fun T hT=>by
  rcases hT with hT|hT|hT
  ·rcases mem_append.mp hT with hT|hT
   ·exact b.wf T (.inl hT)
   ·exact b.wf T (.inr (.inl (mem_singleton.mp hT)))
  ·exact b.wf T (.inr (.inr (mem_append_right _ (mem_singleton.mpr hT))))
  ·exact b.wf T (.inr (.inr (mem_append_left _ hT))))
 obtain⟨Zd,v,rfl,pf0,iv⟩:=G4 pf;refine⟨Zd,v,rfl,⟨⟨L,D,U,all,_,_,_,_,_,b2,Is.kept k iv,lP (cA (fun _ _ q=>Is.kept k q) pp) (Is.kept k i),cA (fun _ _ q=>Is.kept k q) pf0,⟨f.L,f.D,f.U,f.l,fun e' he=>?_⟩⟩,fun u hu=>?_⟩⟩
 ·rcases he with he|he
  ·rcases mem_append.mp he with he|he
   ·exact f.d e' (.inl he)
   ·rw[mem_singleton.mp he];exact f.d e (.inr (mem_append_right _ (List.mem_singleton_self _)))
  ·exact f.d e' (.inr (mem_append_left _ he))
 ·rcases hu with hu|hu|hu
  ·rcases mem_append.mp hu with hu|hu
   ·exact wv u (.inl hu)
   ·exact wv u (.inr (.inl (mem_singleton.mp hu)))
  ·exact wv u (.inr (.inr (mem_append_right _ (mem_singleton.mpr hu))))
  ·exact wv u (.inr (.inr (mem_append_left _ hu)))
def a5 (vw:Vw)(n:Str):Option Th:=(vw.find? fun q=>decide (q.1=n)).map (·.2)
def G5 (vw:Vw)(n:Str)(th:Th):Vw:=vw.map fun q=>if q.1=n then(n,th) else q
theorem bT {n:Str}{th:Th}(h:a5 vw n=some th):(n,th)∈vw:=by
 unfold a5 at h;cases e:vw.find? (fun q=>decide (q.1=n)) with
 |none=>rw[e]at h;cases h
 |some q =>
  rw[e]at h;have h1:=List.mem_of_find?_eq_some e;have h2:=List.find?_some e;have h3:q.1=n:=of_decide_eq_true h2;have h4:q.2=th:=Option.some.inj h;rw[<-h3,<-h4];exact h1
theorem rY {n:Str}(h:a5 vw n=none):∀ q∈vw,q.1≠n:=by
 unfold a5 at h;rw[Option.map_eq_none_iff]at h;intro q hq e;exact List.find?_eq_none.mp h q hq (decide_eq_true e)
theorem uS:∀{l:List Str} {i j:Nat} {n:Str},l.Nodup->l[i]? = some n->l[j]? = some n->i=j
 |[],_,_,_,_,h,_=>by simp at h
 |a::l,i,j,n,nd,h1,h2=>by
  obtain⟨na,nd'⟩:=List.nodup_cons.mp nd
  match i,j,h1,h2 with
  |0,0,_,_=>rfl
  |0,j+1,h1,h2 =>
   rw[List.getElem?_cons_zero]at h1;rw[List.getElem?_cons_succ]at h2;cases h1;exact absurd (mem_of_getElem? h2) na
  |i+1,0,h1,h2 =>
   rw[List.getElem?_cons_zero]at h2;rw[List.getElem?_cons_succ]at h1;cases h2;exact absurd (mem_of_getElem? h1) na
  |i+1,j+1,h1,h2 =>
   rw[List.getElem?_cons_succ]at h1 h2;rw[uS nd' h1 h2]
theorem rX.uniq (w:rX vw){q q':Str×Th}(h:q∈vw)(h':q'∈vw)(e:q.1=q'.1):q=q':=by
 obtain⟨i,hi⟩:=getElem?_of_mem h;obtain⟨j,hj⟩:=getElem?_of_mem h';have h1:(vw.map (·.1))[i]? = some q.1:=by rw[getElem?_map,hi];rfl
 have h2:(vw.map (·.1))[j]? = some q.1:=by rw[getElem?_map,hj,e];rfl
 have:=uS w.nd h1 h2;subst this;rw[hi]at hj;exact Option.some.inj hj
theorem rX.find (w:rX vw){n:Str}{th:Th}(h:(n,th)∈vw):a5 vw n=some th:=by
 cases e:a5 vw n with
 |none=>exact absurd rfl (rY e _ h)
 |some t =>
  have:=w.uniq (bT e) h rfl;rw[Prod.mk.injEq]at this;rw[this.2]
theorem G6 (n:Str)(th:Th):(G5 vw n th).map (·.1)=vw.map (·.1):=by
 unfold G5;rw[List.map_map];refine List.map_congr_left fun q _=>?_;show(if q.1=n then(n,th) else q).1=q.1;split
 ·next h=>exact h.symm
 ·rfl
theorem Qs {n:Str}{th:Th}{q:Str×Th}(h:q∈G5 vw n th):(q=(n,th)/\∃ q'∈vw,q'.1=n)\/(q∈vw/\q.1≠n):=by
 obtain⟨q',h1,h2⟩:=mem_map.mp h;split at h2
 ·next e=>exact .inl ⟨h2.symm,q',h1,e⟩
 ·next e=>rw[<-h2];exact .inr ⟨h1,e⟩
theorem Sh {n:Str}{th:Th}{q:Str×Th}(h:q∈vw)(hn:q.1≠n):q∈G5 vw n th:=mem_map.mpr ⟨q,h,if_neg hn⟩
theorem Ze {n:Str}{th t:Th}(h:(n,t)∈vw):(n,th)∈G5 vw n th:=mem_map.mpr ⟨(n,t),h,if_pos rfl⟩
theorem rX.set (w:rX vw){n:Str}{ss ss':List Sg}(h:(n,Th.pl ss)∈vw)(h1:ss'.length<=200)(h2:∀ s∈ss',iY s):rX (G5 vw n (.pl ss')) where
 nd:=by rw[G6];exact w.nd
 ld:=fun m ld lt sl tn hm=>by
  rcases Qs hm with ⟨e,_⟩|⟨hm',_⟩
  ·cases e
  ·obtain⟨⟨s0,h0⟩,r⟩:=w.ld m ld lt sl tn hm';refine⟨?_,r⟩
   by_cases e:ld=n
   ·rw[e];exact⟨ss',Ze h⟩
   ·exact⟨s0,Sh h0 e⟩
 gd:=fun m s0 hm=>by
  rcases Qs hm with ⟨e,_⟩|⟨hm',_⟩
  ·cases e;exact⟨h1,h2⟩
  ·exact w.gd m s0 hm'
 len:=by
  have:=congrArg List.length (G6 (vw:=vw) n (.pl ss'));rw[length_map,length_map]at this;rw[this];exact w.len
theorem rX.aeM (w:rX vw){n:Str}(hn:∀ q∈vw,q.1≠n)(hl:vw.length<12):rX (vw++[(n,.pl [])]) where
 nd:=by
  rw[map_append,List.nodup_append];refine⟨w.nd,by simp,?_⟩;intro a ha c hc e;obtain⟨q,hq,e1⟩:=mem_map.mp ha;have:c=n:=by simpa using hc
  exact hn q hq (by rw[e1,e,this])
 ld:=fun m ld lt sl tn hm=>by
  rcases mem_append.mp hm with hm|hm
  ·obtain⟨⟨s0,h0⟩,r⟩:=w.ld m ld lt sl tn hm;exact⟨⟨s0,mem_append_left _ h0⟩,r⟩
  ·have:=mem_singleton.mp hm;cases this
 gd:=fun m s0 hm=>by
  rcases mem_append.mp hm with hm|hm
  ·exact w.gd m s0 hm
  ·have:=mem_singleton.mp hm;cases this;exact⟨Nat.zero_le _,fun _ z=>nomatch z⟩
 len:=by rw[length_append];exact hl
theorem rX.aeN (w:rX vw){n ld:Str}{lt sl:Int}{tn:Bool}{ss:List Sg}(hn:∀ q∈vw,q.1≠n)(hl:vw.length<12)(h:(ld,Th.pl ss)∈vw)(h1:0<=lt)(h2:lt<=999)(h3:1<=sl)(h4:sl<=9):rX (vw++[(n,.cn ld lt sl tn)]) where
 nd:=by
  rw[map_append,List.nodup_append];refine⟨w.nd,by simp,?_⟩;intro a ha c hc e;obtain⟨q,hq,e1⟩:=mem_map.mp ha;have:c=n:=by simpa using hc
  exact hn q hq (by rw[e1,e,this])
 ld:=fun m l2 t2 s2 n2 hm=>by
  rcases mem_append.mp hm with hm|hm
  ·obtain⟨⟨s0,h0⟩,r⟩:=w.ld m l2 t2 s2 n2 hm;exact⟨⟨s0,mem_append_left _ h0⟩,r⟩
  ·have:=mem_singleton.mp hm;cases this;exact⟨⟨ss,mem_append_left _ h⟩,h1,h2,h3,h4⟩
 gd:=fun m s0 hm=>by
  rcases mem_append.mp hm with hm|hm
  ·exact w.gd m s0 hm
  ·have:=mem_singleton.mp hm;cases this
 len:=by rw[length_append];exact hl
theorem ab6 {α β γ:Type}{F:α->β->Prop}{G:α->γ->Prop}{f:β->γ}:∀{xs:List α} {ys:List β},Paired F xs ys->(∀(k:Nat) x y,xs[k]? = some x->ys[k]? = some y->F x y->G x (f y))->Paired G xs (ys.map f)
 |_,_,.nil,_=>.nil
 |_,_,.cons a b,h=>.cons (h 0 _ _ rfl rfl a) (ab6 b fun k x y e1 e2=>h (k+1) x y (by simpa using e1) (by simpa using e2))
theorem Is.line (b:Kh CB CV CD H x L D U all M Ps Fs es us)(i:Is H L all M vw)(w:rX vw){a:Vx}(ha:a∈all){j:Nat}{th:Th}{ss':List Sg}(hj:(M L)[j]? = some (.ref a.o))(hm:vw[j]? = some (a.n,th))(htm:a.tm=.non){M':MM}(m1:∀ c,c≠a.l->M' c=M c)(g:kx H (M' a.l) ss'):Is H L all M' (G5 vw a.n (.pl ss')):=by
 show Paired _ (M' L) _;rw[m1 L (Ne.symm (b.nl a ha).1)];refine ab6 i fun k v q hk hq hvq=>?_;obtain⟨c,hc,rfl,e1,t⟩:=hvq;split
 ·next e =>
  have h1:(vw.map (·.1))[k]? = some a.n:=by rw[getElem?_map,hq,<-e];rfl
  have h2:(vw.map (·.1))[j]? = some a.n:=by rw[getElem?_map,hm];rfl
  have hkj:=uS w.nd h1 h2;subst hkj;rw[hj]at hk;have:a.o=c.o:=V.ref.inj (Option.some.inj hk);have:=b.no a ha c hc this;subst this;exact⟨a,hc,rfl,rfl,htm,g⟩
 ·next e =>
  refine⟨c,hc,rfl,e1,?_⟩;have ne:c.l≠a.l:=fun z=>e (by rw[<-e1,b.ni c hc a ha z]);cases hq2:q.2 with
  |pl s0=>rw[hq2]at t;exact⟨t.1,by rw[m1 _ ne];exact t.2⟩
  |cn ld lt sl tn=>rw[hq2]at t;exact t
end
set_option maxHeartbeats 1000000
abbrev Sn:=Str×Int
def CJ:List V:=[.str "G",.str "D",.str "s",.str "d"]
def rZ:List V:=[.str "R",.str "r",.str ".",.str "3",.str "2"]
def uk (s:Sn):Bool:=if inV (.str s.1) CJ=true then(if decide (0<=s.2)=true then decide (s.2<=99) else false) else(if inV (.str s.1) rZ=true then decide (s.2=0) else false)
def Zf (n:Int):Str:=Str.ofString (toString n)
theorem LK {n:Int}(h0:0<=n)(h1:n<100):n.natAbs.log2<1920:=by
 have hb:n.natAbs<2 ^ 1920:=Nat.lt_of_lt_of_le (show n.natAbs<2 ^ 7 by omega) (Nat.pow_le_pow_right (by decide) (by decide))
 by_cases z:n.natAbs=0
 ·rw[z];decide
 ·exact(Nat.log2_lt z).mpr hb
theorem ac3:(List.range 100).all (fun n=>decide ((Zf (n:Int)).length<=2))=true:=by lk
theorem aaZ {n:Int}(h0:0<=n)(h1:n<100):(Zf n).length<=2:=by
 have:=all_eq_true.mp ac3 n.toNat (mem_range.mpr (by omega));have e:((n.toNat:Nat):Int)=n:=by omega
 rw[e]at this;exact of_decide_eq_true this
set_option maxHeartbeats 1000000
inductive Rf where
 |MN|Vf|LL|Full|m9|AA|MO|Vg|Zg|Si
structure Cs where
 B:Addr
 V:Addr
 D:Addr
 on:Bool
 x:Rf->Addr
def RX (E:XK)(c:Cs)(r:Rf)(H:Hp):Prop:=c.on=true/\E (.ref (c.x r)) none H
abbrev Cv (c:Cs):=Bk c.B c.V c.D
def Fr (F:Addr->Prop)(H H':Hp):Prop:=∀ y o,H y=some o->¬ F y->H' y=some o
def Gr (F F':Addr->Prop)(H:Hp):Prop:=∀ y,F' y->F y\/H y=none
theorem Gr.refl (F:Addr->Prop)(H:Hp):Gr F F H:=fun _ h=>.inl h
theorem Gr.old {F F':Addr->Prop}{H H':Hp}(s:aq H H')(g:Gr F F' H'):Gr F F' H:=fun y z=>(g y z).imp id fun q=>s.free q
def nameB (x:Str):Bool:=decide (1<=x.length)&&(decide (x.length<=8)&&x.cps.toList.all fun c=>X6 ⟨#[c]⟩ "abcdefghijklmnopqrstuvwxyz")
theorem kinds_of {k:Str}(h:inV (.str k) CJ=true\/inV (.str k) rZ=true):∃ d:Kd,d.str=k:=by
 have go:∀ l:List V,(∀ v∈l,∃ d:Kd,v=.str d.str)->inV (.str k) l=true->∃ d:Kd,d.str=k:=fun l hl h=>by
  unfold inV at h;obtain⟨y,hy,e⟩:=any_eq_true.mp h;obtain⟨d,rfl⟩:=hl y hy;have:d.str=k:=by simpa [UT] using e
  exact⟨d,this⟩
 have c:∀(l:List Kd),∀ v∈l.map (fun d=>V.str d.str),∃ d:Kd,v=.str d.str:=fun l v hv=>by
  obtain⟨d,_,e⟩:=mem_map.mp hv;exact⟨d,e.symm⟩
 rcases h with h|h
 ·exact go CJ (c [.G,.D,.s,.d]) h
 ·exact go rZ (c [.R,.r,.dot,.three,.two]) h
theorem ab7 (d:Kd):inV (.str d.str) CJ=d.iE:=by cases d <;> decide +kernel
theorem ab8 (d:Kd):inV (.str d.str) rZ = !d.iE:=by cases d <;> decide +kernel
theorem aa0 {sn:Sn}(h:uk sn=true):∃ s:Sg,s.1.str=sn.1/\s.2=sn.2/\iY s:=by
 unfold uk at h;split at h
 ·next h1 =>
  obtain⟨d,hd⟩:=kinds_of (.inl h1);rw[<-hd,ab7]at h1;split at h
  ·next h2=>exact⟨(d,sn.2),hd,rfl,⟨(fun _=>⟨of_decide_eq_true h2,by have:=of_decide_eq_true h;show sn.2<100;omega⟩),fun z=>by rw[show d.iE=false from z]at h1;cases h1⟩⟩
  ·cases h
 ·next h1 =>
  split at h
  ·next h2 =>
   obtain⟨d,hd⟩:=kinds_of (.inr h2);rw[<-hd,ab8]at h2;exact⟨(d,sn.2),hd,rfl,⟨(fun z=>by rw[show d.iE=true from z]at h2;cases h2),fun _=>of_decide_eq_true h⟩⟩
  ·cases h
theorem Vh {s:Sg}(h:iY s):uk (s.1.str,s.2)=true:=by
 unfold uk;rw[ab7,ab8];cases hs:s.1.iE with
 |true =>
  obtain⟨a,b⟩:=h.1 hs;simp only [if_true];rw[if_pos (decide_eq_true a)];exact decide_eq_true (by omega)
 |false =>
  have:=h.2 hs;simp[this]
def LM:Kd->Kd
 |.three=>.two
 |.two=>.three
 |k=>k
def pB (s:Sg):Sg:=(LM s.1,s.2)
def AB (vw:Vw)(n:Str):List Sg:=match a5 vw n with
 |some (.pl ss)=>ss
 |some (.cn ld _ _ tn)=>match a5 vw ld with
  |some (.pl ss)=>if tn then ss.map pB else ss
  |_=>[]
 |none=>[]
def um (vw:Vw)(n:Str):List Int:=match a5 vw n with
 |some (.pl ss)=>(iW 3 (ba ss)).1
 |some (.cn ld _ sl tn)=>match a5 vw ld with
  |some (.pl ss)=>(iW (if tn then 2 else 3) (ba (if tn then ss.map pB else ss))).1.map fun w=>sl * w
  |_=>[]
 |none=>[]
theorem q8 {vw:Vw}{n:Str}{ss:List Sg}(h:a5 vw n=some (.pl ss)):AB vw n=ss:=by
 unfold AB;rw[h]
theorem uT {vw:Vw}{n ld:Str}{lt sl:Int}{tn:Bool}{ss:List Sg}(h:a5 vw n=some (.cn ld lt sl tn))(h':a5 vw ld=some (.pl ss)):AB vw n=if tn=true then ss.map pB else ss:=by
 unfold AB;rw[h];show(match a5 vw ld with|some (.pl ss)=>if tn=true then ss.map pB else ss|_=>[])=_;rw[h']
theorem G7 {vw:Vw}{n:Str}{ss:List Sg}(h:a5 vw n=some (.pl ss)):um vw n=(iW 3 (ba ss)).1:=by
 unfold um;rw[h]
theorem G8 {vw:Vw}{n ld:Str}{lt sl:Int}{tn:Bool}{ss:List Sg}(h:a5 vw n=some (.cn ld lt sl tn))(h':a5 vw ld=some (.pl ss)):um vw n=(iW (if tn then 2 else 3) (ba (if tn then ss.map pB else ss))).1.map fun w=>sl * w:=by
 unfold um;rw[h];show(match a5 vw ld with|some (.pl ss)=>(iW (if tn then 2 else 3) (ba (if tn then ss.map pB else ss))).1.map fun w=>sl * w|_=>[])=_;rw[h']
theorem ac4 {H H':Hp}{x dx C:Addr}(hx:H x=none)(hdx:H dx=none)(kp:∀ y o,(upd (upd H dx (.own x)) x (.ins C dx [])) y=some o->y≠x->H' y=some o):aq H H':=fun y o hy =>
 kp y o (by rw[ak (ao hy hx),ak (ao hy hdx)];exact hy) (ao hy hx)
theorem G9 {H:Hp}{x dx D:Addr}{o1 o2:HO}(h:upd (upd H dx o1) x o2 D=none):H D=none:=by
 unfold upd at h;split at h
 ·cases h
 ·split at h
  ·cases h
  ·exact h
theorem MP {H:Hp}{B A:Addr}{o:HO}(h:upd H B o A=none):H A=none:=by
 unfold upd at h;split at h
 ·cases h
 ·exact h
theorem V8 (z:Int){k:Int}(hk:0<k):∃ m:Nat,z % k=(m:Int)/\(m:Int)<k:=by
 have z1:=Int.emod_nonneg z (show k≠0 by omega);have z2:=Int.emod_lt_of_pos z hk;exact⟨(z % k).toNat,by omega,by omega⟩
theorem Bk.new {c:Cs}{H:Hp}{x dx L D U:Addr}(hx:H x=some (.ins c.B dx (Aj L D U)))(hL:H L=some (.lst []))(hD:H D=some (.lst []))(hU:H U=some (.lst []))(LD:L≠D)(LU:L≠U)(DU:D≠U):Cv c H x (fun y=>y=L\/y=D\/y=U) [] [] [] where
 ex:=⟨L,D,U,[],fun _=>[],[],[],[],[],
  {
   hx:=⟨dx,hx⟩,hL:=hL,hD:=⟨[],hD,.nil⟩,hU:=⟨[],hU,.nil⟩,ha:=fun _ h=>(nomatch h),LD:=LD,LU:=LU,DU:=DU,nl:=fun _ h=>(nomatch h),ni:=fun _ h=>(nomatch h),no:=fun _ h=>(nomatch h)
   dd:=fun _ h=>h.elim (fun z=>(nomatch z)) fun z=>(nomatch z)
   past:=.nil
   fut:=.nil
   wf:=fun S hS=>by
    rcases hS with hS|hS|hS
    ·cases hS
    ·subst hS;exact⟨⟨[],.nil⟩,fun _ h=>(nomatch h),Nat.zero_le _,fun _ _ _=>rfl⟩
    ·cases hS },
  .nil,.nil,.nil,⟨.inl rfl,.inr (.inl rfl),.inr (.inr rfl),fun _ h=>(nomatch h),fun _ h=>h.elim (fun z=>(nomatch z)) fun z=>(nomatch z)⟩⟩
 wv:=fun v hv=>by
  rcases hv with hv|hv|hv
  ·cases hv
  ·subst hv;exact⟨.nil,fun _ _ _ _ _ h=>(nomatch h),fun _ _ h=>(nomatch h),Nat.zero_le _⟩
  ·cases hv
theorem ac5 {R:Vx->Str×Th->Prop}{vx:List Vx}{vw:Vw}(h:Paired R vx vw)(hn:∀ a q,R a q->a.n=q.1):vx.map (fun a=>V.str a.n)=vw.map (fun a=>V.str a.1):=by
 induction h with
 |nil=>rfl
 |cons r _ ih=>rw[map_cons,map_cons,ih,hn _ _ r]
theorem LN {vx:List Vx}{vw:Vw}{R:Vx->Str×Th->Prop}(h:Paired R vx vw)(hn:∀ a q,R a q->a.n=q.1)(n:Str) :
  (vx.find? (fun a=>decide (a.n=n))=none/\a5 vw n=none)\/∃ a th,∃ j:Nat,vx.find? (fun a=>decide (a.n=n))=some a/\a5 vw n=some th/\R a (n,th)/\a.n=n/\vx[j]? = some a/\vw[j]? = some (n,th):=by
 induction h with
 |nil=>exact .inl ⟨rfl,rfl⟩
 | @cons a q as qs r t ih =>
  have e:=hn a q r
  by_cases hq:q.1=n
  ·refine .inr ⟨a,q.2,0,?_,?_,?_,e.trans hq,rfl,by rw[<-hq];rfl⟩
   ·rw[List.find?_cons_of_pos];exact decide_eq_true (e.trans hq)
   ·unfold a5;rw[List.find?_cons_of_pos (p:=fun q:Str×Th=>decide (q.1=n)) (decide_eq_true hq)];rfl
   ·rw[<-hq];exact r
  ·have h1:¬ decide (a.n=n)=true:=fun z=>hq (e ▸ of_decide_eq_true z);have h2:¬ decide (q.1=n)=true:=fun z=>hq (of_decide_eq_true z);have f1:(a::as).find? (fun a=>decide (a.n=n))=as.find? (fun a=>decide (a.n=n)):=List.find?_cons_of_neg h1;have f2:a5 (q::qs) n=a5 qs n:=by
    unfold a5;rw[List.find?_cons_of_neg (p:=fun q:Str×Th=>decide (q.1=n)) h2]
   rw[f1,f2];exact ih.imp id fun⟨a,th,j,h1,h2,h3,h4,h5,h6⟩=>⟨a,th,j+1,h1,h2,h3,h4,by simpa using h5,by simpa using h6⟩
theorem Bk.added {c:Cs}{H H1 H2 H':Hp}{x L D U:Addr}{all:List Vx}{M:MM}{Ps Fs:List MM}{es us:List Dd}{F:Addr->Prop}{vw:Vw}{ps fs:List Vw}(b:Kh c.B c.V c.D H x L D U all M Ps Fs es us)(i:Is H L all M vw)(pp:Paired (Is H L all) Ps ps)(f:Qr F L D U all es us)(wv:∀ v,v∈ps\/v=vw\/v∈fs->rX v)
  {a:Vx} {th:Th} (s1:aq H H1) (n1:H a.o=none) (n2:H a.l=none) (h1:H1 a.o=some (.ins c.V a.d (voF a.n a.tm a.l))) (h2:H1 a.l=some (.lst [])) (ht:∀ M',M' a.l=[]->Zc H1 M' a th) (w':rX (vw++[(a.n,th)]))
  {e:Dd} (eT:e.T=L) (ei:e.i=(M L).length) (eb:e.bs=[]) (ea:e.as=[.ref a.o]) (s2:aq H1 H2) (nB:H1 e.B=none) (nA:H1 e.A=none) (hd:lR c.D H2 (.ref e.o) e) {ds:List V} (hD:H D=some (.lst ds)) (pD:Paired (lR c.D H) ds es)
  (fr:∀ y o,H2 y=some o->y≠L->y≠D->y≠U->H' y=some o) (hL':H' L=some (.lst (M L++[.ref a.o]))) (hD':H' D=some (.lst (ds++[.ref e.o]))) (hU':H' U=some (.lst [])) :
  ∃ F',Gr F F' H/\Fr F H H'/\Cv c H' x F' (vw++[(a.n,th)]) (ps++[vw]) []:=by
 have s12:=s1.trans s2;have kT:Kept (fun _=>True) H H2:=.same s12;have b2:=(b.grow s1 n1 n2 h1 h2).kept (F:=fun _=>True) ⟨trivial,trivial,trivial,fun _ _=>trivial,fun _ _=>⟨trivial,trivial⟩⟩ (.same s2);have w2:=w'.len;rw[length_append]at w2;have ll:=bL i;have w2':vw.length+1<=12:=w2;have hM:uj e M L=M L++[.ref a.o]:=by
  unfold uj;rw[eT,gp,ei,eb,ea];simp
 have mo:∀ y,y≠L->uj e M y=M y:=fun y hy=>by
  unfold uj;exact lS (by rw[eT];exact hy)
 have wM:=b2.wf M (.inr (.inl rfl));have naL:∀ z∈all++[a],z.l≠L:=fun z hz=>(b2.nl z hz).1;obtain⟨ux,hU,_⟩:=b2.hU;have old:∀{y:Addr},H1 y=none->∀{z o},H z=some o->y≠z:=fun {y} hy {z o} hz q=>by rw[q,s1 _ _ hz]at hy;cases hy
 have oA:∀{y:Addr},H1 y=none->y≠L/\y≠D/\y≠U/\∀ z∈all++[a],y≠z.l:=fun {y} hy=>by
  obtain⟨u0,PM,_⟩:=b.hU;refine⟨old hy b.hL,old hy hD,old hy PM,fun z hz=>?_⟩;rcases mem_append.mp hz with hz|hz
  ·exact old hy (b.ha z hz).2
  ·rw[mem_singleton.mp hz];exact fun q=>by rw[q,h2]at hy;cases hy
 have ok:V7 L D U (all++[a]) e:=⟨.inl eT,oA nB,oA nA,by rw[eb];simp,by rw[ea];simp⟩;have ft:Fits e M:=⟨by rw[ei,eb,eT];simp,by rw[eb];simp⟩;have wf2:WF H2 L (all++[a]) (uj e M) :=
  {
   vs:=(let ⟨vx,p⟩:=wM.vs;⟨vx++[a],by rw[hM];exact lP p ⟨rfl,mem_append_right _ (List.mem_singleton_self _)⟩⟩)
   ln:=fun z hz=>by rw[mo _ (naL z hz)];exact wM.ln z hz
   len:=by rw[hM,length_append,ll];exact w2'
   out:=fun y h1 h2=>by rw[mo y h1];exact wM.out y h1 h2 }
 have i2:Is H2 L (all++[a]) M vw:=Is.kept kT (Is.grow i);have i':Is H2 L (all++[a]) (uj e M) (vw++[(a.n,th)]):=by
  show Paired _ (uj e M L) _;rw[hM];refine lP ?_ ?_
  ·refine cA (fun v q hq=>?_) i2;obtain⟨z,hz,e1,e2,e3⟩:=hq;refine⟨z,hz,e1,e2,?_⟩;cases hq2:q.2 with
   |pl ss=>rw[hq2]at e3;exact⟨e3.1,by rw[mo _ (naL z hz)];exact e3.2⟩
   |cn ld lt sl tn=>rw[hq2]at e3;exact e3
  ·refine⟨a,mem_append_right _ (List.mem_singleton_self _),rfl,rfl,?_⟩;have nal:a.l≠L:=naL a (mem_append_right _ (List.mem_singleton_self _));have:=ht (uj e M) (by rw[mo _ nal];exact(b.wf M (.inr (.inl rfl))).out _ nal fun z hz q=>by rw[q,(b.ha z hz).2]at n2;cases n2);show Zc H2 (uj e M) a th;cases th with
   |pl ss=>exact⟨this.1,this.2.same s2⟩
   |cn ld lt sl tn=>obtain⟨p,e1,e2⟩:=this;exact⟨p,e1,s2 _ _ e2⟩
 have B:=Bk.deed b2 i2 (cA (fun _ _ q=>Is.kept kT (Is.grow q)) pp) (F:=fun y=>F y\/y=a.l) ⟨.inl f.L,.inl f.D,.inl f.U,fun z hz=>by
   rcases mem_append.mp hz with hz|hz
   ·exact .inl (f.l z hz)
   ·rw[mem_singleton.mp hz];exact .inr rfl,fun e' he=>⟨.inl (f.d e' he).1,.inl (f.d e' he).2⟩⟩ (fun v hv=>wv v (hv.imp id .inl)) hd ok ft wf2 i' w' (qp (fun _ e' he q=>gJ (F:=fun _=>True) kT ⟨trivial,trivial⟩ q) pD) (H2:=H')
  (fun y o hy y1 y2 y3=>fr y o hy (by rw[<-eT];exact y1) y2 y3) (by rw[eT,hM];exact hL') hD' hU'
 refine⟨_,fun y hy=>?_,fun y o hy hn=>fr y o (s12 y o hy) (fun q=>hn (q ▸ f.L)) (fun q=>hn (q ▸ f.D)) (fun q=>hn (q ▸ f.U)),B⟩;rcases hy with (hy|hy)|hy|hy
 ·exact .inl hy
 ·rw[hy];exact .inr n2
 ·rw[hy];exact .inr (s1.free nB)
 ·rw[hy];exact .inr (s1.free nA)
theorem Bk.aeP {c:Cs}{H H1 H':Hp}{x L D U:Addr}{all:List Vx}{M:MM}{Ps Fs:List MM}{es us:List Dd}{F:Addr->Prop}{vw:Vw}{ps fs:List Vw}(b:Kh c.B c.V c.D H x L D U all M Ps Fs es us)(i:Is H L all M vw)(pp:Paired (Is H L all) Ps ps)(f:Qr F L D U all es us)(wv:∀ v,v∈ps\/v=vw\/v∈fs->rX v)
  {a:Vx} (ha:a∈all) {j:Nat} {ss ss':List Sg} (hj:(M L)[j]? = some (.ref a.o)) (hm:vw[j]? = some (a.n,.pl ss)) (htm:a.tm=.non) {e:Dd} (eT:e.T=a.l) (ft:Fits e M) (lb:e.bs.length<=1) (la:e.as.length<=1) (s1:aq H H1) (nB:H e.B=none) (nA:H e.A=none) (hd:lR c.D H1 (.ref e.o) e)
  (g':kx H1 (uj e M a.l) ss') (gl:ss'.length<=200) (gg:∀ s∈ss',iY s) {ds:List V} (hD:H D=some (.lst ds)) (pD:Paired (lR c.D H) ds es)
  (fr:∀ y o,H1 y=some o->y≠a.l->y≠D->y≠U->H' y=some o) (hl':H' a.l=some (.lst (uj e M a.l))) (hD':H' D=some (.lst (ds++[.ref e.o]))) (hU':H' U=some (.lst [])) :
  ∃ F',Gr F F' H/\Fr F H H'/\Cv c H' x F' (G5 vw a.n (.pl ss')) (ps++[vw]) []:=by
 have kT:Kept (fun _=>True) H H1:=.same s1;have b2:=b.kept (F:=fun _=>True) ⟨trivial,trivial,trivial,fun _ _=>trivial,fun _ _=>⟨trivial,trivial⟩⟩ kT;have mo:∀ y,y≠a.l->uj e M y=M y:=fun y hy=>lS (by rw[eT];exact hy);have wM:=b2.wf M (.inr (.inl rfl));have wvw:=wv vw (.inr (.inl rfl));have oA:∀{y:Addr},H y=none->y≠L/\y≠D/\y≠U/\∀ z∈all,y≠z.l:=fun {y} hy=>by
  obtain⟨u0,PM,_⟩:=b.hU;exact⟨Ne.symm (ao b.hL hy),Ne.symm (ao hD hy),Ne.symm (ao PM hy),fun z hz=>Ne.symm (ao (b.ha z hz).2 hy)⟩
 have ok:V7 L D U all e:=⟨.inr ⟨a,ha,eT⟩,oA nB,oA nA,lb,la⟩;have nal:L≠a.l:=Ne.symm (b.nl a ha).1;have wf2:WF H1 L all (uj e M) :=
  {
   vs:=by rw[mo L nal];exact wM.vs
   ln:=fun z hz=>by
    by_cases hza:z.l=a.l
    ·rw[hza];refine⟨by rw[bL g'];exact gl,fun v hv=>?_⟩;obtain⟨k,hk⟩:=getElem?_of_mem hv;obtain⟨sg,e1,e2⟩:=qY g' hk;exact⟨sg,e2,gg sg (mem_of_getElem? e1)⟩
    ·rw[mo _ hza];exact wM.ln z hz
   len:=by rw[mo L nal];exact wM.len
   out:=fun y h1 h2=>by rw[mo y (h2 a ha)];exact wM.out y h1 h2 }
 have i2:Is H1 L all M vw:=Is.kept kT i;have B:=Bk.deed b2 i2 (cA (fun _ _ q=>Is.kept kT q) pp) f (fun v hv=>wv v (hv.imp id .inl)) hd ok ft wf2 (Is.line b2 i2 wvw ha hj hm htm mo g') (wvw.set (mem_of_getElem? hm) gl gg) (qp (fun _ e' he q=>gJ (F:=fun _=>True) kT ⟨trivial,trivial⟩ q) pD) (H2:=H')
  (fun y o hy y1 y2 y3=>fr y o hy (by rw[<-eT];exact y1) y2 y3) (by rw[eT];exact hl') hD' hU'
 refine⟨_,fun y hy=>?_,fun y o hy hn=>fr y o (s1 y o hy) (fun q=>hn (q ▸ f.l a ha)) (fun q=>hn (q ▸ f.D)) (fun q=>hn (q ▸ f.U)),B⟩;rcases hy with hy|hy|hy
 ·exact .inl hy
 ·rw[hy];exact .inr nB
 ·rw[hy];exact .inr nA
def ThV (H:Hp)(v:V):Th->Prop
 |.pl ss=>∃ l ys,v=.ref l/\H l=some (.lst ys)/\kx H ys ss
 |.cn ld lt sl tn=>∃ p,v=.ref p/\H p=some (.tup [.str ld,.int lt,.int sl,.bl tn])
def Sj (H:Hp)(kv:Key×V)(q:Str×Th):Prop:=kv.1=Sum.inr q.1/\ThV H kv.2 q.2
def Ha (H:Hp)(d:Addr)(vw:Vw):Prop:=∃ kvs,H d=some (.dK kvs)/\Paired (Sj H) kvs vw
theorem ThV.same {H H':Hp}(s:aq H H'){v:V}{th:Th}(h:ThV H v th):ThV H' v th:=by
 cases th with
 |pl ss=>obtain⟨l,ys,e1,e2,e3⟩:=h;exact⟨l,ys,e1,s _ _ e2,e3.same s⟩
 |cn ld lt sl tn=>obtain⟨p,e1,e2⟩:=h;exact⟨p,e1,s _ _ e2⟩
theorem Sj.same {H H':Hp}(s:aq H H'){kv:Key×V}{q:Str×Th}(h:Sj H kv q):Sj H' kv q:=⟨h.1,h.2.same s⟩
theorem Ha.same {H H':Hp}(s:aq H H'){d:Addr}{vw:Vw}(h:Ha H d vw):Ha H' d vw:=by
 obtain⟨kvs,e,p⟩:=h;exact⟨kvs,s _ _ e,cA (fun _ _ q=>q.same s) p⟩
theorem ac6 {H:Hp}{kvs:List (Key×V)}{vw:Vw}(h:Paired (Sj H) kvs vw){n:Str}{th:Th}(hf:a5 vw n=some th):∃ v,uD kvs (Sum.inr n)=some v/\ThV H v th:=by
 induction h with
 |nil=>cases hf
 | @cons kv q as qs r t ih =>
  by_cases hq:q.1=n
  ·have e:a5 (q::qs) n=some q.2:=by
    unfold a5;rw[List.find?_cons_of_pos (p:=fun q:Str×Th=>decide (q.1=n)) (decide_eq_true hq)];rfl
   rw[e]at hf;cases hf;refine⟨kv.2,?_,r.2⟩;unfold uD;rw[List.find?_cons_of_pos (p:=fun kv:Key×V=>decide (kv.1=Sum.inr n)) (decide_eq_true (by rw[r.1,hq]))];rfl
  ·have e:a5 (q::qs) n=a5 qs n:=by
    unfold a5;rw[List.find?_cons_of_neg (p:=fun q:Str×Th=>decide (q.1=n)) (fun z=>hq (of_decide_eq_true z))]
   rw[e]at hf;obtain⟨v,h1,h2⟩:=ih hf;refine⟨v,?_,h2⟩;unfold uD at h1 ⊢;rw[List.find?_cons_of_neg (p:=fun kv:Key×V=>decide (kv.1=Sum.inr n)) (fun z=>hq (Sum.inr.inj (r.1.symm.trans (of_decide_eq_true z))))];exact h1
theorem Ha.get {H:Hp}{d:Addr}{vw:Vw}(h:Ha H d vw){n:Str}{th:Th}(hf:a5 vw n=some th):∃ v,GY H d (.str n) (some v)/\ThV H v th:=by
 obtain⟨kvs,e,p⟩:=h;obtain⟨v,h1,h2⟩:=ac6 p hf;refine⟨v,?_,h2⟩;have:=GY.k (k:=Sum.inr n) e;rw[h1]at this;exact this
theorem Ha.keys {H:Hp}{d:Addr}{vw:Vw}(h:Ha H d vw):∃ kvs,H d=some (.dK kvs)/\(kvs.map fun kv=>kV kv.1)=vw.map fun q=>V.str q.1:=by
 obtain⟨kvs,e,p⟩:=h;refine⟨kvs,e,?_⟩;clear e
 induction p with
 |nil=>rfl
 |cons r _ ih=>rw[map_cons,map_cons,ih,r.1];rfl
set_option maxHeartbeats 1000000
theorem Bk.aeQ {CB CV CD:Addr}{H:Hp}{x:Addr}{F:Addr->Prop}{vw:Vw}{ps fs:List Vw}(h:Bk CB CV CD H x F vw ps fs):∃ F0:Addr->Prop,(∀ y,F0 y->F y)/\(∀ y,F0 y->∃ xs,H y=some (.lst xs))/\Bk CB CV CD H x F0 vw ps fs:=by
 obtain⟨L,D,U,all,M,Ps,Fs,es,us,b,i,pp,pf,f⟩:=h.ex;obtain⟨ds,hD,pD⟩:=b.hD;obtain⟨ux,hU,pU⟩:=b.hU;have dd:∀ e,e∈es\/e∈us->H e.B=some (.lst e.bs)/\H e.A=some (.lst e.as):=fun e he=>by
  rcases he with he|he
  ·obtain⟨k,hk⟩:=getElem?_of_mem he;obtain⟨v,_,q⟩:=Av pD hk;exact⟨q.2.2.1,q.2.2.2⟩
  ·obtain⟨k,hk⟩:=getElem?_of_mem he;obtain⟨v,_,q⟩:=Av pU hk;exact⟨q.2.2.1,q.2.2.2⟩
 refine⟨fun y=>y=L\/y=D\/y=U\/(∃ a∈all,y=a.l)\/∃ e,(e∈es\/e∈us)/\(y=e.B\/y=e.A),fun y hy=>?_,fun y hy=>?_,⟨⟨L,D,U,all,M,Ps,Fs,es,us,b,i,pp,pf,⟨.inl rfl,.inr (.inl rfl),.inr (.inr (.inl rfl)),fun a ha=>.inr (.inr (.inr (.inl ⟨a,ha,rfl⟩))),fun e he=>⟨.inr (.inr (.inr (.inr ⟨e,he,.inl rfl⟩))),.inr (.inr (.inr (.inr ⟨e,he,.inr rfl⟩)))⟩⟩⟩,h.wv⟩⟩
 ·rcases hy with rfl|rfl|rfl|⟨a,ha,rfl⟩|⟨e,he,rfl|rfl⟩
  ·exact f.L
  ·exact f.D
  ·exact f.U
  ·exact f.l a ha
  ·exact(f.d e he).1
  ·exact(f.d e he).2
 ·rcases hy with rfl|rfl|rfl|⟨a,ha,rfl⟩|⟨e,he,rfl|rfl⟩
  ·exact⟨_,b.hL⟩
  ·exact⟨_,hD⟩
  ·exact⟨_,hU⟩
  ·exact⟨_,(b.ha a ha).2⟩
  ·exact⟨_,(dd e he).1⟩
  ·exact⟨_,(dd e he).2⟩
structure Bq (c:Cs)(H:Hp)(x:Addr)(own:List Addr)(vw:Vw)(ps fs:List Vw):Prop where
 ex:∃ F,Cv c H x F vw ps fs/\(∀ y,F y->∃ xs,H y=some (.lst xs))/\∀ a∈own,¬ F a/\∃ o,H a=some o
def agU (own:List Addr)(H H':Hp):Prop:=∀ y o,H y=some o->((∀ xs,o≠.lst xs)\/y∈own)->H' y=some o
section
variable {c:Cs} {H H' H1:Hp} {x:Addr} {own:List Addr} {vw vw':Vw} {ps ps' fs fs':List Vw} {F F':Addr->Prop}
end
set_option maxHeartbeats 1000000
def FE (H:Hp)(y:V)(q:Str×Th):Prop:=∃ p v,y=.ref p/\H p=some (.tup [.str q.1,v])/\ThV H v q.2
def uU (H:Hp)(l:Addr)(vw:Vw):Prop:=∃ ys,H l=some (.lst ys)/\Paired (FE H) ys vw
theorem FE.same {H H':Hp}(s:aq H H'){y:V}{q:Str×Th}(h:FE H y q):FE H' y q:=by
 obtain⟨p,v,e1,e2,e3⟩:=h;exact⟨p,v,e1,s _ _ e2,e3.same s⟩
theorem uU.same {H H':Hp}(s:aq H H'){l:Addr}{vw:Vw}(h:uU H l vw):uU H' l vw:=by
 obtain⟨ys,e,p⟩:=h;exact⟨ys,s _ _ e,cA (fun _ _ q=>q.same s) p⟩
theorem Hb:∀(more acc:List (Key×V)),((acc++more).map (·.1)).Nodup->ku acc more=acc++more
 |[],acc,_=>by unfold ku;simp
 |kv::more,acc,h=>by
  have e:uD acc kv.1=none:=by
   cases hv:uD acc kv.1 with
   |none=>rfl
   |some v =>
    have:=aaQ hv;rw[map_append,map_cons]at h;obtain⟨_,_,h3⟩:=List.nodup_append.mp h;exact absurd rfl (h3 _ this _ (mem_cons_self ..))
  show ku (putK acc kv.1 kv.2) more=_;rw[Y3 kv.2 e,Hb more _ (by rw[List.append_assoc];exact h),List.append_assoc];rfl
theorem Hc {H:Hp}:∀{ys:List V} {vw:Vw},Paired (FE H) ys vw->∃ kvs:List (Key×V),Paired (fun y kv=>∃ q,y=.ref q/\H q=some (.tup [kV kv.1,kv.2])) ys kvs/\Paired (Sj H) kvs vw
 |_,_,.nil=>⟨[],.nil,.nil⟩
 |_,_,.cons ⟨p,v,e1,e2,e3⟩ t=>by
  obtain⟨kvs,h1,h2⟩:=Hc t;exact⟨(Sum.inr _,v)::kvs,.cons ⟨p,e1,e2⟩ h1,.cons ⟨rfl,e3⟩ h2⟩
theorem Zh {H:Hp}{kvs:List (Key×V)}{vw:Vw}(h:Paired (Sj H) kvs vw)(n:(vw.map (·.1)).Nodup):(kvs.map (·.1)).Nodup:=by
 have e:kvs.map (·.1)=(vw.map (·.1)).map fun x=>(Sum.inr x:Key):=by
  clear n
  induction h with
  |nil=>rfl
  |cons r _ ih=>rw[map_cons,map_cons,map_cons,ih,r.1]
 rw[e];exact CA n
theorem uU.dict {H:Hp}{l:Addr}{vw:Vw}(h:uU H l vw)(n:(vw.map (·.1)).Nodup):∃(ys:List V)(kvs:List (Key×V)),H l=some (.lst ys)/\Paired (fun y kv=>∃ q,y=.ref q/\H q=some (.tup [kV kv.1,kv.2])) ys kvs/\kvs.length=vw.length/\∀ d,H d=none->aq H (upd H d (.dK (ku [] kvs)))/\Ha (upd H d (.dK (ku [] kvs))) d vw:=by
 obtain⟨ys,e,p⟩:=h;obtain⟨kvs,h1,h2⟩:=Hc p;refine⟨ys,kvs,e,h1,bL h2,fun d hd=>?_⟩;rw[Hb kvs [] (by simpa using Zh h2 n)];exact⟨aq.upd hd,kvs,ag,cA (fun _ _ q=>q.same (aq.upd hd)) h2⟩
structure Fd (vw:Vw):Prop where
 w:rX vw
 nm:∀ q∈vw,nameB q.1=true/\q.1 ≠ "zed"/\q.1.length<=1000
 ld:∀(i:Nat) n ld lt sl tn,vw[i]? = some (n,Th.cn ld lt sl tn)->∃ ss,(ld,Th.pl ss)∈vw.take i
 sh:∀ n ss,(n,Th.pl ss)∈vw->ss.length<=24
theorem rX.take {vw:Vw}(w:Fd vw)(i:Nat):rX (vw.take i) where
 nd:=by rw[List.map_take];exact List.Sublist.nodup (List.take_sublist _ _) w.w.nd
 ld:=fun n ld lt sl tn h=>by
  obtain⟨j,hj⟩:=getElem?_of_mem h;have hji:j<i:=by
   have:=(List.getElem?_eq_some_iff.mp hj).1;rw[length_take]at this;omega
  rw[List.getElem?_take_of_lt hji]at hj;obtain⟨ss,hss⟩:=w.ld j n ld lt sl tn hj;have h2:=w.w.ld n ld lt sl tn (mem_of_getElem? hj);refine⟨⟨ss,?_⟩,h2.2⟩;have:vw.take j=(vw.take i).take j:=by rw[List.take_take,Nat.min_eq_left (by omega)]
  rw[this]at hss;exact List.mem_of_mem_take hss
 gd:=fun n ss h=>w.w.gd n ss (List.mem_of_mem_take h)
 len:=by rw[length_take];have:=w.w.len;omega
def lJ (vw:Vw):Vw:=match vw.getLast? with
 |none=>[]
 |some (n,.pl ss)=>if ss=[] then vw.dropLast else vw.dropLast++[(n,.pl ss.dropLast)]
 |some (_,.cn _ _ _ _)=>vw.dropLast
end ME
set_option maxHeartbeats 1000000
namespace L2
open PySem PySem.Spec PyProof.Rows
variable {X:Cx}
def ac7:V->List V->Hp->VK->Prop:=fun x vs H Q=>∃(l:Addr)(ys:List Str)(z:Str)(j:Nat),x=.ref l/\vs=[.str z]/\H l=some (.lst (ys.map V.str))/\ys[j]? = some z/\(∀ i,i<j->ys[i]? ≠ some z)/\Q (.int j) H
theorem Zi:MtM X "list.index" ac7:=by
 intro pins s σ H x vs v us Q I rx rv h;obtain⟨l,ys,k,j,rfl,rfl,hH,hj,hno,q⟩:=h;cases rx;obtain⟨u,rfl,t,rfl⟩:=rv.one;obtain⟨z,its,n,r,hl,e⟩:=I.Kc hH;have ha:=GQ r;have at_:∀{i:Nat} {y:Str},ys[i]? = some y->∃ t',its[i]? = some (.str y t'):=fun {i y} hy=>by
  obtain⟨u,hu,t',rfl⟩:=r.get (i:=i) (x:=.str y) (by rw[getElem?_map,hy];rfl);exact⟨t',hu⟩
 have ln:its.length=ys.length:=by rw[<-length_map (f:=V.str) (as:=ys)];exact hl.symm
 have hjl:j<ys.length:=(List.getElem?_eq_some_iff.mp hj).1;obtain⟨tj,ej⟩:=at_ hj;have b:sizeLine<2 ^ 60:=by decide
 have z':ys.length<=sizeLine:=by rw[<-length_map (f:=V.str) (as:=ys)];exact z
 refine call_meets F.slot_list_index ⟨_,e,rfl⟩ F.entry_list_index (F.args_list_index_2 _ _)
  (MeetsSeq.list_index l its.toArray n (.str k t) (isStrOf k) (fun y hy=>eq_isStrOf k t ha y (by simpa using hy)) j (by rw[size_toArray];omega) (by omega) ?_ ?_) ⟨e,?_⟩
 ·have:its.toArray[j]'(by rw[size_toArray];omega)=.str k tj:=by
   have:=(List.getElem?_eq_some_iff.mp ej).2
   simpa using this
  rw[this];exact beq_self_eq_true k
 ·intro i hi hlt;have hil:i<ys.length:=by omega
  have hy:ys[i]? = some ys[i]:=getElem?_eq_getElem hil;obtain⟨ti,ei⟩:=at_ hy;have:its.toArray[i]'hi=.str ys[i] ti:=by
   have:=(List.getElem?_eq_some_iff.mp ei).2
   simpa using this
  rw[this];exact beq_eq_false_iff_ne.mpr fun z=>hno i hlt (by rw[hy,z])
 ·exact⟨.int j,H,I.tok _,⟨_,rfl⟩,q⟩
end L2
namespace ME
open PySem L2
theorem Bk.dropped {c:Cs}{H H1 H':Hp}{x L D U:Addr}{all:List Vx}{M:MM}{Ps Fs:List MM}{es us:List Dd}{F:Addr->Prop}{vw:Vw}{ps fs:List Vw}(b:Kh c.B c.V c.D H x L D U all M Ps Fs es us)(i:Is H L all M vw)(pp:Paired (Is H L all) Ps ps)(f:Qr F L D U all es us)(wv:∀ v,v∈ps\/v=vw\/v∈fs->rX v)
  {j:Nat} {v:V} (hj:(M L)[j]? = some v) (w':rX (vw.take j++vw.drop (j+1))) {e:Dd} (eT:e.T=L) (ei:e.i=j) (eb:e.bs=[v]) (ea:e.as=[]) (s1:aq H H1) (nB:H e.B=none) (nA:H e.A=none) (hd:lR c.D H1 (.ref e.o) e)
  {ds:List V} (hD:H D=some (.lst ds)) (pD:Paired (lR c.D H) ds es)
  (fr:∀ y o,H1 y=some o->y≠L->y≠D->y≠U->H' y=some o) (hL':H' L=some (.lst ((M L).take j++(M L).drop (j+1)))) (hD':H' D=some (.lst (ds++[.ref e.o]))) (hU':H' U=some (.lst [])) :
  ∃ F',Gr F F' H/\Fr F H H'/\Cv c H' x F' (vw.take j++vw.drop (j+1)) (ps++[vw]) []:=by
 have kT:Kept (fun _=>True) H H1:=.same s1;have b2:=b.kept (F:=fun _=>True) ⟨trivial,trivial,trivial,fun _ _=>trivial,fun _ _=>⟨trivial,trivial⟩⟩ kT;have hjl:j<(M L).length:=(List.getElem?_eq_some_iff.mp hj).1;have hM:uj e M L=(M L).take j++(M L).drop (j+1):=by
  unfold uj;rw[eT,gp,ei,eb,ea];simp
 have mo:∀ y,y≠L->uj e M y=M y:=fun y hy=>lS (by rw[eT];exact hy);have wM:=b2.wf M (.inr (.inl rfl));have naL:∀ z∈all,z.l≠L:=fun z hz=>(b2.nl z hz).1;have oA:∀{y:Addr},H y=none->y≠L/\y≠D/\y≠U/\∀ z∈all,y≠z.l:=fun {y} hy=>by
  obtain⟨u0,PM,_⟩:=b.hU;exact⟨Ne.symm (ao b.hL hy),Ne.symm (ao hD hy),Ne.symm (ao PM hy),fun z hz=>Ne.symm (ao (b.ha z hz).2 hy)⟩
 have ok:V7 L D U all e:=⟨.inl eT,oA nB,oA nA,by rw[eb];simp,by rw[ea];simp⟩;have ft:Fits e M:=by
  refine⟨by rw[ei,eb,eT];exact hjl,?_⟩;rw[eb,eT,ei];show((M L).drop j).take 1=[v];rw[List.drop_eq_getElem_cons hjl,List.take_succ_cons,List.take_zero];rw[(List.getElem?_eq_some_iff.mp hj).2]
 have wf2:WF H1 L all (uj e M) :=
  {
   vs:=(let ⟨vx,p⟩:=wM.vs;⟨vx.take j++vx.drop (j+1),by rw[hM];exact R8 (Qi j p) (U5 (j+1) p)⟩)
   ln:=fun z hz=>by rw[mo _ (naL z hz)];exact wM.ln z hz
   len:=by rw[hM,length_append,length_take,length_drop];have:=wM.len;omega
   out:=fun y h1 h2=>by rw[mo y h1];exact wM.out y h1 h2 }
 have i2:Is H1 L all M vw:=Is.kept kT i;have i3:Paired (Se H1 all (uj e M)) (M L) vw:=by
  refine cA (fun v q hq=>?_) i2;obtain⟨z,hz,e1,e2,e3⟩:=hq;refine⟨z,hz,e1,e2,?_⟩;cases hq2:q.2 with
  |pl ss=>rw[hq2]at e3;exact⟨e3.1,by rw[mo _ (naL z hz)];exact e3.2⟩
  |cn ld lt sl tn=>rw[hq2]at e3;exact e3
 have i':Is H1 L all (uj e M) (vw.take j++vw.drop (j+1)):=by
  show Paired _ (uj e M L) _;rw[hM];exact R8 (Qi j i3) (U5 (j+1) i3)
 have B:=Bk.deed b2 i2 (cA (fun _ _ q=>Is.kept kT q) pp) f (fun v hv=>wv v (hv.imp id .inl)) hd ok ft wf2 i' w' (qp (fun _ e' he q=>gJ (F:=fun _=>True) kT ⟨trivial,trivial⟩ q) pD) (H2:=H')
  (fun y o hy y1 y2 y3=>fr y o hy (by rw[<-eT];exact y1) y2 y3) (by rw[eT,hM];exact hL') hD' hU'
 refine⟨_,fun y hy=>?_,fun y o hy hn=>fr y o (s1 y o hy) (fun q=>hn (q ▸ f.L)) (fun q=>hn (q ▸ f.D)) (fun q=>hn (q ▸ f.U)),B⟩;rcases hy with hy|hy|hy
 ·exact .inl hy
 ·rw[hy];exact .inr nB
 ·rw[hy];exact .inr nA
def Hd (n:Str)(q:Str×Th):Bool:=match q.2 with
 |.cn ld _ _ _=>decide (ld=n)
 |.pl _=>false
def leans (vw:Vw)(n:Str):Bool:=vw.any (Hd n)
def uV (vw:Vw)(n:Str):Vw:=vw.filter fun q=>!decide (q.1=n)
theorem Sk {n:Str}:∀{vw:Vw},(∀ q∈vw,q.1≠n)->uV vw n=vw:=fun {vw} h =>
 List.filter_eq_self.mpr fun q hq=>by rw[decide_eq_false (h q hq)];rfl
theorem He {n:Str}{th:Th}:∀{vw:Vw} {j:Nat},(vw.map (·.1)).Nodup->vw[j]? = some (n,th)->uV vw n=vw.take j++vw.drop (j+1)
 |[],_,_,h=>by simp at h
 |q::vw,0,nd,h=>by
  simp only [List.getElem?_cons_zero,Option.some.injEq]at h;rw[map_cons]at nd;obtain⟨n1,_⟩:=List.nodup_cons.mp nd;unfold uV;rw[List.filter_cons_of_neg (by rw[h];simp)];refine Sk fun q' hq' e=>n1 ?_;rw[h];exact e ▸ mem_map.mpr ⟨q',hq',rfl⟩
 |q::vw,j+1,nd,h=>by
  rw[List.getElem?_cons_succ]at h;rw[map_cons]at nd;obtain⟨n1,n2⟩:=List.nodup_cons.mp nd;have ne:q.1≠n:=fun e=>n1 (e ▸ mem_map.mpr ⟨(n,th),mem_of_getElem? h,rfl⟩);unfold uV;rw[List.filter_cons_of_pos (by rw[decide_eq_false ne];rfl)];have:=He n2 h;unfold uV at this;rw[this];rfl
theorem CK {vw:Vw}{n:Str}{q:Str×Th}:q∈uV vw n ↔ q∈vw/\q.1≠n:=by
 unfold uV;rw[List.mem_filter];simp
theorem rX.dropped {vw:Vw}(w:rX vw){n:Str}(h:leans vw n=false):rX (uV vw n) where
 nd:=List.Sublist.nodup (List.Sublist.map _ List.filter_sublist) w.nd
 ld:=fun m ld lt sl tn hm=>by
  obtain⟨hm,_⟩:=CK.mp hm;obtain⟨⟨ss,hs⟩,r⟩:=w.ld m ld lt sl tn hm;refine⟨⟨ss,CK.mpr ⟨hs,fun e=>?_⟩⟩,r⟩;have:=List.any_eq_false.mp h _ hm;exact this (decide_eq_true e)
 gd:=fun m ss hm=>w.gd m ss (CK.mp hm).1
 len:=Nat.le_trans (List.length_filter_le _ _) w.len
set_option maxHeartbeats 1000000
def ib (s:Sg):Str:=if s.1.iE=true then s.1.str++Zf s.2 else s.1.str
theorem Zj (k:Kd):k.str.length=1:=by cases k <;> decide +kernel
theorem CL {s:Sg}(h:iY s):(ib s).length<=3:=by
 unfold ib;have h1:=Zj s.1
 by_cases e:s.1.iE=true
 ·rw[if_pos e,PySem.Str.length_append];have:=aaZ (h.1 e).1 (h.1 e).2;omega
 ·rw[if_neg e];omega
theorem aa1:(List.range 1000).all (fun n=>decide ((Zf (n:Int)).length<=3))=true:=by lk
theorem V9 {n:Int}(h0:0<=n)(h1:n<1000):(Zf n).length<=3:=by
 have:=all_eq_true.mp aa1 n.toNat (mem_range.mpr (by omega));have e:((n.toNat:Nat):Int)=n:=by omega
 rw[e]at this;exact of_decide_eq_true this
theorem aa2 {n:Int}(h0:0<=n)(h1:n<1000):n.natAbs.log2<1920:=by
 have hb:n.natAbs<2 ^ 1920:=Nat.lt_of_lt_of_le (show n.natAbs<2 ^ 10 by omega) (Nat.pow_le_pow_right (by decide) (by decide))
 by_cases z:n.natAbs=0
 ·rw[z];decide
 ·exact(Nat.log2_lt z).mpr hb
def Vi (ss:List Sg):Str:=Str.join " " (ss.map ib)
theorem n6:∀{ss:List Sg},(∀ s∈ss,iY s)->((ss.map ib).map (·.length)).sum<=3 * ss.length
 |[],_=>Nat.le_refl _
 |s::ss,h=>by
  have h1:=CL (h s mem_cons_self);have h2:=n6 fun x hx=>h x (mem_cons_of_mem _ hx);simp only [map_cons,List.sum_cons,length_cons];omega
def MQ (tn:Bool):Str:=if tn=true then "turned" else "straight"
def AD (q:Str×Th):Str:=match q.2 with
 |.pl ss=>Str.join " " ("voice" :: q.1::ss.map ib)
 |.cn ld lt sl tn=>"canon " ++ q.1 ++ " " ++ ld ++ " " ++ Zf lt ++ " " ++ Zf sl ++ " " ++ MQ tn
def Qt (vw:Vw):Str:=Str.join "\n" (vw.map AD)
theorem join_cons (d a b:Str)(t:List Str):Str.join d (a::b::t)=a++d++Str.join d (b::t):=rfl
theorem aa3 (n:Str):AD (n,.pl []) = "voice " ++ n:=by
 show Str.join " " ["voice",n]=_;rw[join_cons];rfl
theorem Zk:("voice":Str) ++ " " = "voice ":=by lk
theorem Zl (n:Str)(s:Sg)(ss:List Sg):AD (n,.pl (s::ss)) = "voice " ++ n ++ " " ++ Vi (s::ss):=by
 show Str.join " " ("voice" :: n::ib s::ss.map ib)=_;rw[join_cons,join_cons,Zk];simp only [PySem.Str.append_assoc];rfl
end ME
set_option maxHeartbeats 1000000
local macro_rules | `(tactic| tm_up) => `(tactic| repeat w_up)
local macro_rules | `(tactic| w_up) => `(tactic| first
 |refine⟨_,rfl,?_⟩
 |refine⟨_,_,rfl,rfl,⟨by decide,by decide⟩,?_⟩
 |refine⟨_,_,rfl,rfl,(by first|decide|(show(0:Int)<_;decide)),?_⟩
 |refine .inl ⟨_,_,rfl,rfl,.inr ⟨by decide,by decide⟩,?_⟩
 |refine⟨_,_,rfl,rfl,?_⟩
 |refine .inl ⟨_,_,rfl,rfl,?_⟩
 |refine .inl ⟨rfl,?_⟩
 |refine .inr ⟨_,_,rfl,rfl,?_⟩
 |refine ME.ix0 (by assumption) ?_
 |refine ME.ix1 (by assumption) ?_)
namespace ME
open PySem L2
def top (i:Nat):Stmt:=PySem.Challenge.pw_noteworth_k45_books_shown.main.body.getD i (.Pass ⟨0,0,0,0⟩)
abbrev iZ:Stmt:=top 69
abbrev nC:Stmt:=top 70
abbrev i0:Stmt:=top 72
abbrev i4:Stmt:=top 71
abbrev q9:Stmt:=top 73
abbrev eL:Stmt:=top 74
abbrev nE:Stmt:=top 56
abbrev gK:Stmt:=inClass (top 62) 9
abbrev cU:Stmt:=inClass (top 62) 16
abbrev nF:Stmt:=inClass (top 55) 1
abbrev eD:Stmt:=inClass (top 62) 14
abbrev dJ:Stmt:=inClass (top 55) 0
abbrev fz:Stmt:=inClass (top 62) 15
abbrev dh:Stmt:=inClass (top 54) 0
abbrev di:Stmt:=inClass (top 62) 1
abbrev i5:Stmt:=inClass (top 55) 2
abbrev i6:Stmt:=inClass (top 62) 7
abbrev cu:Stmt:=inClass (top 62) 17
abbrev cJ:Stmt:=inClass (top 62) 18
abbrev dj:Stmt:=inClass (top 62) 2
abbrev bP:Stmt:=top 57
abbrev CM:Stmt:=top 21
abbrev cV:Stmt:=top 58
abbrev xw:Stmt:=top 22
abbrev nG:Stmt:=top 59
abbrev kz:Stmt:=top 60
abbrev eE:Stmt:=top 23
abbrev rb:Stmt:=top 61
abbrev kA:Stmt:=inClass (top 62) 4
abbrev i7:Stmt:=top 75
abbrev gL:Stmt:=inClass (top 62) 12
abbrev rf:Stmt:=top 24
abbrev gM:Stmt:=top 64
abbrev rg:Stmt:=top 29
abbrev i8:Stmt:=inClass (top 62) 10
abbrev fA:Stmt:=top 66
abbrev gN:Stmt:=top 67
abbrev nH:Stmt:=top 85
abbrev nI:Stmt:=top 87
abbrev rh:Stmt:=top 86
abbrev kB:Stmt:=top 27
abbrev nJ:Stmt:=top 38
abbrev fB:Stmt:=top 37
abbrev bQ:Stmt:=top 39
abbrev CN:Stmt:=top 28
abbrev dM:Stmt:=top 40
abbrev dm:Stmt:=top 41
abbrev cW:Stmt:=top 42
abbrev cX:Stmt:=top 43
abbrev gO:Stmt:=top 44
abbrev nK:Stmt:=top 45
abbrev rj:Stmt:=top 46
abbrev i9:Stmt:=inClass (top 62) 11
abbrev ja:Stmt:=top 79
abbrev rk:Stmt:=top 81
abbrev nM:Stmt:=top 82
abbrev xy:Stmt:=top 83
abbrev rl:Stmt:=top 84
abbrev jb:Stmt:=top 80
abbrev kC:Stmt:=top 88
abbrev dN:Stmt:=inClass (top 62) 0
abbrev jc:Stmt:=inClass (top 62) 3
abbrev jd:Stmt:=inClass (top 62) 8
abbrev rm:Stmt:=top 76
abbrev fD:Stmt:=top 77
abbrev kD:Stmt:=top 78
abbrev LO:Stmt:=top 89
theorem MR:az ["_law_script","_law_k"] ["_law_script","_law_k"] (ah iZ):=⟨rfl,rfl,rfl,by lk,rfl,by lk,by lk⟩
theorem yv:az ["_law_seed","_law_k","_law_one","_law_two"] ["_law_seed","_law_k"] (ah nC):=⟨rfl,rfl,rfl,by lk,rfl,by lk,by lk⟩
theorem AE:az ["_law_number","_law_kind"] ["_law_number"] (ah i0):=⟨rfl,rfl,rfl,by lk,rfl,by lk,by lk⟩
theorem jt:az ["_law_script","_law_at","_law_many","_law_seed","_law_left","_law_row"] ["_law_script","_law_at","_law_many"] (ah i4):=⟨rfl,rfl,rfl,by lk,rfl,by lk,by lk⟩
theorem Wa:az ["_law_script","_law_at","_law_many"] ["_law_script","_law_at","_law_many"] (ah q9):=⟨rfl,rfl,rfl,by lk,rfl,by lk,by lk⟩
theorem bx:az ["_law_script","_law_names","_law_plain","_law_told","_law_k","_law_size","_law_cell","_law_later","_law_slow","_law_led","_law_row"] ["_law_script"] (ah eL):=⟨rfl,rfl,rfl,by lk,rfl,by lk,by lk⟩
theorem Sl:az ["name"] ["name"] (ah nE):=⟨rfl,rfl,rfl,by lk,rfl,by lk,by lk⟩
theorem Kj:az ["self"] ["self"] (ah gK):=⟨rfl,rfl,rfl,by lk,rfl,by lk,by lk⟩
theorem yw:az ["self","name"] ["self","name"] (ah cU):=⟨rfl,rfl,rfl,by lk,rfl,by lk,by lk⟩
theorem Sm:az ["self"] ["self"] (ah nF):=⟨rfl,rfl,rfl,by lk,rfl,by lk,by lk⟩
theorem FF:az ["self","deed"] ["self","deed"] (ah eD):=⟨rfl,rfl,rfl,by lk,rfl,by lk,by lk⟩
theorem CO:az ["self","things","at","before","after"] ["self","things","at","before","after"] (ah dJ):=⟨rfl,rfl,rfl,by lk,rfl,by lk,by lk⟩
theorem Hf:az ["self","voice"] ["self","voice"] (ah fz):=⟨rfl,rfl,rfl,by lk,rfl,by lk,by lk⟩
theorem AF:az ["self","name","terms"] ["self","name","terms"] (ah dh):=⟨rfl,rfl,rfl,by lk,rfl,by lk,by lk⟩
theorem AG:az ["self","name"] ["self","name"] (ah di):=⟨rfl,rfl,rfl,by lk,rfl,by lk,by lk⟩
theorem MS:az ["self"] ["self"] (ah i5):=⟨rfl,rfl,rfl,by lk,rfl,by lk,by lk⟩
theorem AH:az ["self","deed"] ["self"] (ah i6):=⟨rfl,rfl,rfl,by lk,rfl,by lk,by lk⟩
theorem lT:az ["self","name","voice"] ["self","name"] (ah cu):=⟨rfl,rfl,rfl,by lk,rfl,by lk,by lk⟩
theorem mV:az ["self","name","voice"] ["self","name"] (ah cJ):=⟨rfl,rfl,rfl,by lk,rfl,by lk,by lk⟩
theorem AI:az ["self","name","leader","later","slow","is_turned"] ["self","name","leader","later","slow","is_turned"] (ah dj):=⟨rfl,rfl,rfl,by lk,rfl,by lk,by lk⟩
theorem r6:az ["at","last"] ["at","last"] (ah bP):=⟨rfl,rfl,rfl,by lk,rfl,by lk,by lk⟩
theorem MT:az ["sign","kind","tone"] ["sign"] (ah CM):=⟨rfl,rfl,rfl,by lk,rfl,by lk,by lk⟩
theorem yx:az ["sign"] ["sign"] (ah cV):=⟨rfl,rfl,rfl,by lk,rfl,by lk,by lk⟩
theorem Zm:az ["sign"] ["sign"] (ah xw):=⟨rfl,rfl,rfl,by lk,rfl,by lk,by lk⟩
theorem r9:az ["line","at","met","place"] ["line","at"] (ah nG):=⟨rfl,rfl,rfl,by lk,rfl,by lk,by lk⟩
theorem Fe:az ["line","first","kinds","place"] ["line","first","kinds"] (ah kz):=⟨rfl,rfl,rfl,by lk,rfl,by lk,by lk⟩
theorem FG:az ["sign"] ["sign"] (ah eE):=⟨rfl,rfl,rfl,by lk,rfl,by lk,by lk⟩
theorem LP:az ["line","at","behind","changed","kinds"] ["line","at","behind","changed"] (ah rb):=⟨rfl,rfl,rfl,by lk,rfl,by lk,by lk⟩
theorem Ff:az ["self","name","at","sign","signs"] ["self","name","at","sign"] (ah kA):=⟨rfl,rfl,rfl,by lk,rfl,by lk,by lk⟩
theorem ju:az ["_law_book","_law_told","_law_name","_law_thing","_law_at","_law_sign"] ["_law_book","_law_told"] (ah i7):=⟨rfl,rfl,rfl,by lk,rfl,by lk,by lk⟩
theorem Kk:az ["self","name"] ["self","name"] (ah gL):=⟨rfl,rfl,rfl,by lk,rfl,by lk,by lk⟩
theorem Wb:az ["sign"] ["sign"] (ah rf):=⟨rfl,rfl,rfl,by lk,rfl,by lk,by lk⟩
theorem qq:az ["sign","kind","tone"] ["sign"] (ah gM):=⟨rfl,rfl,rfl,by lk,rfl,by lk,by lk⟩
theorem Wc:az ["line"] ["line"] (ah rg):=⟨rfl,rfl,rfl,by lk,rfl,by lk,by lk⟩
theorem bA:az ["self","name","terms","leader","later","slow","is_turned","heard"] ["self","name"] (ah i8):=⟨rfl,rfl,rfl,by lk,rfl,by lk,by lk⟩
theorem dr:az ["book","name","terms","leader","later","slow","is_turned","way"] ["book","name"] (ah fA):=⟨rfl,rfl,rfl,by lk,rfl,by lk,by lk⟩
theorem Kl:az ["book"] ["book"] (ah gN):=⟨rfl,rfl,rfl,by lk,rfl,by lk,by lk⟩
theorem So:az ["_law_found"] ["_law_found"] (ah nH):=⟨rfl,rfl,rfl,by lk,rfl,by lk,by lk⟩
theorem yy:az ["_law_found","_law_due","_law_one","_law_other"] ["_law_found","_law_due"] (ah nI):=⟨rfl,rfl,rfl,by lk,rfl,by lk,by lk⟩
theorem LQ:az ["_law_found","_law_due","_law_k"] ["_law_found","_law_due"] (ah rh):=⟨rfl,rfl,rfl,by lk,rfl,by lk,by lk⟩
theorem lU:az ["line","begin","found","measure","sign"] ["line","begin"] (ah kB):=⟨rfl,rfl,rfl,by lk,rfl,by lk,by lk⟩
theorem Sq:az ["line","at"] ["line","at"] (ah nJ):=⟨rfl,rfl,rfl,by lk,rfl,by lk,by lk⟩
theorem Hg:az ["kind","measure"] ["kind","measure"] (ah fB):=⟨rfl,rfl,rfl,by lk,rfl,by lk,by lk⟩
theorem c8:az ["line","begin","found","at","measure"] ["line","begin"] (ah bQ):=⟨rfl,rfl,rfl,by lk,rfl,by lk,by lk⟩
theorem se:az ["line","begin","found","first","at","sign","measure"] ["line","begin"] (ah CN):=⟨rfl,rfl,rfl,by lk,rfl,by lk,by lk⟩
theorem CP:az ["line","found","first"] ["line","found","first"] (ah dM):=⟨rfl,rfl,rfl,by lk,rfl,by lk,by lk⟩
theorem AJ:az ["line","behind"] ["line","behind"] (ah dm):=⟨rfl,rfl,rfl,by lk,rfl,by lk,by lk⟩
theorem yz:az ["line","found","first","behind"] ["line","found","first","behind"] (ah cW):=⟨rfl,rfl,rfl,by lk,rfl,by lk,by lk⟩
theorem yA:az ["line","found","first","behind"] ["line","found","first","behind"] (ah cX):=⟨rfl,rfl,rfl,by lk,rfl,by lk,by lk⟩
theorem xZ:az ["line","found","first","behind","rest"] ["line","found","first","behind"] (ah gO):=⟨rfl,rfl,rfl,by lk,rfl,by lk,by lk⟩
theorem n8:az ["line","begin","found","loose_runs","first","behind"] ["line","begin"] (ah nK):=⟨rfl,rfl,rfl,by lk,rfl,by lk,by lk⟩
theorem Wd:az ["line","begin"] ["line","begin"] (ah rj):=⟨rfl,rfl,rfl,by lk,rfl,by lk,by lk⟩
theorem eW:az ["self","name","terms","leader","later","slow","is_turned","begin"] ["self","name"] (ah i9):=⟨rfl,rfl,rfl,by lk,rfl,by lk,by lk⟩
theorem jv:az ["_law_voices","_law_name","_law_thing","_law_told","_law_sign","_law_kind"] ["_law_voices","_law_name"] (ah ja):=⟨rfl,rfl,rfl,by lk,rfl,by lk,by lk⟩
theorem nN:az ["_law_line_here","_law_begin","_law_told","_law_now","_law_at","_law_kind"] ["_law_line_here","_law_begin"] (ah rk):=⟨rfl,rfl,rfl,by lk,rfl,by lk,by lk⟩
theorem n9:az ["_law_line_here","_law_begin","_law_told","_law_now","_law_sign"] ["_law_line_here","_law_begin"] (ah nM):=⟨rfl,rfl,rfl,by lk,rfl,by lk,by lk⟩
theorem rp:az ["_law_line_here","_law_told","_law_low","_law_high","_law_rest","_law_behind","_law_after","_law_left","_law_right"] ["_law_line_here","_law_told","_law_low","_law_high"] (ah xy):=⟨rfl,rfl,rfl,by lk,rfl,by lk,by lk⟩
theorem je:az ["_law_line_here","_law_begin","_law_told","_law_three_here","_law_left","_law_low","_law_high"] ["_law_line_here","_law_begin"] (ah rl):=⟨rfl,rfl,rfl,by lk,rfl,by lk,by lk⟩
theorem sf:az ["_law_voices","_law_name","_law_thing","_law_line_here"] ["_law_voices","_law_name"] (ah jb):=⟨rfl,rfl,rfl,by lk,rfl,by lk,by lk⟩
theorem pC:az ["_law_book","_law_voices","_law_told","_law_name","_law_terms"] ["_law_book","_law_voices"] (ah kC):=⟨rfl,rfl,rfl,by lk,rfl,by lk,by lk⟩
theorem CQ:az ["self"] ["self"] (ah dN):=⟨rfl,rfl,rfl,by lk,rfl,by lk,by lk⟩
theorem AK:az ["self","name","dropped"] ["self","name"] (ah jc):=⟨rfl,rfl,rfl,by lk,rfl,by lk,by lk⟩
theorem AL:az ["self","deed"] ["self"] (ah jd):=⟨rfl,rfl,rfl,by lk,rfl,by lk,by lk⟩
theorem We:az ["_law_sign"] ["_law_sign"] (ah rm):=⟨rfl,rfl,rfl,by lk,rfl,by lk,by lk⟩
theorem Hh:az ["_law_line_here"] ["_law_line_here"] (ah fD):=⟨rfl,rfl,rfl,by lk,rfl,by lk,by lk⟩
theorem Fg:az ["_law_name","_law_thing","_law_way"] ["_law_name","_law_thing"] (ah kD):=⟨rfl,rfl,rfl,by lk,rfl,by lk,by lk⟩
theorem Hi:az ["_law_script","_law_told","_law_book","_law_dropped","_law_found"] ["_law_script"] (ah LO):=⟨rfl,rfl,rfl,by lk,rfl,by lk,by lk⟩
theorem Hj:(["_law_k","_law_script","_law_at","_law_many","_law_seed","_law_left","_law_row"]:List Str).Nodup:=by lk
theorem Qu:(["_law_number","_law_script","_law_at","_law_many"]:List Str).Nodup:=by lk
theorem Hk:(["_law_j","_law_script","_law_names","_law_plain","_law_told","_law_k","_law_size","_law_cell","_law_later","_law_slow","_law_led","_law_row"]:List Str).Nodup:=by lk
theorem Hl:(["_law_number","_law_script","_law_names","_law_plain","_law_told","_law_k","_law_size","_law_cell","_law_later","_law_slow","_law_led","_law_row"]:List Str).Nodup:=by lk
theorem MU:(["letter","name"]:List Str).Nodup:=by lk
theorem FH:(["voice","self"]:List Str).Nodup:=by lk
theorem Qv:(["sign","line","at","behind","changed","kinds"]:List Str).Nodup:=by lk
theorem Fh:(["kind","tone","line"]:List Str).Nodup:=by lk
theorem CS:(["sign","book","name","terms","leader","later","slow","is_turned","way"]:List Str).Nodup:=by lk
theorem FI:(["name","book"]:List Str).Nodup:=by lk
theorem FJ:(["worth","self","name","terms","leader","later","slow","is_turned","begin"]:List Str).Nodup:=by lk
theorem FK:(["_law_worth","_law_voices","_law_name","_law_thing","_law_line_here"]:List Str).Nodup:=by lk
theorem FL:(["voice","self","name","dropped"]:List Str).Nodup:=by lk
theorem AM:(["_law_sign","_law_line_here"]:List Str).Nodup:=by lk
theorem LR:(["_law_name","_law_thing","_law_script","_law_told","_law_book","_law_dropped","_law_found"]:List Str).Nodup:=by lk
def uW:List (Str×Pos):=[("ann",⟨329,18,329,23⟩),("bo",⟨329,25,329,29⟩),("cy",⟨329,31,329,35⟩),("dora",⟨329,37,329,43⟩),("eve",⟨329,45,329,50⟩),("ann",⟨329,52,329,57⟩),("bo",⟨329,59,329,63⟩),("cy",⟨329,65,329,69⟩),("dora",⟨329,71,329,77⟩)]
structure Adr where
 gq:Addr
 uX:FuncData
 kE:Addr
 CT:FuncData
 gu:Addr
 uY:FuncData
 gw:Addr
 uZ:FuncData
 oa:Addr
 Hm:FuncData
 gx:Addr
 va:FuncData
 kF:Addr
 CU:FuncData
 dW:Addr
 si:FuncData
 bO:Addr
 jw:FuncData
 jf:Addr
 CW:FuncData
 cN:Addr
 og:FuncData
 cv:Addr
 mf:FuncData
 df:Addr
 qr:FuncData
 bU:Addr
 kG:FuncData
 bV:Addr
 kH:FuncData
 eM:Addr
 vb:FuncData
 eN:Addr
 vc:FuncData
 bo:Addr
 g8:FuncData
 bC:Addr
 iH:FuncData
 bW:Addr
 gP:FuncData
 fZ:Addr
 du:Tok
 dw:Tok
 br:Addr
 fI:FuncData
 yB:Addr
 Sr:FuncData
 cg:Addr
 jx:FuncData
 sj:Addr
 MV:FuncData
 kI:Addr
 CY:FuncData
 iI:Addr
 yC:FuncData
 dy:Addr
 oh:FuncData
 oi:Addr
 Hn:FuncData
 gy:Addr
 yD:FuncData
 gA:Addr
 vd:FuncData
 dX:Addr
 sk:FuncData
 oj:Addr
 Ho:FuncData
 eX:Addr
 sq:FuncData
 om:Addr
 Hq:FuncData
 dY:Addr
 pE:FuncData
 d8:Addr
 qt:FuncData
 eY:Addr
 sr:FuncData
 kJ:Addr
 CZ:FuncData
 kK:Addr
 C0:FuncData
 oo:Addr
 Hr:FuncData
 iJ:Addr
 su:FuncData
 pF:Addr
 jy:Tok
 kL:Addr
 C1:FuncData
 ed:Addr
 qu:FuncData
 bu:Addr
 fJ:FuncData
 yE:Addr
 MW:FuncData
 GC:Addr
 ve:Tok
 cY:Addr
 mh:FuncData
 cK:Addr
 kM:FuncData
 cj:Addr
 jz:FuncData
 ck:Addr
 jA:FuncData
 eZ:Addr
 sv:FuncData
 kO:Addr
 C2:FuncData
 oq:Addr
 AN:FuncData
 xA:Addr
 ot:Tok
 eO:Addr
 vf:FuncData
 gB:Addr
 vg:FuncData
 ou:Addr
 Hs:FuncData
 kP:Addr
 C3:FuncData
 sx:Addr
 MX:FuncData
 ow:Addr
 Ht:FuncData
 gC:Addr
 vh:FuncData
 iK:Addr
 yF:FuncData
 cw:Addr
 mi:FuncData
 eP:Addr
 vi:FuncData
 eQ:Addr
 vj:FuncData
 ox:Addr
 Hu:FuncData
 ee:Addr
 qv:FuncData
 iL:Addr
 yG:FuncData
 Hv:Addr
 Zn:FuncData
 dg:Addr
 ef:Addr
 cZ:Addr
 cy:Addr
 bX:Addr
 dz:Addr
 jB:Tok
 cO:Addr
 cP:Addr
 bH:Addr
 nc:Tok
 gb:Tok
 ir:Tok
 jC:Tok
 xB:Tok
 jD:Tok
 lK:Tok
 ng:Tok
 AO:Tok
 xC:Tok
 cL:Addr
 bc:Addr
 aU:Addr
structure Txt (K:Frag)(w:World)(mg:Str->Option Value)(t:Adr):Prop where
 bh:gZ K "_law_cell_at" "_law_cell_at" iZ t.gq t.uX
 bD:Binds K t.uX ["_law_script","_law_k"] []
 bI:mg "_law_cell_at"=some (.ref t.gq)
 kQ:gZ K "_law_mixed" "_law_mixed" nC t.kE t.CT
 rq:Binds K t.CT ["_law_seed","_law_k"] []
 yH:mg "_law_mixed"=some (.ref t.kE)
 jg:gZ K "_law_sign_by" "_law_sign_by" i0 t.gu t.uY
 pG:Binds K t.uY ["_law_number"] []
 AQ:mg "_law_sign_by"=some (.ref t.gu)
 lV:gZ K "_law_numbers" "_law_numbers" i4 t.gw t.uZ
 vk:Binds K t.uZ ["_law_script","_law_at","_law_many"] []
 MY:mg "_law_numbers"=some (.ref t.gw)
 vm:gZ K "_law_line" "_law_line" q9 t.oa t.Hm
 Hw:Binds K t.Hm ["_law_script","_law_at","_law_many"] []
 Wf:mg "_law_line"=some (.ref t.oa)
 lW:gZ K "_law_entries" "_law_entries" eL t.gx t.va
 vn:Binds K t.va ["_law_script"] []
 MZ:mg "_law_entries"=some (.ref t.gx)
 rA:gZ K "is_name" "is_name" nE t.kF t.CU
 C4:Binds K t.CU ["name"] []
 Ss:mg "is_name"=some (.ref t.kF)
 nh:gZ K "names" "Book.names" gK t.dW t.si
 e8:Binds K t.si ["self"] []
 ic:Meth K t.aU "names" t.dW
 gf:gZ K "refuse_new" "Book.refuse_new" cU t.bO t.jw
 gh:Binds K t.jw ["self","name"] []
 oy:Meth K t.aU "refuse_new" t.bO
 xE:gZ K "do" "Deed.do" nF t.jf t.CW
 xF:Binds K t.CW ["self"] []
 Hy:Meth K t.bc "do" t.jf
 jE:gZ K "perform" "Book.perform" eD t.cN t.og
 gD:Binds K t.og ["self","deed"] []
 mj:Meth K t.aU "perform" t.cN
 iu:gZ K "__init__" "Deed.__init__" dJ t.cv t.mf
 fk:Binds K t.mf ["self","things","at","before","after"] []
 lL:gZ K "put_in" "Book.put_in" fz t.df t.qr
 lM:Binds K t.qr ["self","voice"] []
 vo:Meth K t.aU "put_in" t.df
 gQ:gZ K "__init__" "Voice.__init__" dh t.bU t.kG
 gR:Binds K t.kG ["self","name","terms"] []
 gS:gZ K "add_voice" "Book.add_voice" di t.bV t.kH
 eF:Binds K t.kH ["self","name"] []
 jF:Meth K t.aU "add_voice" t.bV
 pH:gZ K "undo" "Deed.undo" i5 t.eM t.vb
 vp:Binds K t.vb ["self"] []
 M0:Meth K t.bc "undo" t.eM
 pI:gZ K "undo" "Book.undo" i6 t.eN t.vc
 pJ:Binds K t.vc ["self"] []
 AR:Meth K t.aU "undo" t.eN
 eo:gZ K "voice_called" "Book.voice_called" cu t.bo t.g8
 bM:Binds K t.g8 ["self","name"] []
 cQ:Meth K t.aU "voice_called" t.bo
 fb:gZ K "plain_voice" "Book.plain_voice" cJ t.bC t.iH
 fc:Binds K t.iH ["self","name"] []
 mW:Meth K t.aU "plain_voice" t.bC
 eG:MC K "add_canon" "Book.add_canon" dj t.bW t.gP (.ref t.fZ)
 pK:Binds K t.gP ["self","name","leader","later","slow","is_turned"] [.int 0 t.du,.int 1 t.dw,.bool false]
 kR:Binds K t.gP ["self","name","leader","later","slow","is_turned"] []
 AS:Meth K t.aU "add_canon" t.bW
 cB:gZ K "refuse_other_places" "refuse_other_places" bP t.br t.fI
 fK:Binds K t.fI ["at","last"] []
 sy:mg "refuse_other_places"=some (.ref t.br)
 C5:gZ K "good" "good" CM t.yB t.Sr
 M3:Binds K t.Sr ["sign"] []
 Vj:mg "good"=some (.ref t.yB)
 dZ:gZ K "refuse_bad_sign" "refuse_bad_sign" cV t.cg t.jx
 jG:Binds K t.jx ["sign"] []
 yI:mg "refuse_bad_sign"=some (.ref t.cg)
 xG:gZ K "small" "small" xw t.sj t.MV
 GD:Binds K t.MV ["sign"] []
 Qw:mg "small"=some (.ref t.sj)
 rB:gZ K "low_end" "low_end" nG t.kI t.CY
 C6:Binds K t.CY ["line","at"] []
 Su:mg "low_end"=some (.ref t.kI)
 oz:gZ K "high_end" "high_end" kz t.iI t.yC
 yJ:Binds K t.yC ["line","first","kinds"] []
 Qx:mg "high_end"=some (.ref t.iI)
 eI:gZ K "sets_measure" "sets_measure" eE t.dy t.oh
 jH:Binds K t.oh ["sign"] []
 uo:mg "sets_measure"=some (.ref t.dy)
 vq:gZ K "window" "window" rb t.oi t.Hn
 Hz:Binds K t.Hn ["line","at","behind","changed"] []
 Wg:mg "window"=some (.ref t.oi)
 sA:gZ K "put" "Book.put" kA t.gy t.yD
 yK:Binds K t.yD ["self","name","at","sign"] []
 Qy:Meth K t.aU "put" t.gy
 lX:gZ K "_law_book_of" "_law_book_of" i7 t.gA t.vd
 vt:Binds K t.vd ["_law_book","_law_told"] []
 M4:mg "_law_book_of"=some (.ref t.gA)
 nj:gZ K "canon" "Book.canon" gL t.dX t.sk
 ff:Binds K t.sk ["self","name"] []
 ie:Meth K t.aU "canon" t.dX
 vv:gZ K "sounds" "sounds" rf t.oj t.Ho
 HA:Binds K t.Ho ["sign"] []
 Wh:mg "sounds"=some (.ref t.oj)
 jI:gZ K "shown_sign" "shown_sign" gM t.eX t.sq
 sC:Binds K t.sq ["sign"] []
 Km:mg "shown_sign"=some (.ref t.eX)
 rC:gZ K "turned" "turned" rg t.om t.Hq
 AU:Binds K t.Hq ["line"] []
 LS:mg "turned"=some (.ref t.om)
 lY:gZ K "line" "Book.line" i8 t.dY t.pE
 eR:Binds K t.pE ["self","name"] []
 gT:Meth K t.aU "line" t.dY
 ig:gZ K "shown_voice" "shown_voice" fA t.d8 t.qt
 qw:Binds K t.qt ["book","name"] []
 HB:mg "shown_voice"=some (.ref t.d8)
 jJ:gZ K "shown_book" "shown_book" gN t.eY t.sr
 sE:Binds K t.sr ["book"] []
 Kn:mg "shown_book"=some (.ref t.eY)
 jh:gZ K "_law_whole" "_law_whole" nH t.kJ t.CZ
 nP:Binds K t.CZ ["_law_found"] []
 sF:mg "_law_whole"=some (.ref t.kJ)
 rD:gZ K "_law_signs" "_law_signs" nI t.kK t.C0
 C7:Binds K t.C0 ["_law_found","_law_due"] []
 Sv:mg "_law_signs"=some (.ref t.kK)
 vy:gZ K "_law_nums" "_law_nums" rh t.oo t.Hr
 HC:Binds K t.Hr ["_law_found","_law_due"] []
 Wi:mg "_law_nums"=some (.ref t.oo)
 iN:MC K "measures" "measures" kB t.iJ t.su (.ref t.pF)
 Fi:Binds K t.su ["line","begin"] [.int 3 t.jy]
 sG:Binds K t.su ["line","begin"] []
 Fj:mg "measures"=some (.ref t.iJ)
 dO:gZ K "kind_at" "kind_at" nJ t.kL t.C1
 fE:Binds K t.C1 ["line","at"] []
 gE:mg "kind_at"=some (.ref t.kL)
 ij:gZ K "plain_worth" "plain_worth" fB t.ed t.qu
 qx:Binds K t.qu ["kind","measure"] []
 HD:mg "plain_worth"=some (.ref t.ed)
 cC:gZ K "worths_without_runs" "worths_without_runs" bQ t.bu t.fJ
 fL:Binds K t.fJ ["line","begin"] []
 sH:mg "worths_without_runs"=some (.ref t.bu)
 C8:MC K "runs" "runs" CN t.yE t.MW (.ref t.GC)
 Vk:Binds K t.MW ["line","begin"] [.int 3 t.ve]
 Sw:Binds K t.MW ["line","begin"] []
 aa4:mg "runs"=some (.ref t.yE)
 dP:gZ K "has_left_note" "has_left_note" dM t.cY t.mh
 iw:Binds K t.mh ["line","found","first"] []
 rE:mg "has_left_note"=some (.ref t.cY)
 dn:gZ K "has_right_note" "has_right_note" dm t.cK t.kM
 gU:Binds K t.kM ["line","behind"] []
 pL:mg "has_right_note"=some (.ref t.cK)
 d3:gZ K "settle_one_over" "settle_one_over" cW t.cj t.jz
 jK:Binds K t.jz ["line","found","first","behind"] []
 yL:mg "settle_one_over"=some (.ref t.cj)
 d4:gZ K "settle_two_over" "settle_two_over" cX t.ck t.jA
 jL:Binds K t.jA ["line","found","first","behind"] []
 yM:mg "settle_two_over"=some (.ref t.ck)
 jM:gZ K "settle_run" "settle_run" gO t.eZ t.sv
 sI:Binds K t.sv ["line","found","first","behind"] []
 Ko:mg "settle_run"=some (.ref t.eZ)
 rF:gZ K "reading" "reading" nK t.kO t.C2
 C9:Binds K t.C2 ["line","begin"] []
 Sx:mg "reading"=some (.ref t.kO)
 oB:MC K "worths" "worths" rj t.oq t.AN (.ref t.xA)
 LV:Binds K t.AN ["line","begin"] [.int 3 t.ot]
 AV:Binds K t.AN ["line","begin"] []
 LW:mg "worths"=some (.ref t.oq)
 pM:gZ K "kept" "Book.kept" i9 t.eO t.vf
 pN:Binds K t.vf ["self","name"] []
 AW:Meth K t.aU "kept" t.eO
 ji:gZ K "_law_line_of" "_law_line_of" ja t.gB t.vg
 pO:Binds K t.vg ["_law_voices","_law_name"] []
 AX:mg "_law_line_of"=some (.ref t.gB)
 vz:gZ K "_law_base" "_law_base" rk t.ou t.Hs
 HE:Binds K t.Hs ["_law_line_here","_law_begin"] []
 Wj:mg "_law_base"=some (.ref t.ou)
 rG:gZ K "_law_three" "_law_three" nM t.kP t.C3
 Dc:Binds K t.C3 ["_law_line_here","_law_begin"] []
 Sy:mg "_law_three"=some (.ref t.kP)
 AY:gZ K "_law_run" "_law_run" xy t.sx t.MX
 M5:Binds K t.MX ["_law_line_here","_law_told","_law_low","_law_high"] []
 Zo:mg "_law_run"=some (.ref t.sx)
 rH:gZ K "_law_read" "_law_read" rl t.ow t.Ht
 AZ:Binds K t.Ht ["_law_line_here","_law_begin"] []
 LX:mg "_law_read"=some (.ref t.ow)
 lZ:gZ K "_law_kept_of" "_law_kept_of" jb t.gC t.vh
 vA:Binds K t.vh ["_law_voices","_law_name"] []
 M6:mg "_law_kept_of"=some (.ref t.gC)
 iO:gZ K "_law_stands" "_law_stands" kC t.iK t.yF
 oC:Binds K t.yF ["_law_book","_law_voices"] []
 vB:mg "_law_stands"=some (.ref t.iK)
 ix:gZ K "__init__" "Book.__init__" dN t.cw t.mi
 mn:Binds K t.mi ["self"] []
 pP:gZ K "drop" "Book.drop" jc t.eP t.vi
 vC:Binds K t.vi ["self","name"] []
 M7:Meth K t.aU "drop" t.eP
 pQ:gZ K "redo" "Book.redo" jd t.eQ t.vj
 vD:Binds K t.vj ["self"] []
 M8:Meth K t.aU "redo" t.eQ
 vE:gZ K "_law_word" "_law_word" rm t.ox t.Hu
 HF:Binds K t.Hu ["_law_sign"] []
 Wk:mg "_law_word"=some (.ref t.ox)
 ik:gZ K "_law_line_text" "_law_line_text" fD t.ee t.qv
 qy:Binds K t.qv ["_law_line_here"] []
 HG:mg "_law_line_text"=some (.ref t.ee)
 oE:gZ K "_law_row_of" "_law_row_of" kD t.iL t.yG
 yN:Binds K t.yG ["_law_name","_law_thing"] []
 Qz:mg "_law_row_of"=some (.ref t.iL)
 Vl:gZ K "law" "law" LO t.Hv t.Zn
 ab9:Binds K t.Zn ["_law_script"] []
 agW:mg "law"=some (.ref t.Hv)
 ac8:mg "all"=none
 Zp:mg "any"=none
 Vm:mg "bool"=none
 M9:mg "dict"=none
 sJ:mg "enumerate"=none
 yO:mg "int"=none
 a7:mg "isinstance"=none
 bS:mg "len"=none
 jN:mg "list"=none
 ac9:mg "max"=none
 ada:mg "min"=none
 jO:mg "range"=none
 Sz:mg "str"=none
 A0:mg "tuple"=none
 Zq:mg "zip"=none
 x3:mg "GREAT_KINDS"=some (.ref t.dg)
 x4:∀ H,nR K H t.dg [.str "G",.str "D",.str "R"]
 Kp:mg "SMALL_KINDS"=some (.ref t.ef)
 Kq:∀ H,nR K H t.ef [.str "s",.str "d",.str "r"]
 FN:mg "PARTING_KINDS"=some (.ref t.cZ)
 FO:∀ H,nR K H t.cZ [.str ".",.str "3",.str "2"]
 uq:mg "MEASURE_KINDS"=some (.ref t.cy)
 ur:∀ H,nR K H t.cy [.str "3",.str "2"]
 rJ:mg "SOUNDING_KINDS"=some (.ref t.bX)
 rK:∀ H,nR K H t.bX [.str "G",.str "D",.str "s",.str "d"]
 HH:mg "SILENT_KINDS"=some (.ref t.dz)
 HI:∀ H,nR K H t.dz [.str "R",.str "r",.str ".",.str "3",.str "2"]
 HJ:mg "HIGHEST_TONE"=some (.int 99 t.jB)
 HK:mg "TURNED_KINDS"=some (.ref t.cO)
 FP:KD K w t.cO [("3",.str "2"),("2",.str "3")]
 HL:mg "PLAIN_WORTHS"=some (.ref t.cP)
 FQ:KD K w t.cP [("G",.int 3),("D",.int 2),("R",.int 3),("s",.int 1),("d",.int 1),("r",.int 1),(".",.int 0),("3",.int 0),("2",.int 0)]
 rL:mg "TWOFOLD_WORTHS"=some (.ref t.bH)
 pR:KD K w t.bH [("G",.int 2),("R",.int 2)]
 Na:mg "FULL_WORTH"=some (.int 3 t.nc)
 gi:mg "SHORTENED_WORTH"=some (.int 2 t.gb)
 FR:mg "DOUBLED_WORTH"=some (.int 2 t.ir)
 HM:mg "DOTTED_WORTH"=some (.int 3 t.jC)
 Wl:mg "LETTERS"=some (.str "abcdefghijklmnopqrstuvwxyz" t.xB)
 HN:mg "LONGEST_NAME"=some (.int 8 t.jD)
 Kr:mg "MOST_VOICES"=some (.int 12 t.lK)
 Nb:mg "MOST_SIGNS"=some (.int 200 t.ng)
 Zr:mg "LATEST"=some (.int 999 t.AO)
 Wm:mg "SLOWEST"=some (.int 9 t.xC)
 QA:mg "Voice"=some (.ref t.cL)
 QB:Mk K t.cL t.bU
 fm:VN K t.cL
 eh:g7 K t.cL "name"
 cm:g7 K t.cL "terms"
 cR:g7 K t.cL "signs"
 Nc:mg "Deed"=some (.ref t.bc)
 Nd:Mk K t.bc t.cv
 d6:VN K t.bc
 dA:g7 K t.bc "things"
 fg:g7 K t.bc "at"
 dB:g7 K t.bc "before"
 en:g7 K t.bc "after"
 aa5:mg "Book"=some (.ref t.aU)
 aa6:Mk K t.aU t.cw
 aJ:VN K t.aU
 bj:g7 K t.aU "voices"
 c9:g7 K t.aU "done"
 cq:g7 K t.aU "undone"
def cs (t:Adr):Cs:=⟨t.aU,t.cL,t.bc,false,fun r=>match r with
 |.MN=>0
 |.Vf=>0
 |.LL=>0
 |.Full=>0
 |.m9=>0
 |.AA=>0
 |.MO=>0
 |.Vg=>0
 |.Zg=>0
 |.Si=>0⟩
def gF (ns:List Int)(k:Nat):Int:=ns.getD k 0
inductive A1 (K:Frag)(vs:List V)(H:Hp)(Q:VK)(E:XK):Prop
 |mk (a:Addr) (ns:List Int) (k:Nat) (dC:vs=[.ref a,.int (k:Int)]) (dD:aR K H a (ns.map V.int)) (eK:ns.length<=63) (jj:Q (.int (gF ns k)) H):A1 K vs H Q E
variable {P:Program} {w:World} {K:Frag} {mg:Str->Option Value} {base:Heap} {t:Adr}
theorem sL (T:Txt K w mg t):bg P w K mg base fq (0+1) t.gq t.uX ["_law_script","_law_k"] (A1 K):=by
 refine T.bh.ok MR (fun vs H Q E h=>?_) (fun cdv A outer s H vs Q E hr h=>?_)
 ·obtain⟨a,ns,k,rfl,_⟩:=h;rfl
 ·obtain⟨a,ns,k,rfl,hS,hl,q⟩:=h;refine aO (af (aV (ay qV (pv 1) (aG (VJ rfl) rfl T.ada acJ (aa aj (aa (aG (aD.or aE) rfl T.bS bR (aa (pv 0) ae)) ae))) (aA _)) (ai (ax (aW aN (pv 0) (pv 1) (fun _ _=>rfl)))) aC) (ai (ax aj))) ?_;refine⟨_,rfl,_,rfl,.inl ⟨_,_,rfl,.inl hS,_,_,rfl,_,_,rfl,rfl,_,rfl,?_⟩⟩;rw[length_map];refine aT (fun h=>?_) (fun h=>?_)
  ·have hk:k<ns.length:=by
    have:=of_decide_eq_true h;split at this <;> omega
   have e:(ns.map V.int)[k]? = some (V.int (gF ns k)):=by
    rw[getElem?_map,getElem?_eq_getElem hk];unfold gF;rw[List.getD_eq_getElem?_getD,getElem?_eq_getElem hk];rfl
   exact⟨_,rfl,_,rfl,.inl ⟨_,_,_,_,rfl,rfl,hS,An e,q⟩⟩
  ·have hk:ns.length<=k:=by
    have h':¬((k:Int)<if(ns.length:Int)<63 then(ns.length:Int) else 63):=fun z=>h (decide_eq_true z);split at h' <;> omega
   have e:gF ns k=0:=by
    unfold gF;rw[List.getD_eq_getElem?_getD,List.getElem?_eq_none hk];rfl
   rw[e]at q;exact q
inductive HP (vs:List V)(H:Hp)(Q:VK)(E:XK):Prop
 |mk (seed k:Int) (dC:vs=[.int seed,.int k]) (dD:∀ r:Int,0<=r->r<65521->Q (.int r) H):HP vs H Q E
theorem HQ (T:Txt K w mg t):bg P w K mg base fq (0+1) t.kE t.CT ["_law_seed","_law_k"] HP:=by
 refine T.kQ.ok yv (fun vs H Q E h=>?_) (fun cdv A outer s H vs Q E hr h=>?_)
 ·obtain⟨_,_,rfl,_⟩:=h;rfl
 ·obtain⟨seed,k,rfl,q⟩:=h;refine aO (af (aL (i:=2) yv.nd rfl (Or.inl rfl) (aI c7 (aI (bp.or (aH.or bq)) (aI (bp.or (aH.or bq)) (aI (l9.or ma) (aI c7 (pv 0) aj) aj) (aI (l9.or ma) (pv 1) aj)) aj) aj)) (af (aL (i:=3) yv.nd rfl (Or.inl rfl) (aI c7 (aI (bp.or (aH.or bq)) (aI (bp.or (aH.or bq)) (aI (l9.or ma) (pv 2) (pv 2)) (aI (l9.or ma) (pv 1) aj)) (aI c7 (aI lH (pv 0) aj) aj)) aj)) (ai (ax (aI c7 (aI (bp.or (aH.or bq)) (aI lH (aI (l9.or ma) (pv 3) (pv 3)) aj) (pv 3)) aj))))) ?_;have p2:(2:Int) ^ 64=18446744073709551616:=by decide
  refine⟨_,rfl,_,_,rfl,rfl,(by decide:(0:Int)<1000003),.inl ⟨_,_,rfl,rfl,.inr ⟨by decide,by decide⟩,_,rfl,.inl ⟨_,_,rfl,rfl,.inr ⟨by decide,by decide⟩,.inl ⟨_,_,rfl,rfl,.inl ⟨_,_,rfl,rfl,_,_,rfl,rfl,(by decide:(0:Int)<1000033),?_⟩⟩⟩⟩⟩;generalize hone:(seed % 1000003 * 48271+k * 30011+17) % 1000033=one;have b1:0<=one/\one<1000033:=by omega
  refine⟨_,rfl,_,rfl,.inl ⟨_,_,rfl,rfl,.inl ⟨by rw[p2];omega,by rw[p2];omega⟩,_,rfl,.inl ⟨_,_,rfl,rfl,.inr ⟨by decide,by decide⟩,.inl ⟨_,_,rfl,rfl,_,rfl,_,_,rfl,rfl,⟨by decide,by decide⟩,_,_,rfl,rfl,(by decide:(0:Int)<997),.inl ⟨_,_,rfl,rfl,_,_,rfl,rfl,(by decide:(0:Int)<999983),?_⟩⟩⟩⟩⟩;generalize ajg:(one * one+k * 613+seed / 1000003 % 997) % 999983=two;have b2:0<=two/\two<999983:=by omega
  refine⟨_,rfl,_,rfl,.inl ⟨_,_,rfl,rfl,.inl ⟨by rw[p2];omega,by rw[p2];omega⟩,_,_,rfl,rfl,⟨by decide,by decide⟩,_,rfl,.inl ⟨_,_,rfl,rfl,_,_,rfl,rfl,(by decide:(0:Int)<65521),?_⟩⟩⟩;exact q _ (by omega) (by omega)
def l24:List Kd:=[.G,.G,.G,.G,.G,.s,.s,.s,.s,.s,.s,.s,.s,.s,.d,.d,.r,.r,.D,.R,.dot,.dot,.three,.two]
theorem aeR:(Str.ofString "GGGGGsssssssssddrrDR..32").cps.toList=l24.map Kd.cp:=by lk
theorem rM (k:Kd):X6 k.str "GDsd"=k.iE:=by cases k <;> decide +kernel
inductive A2 (vs:List V)(H:Hp)(Q:VK)(E:XK):Prop
 |mk (m:Int) (dC:vs=[.int m]) (dD:∀(p:Addr)(s:Sg),iY s->H p=none->Q (.ref p) (upd H p (.tup [.str s.1.str,.int s.2]))):A2 vs H Q E
theorem A3 (T:Txt K w mg t):bg P w K mg base fq (0+1) t.gu t.uY ["_law_number"] A2:=by
 refine T.jg.ok AE (fun vs H Q E h=>?_) (fun cdv A outer s H vs Q E hr h=>?_)
 ·obtain⟨_,rfl,_⟩:=h;rfl
 ·obtain⟨m,rfl,q⟩:=h;refine aO (af (aL (i:=1) AE.nd rfl (Or.inl rfl) (aW aN aY (aI c7 (pv 0) aj) (fun _ _=>rfl))) (af (aV (ay (cF.or cD) (pv 1) aY rfl) (ai (ax (fG (aa (pv 1) (aa (aI c7 (aI lH (pv 0) aj) aj) ae))))) aC) (ai (ax (fG (aa (pv 1) (aa aj ae))))))) ?_;obtain⟨k,hk⟩:∃ k,l24[(m % 24).toNat]? = some k:=by
   have h1:(m % 24).toNat<l24.length:=by
    show _<24;omega
   exact⟨_,getElem?_eq_getElem h1⟩
  have hat:atI (Str.ofString "GGGGGsssssssssddrrDR..32").cps.toList (m % 24)=some k.cp:=by
   have e0:m % 24=(((m % 24).toNat:Nat):Int):=by omega
   rw[e0,aeR];exact An (by rw[getElem?_map,hk];rfl)
  refine⟨_,rfl,_,_,rfl,rfl,(by decide:(0:Int)<24),.inr (.inr ⟨_,_,_,rfl,rfl,(by lk),hat,?_⟩)⟩;rw[<-aeE k];tm_up;refine aT (fun h=>?_) (fun h=>?_)
  ·have h4:k.iE=true:=by rw[<-rM];exact h
   tm_up;refine⟨(by show 2<=sizeLine;decide),fun p hp=>?_⟩;exact q p (k,m / 24 % 100) ⟨fun _=>by show 0<=m / 24 % 100/\m / 24 % 100<100;omega,fun z=>by rw[h4]at z;cases z⟩ hp
  ·have h4:k.iE=false:=by
    rw[<-rM];exact Bool.eq_false_iff.mpr h
   tm_up;refine⟨(by show 2<=sizeLine;decide),fun p hp=>?_⟩;exact q p (k,0) ⟨(fun z=>by rw[h4]at z;cases z),fun _=>rfl⟩ hp
inductive A4 (K:Frag)(vs:List V)(H:Hp)(Q:VK)(E:XK):Prop
 |mk (a:Addr) (ns:List Int) (k m:Nat) (dC:vs=[.ref a,.int (k:Int),.int (m:Int)]) (dD:aR K H a (ns.map V.int)) (eK:ns.length<=63) (jj:m<=48) (pb:∀(l:Addr)(ms:List Int)(H':Hp),aq H H'->H' l=some (.lst (ms.map V.int))->ms.length<=60->(∀ x∈ms,0<=x)->Q (.ref l) H'):A4 K vs H Q E
theorem Nf (T:Txt K w mg t):bg P w K mg base fq (0+2) t.gw t.uZ ["_law_script","_law_at","_law_many"] (A4 K):=by
 have bE:=sL (P:=P) (base:=base) T;have xH:=HQ (P:=P) (base:=base) T;refine T.lV.ok jt (fun vs H Q E h=>?_) (fun cdv A outer s H vs Q E hr h=>?_)
 ·obtain⟨_,_,_,_,rfl,_⟩:=h;rfl
 ·obtain⟨a,ns,k,m,rfl,hS,hl,hm,q⟩:=h;refine aO (af (aL (i:=3) jt.nd rfl (Or.inr rfl) (ar bE (hr.mono (by decide)) rfl T.bI T.bh.kp T.bD .nil au (aa (pv 0) (aa (pv 1) ae)))) (af (aV (ay qV (pv 3) (aI Yg aj aj) (aA _)) (ai (ax (fX (cn:=["_law_k"]) rfl (cz.of rfl) (kq rfl T.jO (aa (pv 2) ae)) (fun _=>(aF (i:=0) Hj rfl (Or.inl rfl))) (fun _=>iC) (fun _=>(ar xH (hr.mono (by decide)) rfl T.yH T.kQ.kp T.rq .nil au (aa (aI (bp.or (aH.or bq)) (pv 4) (aI (l9.or ma) aj (ar bE (hr.mono (by decide)) rfl T.bI T.bh.kp T.bD .nil au (aa (pv 1) (aa (aI (bp.or (aH.or bq)) (aI (bp.or (aH.or bq)) (pv 2) aj) (pv 0)) ae))))) (aa (pv 0) ae))))))) aC) (af (aL (i:=4) jt.nd rfl (Or.inl rfl) (aI iB (pv 3) (aI Yg aj aj))) (af (aL (i:=5) jt.nd rfl (Or.inl rfl) (b5 ae)) (af (GI PassesOwn.never (cf (PW.pt (dG (ay PV (pv 4) aj (aA _)) (fW (ay qV (aG (aD.or aE) rfl T.bS bR (aa (pv 5) ae)) aj (aA _)))))) (af (aQ (dQ plainAttrs_list slot_list_append type_list_append aZ (pv 5) (aa (aI c7 (pv 4) aj) ae))) (ai (aL (i:=4) jt.nd rfl (Or.inl rfl) (aI lH (pv 4) aj))))) (ai (ax (pv 5)))))))) ?_;refine⟨_,rfl,_,rfl,a,ns,k,rfl,hS,hl,?_⟩;refine⟨_,rfl,_,_,rfl,rfl,⟨by decide,by decide,by decide⟩,_,_,rfl,rfl,_,rfl,?_⟩;refine aT (fun _=>?_) (fun _=>?_)
  ·refine⟨_,rfl,(m:Int),rfl,(by omega),(by omega),fun D b hD=>?_⟩;refine GR (lo:=0) (n:=((m:Int)).toNat) (fun i ys σ H'=>∃(v:Option V)(ms:List Int),σ=[v,some (.ref a),some (.int (k:Int)),some (.int (m:Int)),some (.int (gF ns k)),none,none]/\H'=upd H D (.lst ys)/\ys=ms.map V.int/\ms.length=i/\∀ x∈ms,0<=x) ⟨none,[],rfl,rfl,rfl,rfl,fun _ h=>nomatch h⟩ ?_ ?_
   ·rintro i ys σ H' hi ⟨v,ms,rfl,rfl,rfl,hlen,hpos⟩ N hN;refine cH ?_;refine⟨_,rfl,_,rfl,_,rfl,.inl ⟨_,_,rfl,rfl,_,rfl,.inl ⟨_,_,rfl,rfl,a,ns,k+1+i,?_,dS hS hD,hl,.inl ⟨_,_,rfl,rfl,.inl ⟨by decide,by decide⟩,?_⟩⟩⟩⟩
    ·show [V.ref a,V.int ((k:Int)+1+(0+(i:Int)))]=[V.ref a,V.int ((k+1+i:Nat):Int)];have e:(k:Int)+1+(0+(i:Int))=((k+1+i:Nat):Int):=by omega
     rw[e]
    ·refine .inl ⟨_,_,rfl,rfl,_,rfl,_,_,rfl,fun r h0 h1=>⟨ag,?_,?_⟩⟩
     ·rw[length_map];exact aK (by omega)
     ·refine hN _ _ _ ⟨some _,ms++[r],rfl,bZ,by simp,by simp[hlen],fun x hx=>?_⟩;rcases mem_append.mp hx with z|z
      ·exact hpos x z
      ·have:x=r:=by simpa using z
       omega
   ·rintro ys σ H' ⟨v,ms,rfl,rfl,rfl,hlen,hpos⟩;exact q D ms _ (aq.upd hD) ag (by omega) hpos
  ·refine⟨_,rfl,_,_,rfl,rfl,⟨by decide,by decide,by decide⟩,_,_,rfl,rfl,(by decide),fun l hl0=>?_⟩;refine⟨fun mm σ H'=>∃(left:Int)(ms:List Int),σ=[some (.ref a),some (.int (k:Int)),some (.int (m:Int)),some (.int (gF ns k)),some (.int left),some (.ref l)]/\H'=upd H l (.lst (ms.map V.int))/\mm=60-ms.length/\ms.length<=60/\∀ x∈ms,0<=x,
    ⟨60,_,[],rfl,rfl,rfl,Nat.zero_le _,fun _ h=>nomatch h⟩,?_⟩
   rintro mm σ H' ⟨left,ms,rfl,rfl,rfl,hlen,hpos⟩;refine nW (decide (0<left)&&decide ((ms.length:Int)<60)) ?_ ?_
   ·refine⟨_,rfl,_,_,rfl,rfl,_,rfl,?_⟩;refine aT (fun h=>?_) (fun h=>?_)
    ·refine⟨_,rfl,.inl ⟨l,_,rfl,.inl (aR.of ag),_,_,rfl,rfl,_,rfl,?_⟩⟩;rw[length_map];exact⟨by rw[h,Bool.true_and],rfl⟩
    ·exact⟨by rw[Bool.eq_false_iff.mpr h];rfl,rfl⟩
   refine aT (fun h60=>?_) (fun _=>?_)
   ·have aji:ms.length<60:=by
     have:=of_decide_eq_true (Bool.and_eq_true_iff.mp h60).2;omega
    refine⟨fun σ' H'=>∃ m',m'<60-ms.length/\∃(left:Int)(ms:List Int),σ'=[some (.ref a),some (.int (k:Int)),some (.int (m:Int)),some (.int (gF ns k)),some (.int left),some (.ref l)]/\H'=upd H l (.lst (ms.map V.int))/\m'=60-ms.length/\ms.length<=60/\∀ x∈ms,0<=x,fun _ _ h=>h,?_⟩;refine⟨_,rfl,.inl ⟨rfl,_,aR.of ag⟩,_,rfl,_,_,rfl,rfl,(by decide:(0:Int)<2400),l,_,_,rfl,rfl,ag,(by rw[length_map];exact aK (by omega)),_,rfl,_,_,rfl,rfl,⟨by decide,by decide⟩,60-(ms.length+1),by omega,_,ms++[left % 2400],rfl,?_,by simp,by simp;omega,fun x hx=>?_⟩
    ·rw[bZ,map_append];rfl
    ·rcases mem_append.mp hx with z|z
     ·exact hpos x z
     ·have:x=left % 2400:=by simpa using z
      omega
   ·exact⟨_,rfl,q l ms _ (aq.upd hl0) ag (by omega) hpos⟩
inductive LY (K:Frag)(vs:List V)(H:Hp)(Q:VK)(E:XK):Prop
 |mk (a:Addr) (ns:List Int) (k m:Nat) (dC:vs=[.ref a,.int (k:Int),.int (m:Int)]) (dD:aR K H a (ns.map V.int)) (eK:ns.length<=63) (jj:m<=48) (pb:∀(l:Addr)(xs:List V)(ss:List Sg)(H':Hp),aq H H'->H l=none->H' l=some (.lst xs)->kx H' xs ss->(∀ s∈ss,iY s)->ss.length<=60->Q (.ref l) H'):LY K vs H Q E
theorem Wn (T:Txt K w mg t):bg P w K mg base fq (0+3) t.oa t.Hm ["_law_script","_law_at","_law_many"] (LY K):=by
 have vF:=A3 (P:=P) (base:=base) T;have QC:=Nf (P:=P) (base:=base) T;refine T.vm.ok Wa (fun vs H Q E h=>?_) (fun cdv A outer s H vs Q E hr h=>?_)
 ·obtain⟨_,_,_,_,rfl,_⟩:=h;rfl
 ·obtain⟨a,ns,k,m,rfl,hS,hl,hm,q⟩:=h;refine aO (ai (ax (fX (cn:=["_law_number"]) rfl (cz.of rfl) (c5 (ar QC (hr.mono (by decide)) rfl T.MY T.lV.kp T.vk .nil au (aa (pv 0) (aa (pv 1) (aa (pv 2) ae))))) (fun _=>(aF (i:=0) Qu rfl (Or.inl rfl))) (fun _=>iC) (fun _=>(ar vF (hr.mono (by decide)) rfl T.AQ T.jg.kp T.pG .nil au (aa (pv 0) ae)))))) ?_;refine⟨_,rfl,_,rfl,_,rfl,a,ns,k,m,rfl,hS,hl,hm,fun l ms H1 s1 hl1 hlen hpos=>⟨l,rfl,⟨_,aR.of hl1⟩,fun D b hD=>?_⟩⟩;refine dH (K:=K) (xs:=ms.map V.int) (fun i ys σ H'=>∃(v:Option V)(ss:List Sg),σ=[v,some (.ref a),some (.int (k:Int)),some (.int (m:Int))]/\aq H1 H'/\H' D=some (.lst ys)/\kx H' ys ss/\ss.length=i/\i<=ms.length/\∀ s∈ss,iY s)
   ⟨none,[],rfl,aq.upd hD,ag,.nil,rfl,Nat.zero_le _,fun _ h=>nomatch h⟩ ?_ ?_ ?_
  ·rintro i ys σ H' ⟨v,ss,rfl,s2,_⟩;exact s2.seq (aR.of hl1)
  ·rintro i ys x σ H' hx ⟨v,ss,rfl,s2,SA,hsg,hsl,hi,hg⟩ N hN;have hil:i<ms.length:=by
    have:=(List.getElem?_eq_some_iff.mp hx).1;rw[length_map]at this;exact this
   obtain⟨z,hz,rfl⟩:=CC hx;refine cH ?_;refine⟨_,rfl,z,rfl,fun p s gs hp=>⟨aq.upd hp _ _ SA,?_,?_⟩⟩
   ·rw[bL hsg,hsl];exact aK (by omega)
   ·have hD4:=aq.upd (o:=.tup [.str s.1.str,.int s.2]) hp _ _ SA;refine hN _ _ _ ⟨_,ss++[s],rfl,dU (s2.trans (aq.upd hp)) hD,ag,lP (MG hD4 (hsg.same (aq.upd hp))) (Qj hD4 ⟨p,rfl,ag⟩),by simp[hsl],hil,fun y hy=>?_⟩;rcases mem_append.mp hy with z|z
    ·exact hg y z
    ·have:y=s:=by simpa using z
     rw[this];exact gs
  ·rintro ys σ H' ⟨v,ss,rfl,s2,SA,hsg,hsl,hi,hg⟩;refine q D ys ss H' (s1.trans s2) (s1.free hD) SA hsg hg ?_;rw[hsl,length_map];omega
def nine:List Str:=["ann","bo","cy","dora","eve","ann","bo","cy","dora"]
def De (r k:Nat):Str:=nine.getD (r+k) ""
def Zs (k:Nat):Str:=["xg","xf","xa","xb","xc","xd","xe"].getD k ""
theorem aeS:(List.range 5).all (fun r=>(List.range 6).all fun m=>decide (((List.range m).map (De r)++(List.range 7).map Zs).Nodup)&&((List.range m).map (De r)++(List.range 7).map Zs).all fun n=>nameB n && !decide (n = "zed")&&decide (n.length<=1000))=true:=by lk
theorem aa7 {r k:Nat}(hr:r<5)(hk:k<5):(nine.drop r)[k]? = some (De r k):=by
 rw[List.getElem?_drop];unfold De;have:r+k<nine.length:=by show r+k<9;omega
 rw[List.getD_eq_getElem?_getD,getElem?_eq_getElem this];rfl
def strip (t:Addr)(H:Hp):Hp:=fun b=>if b=t then none else H b
theorem vG {t b:Addr}{H:Hp}{o:HO}(n:b≠t)(h:H b=some o):strip t H b=some o:=by
 unfold strip;rw[if_neg n,h]
theorem Zt (t:Addr)(H:Hp):aq (strip t H) H:=fun b o h=>by
 unfold strip at h
 by_cases e:b=t
 ·rw[if_pos e]at h;exact nomatch h
 ·rwa [if_neg e]at h
theorem oF {t:Addr}{H H':Hp}(s:aq H H'):aq (strip t H) (strip t H'):=fun b o h=>by
 unfold strip at *
 by_cases e:b=t
 ·rw[if_pos e]at h;exact nomatch h
 ·rw[if_neg e] at *;exact s _ _ h
theorem Wo (t:Addr)(H:Hp)(o:HO):strip t (upd H t o)=strip t H:=by
 funext b
 unfold strip
 by_cases e:b=t
 ·rw[if_pos e,if_pos e]
 ·rw[if_neg e,if_neg e,ak e]
theorem kx.strip {t:Addr}{H:Hp}{xs:List V}(h:H t=some (.lst xs)):∀{ys:List V} {ss:List Sg},kx H ys ss->kx (strip t H) ys ss:=fun g=>cA (fun y s=>by
 rintro⟨p,e1,e2⟩;exact⟨p,e1,vG (fun e=>by rw[e,h]at e2;exact nomatch e2) e2⟩) g
structure EI (r pn:Nat)(nsx:List Str)(vw:Vw):Prop where
 n:vw.map (·.1)=nsx
 p:∀(j:Nat) q,vw[j]? = some q->j<pn->∃ ss,q.2=.pl ss
 g:∀ q∈vw,(∃ ss,q.2=.pl ss/\ss.length<=24/\∀ s∈ss,iY s)\/(∃ c lt sl tn,c<pn/\q.2=.cn (De r c) lt sl tn/\(0<=lt/\lt<=999/\1<=sl/\sl<=9))
theorem EI.plus {r pn:Nat}{nsx:List Str}{vw:Vw}(h:EI r pn nsx vw){n:Str}{ss:List Sg}(hs:ss.length<=24)(hg:∀ s∈ss,iY s):EI r pn (nsx++[n]) (vw++[(n,.pl ss)]) where
 n:=by rw[map_append,h.n];rfl
 p:=fun j q e hj=>by
  by_cases hlt:j<vw.length
  ·rw[getElem?_append_left hlt]at e;exact h.p j q e hj
  ·have:q∈[(n,Th.pl ss)]:=by
    rw[List.getElem?_append_right (by omega)]at e;exact mem_of_getElem? e
   rw[mem_singleton.mp this];exact⟨ss,rfl⟩
 g:=fun q hq=>by
  rcases mem_append.mp hq with hq|hq
  ·exact h.g q hq
  ·rw[mem_singleton.mp hq];exact .inl ⟨ss,rfl,hs,hg⟩
theorem EI.more {r pn:Nat}{nsx:List Str}{vw:Vw}(h:EI r pn nsx vw){n:Str}{c:Nat}{lt sl:Int}{tn:Bool}(hl:pn<=vw.length)(hc:c<pn)(hk:(0<=lt/\lt<=999/\1<=sl/\sl<=9)):EI r pn (nsx++[n]) (vw++[(n,.cn (De r c) lt sl tn)]) where
 n:=by rw[map_append,h.n];rfl
 p:=fun j q e hj=>by
  rw[getElem?_append_left (by omega)]at e;exact h.p j q e hj
 g:=fun q hq=>by
  rcases mem_append.mp hq with hq|hq
  ·exact h.g q hq
  ·rw[mem_singleton.mp hq];exact .inr ⟨c,lt,sl,tn,hc,rfl,hk⟩
theorem EI.ok {r pn m x:Nat}{vw:Vw}(h:EI r pn ((List.range m).map (De r)++(List.range x).map Zs) vw)(hr:r<5)(hm:m<6)(hx:x=0\/x=7)(hp:pn<=m):Fd vw:=by
 have h1:=all_eq_true.mp (all_eq_true.mp aeS r (mem_range.mpr hr)) m (mem_range.mpr hm);rw[Bool.and_eq_true,decide_eq_true_eq,all_eq_true]at h1;have sub:List.Sublist ((List.range m).map (De r)++(List.range x).map Zs) ((List.range m).map (De r)++(List.range 7).map Zs):=by
  rcases hx with rfl|rfl
  ·exact List.Sublist.append_left (List.nil_sublist _) _
  ·exact List.Sublist.refl _
 have nd:(vw.map (·.1)).Nodup:=by rw[h.n];exact sub.nodup h1.1
 have vl:vw.length=m+x:=by
  have:=congrArg List.length h.n;rw[length_map,length_append,length_map,length_map,length_range,length_range]at this;exact this
 have ld:∀(i:Nat) n ld lt sl tn,vw[i]? = some (n,Th.cn ld lt sl tn)->(∃ ss,(ld,Th.pl ss)∈vw.take i)/\(0<=lt/\lt<=999/\1<=sl/\sl<=9):=by
  intro i n ld lt sl tn e;have hi:¬ i<pn:=fun hi=>by
   obtain⟨ss,hss⟩:=h.p i _ e hi;exact nomatch hss
  rcases h.g _ (mem_of_getElem? e) with ⟨ss,hss,_⟩|⟨c,lt',sl',tn',hc,hcn,hk⟩
  ·exact nomatch hss
  ·have hcn:Th.cn ld lt sl tn=Th.cn (De r c) lt' sl' tn':=hcn
   injection hcn with e1 e2 e3 e4
   subst e1 e2 e3 e4;refine⟨?_,hk⟩;have hcl:c<vw.length:=by omega
   obtain⟨ss,hss⟩:=h.p c _ (getElem?_eq_getElem hcl) hc;have hn:(vw[c]).1=De r c:=by
    have e5:(vw.map (·.1))[c]? = some (vw[c]).1:=by rw[getElem?_map,getElem?_eq_getElem hcl];rfl
    rw[h.n,getElem?_append_left (by rw[length_map,length_range];omega),getElem?_map,List.getElem?_range (by omega)]at e5;exact(Option.some.inj e5).symm
   refine⟨ss,?_⟩;have e6:(vw.take i)[c]? = some (De r c,Th.pl ss):=by
    rw[List.getElem?_take_of_lt (by omega),getElem?_eq_getElem hcl];exact congrArg some (Prod.ext hn hss)
   exact mem_of_getElem? e6
 refine⟨⟨nd,fun n l lt sl tn hq=>?_,fun n ss hq=>?_,by omega⟩,fun q hq=>?_,fun i n l lt sl tn e=>(ld i n l lt sl tn e).1,fun n ss hq=>?_⟩
 ·obtain⟨i,e⟩:=getElem?_of_mem hq;obtain⟨⟨ss,hss⟩,hk⟩:=ld i n l lt sl tn e;exact⟨⟨ss,List.mem_of_mem_take hss⟩,hk⟩
 ·rcases h.g _ hq with ⟨ss',e,h2,h3⟩|⟨_,_,_,_,_,e,_⟩
  ·have e:Th.pl ss=Th.pl ss':=e
   injection e with e
   subst e;exact⟨by omega,h3⟩
  ·exact nomatch e
 ·have hn:q.1∈vw.map (·.1):=List.mem_map_of_mem hq;rw[h.n]at hn;have:=h1.2 _ (sub.mem hn);rw[Bool.and_eq_true,Bool.and_eq_true,Bool.not_eq_true',decide_eq_false_iff_not,decide_eq_true_eq]at this;exact⟨this.1.1,this.1.2,this.2⟩
 ·rcases h.g _ hq with ⟨ss',e,h2,h3⟩|⟨_,_,_,_,_,e,_⟩
  ·have e:Th.pl ss=Th.pl ss':=e
   injection e with e
   subst e;exact h2
  ·exact nomatch e
theorem ade {H:Hp}{t:Addr}{ys zs:List V}{vw:Vw}{p:Addr}{n:Str}{v:V}{th:Th}(ht:H t=some (.lst zs))(pv:Paired (FE (strip t H)) ys vw)(hp:H p=none)(hv:ThV (strip t H) v th):Paired (FE (strip t (upd H p (.tup [.str n,v])))) (ys++[.ref p]) (vw++[(n,th)]):=by
 have s:=aq.upd (o:=.tup [.str n,v]) hp;refine R8 (cA (fun _ _ q=>q.same (oF s)) pv) (.cons ⟨p,v,rfl,vG (fun e=>by rw[e,ht]at hp;exact nomatch hp) ag,hv.same (oF s)⟩ .nil)
theorem Zu {H H':Hp}{t:Addr}{o:HO}(s:aq H H')(n:H t=none):aq H (upd H' t o):=fun b u h=>by
 rw[ak (fun e=>by rw[e,n]at h;exact nomatch h)];exact s _ _ h
theorem yP {H H5:Hp}{t p m1:Addr}{ys ns:List V}{vw:Vw}{n:Str}{v:V}{th:Th}(s:aq H H5)(nt:H t=none)(ht:H5 t=some (.lst ys))(hm:H5 m1=some (.lst ns))(nm:m1≠t)(pv:Paired (FE (strip t H5)) ys vw)(hp:H5 p=none)(hv:ThV (strip t H5) v th):∀ H6,H6=upd (upd H5 p (.tup [.str n,v])) t (.lst (ys++[.ref p]))->aq H H6/\H6 m1=some (.lst ns)/\H6 t=some (.lst (ys++[.ref p]))/\Paired (FE (strip t H6)) (ys++[.ref p]) (vw++[(n,th)]):=by
 rintro H6 rfl;have s1:=s.trans (aq.upd (o:=.tup [.str n,v]) hp);refine⟨Zu s1 nt,?_,ag,?_⟩
 ·rw[ak nm];exact aq.upd hp _ _ hm
 ·rw[Wo];exact ade ht pv hp hv
theorem adf:(List.range 7).all (fun i=>match (Str.ofString "gfabcde").cps.toList[i]? with|some c=>decide ((Str.ofString "x")++(⟨#[c]⟩:Str)=Zs i)&&decide ((Str.ofString "x").length+(⟨#[c]⟩:Str).length<=1000)|none=>false)=true:=by lk
theorem aeT {i:Nat}(h:i<7):∃ c,(Str.ofString "gfabcde").cps.toList[i]? = some c/\(Str.ofString "x")++(⟨#[c]⟩:Str)=Zs i/\(Str.ofString "x").length+(⟨#[c]⟩:Str).length<=1000:=by
 have h1:=all_eq_true.mp adf i (mem_range.mpr h);cases e:(Str.ofString "gfabcde").cps.toList[i]? with
 |none=>rw[e]at h1;exact nomatch h1
 |some c =>
  rw[e]at h1;have h2:=Bool.and_eq_true_iff.mp h1;exact⟨c,rfl,of_decide_eq_true h2.1,of_decide_eq_true h2.2⟩
inductive A5 (K:Frag)(vs:List V)(H:Hp)(Q:VK)(E:XK):Prop
 |mk (a:Addr) (ns:List Int) (dC:vs=[.ref a]) (dD:aR K H a (ns.map V.int)) (eK:ns.length<=63) (jj:∀(l:Addr)(vw:Vw)(H':Hp),aq H H'->H l=none->uU H' l vw->Fd vw->Q (.ref l) H'):A5 K vs H Q E
theorem Ng (T:Txt K w mg t):bg P w K mg base fq (0+4) t.gx t.va ["_law_script"] (A5 K):=by
 have bE:=sL (P:=P) (base:=base) T;have xH:=HQ (P:=P) (base:=base) T;have Zv:=Wn (P:=P) (base:=base) T;have vF:=A3 (P:=P) (base:=base) T;refine T.lW.ok bx (fun vs H Q E h=>?_) (fun cdv A outer s H vs Q E hr h=>?_)
 ·obtain⟨_,_,rfl,_⟩:=h;rfl
 ·obtain⟨a,ns,rfl,hS,hl,q⟩:=h;obtain⟨uv,uw⟩:∃ v:List (Str×Pos),v=uW:=⟨_,rfl⟩;have hbody:av eL=Stmt.Assign [Expr.Name "_law_names" ⟨329,4,329,14⟩] (Expr.List (uv.map fun c=>Expr.Constant (.str c.1) 0 c.2) ⟨329,17,329,78⟩) ⟨329,4,329,78⟩::(av eL).drop 1:=by subst uw;rfl
  rw[hbody];refine aO (af (YM (i:=1) uv bx.nd rfl (Or.inl rfl)) (af (aL (i:=1) bx.nd rfl (Or.inl rfl) (P1 (US.or (Ys.or YG)) (pv 1) (xq (aI c7 (aI lH (ar bE (hr.mono (by decide)) rfl T.bI T.bh.kp T.bD .nil au (aa (pv 0) (aa aj ae))) aj) aj)) UQ)) (af (aL (i:=2) bx.nd rfl (Or.inl rfl) (aI c7 (ar bE (hr.mono (by decide)) rfl T.bI T.bh.kp T.bD .nil au (aa (pv 0) (aa aj ae))) aj)) (af (aL (i:=3) bx.nd rfl (Or.inl rfl) (b5 ae)) (af (fF PassesOwn.never rfl (kq rfl T.jO (aa (pv 2) ae)) (aF (i:=4) bx.nd rfl (Or.inr rfl)) (af (aL (i:=5) bx.nd rfl (Or.inl rfl) (aI c7 (ar xH (hr.mono (by decide)) rfl T.yH T.kQ.kp T.rq .nil au (aa (ar bE (hr.mono (by decide)) rfl T.bI T.bh.kp T.bD .nil au (aa (pv 0) (aa aj ae))) (aa (pv 4) ae))) aj)) (ai (aQ (dQ plainAttrs_list slot_list_append type_list_append aZ (pv 3) (aa (fG (aa (aW aN (pv 1) (pv 4) (fun _ _=>rfl)) (aa (P1 (US.or (Ys.or YG)) (ar Zv (hr.mono (by decide)) rfl T.Wf T.vm.kp T.Hw .nil au (aa (pv 0) (aa (aI (bp.or (aH.or bq)) aj (aI (l9.or ma) aj (pv 4))) (aa (pv 5) ae)))) UQ (xq aj)) ae))) ae)))))) (af (fF PassesOwn.never rfl (kq rfl T.jO (aa (aI (l9.or ma) (aI c7 (aI lH (ar bE (hr.mono (by decide)) rfl T.bI T.bh.kp T.bD .nil au (aa (pv 0) (aa aj ae))) aj) aj) (cE (nu.or fu) rfl T.yO yi (aa (bB PV (pv 2) aj (aA _)) ae))) ae)) (aF (i:=4) bx.nd rfl (Or.inr rfl)) (af (aL (i:=6) bx.nd rfl (Or.inl rfl) (ar bE (hr.mono (by decide)) rfl T.bI T.bh.kp T.bD .nil au (aa (pv 0) (aa (aI (bp.or (aH.or bq)) aj (pv 4)) ae)))) (af (aL (i:=7) bx.nd rfl (Or.inl rfl) (cI (eA (ay (bN.or (a0 (aM hr))) (aI c7 (pv 6) aj) aj (aA _)) (aI c7 (pv 6) aj) (aI c7 (aI lH (pv 6) aj) aj)))) (af (aL (i:=8) bx.nd rfl (Or.inl rfl) (aI (bp.or (aH.or bq)) aj (aI c7 (ar bE (hr.mono (by decide)) rfl T.bI T.bh.kp T.bD .nil au (aa (pv 0) (aa (aI (bp.or (aH.or bq)) aj (pv 4)) ae))) (aW aN (b5 (aa aj (aa aj ae))) (cE (nu.or fu) rfl T.yO yi (aa (bB PV (aI c7 (pv 6) aj) aj (aA _)) ae)) (fun _ _=>rfl))))) (af (aL (i:=9) bx.nd rfl (Or.inl rfl) (aW aN (pv 1) (aI c7 (ar bE (hr.mono (by decide)) rfl T.bI T.bh.kp T.bD .nil au (aa (pv 0) (aa (aI (bp.or (aH.or bq)) aj (pv 4)) ae))) (pv 2)) (fun _ _=>rfl))) (ai (aQ (dQ plainAttrs_list slot_list_append type_list_append aZ (pv 3) (aa (fG (aa (aW aN (pv 1) (aI (bp.or (aH.or bq)) (pv 2) (pv 4)) (fun _ _=>rfl)) (aa (fG (aa (pv 9) (aa (pv 7) (aa (pv 8) (aa (bB (bN.or (a0 (aM hr))) (aI c7 (aI lH (pv 6) aj) aj) aj (aA _)) ae))))) ae))) ae))))))))) (af (fF PassesOwn.never rfl (kq rfl T.jO (aa (aI (l9.or ma) aj (cE (nu.or fu) rfl T.yO yi (aa (bB (bN.or (a0 (aM hr))) (aI c7 (aI lH (ar bE (hr.mono (by decide)) rfl T.bI T.bh.kp T.bD .nil au (aa (pv 0) (aa aj ae))) aj) aj) aj (aA _)) ae))) ae)) (aF (i:=4) bx.nd rfl (Or.inr rfl)) (af (R5 (i:=10) bx.nd rfl rfl (cn:=["_law_j"]) rfl (cz.of rfl) (kq rfl T.jO (aa (aI (bp.or (aH.or bq)) (aI c7 (ar bE (hr.mono (by decide)) rfl T.bI T.bh.kp T.bD .nil au (aa (pv 0) (aa aj ae))) aj) aj) ae)) (fun _=>(aF (i:=0) Hk rfl (Or.inl rfl))) (fun _=>iC) (fun _=>(ar xH (hr.mono (by decide)) rfl T.yH T.kQ.kp T.rq .nil au (aa (ar bE (hr.mono (by decide)) rfl T.bI T.bh.kp T.bD .nil au (aa (pv 1) (aa aj ae))) (aa (aI (bp.or (aH.or bq)) (aI (bp.or (aH.or bq)) (aI (l9.or ma) aj (pv 5)) (pv 0)) aj) ae))))) (ai (aQ (dQ plainAttrs_list slot_list_append type_list_append aZ (pv 3) (aa (fG (aa (aI (bp.or (aH.or bq)) aY (aW aN aY (pv 4) (fun _ _=>rfl))) (aa (fX (cn:=["_law_number"]) rfl (cz.of rfl) (c5 (pv 10)) (fun _=>(aF (i:=0) Hl rfl (Or.inl rfl))) (fun _=>iC) (fun _=>(ar vF (hr.mono (by decide)) rfl T.AQ T.jg.kp T.pG .nil au (aa (pv 0) ae)))) ae))) ae)))))) (ai (ax (pv 3)))))))))) ?_;subst uw;refine yt fun N hN=>?_;refine⟨by show 9<=sizeLine;decide,fun m0 hm0=>?_⟩;have e9:(uW.map fun c=>V.str c.1)=nine.map V.str:=rfl;rw[e9];have s0:=aq.upd (o:=.lst (nine.map V.str)) hm0;have h0:=ag (H:=H) (a:=m0) (o:=.lst (nine.map V.str));generalize upd H m0 (.lst (nine.map V.str))=H0 at s0 h0;obtain⟨r,hr,hr5⟩:=V8 (gF ns 0 / 12) (k:=5) (by decide);obtain⟨pn,hpn,hp4⟩:=V8 (gF ns 0) (k:=4) (by decide);have hr5:r<5:=by omega
  have hp4:pn<4:=by omega
  refine hN _ _ ?_;refine yt fun N hN=>?_;tm_up;refine⟨a,ns,0,rfl,s0.seq hS,hl,?_⟩;tm_up;rw[hr];refine .inl ⟨m0,_,rfl,aR.of h0,fun m1 hm1=>?_⟩;rw[aaT _ r (by rw[length_map];show r<=9;omega)];have s1:=s0.trans (aq.upd (o:=.lst ((nine.map V.str).drop r)) hm1);have h1:=ag (H:=H0) (a:=m1) (o:=.lst ((nine.map V.str).drop r));generalize upd H0 m1 (.lst ((nine.map V.str).drop r))=H1 at s1 h1;have nms:∀ k,k<5->((nine.map V.str).drop r)[k]? = some (.str (De r k)):=fun k hk=>by
   rw[<-List.map_drop,getElem?_map,aa7 hr5 hk];rfl
  refine hN _ _ ?_;refine yt fun N hN=>?_;tm_up;refine⟨a,ns,0,rfl,s1.seq hS,hl,?_⟩;tm_up;rw[show V.int ((gF ns 0) % 4)=V.int (pn:Int) from congrArg V.int hpn];refine hN _ _ ?_;refine yt fun N hN=>?_;refine⟨big (by show 0<=1000;omega),fun tl htl=>?_⟩;have s2:=s1.trans (aq.upd (o:=.lst []) htl);have h2:=aq.upd (o:=.lst []) htl _ _ h1;have Zw:=ag (H:=H1) (a:=tl) (o:=.lst []);have ntm:m1≠tl:=ao h1 htl;have ntl:H tl=none:=s1.free htl;generalize upd H1 tl (.lst [])=H2 at s2 h2 Zw;have Vn:(2:Int) ^ 62=4611686018427387904:=by decide
  refine hN _ _ ?_;refine yt fun N hN=>?_;refine⟨_,rfl,(pn:Int),rfl,by rw[Vn];omega,by rw[Vn];omega,?_⟩;refine nr (n:=((pn:Int)).toNat) (fun i σ H'=>∃(u v:Option V)(ys:List V)(vw:Vw),σ=[some (.ref a),some (.ref m1),some (.int (pn:Int)),some (.ref tl),u,v,none,none,none,none,none]/\aq H H'/\H' m1=some (.lst ((nine.map V.str).drop r))/\H' tl=some (.lst ys)/\Paired (FE (strip tl H')) ys vw/\vw.length=i/\EI r pn ((List.range i).map (De r)) vw)
   ⟨none,none,[],[],rfl,s2,h2,Zw,.nil,rfl,⟨rfl,fun j q e=>by simp at e,fun q h=>nomatch h⟩⟩ ?_ ?_
  ·rintro i σ H3 hi ⟨u,v,ys,vw,rfl,s3,h3,ht3,pv3,vl,ei⟩;have hi4:i<4:=by omega
   have yl:=bL pv3;refine⟨_,rfl,a,ns,1,rfl,s3.seq hS,hl,?_⟩;refine⟨_,rfl,_,_,rfl,fun sz hsz0 hsz1=>?_⟩;obtain⟨m,hm,ajl⟩:=V8 sz (k:=13) (by decide);refine⟨_,_,rfl,rfl,(by decide:(0:Int)<13),?_⟩;rw[show V.int (sz % 13)=V.int (m:Int) from congrArg V.int hm];refine⟨_,rfl,.inl ⟨rfl,_,aR.of ht3⟩,?_⟩;refine⟨_,rfl,_,rfl,ixL (aR.of h3) (n:=i) (by omega) (nms i (by omega)) ?_⟩;tm_up;refine⟨.inl ⟨by decide,by decide⟩,?_⟩;refine .inl ⟨_,_,rfl,rfl,?_⟩;refine⟨_,rfl,?_⟩;refine⟨a,ns,8+18 * i,m,by show [V.ref a,V.int (8+18 * (0+(i:Int))),V.int (m:Int)]=_;rw[show(8:Int)+18 * (0+(i:Int))=((8+18 * i:Nat):Int) by omega],s3.seq hS,hl,by omega,fun l0 xs0 ss0 H4 s4 n4 h4 g4 gt4 adh=>?_⟩;tm_up;refine .inl ⟨l0,xs0,rfl,aR.of h4,fun l hl0=>?_⟩;rw[show GN xs0 none (some 24)=xs0.take 24 from aeH xs0 24];have ht4:=s4 _ _ ht3;have s5:=s4.trans (aq.upd (o:=.lst (xs0.take 24)) hl0);have nl:l≠tl:=fun e=>by rw[e,ht4]at hl0;exact nomatch hl0
   have h5:upd H4 l (.lst (xs0.take 24)) l=some (.lst (xs0.take 24)):=ag;have g5:kx (upd H4 l (.lst (xs0.take 24))) (xs0.take 24) (ss0.take 24):=kx.same (aq.upd (o:=.lst (xs0.take 24)) hl0) (Qi 24 g4);have gt5:∀ s∈ss0.take 24,iY s:=fun s hs=>gt4 s (List.mem_of_mem_take hs);have Zx:(ss0.take 24).length<=24:=by rw[length_take];omega
   generalize upd H4 l (.lst (xs0.take 24))=H5 at s5 h5 g5;generalize xs0.take 24=xs at h5 g5;generalize ss0.take 24=ss at g5 gt5 Zx;have ht5:=s5 _ _ ht3;tm_up;refine⟨big (by show 2<=1000;omega),fun p hp=>?_⟩;tm_up;have ht6:upd H5 p (.tup [.str (De r i),.ref l]) tl=some (.lst ys):=aq.upd hp _ _ ht5;refine⟨tl,ys,_,rfl,rfl,ht6,aK (by omega),?_⟩;obtain⟨s6,h6,t6,p6⟩:=yP (n:=De r i) (s3.trans s5) ntl ht5 (s5 _ _ h3) ntm (cA (fun _ _ q=>q.same (oF s5)) pv3) hp (th:=.pl ss) ⟨l,xs,rfl,vG nl h5,kx.strip ht5 g5⟩ _ rfl;exact⟨_,_,_,_,rfl,s6,h6,t6,p6,by rw[length_append,vl];rfl,by rw[List.range_succ,map_append];exact ei.plus Zx gt5⟩
  rintro σ H3 ⟨u,v,ys,vw,rfl,s3,h3,ht3,pv3,vl,ei⟩;rw[show((pn:Int)).toNat=pn by omega]at vl ei;refine hN _ _ ?_;refine yt fun N hN=>?_;tm_up;refine⟨a,ns,0,rfl,s3.seq hS,hl,?_⟩;tm_up;refine .inl (.inr ⟨_,rfl,?_⟩);obtain⟨cn,hcn,ajn,hcp⟩:∃ cn:Nat,(gF ns 0 / 4 % 3) * (if decide ((pn:Int) > 0)=true then 1 else 0)=(cn:Int)/\cn<=2/\(0<cn->0<pn):=by
   obtain⟨m,hm,hm3⟩:=V8 (gF ns 0 / 4) (k:=3) (by decide)
   by_cases h:(pn:Int) > 0
   ·exact⟨m,by rw[hm,if_pos (decide_eq_true h)];omega,by omega,by omega⟩
   ·exact⟨0,by rw[if_neg (by simpa using h)];omega,by omega,by omega⟩
  have b3:=Int.emod_lt_of_pos (gF ns 0 / 4) (show(0:Int)<3 by decide);have c3:=Int.emod_nonneg (gF ns 0 / 4) (show(3:Int)≠0 by decide);have p64:(2:Int) ^ 64=18446744073709551616:=by decide
  refine .inl ⟨_,_,rfl,rfl,.inl ⟨by rw[p64];omega,by rw[p64];omega⟩,?_⟩;rw[show V.int ((gF ns 0 / 4 % 3) * (if decide ((pn:Int) > 0)=true then 1 else 0))=V.int (cn:Int) from congrArg V.int hcn];refine⟨(cn:Int),rfl,by rw[Vn];omega,by rw[Vn];omega,?_⟩;refine nr (n:=((cn:Int)).toNat) (fun i σ H'=>∃(u v w1 w2 w3 w4:Option V)(ys:List V)(vw:Vw),σ=[some (.ref a),some (.ref m1),some (.int (pn:Int)),some (.ref tl),u,v,w1,w2,w3,w4,none]/\aq H H'/\H' m1=some (.lst ((nine.map V.str).drop r))/\H' tl=some (.lst ys)/\Paired (FE (strip tl H')) ys vw/\vw.length=pn+i/\EI r pn ((List.range (pn+i)).map (De r)) vw)
   ⟨_,_,_,_,_,_,_,_,rfl,s3,h3,ht3,pv3,vl,ei⟩ ?_ ?_
  ·rintro i σ H4 hi ⟨u,v,w1,w2,w3,w4,ys,vw,rfl,s4,h4,ht4,pv4,vl,ei⟩;have ajo:0<pn:=hcp (by omega);have yl:=bL pv4;tm_up;refine⟨a,ns,2+i,by show [V.ref a,V.int (2+(0+(i:Int)))]=_;rw[show(2:Int)+(0+(i:Int))=((2+i:Nat):Int) by omega],s4.seq hS,hl,?_⟩;generalize gF ns (2+i)=cl;refine⟨fun x H'=>H'=H4/\∃ lt:Int,x=.int lt/\0<=lt/\lt<=999,?_,?_⟩
   ·tm_up;show if decide (V.int (cl % 7)=V.int 5)=true then _ else _;cases decide (V.int (cl % 7)=V.int 5) with
    |true =>
     refine qi ?_;tm_up;exact⟨rfl,_,rfl,by have:=Int.emod_nonneg cl (show(1000:Int)≠0 by decide);omega,by have:=Int.emod_lt_of_pos cl (show(0:Int)<1000 by decide);omega⟩
    |false =>
     refine dR ?_;tm_up;exact⟨rfl,_,rfl,by have:=Int.emod_nonneg (cl / 7) (show(12:Int)≠0 by decide);omega,by have:=Int.emod_lt_of_pos (cl / 7) (show(0:Int)<12 by decide);omega⟩
   rintro _ H' ⟨e,lt,rfl,lt0,lt9⟩;rw[e];clear e H';tm_up;refine⟨a,ns,4+i,by show [V.ref a,V.int (4+(0+(i:Int)))]=_;rw[show(4:Int)+(0+(i:Int))=((4+i:Nat):Int) by omega],s4.seq hS,hl,?_⟩;generalize gF ns (4+i)=c4;tm_up;refine⟨big (by show 2<=1000;omega),fun q0 hq0=>?_⟩;have s5:=aq.upd (o:=.lst [V.int 9,V.int 2]) hq0;have hq5:=ag (H:=H4) (a:=q0) (o:=.lst [V.int 9,V.int 2]);generalize upd H4 q0 (.lst [V.int 9,V.int 2])=H5 at s5 hq5;tm_up;refine .inl (.inr ⟨_,rfl,?_⟩);obtain⟨n5,d5,e5,x5,d50,d59⟩:∃(n:Nat)(d:Int),(if decide (0<cl % 3)=true then(1:Int) else 0)=(n:Int)/\[V.int 9,V.int 2][n]? = some (.int d)/\0<d/\d<=9:=by
    by_cases h:0<cl % 3
    ·exact⟨1,2,by rw[if_pos (decide_eq_true h)];rfl,rfl,by decide,by decide⟩
    ·exact⟨0,9,by rw[if_neg (by simpa using h)];rfl,rfl,by decide,by decide⟩
   refine ixL (aR.of hq5) (n:=n5) e5 x5 ?_;tm_up;refine⟨d50,?_⟩;tm_up;obtain⟨sl,hsl⟩:∃ z,z=1+c4 % d5:=⟨_,rfl⟩;have sl1:1<=sl:=by have:=Int.emod_nonneg c4 (show d5≠0 by omega);omega
   have sl9:sl<=9:=by have:=Int.emod_lt_of_pos c4 d50;omega
   refine⟨a,ns,6+i,by show [V.ref a,V.int (6+(0+(i:Int)))]=_;rw[show(6:Int)+(0+(i:Int))=((6+i:Nat):Int) by omega],(s4.trans s5).seq hS,hl,?_⟩;generalize gF ns (6+i)=c6;obtain⟨c,hc,hcl⟩:=V8 c6 (k:=(pn:Int)) (by omega);tm_up;refine⟨(by omega:(0:Int)<(pn:Int)),?_⟩;refine ixL (aR.of (s5 _ _ h4)) (n:=c) hc (nms c (by omega)) ?_;tm_up;refine⟨.inl ⟨rfl,_,aR.of (s5 _ _ ht4)⟩,?_⟩;tm_up;refine ixL (aR.of (s5 _ _ h4)) (n:=pn+i) (by omega) (nms (pn+i) (by omega)) ?_;tm_up;refine⟨big (by show 4<=1000;omega),fun p0 hp0=>?_⟩;obtain⟨tn,htn⟩:∃ z,z=decide (V.int (cl / 84 % 2)=V.int 1):=⟨_,rfl⟩;have e6:upd H5 p0 (.tup [V.str (De r c),V.int lt,V.int (1+c4 % d5),V.bl (decide (V.int (cl / 84 % 2)=V.int 1))])=upd H5 p0 (.tup [V.str (De r c),V.int lt,V.int sl,V.bl tn]):=by rw[hsl,htn]
   have s6:=s5.trans (aq.upd (o:=.tup [V.str (De r c),V.int lt,V.int sl,V.bl tn]) hp0);have h6:=ag (H:=H5) (a:=p0) (o:=.tup [V.str (De r c),V.int lt,V.int sl,V.bl tn]);have np0:p0≠tl:=fun e=>by rw[e,s5 _ _ ht4]at hp0;exact nomatch hp0
   have go:∀ H6,H6=upd H5 p0 (.tup [V.str (De r c),V.int lt,V.int (1+c4 % d5),V.bl (decide (V.int (cl / 84 % 2)=V.int 1))])->aq H4 H6/\H6 p0=some (.tup [V.str (De r c),V.int lt,V.int sl,V.bl tn]):=by
    rintro H6 rfl;rw[e6];exact⟨s6,h6⟩
   clear s6 h6;generalize hH6:upd H5 p0 _=H6;obtain⟨s6,h6⟩:=go H6 hH6.symm;clear go e6;have ht6:=s6 _ _ ht4;tm_up;refine⟨big (by show 2<=1000;omega),fun p hp=>?_⟩;tm_up;have ht7:upd H6 p (.tup [.str (De r (pn+i)),.ref p0]) tl=some (.lst ys):=aq.upd hp _ _ ht6;refine⟨tl,ys,_,rfl,rfl,ht7,aK (by omega),?_⟩;obtain⟨s8,h8,t8,p8⟩:=yP (n:=De r (pn+i)) (s4.trans s6) ntl ht6 (s6 _ _ h4) ntm (cA (fun _ _ q=>q.same (oF s6)) pv4) hp (th:=.cn (De r c) lt sl tn) ⟨p0,rfl,vG np0 h6⟩ _ rfl;exact⟨_,_,_,_,_,_,_,_,rfl,s8,h8,t8,p8,by rw[length_append,vl];rfl,by rw[<-Nat.add_assoc,List.range_succ,map_append];exact ei.more (by omega) (by omega) ⟨lt0,lt9,sl1,sl9⟩⟩
  rintro σ H4 ⟨u,v,w1,w2,w3,w4,ys,vw,rfl,s4,h4,ht4,pv4,vl,ei⟩;rw[show((cn:Int)).toNat=cn by omega]at vl ei;refine hN _ _ ?_;refine yt fun N hN=>?_;tm_up;refine⟨a,ns,0,rfl,s4.seq hS,hl,?_⟩;tm_up;refine .inl (.inr ⟨_,rfl,?_⟩);obtain⟨xn,hxn,hx7⟩:∃ xn:Nat,7 * (if decide (V.int (gF ns 0 / 180 % 8)=V.int 1)=true then(1:Int) else 0)=(xn:Int)/\(xn=0\/xn=7):=by
   cases decide (V.int (gF ns 0 / 180 % 8)=V.int 1)
   ·exact⟨0,by rw[if_neg (by decide)];rfl,.inl rfl⟩
   ·exact⟨7,by rw[if_pos rfl];rfl,.inr rfl⟩
  refine .inl ⟨_,_,rfl,rfl,.inl ⟨by decide,by decide⟩,?_⟩;rw[show V.int (7 * (if decide ((fun i j:Int=>V.int (i % j)) (gF ns 0 / 180) 8=V.int 1)=true then 1 else 0))=V.int (xn:Int) from congrArg V.int hxn];refine⟨(xn:Int),rfl,by rw[Vn];omega,by rw[Vn];omega,?_⟩;refine nr (n:=((xn:Int)).toNat) (fun i σ H'=>∃(u v w1 w2 w3 w4 w5:Option V)(ys:List V)(vw:Vw),σ=[some (.ref a),some (.ref m1),some (.int (pn:Int)),some (.ref tl),u,v,w1,w2,w3,w4,w5]/\aq H H'/\H' m1=some (.lst ((nine.map V.str).drop r))/\H' tl=some (.lst ys)/\Paired (FE (strip tl H')) ys vw/\vw.length=pn+cn+i/\EI r pn ((List.range (pn+cn)).map (De r)++(List.range i).map Zs) vw)
   ⟨_,_,_,_,_,_,_,_,_,rfl,s4,h4,ht4,pv4,vl,by rw[show(List.range 0).map Zs=[] from rfl,append_nil];exact ei⟩ ?_ ?_
  ·rintro i σ H5 hi ⟨u,v,w1,w2,w3,w4,w5,ys,vw,rfl,s5,h5,ht5,pv5,vl,ei⟩;have hi7:i<7:=by omega
   have yl:=bL pv5;tm_up;refine⟨a,ns,6,rfl,s5.seq hS,hl,?_⟩;generalize gF ns 6=c6;obtain⟨jn,hjn,hj3⟩:=V8 c6 (k:=3) (by decide);tm_up;refine⟨by rw[Vn];omega,by rw[Vn];omega,fun D b hD=>?_⟩;refine GR (lo:=0) (n:=(c6 % 3+1).toNat) (fun j zs σ H'=>∃(x:Option V)(ms:List Int),σ=[x,some (.ref a),some (.ref m1),some (.int (pn:Int)),some (.ref tl),some (.int (0+(i:Int))),v,w1,w2,w3,w4,w5]/\H'=upd H5 D (.lst zs)/\zs=ms.map V.int/\ms.length=j) ⟨none,[],rfl,rfl,rfl,rfl⟩ ?_ ?_
   ·rintro j zs σ H' hj ⟨x,ms,rfl,rfl,rfl,hlen⟩ N hN;refine cH ?_;tm_up;refine⟨a,ns,1,rfl,dS (s5.seq hS) hD,hl,?_⟩;tm_up;refine⟨.inl ⟨by decide,by decide⟩,?_⟩;tm_up;refine⟨_,_,rfl,fun r h0 h1=>⟨ag,?_,?_⟩⟩
    ·rw[length_map];exact aK (by omega)
    ·exact hN _ _ _ ⟨some _,ms++[r],rfl,bZ,by simp,by simp[hlen]⟩
   ·rintro zs σ H' ⟨x,ms,rfl,rfl,rfl,hlen⟩;have s6:=aq.upd (o:=.lst (ms.map V.int)) hD;have h6:=ag (H:=H5) (a:=D) (o:=.lst (ms.map V.int));generalize upd H5 D (.lst (ms.map V.int))=H6 at s6 h6;have ht6:=s6 _ _ ht5;obtain⟨cx,hcx,ecx⟩:=aeT hi7;tm_up;refine⟨.inl ⟨rfl,_,aR.of ht6⟩,?_⟩;tm_up;refine .inr (.inr ⟨_,_,cx,rfl,rfl,big (by lk),?_,?_⟩)
    ·rw[show(0:Int)+(i:Int)=(i:Int) by omega];exact An hcx
    tm_up;refine .inr (.inl ⟨_,_,rfl,rfl,big ecx.2,?_⟩);rw[ecx.1];tm_up;refine⟨⟨_,aR.of h6⟩,fun D2 b2 hD2=>?_⟩;refine dH (K:=K) (xs:=ms.map V.int) (fun j zs σ H'=>∃(x:Option V)(ss:List Sg),σ=[x,some (.ref a),some (.ref m1),some (.int (pn:Int)),some (.ref tl),some (.int (0+(i:Int))),v,w1,w2,w3,w4,some (.ref D)]/\aq H6 H'/\H' D2=some (.lst zs)/\kx H' zs ss/\ss.length=j/\j<=ms.length/\∀ s∈ss,iY s)
     ⟨none,[],rfl,aq.upd hD2,ag,.nil,rfl,Nat.zero_le _,fun _ h=>nomatch h⟩ ?_ ?_ ?_
    ·rintro j zs σ H' ⟨x,ss,rfl,s7,_⟩;exact s7.seq (aR.of h6)
    ·rintro j zs x σ H' hx ⟨x2,ss,rfl,s7,SA,hsg,hsl,hj,hg⟩ N hN;have hjl:j<ms.length:=by
      have:=(List.getElem?_eq_some_iff.mp hx).1;rw[length_map]at this;exact this
     obtain⟨z,hz,rfl⟩:=CC hx;refine cH ?_;refine⟨_,rfl,z,rfl,fun p s gs hp=>⟨aq.upd hp _ _ SA,?_,?_⟩⟩
     ·rw[bL hsg,hsl];exact aK (by omega)
     ·have hD4:=aq.upd (o:=.tup [.str s.1.str,.int s.2]) hp _ _ SA;refine hN _ _ _ ⟨_,ss++[s],rfl,dU (s7.trans (aq.upd hp)) hD2,ag,lP (MG hD4 (hsg.same (aq.upd hp))) (Qj hD4 ⟨p,rfl,ag⟩),by simp[hsl],hjl,fun y hy=>?_⟩;rcases mem_append.mp hy with z|z
      ·exact hg y z
      ·have:y=s:=by simpa using z
       rw[this];exact gs
    ·rintro zs σ H7 ⟨x2,ss,rfl,s7,SA,hsg,hsl,hj,hg⟩;have ht7:=s7 _ _ ht6;have nD2:D2≠tl:=fun e=>by rw[e,ht6]at hD2;exact nomatch hD2
     have s57:=s6.trans s7;have ag2:ss.length<=24:=by rw[hsl,length_map];omega
     tm_up;refine⟨big (by show 2<=1000;omega),fun p hp=>?_⟩;tm_up;have ht8:upd H7 p (.tup [.str (Zs i),.ref D2]) tl=some (.lst ys):=aq.upd hp _ _ ht7;refine⟨tl,ys,_,rfl,rfl,ht8,aK (by omega),?_⟩;obtain⟨s8,h8,t8,p8⟩:=yP (n:=Zs i) (s5.trans s57) ntl ht7 (s57 _ _ h5) ntm (cA (fun _ _ q=>q.same (oF s57)) pv5) hp (th:=.pl ss) ⟨D2,zs,rfl,vG nD2 SA,kx.strip ht7 hsg⟩ _ rfl;exact⟨_,_,_,_,_,_,_,_,_,rfl,s8,h8,t8,p8,by rw[length_append,vl];rfl,by rw[List.range_succ,map_append,<-List.append_assoc];exact ei.plus ag2 hg⟩
  rintro σ H5 ⟨u,v,w1,w2,w3,w4,w5,ys,vw,rfl,s5,h5,ht5,pv5,vl,ei⟩;rw[show((xn:Int)).toNat=xn by omega]at vl ei;refine hN _ _ ?_;tm_up;exact q tl vw H5 s5 ntl ⟨ys,ht5,cA (fun _ _ q=>q.same (Zt tl H5)) pv5⟩ (ei.ok hr5 (by omega) hx7 (by omega))
inductive HR (vs:List V)(H:Hp)(Q:VK)(E:XK):Prop
 |mk (x:Str) (dC:vs=[.str x]) (dD:x.length<=1000) (eK:∀ H',aq H H'->Q (.bl (nameB x)) H'):HR vs H Q E
theorem SD (T:Txt K w mg t):bg P w K mg base fq (0+1) t.kF t.CU ["name"] HR:=by
 refine T.rA.ok Sl (fun vs H Q E h=>?_) (fun cdv A outer s H vs Q E hr h=>?_)
 ·obtain⟨_,rfl,_⟩:=h;rfl
 ·obtain⟨x,rfl,hx,q⟩:=h;refine aO (ai (ax (cI (jm (PX uL uL aj (aG (aD.or aE) rfl T.bS bR (aa (pv 0) ae)) (bF (v:=.int 8) rfl T.HN ⟨_,rfl⟩)) (jk (aG Y0 rfl T.ac8 acL (aa (fX (cn:=["letter"]) rfl (cz.of rfl) (acH (pv 0)) (fun _=>(aF (i:=0) MU rfl (Or.inl rfl))) (fun _=>iC) (fun _=>(bB (cF.or cD) (pv 0) (bF (v:=.str "abcdefghijklmnopqrstuvwxyz") rfl T.Wl ⟨_,rfl⟩) rfl))) ae))))))) ?_;have xb:x.length<=sizeLine:=Nat.le_trans hx (by decide);refine⟨fun v H'=>v=.bl (nameB x)/\aq H H',?_,fun _ _ ⟨e1,e2⟩=>by rw[e1];exact q _ e2⟩;unfold nameB;refine⟨_,rfl,.inr ⟨_,rfl,xb,_,_,rfl,rfl,_,rfl,?_⟩⟩;refine aT (fun h1=>?_) (fun h1=>?_)
  rotate_left
  ·have e1:decide (1<=x.length)=false:=decide_eq_false fun z=>h1 (decide_eq_true (by omega));rw[e1];exact⟨_,rfl,dR ⟨rfl,aq.refl _⟩⟩
  have e1:decide (1<=x.length)=true:=decide_eq_true (by have:=of_decide_eq_true h1;omega);rw[e1,Bool.true_and];refine⟨_,_,rfl,rfl,_,rfl,?_⟩;refine aT (fun h2=>?_) (fun h2=>?_)
  rotate_left
  ·have e2:decide (x.length<=8)=false:=decide_eq_false fun z=>h2 (decide_eq_true (by omega));rw[e2];exact⟨rfl,aq.refl _⟩
  have n2:x.length<=8:=by have:=of_decide_eq_true h2;omega
  have e2:decide (x.length<=8)=true:=decide_eq_true n2;rw[e2,Bool.true_and];refine⟨_,rfl,_,rfl,fun D b hD=>?_⟩;refine YT (fun i ys σ H'=>∃ v,σ=[v,some (.str x)]/\H'=upd H D (.lst ys)/\ys=((x.cps.toList.take i).map fun c=>X6 ⟨#[c]⟩ "abcdefghijklmnopqrstuvwxyz").map V.bl/\i<=x.cps.size) ⟨none,rfl,rfl,rfl,Nat.zero_le _⟩ ?_ ?_
  ·rintro i ys c σ H' hc ⟨v,rfl,rfl,rfl,hi⟩ N hN;have hi2:i<x.cps.size:=(Array.getElem?_eq_some_iff.mp hc).1;have hcm:x.cps.toList[i]? = some c:=by simpa using hc
   have sz:x.cps.size<=8:=n2;refine cH ?_;refine⟨_,rfl,.inr ⟨_,_,rfl,rfl,ag,?_,?_⟩⟩
   ·rw[length_map,length_map,length_take];exact aK (by omega)
   ·refine hN _ _ _ ⟨_,rfl,bZ,?_,hi2⟩;rw[take_succ,hcm,map_append,map_append];rfl
  ·rintro ys σ H' ⟨v,rfl,rfl,rfl,hi⟩;refine⟨rfl,D,_,rfl,aR.of ag,?_,aq.upd hD⟩;rw[show x.cps.size=x.cps.toList.length from rfl,take_length];refine congrArg V.bl ?_;rw[List.all_map];rfl
inductive x6 (c:Cs)(vs:List V)(H:Hp)(Q:VK)(E:XK):Prop
 |mk (x:Addr) (F:Addr->Prop) (vw:Vw) (ps fs:List Vw) (dC:vs=[.ref x]) (dD:Cv c H x F vw ps fs) (eK:∀(l:Addr)(H':Hp),H l=none->aq H H'->H' l=some (.lst (vw.map fun a=>V.str a.1))->Q (.ref l) H'):x6 c vs H Q E
theorem lN (T:Txt K w mg t):bg P w K mg base fq (0+1) t.dW t.si ["self"] (x6 (cs t)):=by
 refine T.nh.ok Kj (fun vs H Q E h=>?_) (fun cdv A outer s H vs Q E hr h=>?_)
 ·obtain⟨_,_,_,_,_,rfl,_⟩:=h;rfl
 ·obtain⟨x,F,vw,ps,fs,rfl,B,q⟩:=h;refine aO (ai (ax (fX (cn:=["voice"]) rfl (cz.of rfl) (c5 (bG (pv 0) rfl)) (fun _=>(aF (i:=0) FH rfl (Or.inl rfl))) (fun _=>iC) (fun _=>(bG (pv 0) rfl))))) ?_;obtain⟨L,D,U,all,M,Ps,Fs,es,us,b,i,pp,pf,f⟩:=B.ex;obtain⟨dx,hx⟩:=b.hx;obtain⟨vx,g,gv⟩:=b.yu i;have hL:=b.hL;have xl:=bL g;have vl:=bL gv;have ln:=(b.wf M (.inr (.inl rfl))).len;have hn:=ac5 gv fun _ _ r=>r.2.1;refine⟨_,rfl,x,_,dx,_,_,rfl,hx,T.aJ,T.bj,iG _ _ _,L,rfl,⟨_,aR.of hL⟩,fun D' b' hD'=>?_⟩;refine dH (K:=K) (xs:=M L) (fun i ys σ H'=>∃ v,σ=[v,some (.ref x)]/\H'=upd H D' (.lst ys)/\ys=(vx.take i).map fun a=>V.str a.n) ⟨none,rfl,rfl,by simp⟩ ?_ ?_ ?_
  ·rintro i ys σ H' ⟨v,rfl,rfl,_⟩;exact dS (aR.of hL) hD'
  ·rintro i ys y σ H' hy ⟨v,rfl,rfl,rfl⟩ N hN;obtain⟨a,e1,rfl,ha⟩:=qY g hy;have hi:i<vx.length:=(List.getElem?_eq_some_iff.mp e1).1;refine cH ?_;refine⟨_,rfl,a.o,_,a.d,_,_,rfl,by rw[ak (ao ha hD')];exact ha,T.fm,T.eh,Qn _ _ _,ag,?_,?_⟩
   ·rw[length_map,length_take];exact aK (by omega)
   ·refine hN _ _ _ ⟨_,rfl,bZ,?_⟩;rw[take_succ,e1];simp
  ·rintro ys σ H' ⟨v,rfl,rfl,rfl⟩;rw[xl,take_length,hn];exact q D' _ hD' (aq.upd hD') ag
theorem Zy {x:Str}{l:List V}(h:inV (.str x) l=true):V.str x∈l:=by
 unfold inV at h;obtain⟨y,hy,e⟩:=any_eq_true.mp h;cases y with
 |str z =>
  have:z=x:=by simpa [UT] using e
  rw[<-this];exact hy
 |_=>simp[UT]at e
theorem SE {x:Str}{l:List V}(h:V.str x∈l):inV (.str x) l=true:=by
 unfold inV;exact any_eq_true.mpr ⟨_,h,by simp[UT]⟩
def mq (vw:Vw)(n:Str):Option Rf:=if nameB n=false then some .Vf else if(a5 vw n).isSome then some .LL else if 12<=vw.length then some .Full else none
theorem Fl {vw:Vw}{n:Str}(h:mq vw n=none):nameB n=true/\a5 vw n=none/\vw.length<12:=by
 unfold mq at h;split at h
 ·cases h
 ·next h1 =>
  split at h
  ·cases h
  ·next h2 =>
   split at h
   ·cases h
   ·next h3=>exact⟨by simpa using h1,by cases e:a5 vw n with|none=>rfl|some _=>rw[e]at h2;exact absurd rfl h2,by omega⟩
inductive oG (c:Cs)(vs:List V)(H:Hp)(Q:VK)(E:XK):Prop
 |mk (x:Addr) (F:Addr->Prop) (vw:Vw) (ps fs:List Vw) (n:Str) (dC:vs=[.ref x,.str n]) (dD:Cv c H x F vw ps fs) (eK:n.length<=1000) (jj:match mq vw n with
 |some r=>∀ H',aq H H'->RX E c r H'
 |none=>∀ H',aq H H'->Q .non H'):oG c vs H Q E
theorem oH (T:Txt K w mg t):bg P w K mg base fq (0+2) t.bO t.jw ["self","name"] (oG (cs t)):=by
 have Wq:=SD (P:=P) (base:=base) T;have d7:=lN (P:=P) (base:=base) T;refine T.gf.ok yw (fun vs H Q E h=>?_) (fun cdv A outer s H vs Q E hr h=>?_)
 ·obtain⟨_,_,_,_,_,_,rfl,_⟩:=h;rfl
 ·obtain⟨x,F,vw,ps,fs,n,rfl,B,hlen,q⟩:=h;refine aO (af (aV (cM (aX (ar Wq (hr.mono (by decide)) rfl T.Ss T.rA.kp T.C4 .nil au (aa (pv 1) ae)))) (ai eB) aC) (af (aV (ay (cF.or cD) (pv 1) (gm (pv 0) T.aJ T.ic d7 (hr.mono (by decide)) T.e8 .nil au) rfl) (ai eB) aC) (ai (aV (ay abD (aG (aD.or aE) rfl T.bS bR (aa (bG (pv 0) rfl) ae)) (bF (v:=.int 12) rfl T.Kr ⟨_,rfl⟩) (aA _)) (ai eB) aC)))) ?_;refine⟨_,rfl,n,rfl,hlen,fun H1 s1=>?_⟩;unfold mq at q;refine⟨_,rfl,?_⟩;cases hnb:nameB n with
  |false =>
   rw[if_pos hnb]at q;have q:=q H1 s1;exact qi (Bool.noConfusion (show false=true from q.1))
  |true =>
   rw[if_neg (by rw[hnb];decide)]at q;refine dR ?_;have B1:=B.same s1;obtain⟨L,D,U,all,M,Ps,Fs,es,us,b,i,pp,pf,f⟩:=B1.ex;obtain⟨dx,hx⟩:=b.hx;refine⟨_,rfl,_,rfl,x,dx,_,rfl,hx,jr _ _ _,?_⟩;refine⟨x,F,vw,ps,fs,rfl,B1,fun l H2 hl s2 hl2=>?_⟩;refine .inl ⟨l,_,rfl,.inl (aR.of hl2),rfl,?_,_,rfl,?_⟩
   ·rw[List.all_map];exact all_eq_true.mpr fun _ _=>rfl
   have mem:inV (.str n) (vw.map fun a=>V.str a.1)=true ↔ (a5 vw n).isSome=true:=by
    constructor
    ·intro h;obtain⟨a,ha,e⟩:=mem_map.mp (Zy h);cases e2:a5 vw n with
     |some _=>rfl
     |none=>exact absurd (V.str.inj e) (rY e2 a ha)
    ·intro h;cases e2:a5 vw n with
     |none=>rw[e2]at h;cases h
     |some th=>exact SE (mem_map.mpr ⟨_,bT e2,rfl⟩)
   refine aT (fun h=>?_) (fun h=>?_)
   ·rw[if_pos (mem.mp h)]at q;have q:=q H2 (s1.trans s2);exact(Bool.noConfusion (show false=true from q.1))
   rw[if_neg (fun z=>h (mem.mpr z))]at q;refine⟨_,rfl,x,_,dx,_,_,rfl,s2 _ _ hx,T.aJ,T.bj,iG _ _ _,?_⟩;refine .inl ⟨L,M L,rfl,.inl (aR.of (s2 _ _ b.hL)),?_⟩;refine⟨_,_,rfl,rfl,_,rfl,?_⟩;have ll:=bL i;refine aT (fun h=>?_) (fun h=>?_)
   ·have h':=of_decide_eq_true h;rw[if_pos (by omega)]at q;have q:=q H2 (s1.trans s2);exact(Bool.noConfusion (show false=true from q.1))
   ·rw[if_neg (fun z=>h (decide_eq_true (by omega)))]at q;exact q _ (s1.trans s2)
inductive HS (C:Addr)(vs:List V)(H:Hp)(Q:VK)(E:XK):Prop
 |mk (x dx T_ B A:Addr) (i:Nat) (xs bs as:List V) (dC:vs=[.ref x]) (dD:H x=some (.ins C dx (LH T_ (i:Int) B A))) (eK:H T_=some (.lst xs)) (jj:H B=some (.lst bs)) (pb:H A=some (.lst as)) (RH:T_≠A) (h6_:i+bs.length<=xs.length) (h7_:xs.length+as.length<=1000) (h8_:Q .non (upd H T_ (.lst (xs.take i++as++xs.drop (i+bs.length))))):HS C vs H Q E
theorem HU (T:Txt K w mg t):bg P w K mg base fq (0+1) t.jf t.CW ["self"] (HS t.bc):=by
 refine T.xE.ok Sm (fun vs H Q E h=>?_) (fun cdv A outer s H vs Q E hr h=>?_)
 ·obtain⟨_,_,_,_,_,_,_,_,_,rfl,_⟩:=h;rfl
 ·obtain⟨x,dx,T_,B,A_,i,xs,bs,as,rfl,hx,hT,hB,hA,hne,hi,hz,q⟩:=h;refine aO (ai (g6 (bG (pv 0) rfl) (Qe (bG (pv 0) rfl) (xq (bG (pv 0) rfl)) (xq (aI (bp.or (aH.or bq)) (bG (pv 0) rfl) (aG (aD.or aE) rfl T.bS bR (aa (bG (pv 0) rfl) ae))))))) ?_;refine⟨_,rfl,x,_,dx,_,_,rfl,hx,T.d6,T.en,LI _ _ _ _,?_⟩;refine⟨_,rfl,x,_,dx,_,_,rfl,hx,T.d6,T.dA,G2 _ _ _ _,?_⟩;refine⟨_,rfl,x,_,dx,_,_,rfl,hx,T.d6,T.fg,MJ _ _ _ _,_,rfl,?_⟩;refine⟨_,rfl,x,_,dx,_,_,rfl,hx,T.d6,T.fg,MJ _ _ _ _,?_⟩;refine⟨_,rfl,x,_,dx,_,_,rfl,hx,T.d6,T.dB,G3 _ _ _ _,?_⟩;refine .inl ⟨B,bs,rfl,.inl (aR.of hB),.inl ⟨_,_,rfl,rfl,_,rfl,?_⟩⟩;refine⟨T_,A_,xs,as,(i:Int),((i+bs.length:Nat):Int),rfl,rfl,rfl,by simp,hT,hA,hne,by omega,by omega,by omega,Nat.le_trans hz (by decide),?_⟩;rw[Int.toNat_natCast,Int.toNat_natCast];exact q
inductive uy (CB CD:Addr)(vs:List V)(H:Hp)(Q:VK)(E:XK):Prop
 |mk (x dx L D U d dd T_ B A:Addr) (i:Nat) (ds us xs bs as:List V) (dC:vs=[.ref x,.ref d]) (dD:H x=some (.ins CB dx (Aj L D U))) (eK:H D=some (.lst ds)) (jj:H U=some (.lst us)) (pb:H d=some (.ins CD dd (LH T_ (i:Int) B A))) (RH:H T_=some (.lst xs)) (h6_:H B=some (.lst bs)) (h7_:H A=some (.lst as)) (h8_:T_≠A) (h9_:T_≠D) (ag3:T_≠U) (ajw:D≠U) (ajx:i+bs.length<=xs.length) (ajy:xs.length+as.length<=1000) (ajz:ds.length<=900) (ajA:Q .non (upd (upd (upd H T_ (.lst (xs.take i++as++xs.drop (i+bs.length)))) D (.lst (ds++[.ref d]))) U (.lst []))):uy CB CD vs H Q E
theorem mr (T:Txt K w mg t):bg P w K mg base fq (0+2) t.cN t.og ["self","deed"] (uy t.aU t.bc):=by
 have Df:=HU (P:=P) (base:=base) T;refine T.jE.ok FF (fun vs H Q E h=>?_) (fun cdv A outer s H vs Q E hr h=>?_)
 ·obtain⟨_,_,_,_,_,_,_,_,_,_,_,_,_,_,_,_,rfl,_⟩:=h;rfl
 ·obtain⟨x,dx,L,D,U,d,dd,T_,B,A_,i,ds,us,xs,bs,as,rfl,hx,hD,hU,hd,hT,hB,hA,n1,n2,n3,n4,hi,hz,hds,q⟩:=h;refine aO (af (aQ (gm (pv 1) T.d6 T.Hy Df (hr.mono (by decide)) T.xF .nil au)) (af (aQ (dQ plainAttrs_list slot_list_append type_list_append aZ (bG (pv 0) rfl) (aa (pv 1) ae))) (ai (aQ (Mx plainAttrs_list PySem.F.slot_list_clear PySem.F.type_list_clear YA (bG (pv 0) rfl)))))) ?_;have xT:x≠T_:=uG hx hT (by intro z;cases z);have xD:x≠D:=uG hx hD (by intro z;cases z);refine⟨_,rfl,d,dd,_,rfl,hd,LJ _ _ _ _,?_⟩;refine⟨d,dd,T_,B,A_,i,xs,bs,as,rfl,hd,hT,hB,hA,n1,hi,hz,?_⟩;refine⟨_,rfl,x,_,dx,_,_,rfl,by rw[ak xT];exact hx,T.aJ,T.c9,Az _ _ _,?_⟩;refine⟨.inl ⟨rfl,_,aR.of (show upd H T_ _ D=some (.lst ds) by rw[ak (Ne.symm n2)];exact hD)⟩,_,rfl,D,_,_,rfl,rfl,by rw[ak (Ne.symm n2)];exact hD,aK (by omega),?_⟩;refine⟨_,rfl,x,_,dx,_,_,rfl,by rw[ak xD,ak xT];exact hx,T.aJ,T.cq,rW _ _ _,?_⟩;have hU2:upd (upd H T_ (.lst (xs.take i++as++xs.drop (i+bs.length)))) D (.lst (ds++[.ref d])) U=some (.lst us):=by rw[ak (Ne.symm n4),ak (Ne.symm n3)];exact hU
  exact⟨.inl ⟨rfl,_,aR.of hU2⟩,U,_,rfl,rfl,hU2,q⟩
inductive A6 (C:Addr)(vs:List V)(H:Hp)(Q:VK)(E:XK):Prop
 |mk (x dx:Addr) (T_:Addr) (i:Int) (B A:Addr) (dC:vs=[.ref x,.ref T_,.int i,.ref B,.ref A]) (dD:H x=some (.ins C dx [])) (eK:Q .non (upd H x (.ins C dx (LH T_ i B A)))):A6 C vs H Q E
theorem kS (T:Txt K w mg t):bg P w K mg base fq (0+1) t.cv t.mf ["self","things","at","before","after"] (A6 t.bc):=by
 refine T.iu.ok CO (fun vs H Q E h=>?_) (fun cdv A outer s H vs Q E hr h=>?_)
 ·obtain⟨_,_,_,_,_,_,rfl,_⟩:=h;rfl
 ·obtain⟨x,dx,T_,i,B,A_,rfl,hx,q⟩:=h;refine aO (af (qh (pv 0) (pv 1) rfl) (af (qh (pv 0) (pv 2) rfl) (af (qh (pv 0) (pv 3) rfl) (ai (qh (pv 0) (pv 4) rfl))))) ?_;refine⟨_,rfl,_,rfl,x,_,dx,_,rfl,hx,T.d6,T.dA,by show 0<1000;decide,?_⟩;refine⟨_,rfl,_,rfl,x,_,dx,_,rfl,ag,T.d6,T.fg,by rw[GB];show 1<1000;decide,?_⟩;refine⟨_,rfl,_,rfl,x,_,dx,_,rfl,ag,T.d6,T.dB,by rw[GB,MK];show 2<1000;decide,?_⟩;refine⟨_,rfl,_,rfl,x,_,dx,_,rfl,ag,T.d6,T.en,by rw[GB,MK,Vd];show 3<1000;decide,?_⟩;rw[GB,MK,Vd,aaV];simp only [bZ];exact q
inductive vH (c:Cs)(vs:List V)(H:Hp)(Q:VK)(E:XK):Prop
 |mk (x dx L D U v:Addr) (xs ds us:List V) (dC:vs=[.ref x,.ref v]) (dD:H x=some (.ins c.B dx (Aj L D U))) (eK:H L=some (.lst xs)) (jj:H D=some (.lst ds)) (pb:H U=some (.lst us)) (RH:L≠D) (h6_:L≠U) (h7_:D≠U) (h8_:xs.length<=12) (h9_:ds.length<=900) (ag3:∀(e:Dd)(H1 H':Hp),e.T=L->e.i=xs.length->e.bs=[]->e.as=[.ref v]->aq H H1->H e.B=none->H e.A=none->lR c.D H1 (.ref e.o) e->(∀ y o,H1 y=some o->y≠L->y≠D->y≠U->H' y=some o)->H' L=some (.lst (xs++[.ref v]))->H' D=some (.lst (ds++[.ref e.o]))->H' U=some (.lst [])->Q .non H'):vH c vs H Q E
theorem vI (T:Txt K w mg t):bg P w K mg base fq (0+3) t.df t.qr ["self","voice"] (vH (cs t)):=by
 have gG:=mr (P:=P) (base:=base) T;have fo:=kS (P:=P) (base:=base) T;refine T.lL.ok Hf (fun vs H Q E h=>?_) (fun cdv A outer s H vs Q E hr h=>?_)
 ·obtain⟨_,_,_,_,_,_,_,_,_,rfl,_⟩:=h;rfl
 ·obtain⟨x,dx,L,D,U,v,xs,ds,us,rfl,hx,hL,hD,hU,n1,n2,n3,hxs,hds,q⟩:=h;refine aO (ai (aQ (a8 (pv 0) T.aJ T.mj gG (hr.mono (by decide)) T.gD .nil au (aa (Al T.Nd fo (hr.mono (by decide)) rfl T.Nc T.fk .nil au (aa (bG (pv 0) rfl) (aa (aG (aD.or aE) rfl T.bS bR (aa (bG (pv 0) rfl) ae)) (aa (b5 ae) (aa (b5 (aa (pv 1) ae)) ae))))) ae)))) ?_;refine⟨_,rfl,x,dx,_,rfl,hx,nZ _ _ _,?_⟩;refine⟨_,rfl,x,_,dx,_,_,rfl,hx,T.aJ,T.bj,iG _ _ _,?_⟩;refine⟨_,rfl,x,_,dx,_,_,rfl,hx,T.aJ,T.bj,iG _ _ _,?_⟩;refine .inl ⟨L,xs,rfl,.inl (aR.of hL),?_⟩;refine⟨big (by show 0<=1000;omega),fun B hB=>?_⟩;refine⟨_,rfl,big (by show 1<=1000;omega),fun A_ hA=>?_⟩;have hA0:=MP hA;have LA:L≠A_:=ao (aq.upd (o:=.lst []) hB _ _ hL) hA;have sB:=(aq.upd (o:=.lst []) hB).trans (aq.upd (o:=.lst [V.ref v]) hA);have hB2:=aq.upd (o:=.lst [V.ref v]) hA _ _ (ag (H:=H) (a:=B) (o:=.lst []));have Zz:=ag (H:=upd H B (.lst [])) (a:=A_) (o:=.lst [V.ref v]);generalize upd (upd H B (.lst [])) A_ (.lst [V.ref v])=H2 at sB hB2 Zz;intro d dd nd ndd ne;refine⟨d,dd,L,(xs.length:Int),B,A_,rfl,ag,rfl,?_⟩;rw[bZ];have s3:aq H2 (upd (upd H2 dd (.own d)) d (.ins t.bc dd (LH L (xs.length:Int) B A_))):=fun y o hy=>by
   rw[ak (ao hy nd),ak (ao hy ndd)];exact hy
  have V3:=ag (H:=upd H2 dd (.own d)) (a:=d) (o:=.ins t.bc dd (LH L (xs.length:Int) B A_));generalize upd (upd H2 dd (.own d)) d (.ins t.bc dd (LH L (xs.length:Int) B A_))=H3 at s3 V3;have s4:=sB.trans s3;refine⟨x,dx,L,D,U,d,dd,L,B,A_,xs.length,ds,us,xs,[],[.ref v],rfl,s4 _ _ hx,s4 _ _ hD,s4 _ _ hU,V3,s4 _ _ hL,s3 _ _ hB2,s3 _ _ Zz,LA,n1,n2,n3,by simp,by simp;omega,hds,?_⟩;refine q ⟨d,dd,L,xs.length,B,A_,[],[.ref v]⟩ H3 _ rfl rfl rfl rfl s4 hB hA0 ⟨rfl,V3,s3 _ _ hB2,s3 _ _ Zz⟩ (fun y o hy y1 y2 y3=>?_) ?_ ?_ ag
  ·rw[ak y3,ak y2,ak y1];exact hy
  ·rw[ak n2,ak n1,ag];simp
  ·rw[ak n3,ag]
inductive x8 (C:Addr)(vs:List V)(H:Hp)(Q:VK)(E:XK):Prop
 |mk (x dx:Addr) (n:Str) (tm:V) (dC:vs=[.ref x,.str n,tm]) (dD:H x=some (.ins C dx [])) (eK:∀(L:Addr)(H':Hp),(∀ y o,H y=some o->y≠x->H' y=some o)->H L=none->L≠x->H' x=some (.ins C dx (voF n tm L))->H' L=some (.lst [])->Q .non H'):x8 C vs H Q E
theorem pS (T:Txt K w mg t):bg P w K mg base fq (0+1) t.bU t.kG ["self","name","terms"] (x8 t.cL):=by
 refine T.gQ.ok AF (fun vs H Q E h=>?_) (fun cdv A outer s H vs Q E hr h=>?_)
 ·obtain⟨_,_,_,_,rfl,_⟩:=h;rfl
 ·obtain⟨x,dx,n,tm,rfl,hx,q⟩:=h;refine aO (af (qh (pv 0) (pv 1) rfl) (af (qh (pv 0) (pv 2) rfl) (ai (qh (pv 0) (b5 ae) rfl)))) ?_;refine⟨_,rfl,_,rfl,x,_,dx,_,rfl,hx,T.fm,T.eh,by show 0<1000;decide,?_⟩;refine⟨_,rfl,_,rfl,x,_,dx,_,rfl,ag,T.fm,T.cm,by rw[MI];show 1<1000;decide,?_⟩;refine⟨big (by show 0<=1000;omega),fun L hL=>?_⟩;rw[bZ]at hL;have nx:x≠L:=fun e=>by rw[<-e,ag]at hL;cases hL
  have hL0:H L=none:=by rw[ak (Ne.symm nx)]at hL;exact hL
  refine⟨_,rfl,x,_,dx,_,rfl,by rw[ak nx,bZ];exact ag,T.fm,T.cR,by rw[MI,Vc];show 2<1000;decide,?_⟩;rw[MI,Vc,aaU];simp only [bZ];refine q L _ (fun y o hy ny=>?_) hL0 (Ne.symm nx) ag ?_
  ·rw[ak ny,ak (ao hy hL0),ak ny];exact hy
  ·rw[ak (Ne.symm nx)];exact ag
inductive pT (c:Cs)(vs:List V)(H:Hp)(Q:VK)(E:XK):Prop
 |mk (x:Addr) (F:Addr->Prop) (vw:Vw) (ps fs:List Vw) (n:Str) (dC:vs=[.ref x,.str n]) (dD:Cv c H x F vw ps fs) (eK:n.length<=1000) (jj:ps.length<=900) (pb:match mq vw n with
 |some r=>∀ H',aq H H'->RX E c r H'
 |none=>∀ F' H',Gr F F' H->Fr F H H'->Cv c H' x F' (vw++[(n,.pl [])]) (ps++[vw]) []->Q .non H'):pT c vs H Q E
theorem pV (T:Txt K w mg t):bg P w K mg base fq (0+4) t.bV t.kH ["self","name"] (pT (cs t)):=by
 have jP:=oH (P:=P) (base:=base) T;have qz:=vI (P:=P) (base:=base) T;have kU:=pS (P:=P) (base:=base) T;refine T.gS.ok AG (fun vs H Q E h=>?_) (fun cdv A outer s H vs Q E hr h=>?_)
 ·obtain⟨_,_,_,_,_,_,rfl,_⟩:=h;rfl
 ·obtain⟨x,F,vw,ps,fs,n,rfl,B,hlen,hps,q⟩:=h;refine aO (af (aQ (a8 (pv 0) T.aJ T.oy jP (hr.mono (by decide)) T.gh .nil au (aa (pv 1) ae))) (ai (aQ (a8 (pv 0) T.aJ T.vo qz (hr.mono (by decide)) T.lM .nil au (aa (Al T.QB kU (hr.mono (by decide)) rfl T.QA T.gR .nil au (aa (pv 1) (aa uH ae))) ae))))) ?_;obtain⟨L,D,U,all,M,Ps,Fs,es,us,b,i,pp,pf,f⟩:=B.ex;obtain⟨dx,hx⟩:=b.hx;refine⟨_,rfl,x,dx,_,rfl,hx,pA _ _ _,_,rfl,x,F,vw,ps,fs,n,rfl,B,hlen,?_⟩;cases ho:mq vw n with
  |some r =>
   rw[ho]at q;intro H' s';have q:=q H' s';exact(Bool.noConfusion (show false=true from q.1))
  |none =>
   rw[ho]at q;obtain⟨_,hf,adk⟩:=Fl ho;intro H1 s1;have b1:=b.kept f (.same s1);obtain⟨ds,hD,pD⟩:=b1.hD;obtain⟨ux,hU,pU⟩:=b1.hU;have ll:=bL i;have dl:=bL pD;have pl:=bL pp;have pe:=b.past.len;refine⟨_,rfl,x,dx,_,rfl,s1 _ _ hx,xY _ _ _,_,rfl,?_⟩;intro v dv nv ndv ne;refine⟨v,dv,n,.non,rfl,ag,fun l H2 kp hl hlv hv2 hl2=>⟨rfl,?_⟩⟩;have s2:aq H1 H2:=fun y o hy=>kp y o (by rw[ak (ao hy nv),ak (ao hy ndv)];exact hy) (ao hy nv);have hl1:H1 l=none:=G9 hl;refine⟨x,dx,L,D,U,v,M L,ds,ux,rfl,s2 _ _ (s1 _ _ hx),s2 _ _ b1.hL,s2 _ _ hD,s2 _ _ hU,b.LD,b.LU,b.DU,by omega,by omega,fun e H3 H' eT ei eb ea s3 nB nA hd fr hL' hD' hU'=>?_⟩;obtain⟨F',g,fr',B'⟩:=Bk.added b1 (Is.kept (F:=F) (.same s1) i) (cA (fun _ _ q=>Is.kept (F:=F) (.same s1) q) pp) f B.wv (a:=⟨v,dv,n,.non,l⟩) (th:=.pl []) s2 nv hl1 hv2 hl2 (fun M' h0=>⟨rfl,by rw[h0];exact .nil⟩) ((B.wv vw (.inr (.inl rfl))).aeM (rY hf) adk) eT ei eb ea s3 nB nA hd hD pD fr hL' hD' hU';exact q F' H' (g.old s1) (fun y o hy hn=>fr' y o (s1 y o hy) hn) B'
inductive A7 (C:Addr)(vs:List V)(H:Hp)(Q:VK)(E:XK):Prop
 |mk (x dx T_ B A:Addr) (i:Nat) (xs bs as:List V) (dC:vs=[.ref x]) (dD:H x=some (.ins C dx (LH T_ (i:Int) B A))) (eK:H T_=some (.lst xs)) (jj:H B=some (.lst bs)) (pb:H A=some (.lst as)) (RH:T_≠B) (h6_:i+as.length<=xs.length) (h7_:xs.length+bs.length<=1000) (h8_:Q .non (upd H T_ (.lst (xs.take i++bs++xs.drop (i+as.length))))):A7 C vs H Q E
theorem sM (T:Txt K w mg t):bg P w K mg base fq (0+1) t.eM t.vb ["self"] (A7 t.bc):=by
 refine T.pH.ok MS (fun vs H Q E h=>?_) (fun cdv A outer s H vs Q E hr h=>?_)
 ·obtain⟨_,_,_,_,_,_,_,_,_,rfl,_⟩:=h;rfl
 ·obtain⟨x,dx,T_,B,A_,i,xs,bs,as,rfl,hx,hT,hB,hA,hne,hi,hz,q⟩:=h;refine aO (ai (g6 (bG (pv 0) rfl) (Qe (bG (pv 0) rfl) (xq (bG (pv 0) rfl)) (xq (aI (bp.or (aH.or bq)) (bG (pv 0) rfl) (aG (aD.or aE) rfl T.bS bR (aa (bG (pv 0) rfl) ae))))))) ?_;refine⟨_,rfl,x,_,dx,_,_,rfl,hx,T.d6,T.dB,G3 _ _ _ _,?_⟩;refine⟨_,rfl,x,_,dx,_,_,rfl,hx,T.d6,T.dA,G2 _ _ _ _,?_⟩;refine⟨_,rfl,x,_,dx,_,_,rfl,hx,T.d6,T.fg,MJ _ _ _ _,_,rfl,?_⟩;refine⟨_,rfl,x,_,dx,_,_,rfl,hx,T.d6,T.fg,MJ _ _ _ _,?_⟩;refine⟨_,rfl,x,_,dx,_,_,rfl,hx,T.d6,T.en,LI _ _ _ _,?_⟩;refine .inl ⟨A_,as,rfl,.inl (aR.of hA),.inl ⟨_,_,rfl,rfl,_,rfl,?_⟩⟩;refine⟨T_,B,xs,bs,(i:Int),((i+as.length:Nat):Int),rfl,rfl,rfl,by simp,hT,hB,hne,by omega,by omega,by omega,Nat.le_trans hz (by decide),?_⟩;rw[Int.toNat_natCast,Int.toNat_natCast];exact q
inductive A8 (c:Cs)(vs:List V)(H:Hp)(Q:VK)(E:XK):Prop
 |mk (x:Addr) (F:Addr->Prop) (vw:Vw) (ps fs:List Vw) (dC:vs=[.ref x]) (dD:Cv c H x F vw ps fs) (eK:ps.length+fs.length<=900) (jj:(ps=[]->∀ H',aq H H'->RX E c .Si H')) (pb:(∀ Ki v,ps=Ki++[v]->∀ H',Fr F H H'->Cv c H' x F v Ki (fs++[vw])->Q .non H')):A8 c vs H Q E
theorem A9 (T:Txt K w mg t):bg P w K mg base fq (0+2) t.eN t.vc ["self"] (A8 (cs t)):=by
 have vJ:=sM (P:=P) (base:=base) T;refine T.pI.ok AH (fun vs H Q E h=>?_) (fun cdv A outer s H vs Q E hr h=>?_)
 ·obtain⟨_,_,_,_,_,rfl,_⟩:=h;rfl
 ·obtain⟨x,F,vw,ps,fs,rfl,B,hps,q1,q2⟩:=h;refine aO (af (aV (ay (R6 (aM hr)) (bG (pv 0) rfl) (b5 ae) (aA _)) (ai eB) aC) (af (aL (i:=1) AH.nd rfl (Or.inl rfl) (Mx plainAttrs_list slot_list_pop type_list_pop Yy (bG (pv 0) rfl))) (af (aQ (gm (pv 1) T.d6 T.M0 vJ (hr.mono (by decide)) T.vp .nil au)) (ai (aQ (dQ plainAttrs_list slot_list_append type_list_append aZ (bG (pv 0) rfl) (aa (pv 1) ae))))))) ?_;obtain⟨L,D,U,all,M,Ps,Fs,es,us,b,iM,pp,pf,f⟩:=B.ex;obtain⟨dx,hx⟩:=b.hx;obtain⟨ds,hD,pD⟩:=b.hD;have dl:=bL pD;have pl:=bL pp;have pe:=b.past.len;refine⟨_,rfl,x,_,dx,_,_,rfl,hx,T.aJ,T.c9,Az _ _ _,big (by show 0<=1000;omega),fun e0 he0=>?_⟩;have s0:=aq.upd (o:=.lst []) he0;refine⟨D,e0,ds,rfl,rfl,aR.of (s0 _ _ hD),aR.of ag,_,rfl,?_⟩;generalize upd H e0 (.lst [])=H0 at s0;refine aT (fun h=>?_) (fun h=>?_)
  ·have hds:ds=[]:=List.isEmpty_iff.mp h;rw[hds]at dl;have hp0:ps=[]:=List.length_eq_zero_iff.mp (by rw[<-pl,pe,<-dl];rfl);have q:=q1 hp0 H0 s0;exact(Bool.noConfusion (show false=true from q.1))
  have hne:ds≠[]:=fun z=>h (by rw[z];rfl);obtain⟨ds0,v,rfl⟩:∃ ds0 v,ds=ds0++[v]:=⟨ds.dropLast,ds.getLast hne,(List.dropLast_concat_getLast hne).symm⟩;obtain⟨es0,e,he,pD0,hd⟩:=G4 pD;have hvo:=hd.1;subst hvo;have B0:=B.same s0;have b0:=b.kept f (.same s0);have hd0:lR t.bc H0 (.ref e.o) e:=gJ (F:=fun _=>True) (.same s0) ⟨trivial,trivial⟩ hd;have ok:=b.dd e (.inl (by rw[he];exact mem_append_right _ (List.mem_singleton_self _)));obtain⟨hT,TD,TU⟩:=b0.lists ok.1;have nTB:e.T≠e.B:=by
   rcases ok.1 with z|⟨a,ha,z⟩
   ·rw[z];exact Ne.symm ok.2.1.1
   ·rw[z];exact Ne.symm (ok.2.1.2.2.2 a ha)
  obtain⟨Ps0,S,_,_,ft,hMS⟩:=(he ▸ b.past).last;have fit:e.i+e.as.length<=(M e.T).length:=by rw[hMS];exact aaY ft
  have hx0:=s0 _ _ hx;have Sf:=s0 _ _ hD;obtain⟨ux,PM,pU⟩:=b0.hU;have ag6:(M e.T).length<=200:=by
   rcases ok.1 with z|⟨a,ha,z⟩
   ·rw[z];exact Nat.le_trans (b.wf M (.inr (.inl rfl))).len (by decide)
   ·rw[z];exact((b.wf M (.inr (.inl rfl))).ln a ha).1
  refine⟨_,rfl,x,_,dx,_,_,rfl,hx0,T.aJ,T.c9,Az _ _ _,?_⟩;refine⟨.inl ⟨rfl,_,aR.of Sf⟩,D,ds0++[V.ref e.o],V.ref e.o,rfl,rfl,Sf,by simp,?_⟩;rw[List.dropLast_concat];have nD:∀{y C d fs},H0 y=some (.ins C d fs)->y≠D:=fun hy=>uG hy Sf (by intro z;cases z);have nT:∀{y C d fs},H0 y=some (.ins C d fs)->y≠e.T:=fun hy=>uG hy hT (by intro z;cases z);have r1:∀{y o},H0 y=some o->y≠D->upd H0 D (.lst ds0) y=some o:=fun hy hn=>by rw[ak hn];exact hy
  refine⟨_,rfl,e.o,e.d,_,rfl,r1 hd0.2.1 (nD hd0.2.1),Qo _ _ _ _,?_⟩;refine⟨e.o,e.d,e.T,e.B,e.A,e.i,M e.T,e.bs,e.as,rfl,r1 hd0.2.1 (nD hd0.2.1),r1 hT TD,r1 hd0.2.2.1 ok.2.1.2.1,r1 hd0.2.2.2 ok.2.2.1.2.1,nTB,fit,by have:=ok.2.2.2.1;omega,?_⟩;have r2:∀{y o},H0 y=some o->y≠D->y≠e.T->upd (upd H0 D (.lst ds0)) e.T (.lst ((M e.T).take e.i++e.bs++(M e.T).drop (e.i+e.as.length))) y=some o:=fun hy hn hn'=>by rw[ak hn',ak hn];exact hy
  refine⟨_,rfl,x,_,dx,_,_,rfl,r2 hx0 (nD hx0) (nT hx0),T.aJ,T.cq,rW _ _ _,?_⟩;have hU1:=r2 PM (Ne.symm b.DU) (Ne.symm TU);have ul:=bL pU;have fl:=bL pf;have fe:=b.fut.len;refine⟨.inl ⟨rfl,_,aR.of hU1⟩,_,rfl,U,_,_,rfl,rfl,hU1,aK (by omega),?_⟩;obtain⟨Ki,v,e1,B2⟩:=Bk.ac1 b0 (Is.kept (F:=F) (.same s0) iM) (cA (fun _ _ q=>Is.kept (F:=F) (.same s0) q) pp) (cA (fun _ _ q=>Is.kept (F:=F) (.same s0) q) pf) f B.wv he (qp (fun _ e' _ q=>gJ (F:=fun _=>True) (.same s0) ⟨trivial,trivial⟩ q) pD0) hd0 pU
   (H2:=upd (upd (upd H0 D (.lst ds0)) e.T (.lst ((M e.T).take e.i++e.bs++(M e.T).drop (e.i+e.as.length)))) U (.lst (ux++[.ref e.o]))) (fun y o hy y1 y2 y3=>by rw[ak y3];exact r2 hy y2 y1) (by rw[ak TU,ag];exact congrArg (fun z=>some (HO.lst z)) gp.symm) (by rw[ak b.DU,ak (Ne.symm TD),ag]) ag
  refine q2 Ki v e1 _ (fun y o hy hn=>?_) B2;have fT:F e.T:=by
   rcases ok.1 with z|⟨a,ha,z⟩
   ·rw[z];exact f.L
   ·rw[z];exact f.l a ha
  rw[ak (show y≠U from fun z=>hn (z ▸ f.U))];exact r2 (s0 _ _ hy) (fun z=>hn (z ▸ f.D)) (fun z=>hn (z ▸ fT))
inductive l3 (c:Cs)(vs:List V)(H:Hp)(Q:VK)(E:XK):Prop
 |mk (x dx L D U:Addr) (xs:List V) (vx:List Vx) (n:Str) (dC:vs=[.ref x,.str n]) (dD:H x=some (.ins c.B dx (Aj L D U))) (eK:H L=some (.lst xs)) (jj:Paired (aaX c.V H) xs vx) (pb:match vx.find? (fun a=>decide (a.n=n)) with
 |none=>RX E c .m9 H
 |some a=>Q (.ref a.o) H):l3 c vs H Q E
theorem Wr {vx:List Vx}{n:Str}:∀{i:Nat},(∀ j a,j<i->vx[j]? = some a->a.n≠n)->∀{b},vx[i]? = some b->b.n=n->vx.find? (fun a=>decide (a.n=n))=some b:=by
 induction vx with
 |nil=>intro i _ b h;simp at h
 |cons v vs ih =>
  intro i hi b hb he;cases i with
  |zero =>
   simp at hb;subst hb;exact List.find?_cons_of_pos (decide_eq_true he)
  |succ i =>
   have h0:=hi 0 v (by omega) rfl;have h1:(v::vs).find? (fun a=>decide (a.n=n))=vs.find? (fun a=>decide (a.n=n)):=List.find?_cons_of_neg (fun z=>h0 (of_decide_eq_true z));rw[h1];exact ih (i:=i) (fun j a hj ha=>hi (j+1) a (Nat.succ_lt_succ hj) (by simpa using ha)) (by simpa using hb) he
theorem cS (T:Txt K w mg t):bg P w K mg base fq (0+1) t.bo t.g8 ["self","name"] (l3 (cs t)):=by
 refine T.eo.ok lT (fun vs H Q E h=>?_) (fun cdv A outer s H vs Q E hr h=>?_)
 ·obtain⟨_,_,_,_,_,_,_,_,rfl,_⟩:=h;rfl
 ·obtain⟨x,dx,L,D,U,xs,vx,n,rfl,hx,hL,g,q⟩:=h;refine aO (af (fF PassesOwn.never rfl (c5 (bG (pv 0) rfl)) (aF (i:=2) lT.nd rfl (Or.inl rfl)) (ai (aV (ay (bN.or (a0 (aM hr))) (bG (pv 2) rfl) (pv 1) (aA _)) (ai (ax (pv 2))) aC))) (ai eB)) ?_;have xl:=bL g;refine⟨_,rfl,x,_,dx,_,_,rfl,hx,T.aJ,T.bj,iG _ _ _,L,rfl,⟨_,aR.of hL⟩,nS (K:=K) (xs:=xs) (fun i σ H'=>∃ v,σ=[some (.ref x),some (.str n),v]/\H'=H/\∀ j a,j<i->vx[j]? = some a->a.n≠n) ⟨none,rfl,rfl,fun j a hj=>by omega⟩ ?_ ?_ ?_⟩
  ·rintro i σ H1 _ ⟨v,rfl,eH,_⟩;rw[eH];exact aR.of hL
  ·rintro i y σ H1 hy ⟨v,rfl,eH,hi⟩;have eH:=eH.symm;subst eH;obtain⟨b,e1,rfl,hb⟩:=qY g hy;refine⟨_,rfl,b.o,_,b.d,_,_,rfl,hb,T.fm,T.eh,Qn _ _ _,?_⟩;refine⟨_,rfl,.inl ⟨rfl,_,rfl,?_⟩⟩;refine aT (fun h=>?_) (fun h=>?_)
   ·have e:b.n=n:=V.str.inj (of_decide_eq_true h);rw[Wr hi e1 e]at q;exact⟨_,rfl,q⟩
   ·refine⟨_,rfl,rfl,fun j a hj ha=>?_⟩;rcases Nat.lt_or_ge j i with z|z
    ·exact hi j a z ha
    ·have hij:j=i:=by omega
     rw[hij,e1]at ha;cases ha;exact fun z=>h (decide_eq_true (congrArg V.str z))
  ·rintro σ H1 ⟨v,rfl,eH,hi⟩;have eH:=eH.symm;subst eH;have hn:vx.find? (fun a=>decide (a.n=n))=none:=List.find?_eq_none.mpr fun a ha z=>by
    obtain⟨j,hj⟩:=getElem?_of_mem ha;have hjl:j<vx.length:=(List.getElem?_eq_some_iff.mp hj).1;exact hi j a (by omega) hj (of_decide_eq_true z)
   rw[hn]at q;exact(Bool.noConfusion (show false=true from q.1))
inductive mX (c:Cs)(vs:List V)(H:Hp)(Q:VK)(E:XK):Prop
 |mk (x dx L D U:Addr) (xs:List V) (vx:List Vx) (n:Str) (dC:vs=[.ref x,.str n]) (dD:H x=some (.ins c.B dx (Aj L D U))) (eK:H L=some (.lst xs)) (jj:Paired (aaX c.V H) xs vx) (pb:match vx.find? (fun a=>decide (a.n=n)) with
 |none=>RX E c .m9 H
 |some a=>(a.tm=.non->Q (.ref a.o) H)/\(∀ p,a.tm=.ref p->RX E c .AA H)/\(a.tm=.non\/∃ p,a.tm=.ref p)):mX c vs H Q E
theorem mY (T:Txt K w mg t):bg P w K mg base fq (0+2) t.bC t.iH ["self","name"] (mX (cs t)):=by
 have a9:=cS (P:=P) (base:=base) T;refine T.fb.ok mV (fun vs H Q E h=>?_) (fun cdv A outer s H vs Q E hr h=>?_)
 ·obtain⟨_,_,_,_,_,_,_,_,rfl,_⟩:=h;rfl
 ·obtain⟨x,dx,L,D,U,xs,vx,n,rfl,hx,hL,g,q⟩:=h;refine aO (af (aL (i:=2) mV.nd rfl (Or.inl rfl) (a8 (pv 0) T.aJ T.cQ a9 (hr.mono (by decide)) T.bM .nil au (aa (pv 1) ae))) (af (aV (ay Mt (bG (pv 2) rfl) uH (aA _)) (ai eB) aC) (ai (ax (pv 2))))) ?_;refine⟨_,rfl,x,dx,_,rfl,hx,c0 _ _ _,_,rfl,x,dx,L,D,U,xs,vx,n,rfl,hx,hL,g,?_⟩;cases hf:vx.find? (fun a=>decide (a.n=n)) with
  |none =>
   rw[hf]at q;exact(Bool.noConfusion (show false=true from q.1))
  |some a =>
   rw[hf]at q;obtain⟨q1,q2,q3⟩:=q;obtain⟨j,hj⟩:=getElem?_of_mem (List.mem_of_find?_eq_some hf);obtain⟨v,hv,rfl,ha⟩:=Av g hj;refine⟨_,rfl,a.o,_,a.d,_,_,rfl,ha,T.fm,T.cm,xu _ _ _,?_⟩;rcases q3 with e|⟨p,e⟩
   ·rw[e];refine⟨rfl,_,rfl,?_⟩;exact aT (fun h=>absurd h (by decide)) (fun _=>⟨_,rfl,q1 e⟩)
   ·have q:=q2 p e;rw[e];refine⟨rfl,_,rfl,?_⟩;exact aT (fun _=>(Bool.noConfusion (show false=true from q.1))) (fun h=>absurd (show(!decide (V.ref p=V.non))=true by rw[decide_eq_false (fun z=>nomatch z)];rfl) h)
def qA (lt sl:Int):Prop:=0<=lt/\lt<=999/\1<=sl/\sl<=9
instance (lt sl:Int):Decidable (qA lt sl):=by unfold qA;exact inferInstance
inductive pW (c:Cs)(vs:List V)(H:Hp)(Q:VK)(E:XK):Prop
 |mk (x:Addr) (F:Addr->Prop) (vw:Vw) (ps fs:List Vw) (n ld:Str) (lt sl:Int) (tn:Bool) (dC:vs=[.ref x,.str n,.str ld,.int lt,.int sl,.bl tn]) (dD:Cv c H x F vw ps fs) (eK:n.length<=1000) (jj:ps.length<=900) (pb:match mq vw n with
 |some r=>∀ H',aq H H'->RX E c r H'
 |none=>match a5 vw ld with
  |none=>∀ H',aq H H'->RX E c .m9 H'
  |some (.cn _ _ _ _)=>∀ H',aq H H'->RX E c .AA H'
  |some (.pl _)=>(¬ qA lt sl->∀ H',aq H H'->RX E c .Vg H')/\(qA lt sl->∀ F' H',Gr F F' H->Fr F H H'->Cv c H' x F' (vw++[(n,.cn ld lt sl tn)]) (ps++[vw]) []->Q .non H')):pW c vs H Q E
theorem Ba (T:Txt K w mg t):bg P w K mg base fq (0+4) t.bW t.gP ["self","name","leader","later","slow","is_turned"] (pW (cs t)):=by
 have jP:=oH (P:=P) (base:=base) T;have iP:=mY (P:=P) (base:=base) T;have qz:=vI (P:=P) (base:=base) T;have kU:=pS (P:=P) (base:=base) T;refine T.eG.ok AI (fun vs H Q E h=>?_) (fun cdv A outer s H vs Q E hr h=>?_)
 ·obtain⟨_,_,_,_,_,_,_,_,_,_,rfl,_⟩:=h;rfl
 ·obtain⟨x,F,vw,ps,fs,n,ld,lt,sl,tn,rfl,B,hlen,hps,q⟩:=h;refine aO (af (aQ (a8 (pv 0) T.aJ T.oy jP (hr.mono (by decide)) T.gh .nil au (aa (pv 1) ae))) (af (aQ (a8 (pv 0) T.aJ T.mW iP (hr.mono (by decide)) T.fc .nil au (aa (pv 2) ae))) (af (aV (cM (cf (PW.pt (dG (Ak uL uL aj (pv 3) (bF (v:=.int 999) rfl T.Zr ⟨_,rfl⟩)) (fW (Ak uL uL aj (pv 4) (bF (v:=.int 9) rfl T.Wm ⟨_,rfl⟩))))))) (ai eB) aC) (ai (aQ (a8 (pv 0) T.aJ T.vo qz (hr.mono (by decide)) T.lM .nil au (aa (Al T.QB kU (hr.mono (by decide)) rfl T.QA T.gR .nil au (aa (pv 1) (aa (fG (aa (pv 2) (aa (pv 3) (aa (pv 4) (aa (pv 5) ae))))) ae))) ae))))))) ?_;obtain⟨L,D,U,all,M,Ps,Fs,es,us,b,i,pp,pf,f⟩:=B.ex;obtain⟨dx,hx⟩:=b.hx;have wv:=B.wv vw (.inr (.inl rfl));refine⟨_,rfl,x,dx,_,rfl,hx,pA _ _ _,_,rfl,x,F,vw,ps,fs,n,rfl,B,hlen,?_⟩;cases ho:mq vw n with
  |some r =>
   rw[ho]at q;intro H' s';have q:=q H' s';exact(Bool.noConfusion (show false=true from q.1))
  |none =>
   rw[ho]at q;obtain⟨_,hf,adk⟩:=Fl ho;intro H1 s1;have b1:=b.kept f (.same s1);have i1:Is H1 L all M vw:=Is.kept (F:=F) (.same s1) i;obtain⟨vx,g,gv⟩:=b1.yu i1;have hx1:=s1 _ _ hx;refine⟨_,rfl,x,dx,_,rfl,hx1,n0 _ _ _,_,rfl,x,dx,L,D,U,M L,vx,ld,rfl,hx1,b1.hL,g,?_⟩;rcases LN gv (fun _ _ r=>r.2.1) ld with ⟨f1,f2⟩|⟨a,th,j,f1,f2,r,an,fj,fw⟩
   ·rw[f1];rw[f2]at q;have q:=q H1 s1;exact(Bool.noConfusion (show false=true from q.1))
   rw[f1];rw[f2]at q;cases th with
   |cn ld2 lt2 sl2 tn2 =>
    obtain⟨pt,hpt,_⟩:=r.2.2;have q:=q H1 s1;refine⟨(fun z=>by rw[hpt]at z;cases z),(fun _ _=>(Bool.noConfusion (show false=true from q.1))),.inr ⟨pt,hpt⟩⟩
   |pl ss =>
    obtain⟨htm,hg⟩:=r.2.2;obtain⟨q1,q2⟩:=q;refine⟨fun _=>?_,(fun pz z=>by rw[htm]at z;cases z),.inl htm⟩;refine⟨fun bb H'=>bb=decide (qA lt sl)/\H'=H1,?_,?_⟩
    ·refine⟨_,rfl,_,_,rfl,rfl,_,rfl,?_⟩;refine aT (fun h1=>?_) (fun h1=>?_)
     rotate_left
     ·have e:decide (qA lt sl)=false:=decide_eq_false fun z=>h1 (decide_eq_true z.1);rw[e];exact⟨_,rfl,dR ⟨rfl,rfl⟩⟩
     refine⟨_,_,rfl,rfl,_,rfl,?_⟩;refine aT (fun h2=>?_) (fun h2=>?_)
     rotate_left
     ·have e:decide (qA lt sl)=false:=decide_eq_false fun z=>h2 (decide_eq_true z.2.1);rw[e];exact⟨rfl,rfl⟩
     refine⟨_,rfl,_,_,rfl,rfl,_,rfl,?_⟩;refine aT (fun h3=>?_) (fun h3=>?_)
     rotate_left
     ·have e:decide (qA lt sl)=false:=decide_eq_false fun z=>h3 (decide_eq_true z.2.2.1);rw[e];exact⟨_,rfl,rfl,rfl⟩
     refine⟨_,_,rfl,rfl,_,rfl,?_,rfl⟩;refine decide_eq_decide.mpr ⟨fun z=>⟨of_decide_eq_true h1,of_decide_eq_true h2,of_decide_eq_true h3,z⟩,fun z=>z.2.2.2⟩
    intro bb H1' ⟨e1,e2⟩;rw[e1,e2]
    by_cases hok:qA lt sl
    rotate_left
    ·rw[decide_eq_false hok];have q:=q1 hok H1 s1;exact qi (Bool.noConfusion (show false=true from q.1))
    rw[decide_eq_true hok];refine dR ?_;obtain⟨ds,hD,pD⟩:=b1.hD;obtain⟨ux,hU,pU⟩:=b1.hU;have ll:=bL i;have dl:=bL pD;have pl:=bL pp;have pe:=b.past.len;refine⟨_,rfl,x,dx,_,rfl,hx1,xY _ _ _,_,rfl,_,rfl,_,rfl,_,rfl,_,rfl,(by show 4<=sizeLine;decide),fun tp htp=>?_⟩;have st:=aq.upd (o:=.tup [V.str ld,V.int lt,V.int sl,V.bl tn]) htp;have ae1:=ag (H:=H1) (a:=tp) (o:=.tup [V.str ld,V.int lt,V.int sl,V.bl tn]);generalize upd H1 tp (.tup [V.str ld,V.int lt,V.int sl,V.bl tn])=H1t at st ae1;intro v dv nv ndv ne;refine⟨v,dv,n,.ref tp,rfl,ag,fun l H2 kp hl hlv hv2 hl2=>⟨rfl,?_⟩⟩;have s2t:aq H1t H2:=fun y o hy=>kp y o (by rw[ak (ao hy nv),ak (ao hy ndv)];exact hy) (ao hy nv);have s2:=st.trans s2t;have hl1:H1 l=none:=st.free (G9 hl);refine⟨x,dx,L,D,U,v,M L,ds,ux,rfl,s2 _ _ hx1,s2 _ _ b1.hL,s2 _ _ hD,s2 _ _ hU,b.LD,b.LU,b.DU,by omega,by omega,fun e H3 H' eT ei eb ea s3 nB nA hd fr hL' hD' hU'=>?_⟩;obtain⟨F',gr,fr',B'⟩:=Bk.added b1 i1 (cA (fun _ _ q=>Is.kept (F:=F) (.same s1) q) pp) f B.wv (a:=⟨v,dv,n,.ref tp,l⟩) (th:=.cn ld lt sl tn) s2 (st.free nv) hl1 hv2 hl2 (fun M' h0=>⟨tp,rfl,s2t _ _ ae1⟩) (wv.aeN (rY hf) adk (bT f2) hok.1 hok.2.1 hok.2.2.1 hok.2.2.2) eT ei eb ea s3 nB nA hd hD pD fr hL' hD' hU';exact q2 hok F' H' (gr.old s1) (fun y o hy hn=>fr' y o (s1 y o hy) hn) B'
inductive jQ (c:Cs)(vs:List V)(H:Hp)(Q:VK)(E:XK):Prop
 |mk (i n:Int) (dC:vs=[.int i,.int n]) (dD:((0<=i/\i<=n->Q .non H)/\(¬(0<=i/\i<=n)->RX E c .MO H))):jQ c vs H Q E
theorem sN (T:Txt K w mg t):bg P w K mg base fq (0+1) t.br t.fI ["at","last"] (jQ (cs t)):=by
 refine T.cB.ok r6 (fun vs H Q E h=>?_) (fun cdv A outer s H vs Q E hr h=>?_)
 ·obtain⟨_,_,rfl,_⟩:=h;rfl
 ·obtain⟨i,n,rfl,q1,q2⟩:=h;refine aO (ai (aV (cM (Ak uL uL aj (pv 0) (pv 1))) (ai eB) aC)) ?_;refine⟨_,rfl,_,_,rfl,rfl,_,rfl,?_⟩;refine aT (fun h0=>?_) (fun h0=>?_)
  ·refine⟨_,rfl,_,_,rfl,rfl,_,rfl,?_⟩;refine aT (fun h=>?_) (fun h=>?_)
   ·have h':(!decide (i<=n))=true:=h;have q:=q2 fun z=>by rw[decide_eq_true z.2]at h';cases h'
    exact(Bool.noConfusion (show false=true from q.1))
   ·have h':¬(!decide (i<=n))=true:=h;refine q1 ⟨of_decide_eq_true h0,?_⟩
    by_cases z:i<=n
    ·exact z
    ·exact absurd (by rw[decide_eq_false z];rfl) h'
  ·have q:=q2 fun z=>h0 (decide_eq_true z.1);exact⟨_,rfl,qi (Bool.noConfusion (show false=true from q.1))⟩
inductive Vo (vs:List V)(H:Hp)(Q:VK)(E:XK):Prop
 |mk (p:Addr) (s:Sn) (dC:vs=[.ref p]) (dD:H p=some (.tup [.str s.1,.int s.2])) (eK:Q (.bl (uk s)) H):Vo vs H Q E
theorem Vp (T:Txt K w mg t):bg P w K mg base fq (0+1) t.yB t.Sr ["sign"] Vo:=by
 refine T.C5.ok MT (fun vs H Q E h=>?_) (fun cdv A outer s H vs Q E hr h=>?_)
 ·obtain⟨_,_,rfl,_⟩:=h;rfl
 ·obtain⟨p,s,rfl,hp,q⟩:=h;unfold uk at q;refine aO (af (g6 (pv 0) (iA rfl (aS (aF (i:=1) MT.nd rfl (Or.inl rfl)) (aS (aF (i:=2) MT.nd rfl (Or.inl rfl)) eU)))) (af (aV (ay (cF.or cD) (pv 1) (bF (v:=.ref t.bX) rfl T.rJ rfl) rfl) (ai (ax (PX uL uL aj (pv 2) (bF (v:=.int 99) rfl T.HJ ⟨_,rfl⟩)))) aC) (ai (ax (cI (jm (bB (cF.or cD) (pv 1) (bF (v:=.ref t.dz) rfl T.HH rfl) rfl) (jk (bB (bN.or (a0 (aM hr))) (pv 2) aj (aA _))))))))) ?_;refine⟨_,rfl,_,_,rfl,nR.of hp,rfl,_,_,rfl,_,_,rfl,rfl,_,rfl,.inl ⟨_,_,rfl,.inr (T.rK _),rfl,rfl,_,rfl,?_⟩⟩;refine aT (fun h=>?_) (fun h=>?_)
  ·rw[if_pos (show inV (.str s.1) CJ=true from h)]at q;refine⟨_,rfl,_,_,rfl,rfl,_,rfl,?_⟩;refine aT (fun h2=>?_) (fun h2=>?_)
   ·rw[if_pos h2]at q;exact⟨_,_,rfl,rfl,q⟩
   ·rw[if_neg h2]at q;exact q
  ·rw[if_neg (show ¬ inV (.str s.1) CJ=true from h)]at q;refine⟨fun v H'=>v=.bl (if inV (V.str s.fst) rZ=true then decide (s.snd=0) else false)/\H'=H,?_,fun _ _ ⟨e1,e2⟩=>by rw[e1,e2];exact q⟩;refine⟨_,rfl,.inl ⟨_,_,rfl,.inr (T.HI _),rfl,rfl,_,rfl,?_⟩⟩;refine aT (fun h2=>?_) (fun h2=>?_)
   ·rw[if_pos (show inV (.str s.1) rZ=true from h2)];refine⟨_,rfl,.inl ⟨rfl,?_⟩⟩;rw[eC];exact⟨rfl,rfl⟩
   ·rw[if_neg (show ¬ inV (.str s.1) rZ=true from h2)];exact⟨rfl,rfl⟩
inductive oI (c:Cs)(vs:List V)(H:Hp)(Q:VK)(E:XK):Prop
 |mk (p:Addr) (s:Sn) (dC:vs=[.ref p]) (dD:H p=some (.tup [.str s.1,.int s.2])) (eK:((uk s=true->Q .non H)/\(uk s=false->RX E c .MN H))):oI c vs H Q E
theorem yQ (T:Txt K w mg t):bg P w K mg base fq (0+2) t.cg t.jx ["sign"] (oI (cs t)):=by
 have SF:=Vp (P:=P) (base:=base) T;refine T.dZ.ok yx (fun vs H Q E h=>?_) (fun cdv A outer s H vs Q E hr h=>?_)
 ·obtain⟨_,_,rfl,_⟩:=h;rfl
 ·obtain⟨p,g,rfl,hp,q1,q2⟩:=h;refine aO (ai (aV (cM (aX (ar SF (hr.mono (by decide)) rfl T.Vj T.C5.kp T.M3 .nil au (aa (pv 0) ae)))) (ai eB) aC)) ?_;refine⟨_,rfl,p,g,rfl,hp,_,rfl,?_⟩;cases hg:uk g with
  |true=>exact dR (q1 hg)
  |false =>
   have q:=q2 hg;exact qi (Bool.noConfusion (show false=true from q.1))
inductive QD (vs:List V)(H:Hp)(Q:VK)(E:XK):Prop
 |mk (p:Addr) (s:Sg) (dC:vs=[.ref p]) (dD:H p=some (.tup [.str s.1.str,.int s.2])) (eK:Q (.bl s.1.small) H):QD vs H Q E
theorem Bb (k:Kd):inV (.str k.str) [.str "s",.str "d",.str "r"]=k.small:=by cases k <;> decide +kernel
theorem QE (T:Txt K w mg t):bg P w K mg base fq (0+1) t.sj t.MV ["sign"] QD:=by
 refine T.xG.ok Zm (fun vs H Q E h=>?_) (fun cdv A outer s H vs Q E hr h=>?_)
 ·obtain⟨_,_,rfl,_⟩:=h;rfl
 ·obtain⟨p,s,rfl,hp,q⟩:=h;rw[<-Bb]at q;refine aO (ai (ax (bB (cF.or cD) (aW aN (pv 0) aj (fun _ _=>rfl)) (bF (v:=.ref t.ef) rfl T.Kp rfl) rfl))) ?_;tm_up;exact .inl ⟨_,_,rfl,.inr (T.Kq _),rfl,rfl,q⟩
inductive HV (K:Frag)(vs:List V)(H:Hp)(Q:VK)(E:XK):Prop
 |mk (l:Addr) (xs:List V) (ss:List Sg) (i:Nat) (dC:vs=[.ref l,.int (i:Int)]) (dD:aR K H l xs) (eK:kx H xs ss) (jj:ss.length<=200) (pb:i<=ss.length) (RH:∀ r:Int,Q (.int r) H):HV K vs H Q E
theorem SG (T:Txt K w mg t):bg P w K mg base fq (0+2) t.kI t.CY ["line","at"] (HV K):=by
 have Nh:=QE (P:=P) (base:=base) T;refine T.rB.ok r9 (fun vs H Q E h=>?_) (fun cdv A outer s H vs Q E hr h=>?_)
 ·obtain⟨_,_,_,_,rfl,_⟩:=h;rfl
 ·obtain⟨l,xs,ss,i,rfl,hS,g,hl,hi,q⟩:=h;refine aO (af (aL (i:=2) r9.nd rfl (Or.inl rfl) aj) (af (fF PassesOwn.never rfl (V1 rfl T.jO (aa (aI iB (pv 1) aj) (aa (abC Yh aj) (aa (abC Yh aj) ae)))) (aF (i:=3) r9.nd rfl (Or.inl rfl)) (af (me (aV (cM (aX (ar Nh (hr.mono (by decide)) rfl T.Qw T.xG.kp T.GD .nil au (aa (aW aN (pv 0) (pv 3) (fun _ _=>rfl)) ae)))) (ai (acq (i:=2) r9.nd rfl (Or.inl rfl) aj acr)) aC)) (ai (aV (ay (bN.or (a0 (aM hr))) (pv 2) aj (aA _)) (ai (ax (pv 3))) aC)))) (ai (ax aj)))) ?_;tm_up;have xl:=bL g;refine⟨(i:Int)-1,-1,rfl,⟨by omega,by omega,by omega,by omega⟩,Y1 (fun j σ H'=>∃(met:Int)(v:Option V),σ=[some (.ref l),some (.int (i:Int)),some (.int met),v]/\H'=H) ⟨0,none,rfl,rfl⟩ ?_ ?_⟩
  ·rintro j σ H1 hj ⟨met,v,rfl,eH⟩;have eH:=eH.symm;subst eH;obtain⟨sg,hsg⟩:∃ sg,ss[i-1-j]? = some sg:=⟨_,getElem?_eq_getElem (by omega)⟩;refine⟨fun σ H'=>∃(met:Int),σ=[some (.ref l),some (.int (i:Int)),some (.int met),some (.int ((i:Int)-1-(j:Int)))]/\H'=H,?_,?_⟩
   ·tm_up;refine Kg hS g (n:=i-1-j) (by omega) hsg fun b hb=>?_;refine⟨b,sg,rfl,hb,?_⟩;refine⟨_,rfl,?_⟩;refine aT (fun _=>?_) (fun _=>?_)
    ·tm_up;rfl
    ·exact⟨_,rfl,rfl⟩
   ·rintro _ H1 ⟨met,rfl,eH⟩;have eH:=eH.symm;subst eH;tm_up;refine aT (fun _=>?_) (fun _=>?_)
    ·exact⟨_,rfl,q _⟩
    ·exact⟨_,_,rfl,rfl⟩
  ·rintro σ H1 ⟨met,v,rfl,eH⟩;have eH:=eH.symm;subst eH;exact q _
inductive Fm (K:Frag)(vs:List V)(H:Hp)(Q:VK)(E:XK):Prop
 |mk (l kp:Addr) (xs kv:List V) (ss:List Sg) (i:Nat) (dC:vs=[.ref l,.int (i:Int),.ref kp]) (dD:aR K H l xs) (eK:kx H xs ss) (jj:ss.length<=200) (pb:nR K H kp kv) (RH:kv.all uh=true) (h6_:i<=1000) (h7_:∀ r:Int,Q (.int r) H):Fm K vs H Q E
theorem QF (T:Txt K w mg t):bg P w K mg base fq (0+1) t.iI t.yC ["line","first","kinds"] (Fm K):=by
 refine T.oz.ok Fe (fun vs H Q E h=>?_) (fun cdv A outer s H vs Q E hr h=>?_)
 ·obtain⟨_,_,_,_,_,_,rfl,_⟩:=h;rfl
 ·obtain⟨l,kp,xs,kv,ss,i,rfl,hS,g,hl,hT,hf,hi,q⟩:=h;refine aO (af (fF PassesOwn.never rfl (VG rfl T.jO (aa (pv 1) (aa (aG (aD.or aE) rfl T.bS bR (aa (pv 0) ae)) ae))) (aF (i:=3) Fe.nd rfl (Or.inl rfl)) (ai (aV (ay (cF.or cD) (aW aN (aW aN (pv 0) (pv 3) (fun _ _=>rfl)) aj (fun _ _=>rfl)) (pv 2) rfl) (ai (ax (pv 3))) aC))) (ai (ax (aG (aD.or aE) rfl T.bS bR (aa (pv 0) ae))))) ?_;have xl:=bL g;tm_up;refine .inl ⟨l,xs,rfl,.inl hS,?_⟩;refine⟨(i:Int),(xs.length:Int),rfl,⟨by omega,by omega,by omega,by omega⟩,nr (fun j σ H'=>∃(v:Option V),σ=[some (.ref l),some (.int (i:Int)),some (.ref kp),v]/\H'=H) ⟨none,rfl,rfl⟩ ?_ ?_⟩
  ·rintro j σ H1 hj ⟨v,rfl,eH⟩;have eH:=eH.symm;subst eH;obtain⟨sg,hsg⟩:∃ sg,ss[i+j]? = some sg:=⟨_,getElem?_eq_getElem (by omega)⟩;tm_up;refine Kg hS g (n:=i+j) (by omega) hsg fun b hb=>?_;tm_up;refine .inl ⟨kp,kv,rfl,.inr hT,rfl,hf,_,rfl,?_⟩;refine aT (fun _=>?_) (fun _=>?_)
   ·exact⟨_,rfl,q _⟩
   ·exact⟨_,rfl,rfl⟩
  ·rintro σ H1 ⟨v,rfl,eH⟩;have eH:=eH.symm;subst eH;exact⟨_,rfl,.inl ⟨l,_,rfl,.inl hS,q _⟩⟩
inductive uz (vs:List V)(H:Hp)(Q:VK)(E:XK):Prop
 |mk (p:Addr) (s:Sg) (dC:vs=[.ref p]) (dD:H p=some (.tup [.str s.1.str,.int s.2])) (eK:Q (.bl s.1.meas) H):uz vs H Q E
theorem adl (k:Kd):inV (.str k.str) [.str "3",.str "2"]=k.meas:=by cases k <;> decide +kernel
theorem uA (T:Txt K w mg t):bg P w K mg base fq (0+1) t.dy t.oh ["sign"] uz:=by
 refine T.eI.ok FG (fun vs H Q E h=>?_) (fun cdv A outer s H vs Q E hr h=>?_)
 ·obtain⟨_,_,rfl,_⟩:=h;rfl
 ·obtain⟨p,s,rfl,hp,q⟩:=h;rw[<-adl]at q;refine aO (ai (ax (bB (cF.or cD) (aW aN (pv 0) aj (fun _ _=>rfl)) (bF (v:=.ref t.cy) rfl T.uq rfl) rfl))) ?_;tm_up;exact .inl ⟨_,_,rfl,.inr (T.ur _),rfl,rfl,q⟩
inductive LZ (K:Frag)(vs:List V)(H:Hp)(Q:VK)(E:XK):Prop
 |mk (l ch:Addr) (xs cx:List V) (ss cs:List Sg) (i b:Nat) (dC:vs=[.ref l,.int (i:Int),.int (b:Int),.ref ch]) (dD:aR K H l xs) (eK:kx H xs ss) (jj:ss.length<=200) (pb:i<=ss.length) (RH:b<=1000) (h6_:aR K H ch cx) (h7_:kx H cx cs) (h8_:cs.length<=100) (h9_:∀(p:Addr)(H':Hp),aq H H'->Q (.ref p) H'):LZ K vs H Q E
theorem Ws (T:Txt K w mg t):bg P w K mg base fq (0+3) t.oi t.Hn ["line","at","behind","changed"] (LZ K):=by
 have Wt:=SG (P:=P) (base:=base) T;have SH:=QF (P:=P) (base:=base) T;have oJ:=uA (P:=P) (base:=base) T;refine T.vq.ok LP (fun vs H Q E h=>?_) (fun cdv A outer s H vs Q E hr h=>?_)
 ·obtain⟨_,_,_,_,_,_,_,_,rfl,_⟩:=h;rfl
 ·obtain⟨l,ch,xs,cx,ss,cs,i,b,rfl,hS,g,hl,hi,hb,hC,gc,hcl,q⟩:=h;refine aO (af (aL (i:=4) LP.nd rfl (Or.inl rfl) (cI (eA (aX (aG Qa rfl T.Zp YL (aa (fX (cn:=["sign"]) rfl (cz.of rfl) (c5 (pv 3)) (fun _=>(aF (i:=0) Qv rfl (Or.inl rfl))) (fun _=>iC) (fun _=>(ar oJ (hr.mono (by decide)) rfl T.uo T.eI.kp T.jH .nil au (aa (pv 0) ae)))) ae))) (bF (v:=.ref t.cy) rfl T.uq rfl) (bF (v:=.ref t.cZ) rfl T.FN rfl)))) (ai (ax (fG (aa (ar Wt (hr.mono (by decide)) rfl T.Su T.rB.kp T.C6 .nil au (aa (pv 0) (aa (pv 1) ae))) (aa (ar SH (hr.mono (by decide)) rfl T.Qx T.oz.kp T.yJ .nil au (aa (pv 0) (aa (pv 2) (aa (pv 4) ae)))) ae)))))) ?_;have cl:=bL gc;refine⟨fun v H'=>∃ kp kv,v=.ref kp/\(∀ Ni ,nR K Ni kp kv)/\kv.all uh=true/\aq H H',?_,?_⟩
  ·refine⟨_,rfl,ch,rfl,⟨_,hC⟩,fun D b2 hD=>?_⟩;refine dH (K:=K) (xs:=cx) (fun ii ys σ H'=>∃ v,σ=[v,some (.ref l),some (.int (i:Int)),some (.int (b:Int)),some (.ref ch),none]/\H'=upd H D (.lst ys)/\∃ bs:List Bool,ys=bs.map V.bl/\bs.length=ii) ⟨none,rfl,rfl,[],rfl,rfl⟩ ?_ ?_ ?_
   ·rintro ii ys σ H' ⟨v,rfl,rfl,_⟩;exact dS hC hD
   ·rintro ii ys x σ H' hx ⟨v,rfl,rfl,bs,rfl,hbs⟩ N hN;obtain⟨sg,e1,p,rfl,hp⟩:=qY gc hx;have hii:ii<cs.length:=(List.getElem?_eq_some_iff.mp e1).1;refine cH ?_;refine⟨_,rfl,p,sg,rfl,(by rw[ak (ao hp hD)];exact hp),ag,?_,?_⟩
    ·rw[length_map];exact aK (by omega)
    ·exact hN _ _ _ ⟨_,rfl,bZ,bs++[sg.1.meas],by simp,by simp[hbs]⟩
   ·rintro ys σ H' ⟨v,rfl,rfl,bs,rfl,hbs⟩;refine⟨rfl,D,bs,rfl,aR.of ag,_,rfl,?_⟩;refine aT (fun _=>?_) (fun _=>?_)
    ·exact⟨_,_,rfl,fun Ni=>T.ur Ni,rfl,aq.upd hD⟩
    ·exact⟨_,_,rfl,fun Ni=>T.FO Ni,rfl,aq.upd hD⟩
  ·rintro _ H1 ⟨kp,kv,rfl,hk,hf,s1⟩;refine⟨_,rfl,_,rfl,l,xs,ss,i,rfl,s1.seq hS,g.same s1,hl,hi,fun r=>?_⟩;refine⟨_,rfl,_,rfl,_,rfl,l,kp,xs,kv,ss,b,rfl,s1.seq hS,g.same s1,hl,hk _,hf,hb,fun r2=>?_⟩;refine⟨by show 2<=sizeLine;decide,fun p hp=>q p _ (s1.trans (aq.upd hp))⟩
inductive Fn (c:Cs)(vs:List V)(H:Hp)(Q:VK)(E:XK):Prop
 |mk (x:Addr) (F:Addr->Prop) (vw:Vw) (ps fs:List Vw) (n:Str) (i:Int) (p:Addr) (sn:Sn) (dC:vs=[.ref x,.str n,.int i,.ref p]) (dD:Cv c H x F vw ps fs) (eK:H p=some (.tup [.str sn.1,.int sn.2])) (jj:ps.length<=900) (pb:match a5 vw n with
 |none=>RX E c .m9 H
 |some (.cn _ _ _ _)=>RX E c .AA H
 |some (.pl ss)=>(¬(0<=i/\i<=(ss.length:Int))->RX E c .MO H)/\((0<=i/\i<=(ss.length:Int))->uk sn=false->RX E c .MN H)/\((0<=i/\i<=(ss.length:Int))->uk sn=true->200<=ss.length->RX E c .Full H) /\
  ((0<=i/\i<=(ss.length:Int))->uk sn=true->ss.length<200->∀(s:Sg)(w:Addr) F' H',s.1.str=sn.1->s.2=sn.2->Gr F F' H->Fr F H H'->Cv c H' x F' (G5 vw n (.pl (ss.take i.toNat++[s]++ss.drop i.toNat))) (ps++[vw]) []->Q (.ref w) H')):Fn c vs H Q E
theorem QG (T:Txt K w mg t):bg P w K mg base fq (0+4) t.gy t.yD ["self","name","at","sign"] (Fn (cs t)):=by
 have uE:=sN (P:=P) (base:=base) T;have Bc:=yQ (P:=P) (base:=base) T;have gG:=mr (P:=P) (base:=base) T;have ZA:=Ws (P:=P) (base:=base) T;have iP:=mY (P:=P) (base:=base) T;have fo:=kS (P:=P) (base:=base) T;refine T.sA.ok Ff (fun vs H Q E h=>?_) (fun cdv A outer s H vs Q E hr h=>?_)
 ·obtain⟨_,_,_,_,_,_,_,_,_,rfl,_⟩:=h;rfl
 ·obtain⟨x,F,vw,ps,fs,n,iz,p,sn,rfl,B,hp,hps,q⟩:=h;refine aO (af (aL (i:=4) Ff.nd rfl (Or.inl rfl) (bG (a8 (pv 0) T.aJ T.mW iP (hr.mono (by decide)) T.fc .nil au (aa (pv 1) ae)) rfl)) (af (aQ (ar uE (hr.mono (by decide)) rfl T.sy T.cB.kp T.fK .nil au (aa (pv 2) (aa (aG (aD.or aE) rfl T.bS bR (aa (pv 4) ae)) ae)))) (af (aQ (ar Bc (hr.mono (by decide)) rfl T.yI T.dZ.kp T.jG .nil au (aa (pv 3) ae))) (af (aV (ay abD (aG (aD.or aE) rfl T.bS bR (aa (pv 4) ae)) (bF (v:=.int 200) rfl T.Nb ⟨_,rfl⟩) (aA _)) (ai eB) aC) (af (aQ (a8 (pv 0) T.aJ T.mj gG (hr.mono (by decide)) T.gD .nil au (aa (Al T.Nd fo (hr.mono (by decide)) rfl T.Nc T.fk .nil au (aa (pv 4) (aa (pv 2) (aa (b5 ae) (aa (b5 (aa (pv 3) ae)) ae))))) ae))) (ai (ax (ar ZA (hr.mono (by decide)) rfl T.Wg T.vq.kp T.Hz .nil au (aa (pv 4) (aa (pv 2) (aa (aI (bp.or (aH.or bq)) (pv 2) aj) (aa (b5 (aa (pv 3) ae)) ae)))))))))))) ?_;obtain⟨L,D,U,all,M,Ps,Fs,es,us,b,iM,pp,pf,f⟩:=B.ex;obtain⟨dx,hx⟩:=b.hx;obtain⟨vx,g,gv⟩:=b.yu iM;obtain⟨ds,hD,pD⟩:=b.hD;obtain⟨ux,hU,pU⟩:=b.hU;have dl:=bL pD;have pl:=bL pp;have pe:=b.past.len;refine⟨_,rfl,x,dx,_,rfl,hx,n0 _ _ _,_,rfl,x,dx,L,D,U,M L,vx,n,rfl,hx,b.hL,g,?_⟩;rcases LN gv (fun _ _ r=>r.2.1) n with ⟨f1,f2⟩|⟨a,th,j,f1,f2,r,an,fj,fw⟩
  ·rw[f1];rw[f2]at q;exact(Bool.noConfusion (show false=true from q.1))
  rw[f1];rw[f2]at q;subst an;cases th with
  |cn ld lt sl tn =>
   obtain⟨pt,hpt,_⟩:=r.2.2;refine⟨fun z=>?_,fun _ _=>(Bool.noConfusion (show false=true from q.1)),.inr ⟨pt,hpt⟩⟩;rw[hpt]at z;cases z
  |pl ss =>
   obtain⟨htm,hg⟩:=r.2.2;obtain⟨q1,q2,q3,q4⟩:=q;have haa:=r.1;obtain⟨ha,hl⟩:=b.ha a haa;have yl:=bL hg;have hj:(M L)[j]? = some (.ref a.o):=by
    obtain⟨v,hv,e1,_⟩:=Av g fj;rw[<-e1];exact hv
   refine⟨fun _=>?_,(fun pz z=>by rw[htm]at z;cases z),.inl htm⟩;refine⟨a.o,_,a.d,_,_,rfl,ha,T.fm,T.cR,CH _ _ _,?_⟩;refine⟨_,rfl,_,rfl,.inl ⟨a.l,M a.l,rfl,.inl (aR.of hl),?_⟩⟩;refine⟨iz,((M a.l).length:Int),rfl,fun hi=>?_,fun hi=>?_⟩
   rotate_left
   ·have q:=q1 (by rw[<-yl];exact hi);exact(Bool.noConfusion (show false=true from q.1))
   rw[yl]at hi;refine⟨_,rfl,p,sn,rfl,hp,fun hgd=>?_,fun hgd=>?_⟩
   rotate_left
   ·have q:=q2 hi hgd;exact(Bool.noConfusion (show false=true from q.1))
   refine⟨_,rfl,.inl ⟨a.l,M a.l,rfl,.inl (aR.of hl),?_⟩⟩;refine⟨_,_,rfl,rfl,_,rfl,?_⟩;refine aT (fun h=>?_) (fun h=>?_)
   ·have h':=of_decide_eq_true h;have q:=q3 hi hgd (by omega);exact(Bool.noConfusion (show false=true from q.1))
   have hlt:ss.length<200:=by
    rcases Nat.lt_or_ge ss.length 200 with z|z
    ·exact z
    ·exact absurd (decide_eq_true (by omega)) h
   obtain⟨sg,e1,e2,gt⟩:=aa0 hgd;rw[<-e1,<-e2]at hp;obtain⟨i,rfl⟩:∃ i:Nat,iz=(i:Int):=⟨iz.toNat,by omega⟩;have hi:i<=ss.length:=by omega
   have q4:=q4 (by omega) hgd hlt sg;rw[Int.toNat_natCast]at q4;refine⟨_,rfl,x,dx,_,rfl,hx,nZ _ _ _,?_⟩;refine⟨_,rfl,_,rfl,big (by show 0<=1000;omega),fun B' hB=>?_⟩;refine⟨_,rfl,big (by show 1<=1000;omega),fun A_ hA=>?_⟩;have hA0:=MP hA;have sB:=(aq.upd (o:=.lst []) hB).trans (aq.upd (o:=.lst [V.ref p]) hA);have hB2:=aq.upd (o:=.lst [V.ref p]) hA _ _ (ag (H:=H) (a:=B') (o:=.lst []));have Zz:=ag (H:=upd H B' (.lst [])) (a:=A_) (o:=.lst [V.ref p]);have lA:a.l≠A_:=ao hl hA0;generalize upd (upd H B' (.lst [])) A_ (.lst [V.ref p])=H2 at sB hB2 Zz;intro d dd nd ndd ne;refine⟨d,dd,a.l,(i:Int),B',A_,rfl,ag,rfl,?_⟩;rw[bZ];have s3:aq H2 (upd (upd H2 dd (.own d)) d (.ins t.bc dd (LH a.l (i:Int) B' A_))):=fun y o hy=>by
    rw[ak (ao hy nd),ak (ao hy ndd)];exact hy
   have V3:=ag (H:=upd H2 dd (.own d)) (a:=d) (o:=.ins t.bc dd (LH a.l (i:Int) B' A_));generalize upd (upd H2 dd (.own d)) d (.ins t.bc dd (LH a.l (i:Int) B' A_))=H3 at s3 V3;have s4:=sB.trans s3;obtain⟨_,d1,d2⟩:=b.lists (.inr ⟨a,haa,rfl⟩);refine⟨x,dx,L,D,U,d,dd,a.l,B',A_,i,ds,ux,M a.l,[],[.ref p],rfl,s4 _ _ hx,s4 _ _ hD,s4 _ _ hU,V3,s4 _ _ hl,s3 _ _ hB2,s3 _ _ Zz,lA,d1,d2,b.DU,by simp;omega,by simp;omega,by omega,?_⟩;have hM:uj ⟨d,dd,a.l,i,B',A_,[],[.ref p]⟩ M a.l=(M a.l).take i++[.ref p]++(M a.l).drop (i+0):=gp;have keep:∀ y o,H3 y=some o->y≠a.l->y≠D->y≠U->(upd (upd (upd H3 a.l (.lst ((M a.l).take i++[.ref p]++(M a.l).drop (i+0)))) D (.lst (ds++[.ref d]))) U (.lst [])) y=some o:=fun y o hy y1 y2 y3=>by
    rw[ak y3,ak y2,ak y1];exact hy
   have k1:(upd (upd (upd H3 a.l (.lst ((M a.l).take i++[.ref p]++(M a.l).drop (i+0)))) D (.lst (ds++[.ref d]))) U (.lst [])) a.l=some (.lst ((M a.l).take i++[.ref p]++(M a.l).drop (i+0))):=by
    rw[ak d2,ak d1,ag]
   have k2:(upd (upd (upd H3 a.l (.lst ((M a.l).take i++[.ref p]++(M a.l).drop (i+0)))) D (.lst (ds++[.ref d]))) U (.lst [])) D=some (.lst (ds++[.ref d])):=by
    rw[ak b.DU,ag]
   have k3:(upd (upd (upd H3 a.l (.lst ((M a.l).take i++[.ref p]++(M a.l).drop (i+0)))) D (.lst (ds++[.ref d]))) U (.lst [])) U=some (.lst []):=ag;generalize (upd (upd (upd H3 a.l (.lst ((M a.l).take i++[.ref p]++(M a.l).drop (i+0)))) D (.lst (ds++[.ref d]))) U (.lst []))=H4 at keep k1 k2 k3;have g3:=hg.same s4;have sgN:kx H3 ((M a.l).take i++[.ref p]++(M a.l).drop (i+0)) (ss.take i++[sg]++ss.drop i):=R8 (R8 (Qi i g3) (.cons ⟨p,rfl,s4 _ _ hp⟩ .nil)) (U5 i g3);obtain⟨F',gr,fr,B4⟩:=Bk.aeP b iM pp f B.wv haa hj fw htm (e:=⟨d,dd,a.l,i,B',A_,[],[.ref p]⟩) rfl ⟨by simp;omega,by simp⟩ (by simp) (by simp) s4 hB hA0 ⟨rfl,V3,s3 _ _ hB2,s3 _ _ Zz⟩ (by rw[hM];exact sgN) (by simp;omega) (fun s hs=>by
    have wg:=((B.wv vw (.inr (.inl rfl))).gd _ _ (mem_of_getElem? fw)).2;rcases mem_append.mp hs with hs|hs
    ·rcases mem_append.mp hs with hs|hs
     ·exact wg s (List.mem_of_mem_take hs)
     ·rw[mem_singleton.mp hs];exact gt
    ·exact wg s (List.mem_of_mem_drop hs)) hD pD keep (by rw[hM];exact k1) k2 k3
   have nT:∀{y us},H3 y=some (.tup us)->H4 y=some (.tup us):=fun {y us} hy=>keep y _ hy (uG hy (s4 _ _ hl) (by intro z;cases z)) (uG hy (s4 _ _ hD) (by intro z;cases z)) (uG hy (s4 _ _ hU) (by intro z;cases z));have sg4:kx H4 ((M a.l).take i++[.ref p]++(M a.l).drop (i+0)) (ss.take i++[sg]++ss.drop i):=cA (fun _ _ ⟨z,e1,e2⟩=>⟨z,e1,nT e2⟩) sgN;refine⟨_,rfl,_,rfl,_,rfl,.inl ⟨_,_,rfl,rfl,_,rfl,big (by show 1<=1000;omega),fun lc hlc=>?_⟩⟩;have sc:=aq.upd (o:=.lst [V.ref p]) hlc;refine⟨a.l,lc,_,[.ref p],ss.take i++[sg]++ss.drop i,[sg],i,i+1,rfl,aR.of (sc _ _ k1),sg4.same sc,by simp;omega,by simp;omega,by omega,aR.of ag,.cons ⟨p,rfl,sc _ _ (nT (s4 _ _ hp))⟩ .nil,by simp,fun w H5 s5=>?_⟩;have s6:=sc.trans s5;exact q4 w F' H5 e1 e2 gr (fun y o hy hn=>s6 _ _ (fr y o hy hn)) (B4.same s6)
theorem vK {K:Frag}{H:Hp}{p:Addr}{a b c d:V}{i:Nat}{v:V}{Q:VK}(h:H p=some (.tup [a,b,c,d]))(e:[a,b,c,d][i]? = some v)(q:Q v H):P2 K (.ref p) (.int (i:Int)) H Q\/P4 K (.ref p) (.int (i:Int)) H Q\/P5 (.ref p) (.int (i:Int)) H Q:=.inr (.inl ⟨p,_,i,v,rfl,rfl,nR.of h,An e,q⟩)
theorem SI (vw:Vw)(n:Str):lJ (vw++[(n,.pl [])])=vw:=by
 unfold lJ;rw[List.getLast?_concat];show(if([]:List Sg)=[] then _ else _)=_;rw[if_pos rfl,List.dropLast_concat]
theorem Wu (vw:Vw)(n ld:Str)(lt sl:Int)(tn:Bool):lJ (vw++[(n,.cn ld lt sl tn)])=vw:=by
 unfold lJ;rw[List.getLast?_concat];exact List.dropLast_concat
theorem Wv (vw:Vw)(n:Str){ss:List Sg}{j:Nat}{s:Sg}(h:ss[j]? = some s):lJ (vw++[(n,.pl (ss.take (j+1)))])=vw++[(n,.pl (ss.take j))]:=by
 have e:ss.take (j+1)=ss.take j++[s]:=by rw[take_succ,h];rfl
 unfold lJ;rw[List.getLast?_concat,e];show(if ss.take j++[s]=[] then _ else _)=_;rw[if_neg (by simp),List.dropLast_concat,List.dropLast_concat]
def vL (vw:Vw):Vw:=vw++[(("zed":Str),Th.pl [])]
structure Bw (c:Cs)(H0 H:Hp)(x:Addr)(own:List Addr)(vw:Vw)(ps fs:List Vw):Prop where
 ex:∃ F,Cv c H x F vw ps fs/\(∀ y,F y->∃ xs,H y=some (.lst xs))/\(∀ y,F y->H0 y=none)/\∀ a∈own,¬ F a/\∃ o,H a=some o
 sm:aq H0 H
section
variable {c:Cs} {H0 H H' H1:Hp} {x:Addr} {own:List Addr} {vw vw':Vw} {ps ps' fs fs':List Vw} {F F':Addr->Prop}
theorem Bw.mk' (b:Cv c H' x F' vw' ps' fs')(sm:aq H0 H)(hF:∀ y,F y->∃ xs,H y=some (.lst xs))(h0:∀ y,F y->H0 y=none)(ho:∀ a∈own,¬ F a/\∃ o,H a=some o)(g:Gr F F' H)(fr:Fr F H H'):Bw c H0 H' x own vw' ps' fs'/\agU own H H':=by
 obtain⟨F0,h1,h2,b0⟩:=b.aeQ;refine⟨⟨⟨F0,b0,h2,fun y z=>?_,fun a ha=>?_⟩,fun y o e=>fr y o (sm y o e) fun z=>?_⟩,fun y o e k=>fr y o e fun z=>?_⟩
 ·rcases g y (h1 y z) with q|q
  ·exact h0 y q
  ·exact sm.free q
 ·obtain⟨n,o,e⟩:=ho a ha;refine⟨fun z=>?_,o,fr a o e n⟩;rcases g a (h1 a z) with q|q
  ·exact n q
  ·rw[e]at q;cases q
 ·rw[h0 y z]at e;cases e
 ·rcases k with k|k
  ·obtain⟨xs,q⟩:=hF y z;rw[e]at q;cases q;exact k _ rfl
  ·exact(ho y k).1 z
theorem Bw.same (h:Bw c H0 H x own vw ps fs)(s:aq H H'):Bw c H0 H' x own vw ps fs:=by
 obtain⟨F,b,hF,h0,ho⟩:=h.ex;exact⟨⟨F,b.same s,fun y z=>let ⟨xs,e⟩:=hF y z;⟨xs,s _ _ e⟩,h0,fun a ha=>⟨(ho a ha).1,let ⟨o,e⟩:=(ho a ha).2;⟨o,s _ _ e⟩⟩⟩,h.sm.trans s⟩
theorem Bw.wv (h:Bw c H0 H x own vw ps fs):rX vw:=by
 obtain⟨F,b,_⟩:=h.ex;exact b.wv vw (.inr (.inl rfl))
theorem Bw.hx (h:Bw c H0 H x own vw ps fs):∃ dx L D U,H x=some (.ins c.B dx (Aj L D U)):=by
 obtain⟨F,b,_⟩:=h.ex;obtain⟨L,D,U,all,M,Ps,Fs,es,us,b,_⟩:=b.ex;obtain⟨dx,e⟩:=b.hx;exact⟨dx,L,D,U,e⟩
theorem Bw.new {dx L D U:Addr}(hx:H' x=some (.ins c.B dx (Aj L D U)))(hL:H' L=some (.lst []))(hD:H' D=some (.lst []))(hU:H' U=some (.lst []))(LD:L≠D)(LU:L≠U)(DU:D≠U)(s:aq H H')(nL:H L=none)(nD:H D=none)(nU:H U=none):Bw c H H' x [] [] [] []:=by
 refine⟨⟨_,Bk.new hx hL hD hU LD LU DU,fun y hy=>?_,fun y hy=>?_,fun a ha=>nomatch ha⟩,s⟩
 ·rcases hy with rfl|rfl|rfl
  ·exact⟨_,hL⟩
  ·exact⟨_,hD⟩
  ·exact⟨_,hU⟩
 ·rcases hy with rfl|rfl|rfl
  ·exact nL
  ·exact nD
  ·exact nU
end
theorem Ww {vw:Vw}{n:Str}{a b:Th}(h:∀ q∈vw,q.1≠n):G5 (vw++[(n,a)]) n b=vw++[(n,b)]:=by
 unfold G5;rw[map_append];have e1:vw.map (fun q=>if q.1=n then(n,b) else q)=vw:=by
  conv=>rhs;rw[<-List.map_id vw]
  exact List.map_congr_left fun q hq=>if_neg (h q hq)
 have e2:[(n,a)].map (fun q:Str×Th=>if q.1=n then(n,b) else q)=[(n,b)]:=by
  show [if n=n then(n,b) else(n,a)]=_;rw[if_pos rfl]
 rw[e2];exact congrArg (· ++ [(n,b)]) e1
theorem L0 {vw:Vw}{n:Str}(h:nameB n=true)(hn:∀ q∈vw,q.1≠n)(hl:vw.length<12):mq vw n=none:=by
 have hf:a5 vw n=none:=by
  cases e:a5 vw n with
  |none=>rfl
  |some th=>exact absurd rfl (hn _ (bT e))
 unfold mq;rw[if_neg (by rw[h];decide),hf,if_neg (by simp),if_neg (by omega)]
theorem Wx {vw:Vw}{n:Str}{a:Th}(h:∀ q∈vw,q.1≠n):a5 (vw++[(n,a)]) n=some a:=by
 unfold a5;rw[List.find?_append,List.find?_eq_none.mpr (fun q hq e=>h q hq (of_decide_eq_true e))];rw[Option.none_or,List.find?_cons_of_pos (p:=fun q:Str×Th=>decide (q.1=n)) (decide_eq_true rfl)];rfl
theorem ZC {ss:List Sg}{i:Nat}{s:Sg}(h:ss[i]? = some s):(ss.take i).take i++[s]++(ss.take i).drop i=ss.take (i+1):=by
 rw[List.take_take,Nat.min_self,List.drop_eq_nil_of_le (by rw[length_take];omega),append_nil,take_succ,h];rfl
theorem Wy {vw:Vw}{i:Nat}{q:Str×Th}(h:vw[i]? = some q):vw.take (i+1)=vw.take i++[q]:=by
 rw[take_succ,h];rfl
theorem ZD {vw:Vw}(nd:(vw.map (·.1)).Nodup){i:Nat}{q:Str×Th}(h:vw[i]? = some q):∀ p∈vw.take i,p.1≠q.1:=fun p hp e=>by
 obtain⟨j,hj⟩:=getElem?_of_mem hp;have hji:j<i:=by
  have:=(List.getElem?_eq_some_iff.mp hj).1;rw[length_take]at this;omega
 rw[List.getElem?_take_of_lt hji]at hj;have e1:(vw.map (·.1))[j]? = some q.1:=by rw[getElem?_map,hj,<-e];rfl
 have e2:(vw.map (·.1))[i]? = some q.1:=by rw[getElem?_map,h];rfl
 have:=uS nd e1 e2;omega
inductive Bd (K:Frag)(c:Cs)(vs:List V)(H:Hp)(Q:VK)(E:XK):Prop
 |mk (x tl:Addr) (H0:Hp) (vw:Vw) (dC:vs=[.ref x,.ref tl]) (dD:Bw c H0 H x [] [] [] []) (eK:uU H0 tl vw) (jj:Fd vw) (pb:∀(H':Hp)(ps:List Vw),Bw c H0 H' x [] vw ps (if vw.length<12 then [vL vw] else [])->ps.length<=400->(vw≠[]->∃ Ki,ps=Ki++[lJ vw])->Q (.ref x) H'):Bd K c vs H Q E
theorem Nj (T:Txt K w mg t):bg P w K mg base fq (0+5) t.gA t.vd ["_law_book","_law_told"] (Bd K (cs t)):=by
 have gW:=pV (P:=P) (base:=base) T;have vJ:=sM (P:=P) (base:=base) T;have vM:=A9 (P:=P) (base:=base) T;have Dg:=Ba (P:=P) (base:=base) T;have SJ:=QG (P:=P) (base:=base) T;refine T.lX.ok ju (fun vs H Q E h=>?_) (fun cdv A outer s H vs Q E hr h=>?_)
 ·obtain⟨_,_,_,_,rfl,_⟩:=h;rfl
 ·obtain⟨x,tl,H0,vw,rfl,B,⟨ys,ht,pvt⟩,ek,q⟩:=h;refine aO (af (fF PassesOwn.never rfl (c5 (pv 1)) (iA rfl (aS (aF (i:=2) ju.nd rfl (Or.inl rfl)) (aS (aF (i:=3) ju.nd rfl (Or.inl rfl)) eU))) (ai (aV (aX (aG dq rfl T.a7 a6 (aa (pv 3) (aa (eS (v:=.ty "tuple") rfl T.A0 Au rfl) ae)))) (ai (aQ (a8 (pv 0) T.aJ T.AS Dg (hr.mono (by decide)) T.kR .nil au (aa (pv 2) (aa (aW aN (pv 3) aj (fun _ _=>rfl)) (aa (aW aN (pv 3) aj (fun _ _=>rfl)) (aa (aW aN (pv 3) aj (fun _ _=>rfl)) (aa (aW aN (pv 3) aj (fun _ _=>rfl)) ae)))))))) (af (aQ (a8 (pv 0) T.aJ T.jF gW (hr.mono (by decide)) T.eF .nil au (aa (pv 2) ae))) (ai (fF PassesOwn.never rfl (U1 rfl T.sJ (pv 3)) (iA rfl (aS (aF (i:=4) ju.nd rfl (Or.inl rfl)) (aS (aF (i:=5) ju.nd rfl (Or.inl rfl)) eU))) (ai (aQ (a8 (pv 0) T.aJ T.Qy SJ (hr.mono (by decide)) T.yK .nil au (aa (pv 2) (aa (pv 4) (aa (pv 5) ae)))))))))))) (af (me (aV (ay qV (aG (aD.or aE) rfl T.bS bR (aa (pv 1) ae)) aj (aA _)) (af (aQ (a8 (pv 0) T.aJ T.jF gW (hr.mono (by decide)) T.eF .nil au (aa aY ae))) (ai (aQ (gm (pv 0) T.aJ T.AR vM (hr.mono (by decide)) T.pJ .nil au)))) aC)) (ai (ax (pv 0))))) ?_;have yl:=bL pvt;have wl:=ek.w.len;tm_up;refine⟨⟨_,aR.of (B.sm _ _ ht)⟩,nS (K:=K) (xs:=ys) (fun i σ H'=>∃(v2 v3 v4 v5:Option V)(ps:List Vw),σ=[some (.ref x),some (.ref tl),v2,v3,v4,v5]/\Bw (cs t) H0 H' x [] (vw.take i) ps []/\ps.length<=26 * i/\i<=vw.length/\(0<i->∃ Ki,ps=Ki++[lJ (vw.take i)])) ⟨none,none,none,none,[],rfl,B,Nat.le_refl _,Nat.zero_le _,fun z=>absurd z (by decide)⟩ ?_ ?_ ?_⟩
  ·rintro i σ H' _ ⟨v2,v3,v4,v5,ps,rfl,B1,_⟩;exact aR.of (B1.sm _ _ ht)
  ·rintro i y σ H1 hy ⟨v2,v3,v4,v5,ps,rfl,B1,pl1,il,_⟩;obtain⟨⟨n,th⟩,hq,p,v,rfl,hp,hv⟩:=qY pvt hy;have il2:i<vw.length:=(List.getElem?_eq_some_iff.mp hq).1;have til:(vw.take i).length=i:=by rw[length_take];omega
   obtain⟨nb,_,acd⟩:=ek.nm _ (mem_of_getElem? hq);have nn:=ZD ek.w.nd hq;have no:=L0 nb nn (by omega);obtain⟨dx,L,D,U,hx⟩:=B1.hx;obtain⟨F1,b1,f1,z1,o1⟩:=B1.ex;have hp1:=B1.sm _ _ hp;rw[Wy hq];refine⟨p,_,rfl,nR.of hp1,rfl,_,_,rfl,_,_,rfl,rfl,?_⟩;cases th with
   |cn ld lt sl tn =>
    obtain⟨tp,rfl,htp⟩:=hv;have ht1:=B1.sm _ _ htp;obtain⟨ss,hss⟩:=ek.ld i n ld lt sl tn hq;have hfl:=(rX.take ek i).find hss;have tk:qA lt sl:=(ek.w.ld _ _ _ _ _ (mem_of_getElem? hq)).2;tm_up;refine⟨_,_,_,_,rfl,hX.tup ht1,rfl,_,rfl,qi ?_⟩;refine⟨_,rfl,x,dx,_,rfl,hx,CI _ _ _,_,rfl,_,rfl,vK (i:=0) ht1 rfl ?_⟩;refine⟨_,rfl,vK (i:=1) ht1 rfl ?_⟩;refine⟨_,rfl,vK (i:=2) ht1 rfl ?_⟩;refine⟨_,rfl,vK (i:=3) ht1 rfl ?_⟩;refine⟨x,F1,_,ps,[],n,ld,lt,sl,tn,rfl,b1,acd,by omega,?_⟩;rw[no,hfl];refine⟨fun z=>absurd tk z,fun _ F7 H7 gr7 fr7 b7=>?_⟩;obtain⟨B7,k7⟩:=Bw.mk' b7 B1.sm f1 z1 o1 gr7 fr7;exact⟨_,_,_,_,_,rfl,B7,by rw[length_append];show ps.length+1<=_;omega,il2,fun _=>⟨ps,by rw[Wu]⟩⟩
   |pl ss =>
    obtain⟨l,zs,rfl,hl,g⟩:=hv;have hl1:=B1.sm _ _ hl;tm_up;refine⟨_,_,_,_,rfl,hX.lst hl1,rfl,_,rfl,dR ?_⟩;have s24:=ek.sh n ss (mem_of_getElem? hq);have gdS:=(ek.w.gd n ss (mem_of_getElem? hq)).2;have zl:=bL g;refine⟨_,rfl,x,dx,_,rfl,hx,ky _ _ _,_,rfl,?_⟩;refine⟨x,F1,_,ps,[],n,rfl,b1,acd,by omega,?_⟩;rw[no];intro F2 H2 gr2 fr2 b2;obtain⟨B2,k2⟩:=Bw.mk' b2 B1.sm f1 z1 o1 gr2 fr2;clear b1 f1 z1 o1 gr2 fr2 b2 k2 hx;refine⟨_,rfl,l,rfl,⟨_,aR.of (B2.sm _ _ hl)⟩,Qc (K:=K) (xs:=zs) (fun j σ H'=>∃(v4 v5:Option V)(ps':List Vw),σ=[some (.ref x),some (.ref tl),some (.str n),some (.ref l),v4,v5]/\Bw (cs t) H0 H' x [] (vw.take i++[(n,.pl (ss.take j))]) ps' []/\ps'.length=ps.length+1+j/\j<=ss.length/\∃ Ki,ps'=Ki++[lJ (vw.take i++[(n,.pl (ss.take j))])]) ⟨_,_,ps++[vw.take i],rfl,B2,by simp,Nat.zero_le _,ps,by rw[show ss.take 0=[] from rfl,SI]⟩ ?_ ?_ ?_⟩
    ·rintro j σ H3 ⟨_,_,ps',rfl,B3,_⟩;exact aR.of (B3.sm _ _ hl)
    ·rintro j y τ σ H3 hy3 ⟨_,_,ps',rfl,B3,pl3,jl,_⟩ hτ;obtain⟨sg,hsg,pp,rfl,hpp⟩:=qY g hy3;have hj:j<ss.length:=(List.getElem?_eq_some_iff.mp hsg).1;have s4:=aq.upd (o:=.tup [.int (j:Int),.ref pp]) hτ;have ah3:=ag (H:=H3) (a:=τ) (o:=.tup [.int (j:Int),.ref pp]);generalize upd H3 τ (.tup [.int (j:Int),.ref pp])=H4 at s4 ah3;have B4:=B3.same s4;obtain⟨dx4,L4,D4,U4,hx4⟩:=B4.hx;obtain⟨F4,b4,f4,z4,o4⟩:=B4.ex;have tjl:(ss.take j).length=j:=by rw[length_take];omega
     refine⟨τ,_,rfl,nR.of ah3,rfl,_,_,rfl,_,_,rfl,rfl,?_⟩;refine⟨_,rfl,x,dx4,_,rfl,hx4,Sd _ _ _,_,rfl,_,rfl,_,rfl,?_⟩;refine⟨x,F4,_,ps',[],n,(j:Int),pp,(sg.1.str,sg.2),rfl,b4,B4.sm _ _ hpp,by omega,?_⟩;rw[Wx nn];have gd:=Vh (gdS sg (mem_of_getElem? hsg));refine⟨(fun z=>absurd ⟨by omega,by rw[tjl];omega⟩ z),(fun _ z=>by rw[gd]at z;cases z),(fun _ _ z=>by rw[tjl]at z;omega),fun _ _ _ s9 w F9 H9 e1 e2 gr9 fr9 b9=>?_⟩;have es:s9=sg:=Prod.ext (str_inj.mp e1) e2;subst es;rw[Int.toNat_natCast,ZC hsg,Ww nn]at b9;obtain⟨B9,k9⟩:=Bw.mk' b9 B4.sm f4 z4 o4 gr9 fr9;exact⟨_,_,_,rfl,B9,by rw[length_append];show ps'.length+1=_;omega,hj,ps',by rw[Wv _ _ hsg]⟩
    ·rintro σ H3 ⟨_,_,ps',rfl,B3,pl3,jl,Ki,e0⟩;rw[zl,take_length]at B3 e0;exact⟨_,_,_,_,ps',rfl,B3,by rw[zl]at pl3;omega,il2,fun _=>⟨Ki,e0⟩⟩
  ·rintro σ H1 ⟨v2,v3,v4,v5,ps,rfl,B1,pl1,_,bf⟩;rw[yl,take_length]at B1 bf;have bf':vw≠[]->∃ Ki,ps=Ki++[lJ vw]:=fun hne=>bf (by
    cases vw with
    |nil=>exact absurd rfl hne
    |cons _ _=>exact Nat.succ_pos _)
   have zn:∀ q∈vw,q.1 ≠ "zed":=fun q hq=>(ek.nm q hq).2.1;refine⟨fun σ H'=>σ=[some (.ref x),some (.ref tl),v2,v3,v4,v5]/\Bw (cs t) H0 H' x [] vw ps (if vw.length<12 then [vL vw] else []),?_,?_⟩
   ·tm_up;refine .inl ⟨tl,ys,rfl,.inl (aR.of (B1.sm _ _ ht)),?_⟩;tm_up;refine aT (fun hlt=>?_) (fun hlt=>?_)
    ·have hlt':vw.length<12:=by have:=of_decide_eq_true hlt;omega
     obtain⟨dx,L,D,U,hx⟩:=B1.hx;obtain⟨F1,b1,f1,z1,o1⟩:=B1.ex;refine⟨_,rfl,x,dx,_,rfl,hx,ky _ _ _,?_⟩;refine⟨x,F1,_,ps,[],"zed",rfl,b1,by lk,by omega,?_⟩;rw[L0 (by lk) zn hlt'];intro F2 H2 gr2 fr2 b2;obtain⟨B2,k2⟩:=Bw.mk' b2 B1.sm f1 z1 o1 gr2 fr2;obtain⟨dx2,L2,D2,U2,hx2⟩:=B2.hx;obtain⟨F3,b3,f3,z3,o3⟩:=B2.ex;refine⟨_,rfl,x,dx2,_,rfl,hx2,Fb _ _ _,?_⟩;refine⟨x,F3,_,_,[],rfl,b3,by rw[length_append];show ps.length+1+0<=900;omega,(fun z=>by simp at z),fun Ki v0 e0 H4 fr4 b4=>?_⟩;obtain⟨e01,e02⟩:=uR e0;subst e01 e02;obtain⟨B4,k4⟩:=Bw.mk' b4 B2.sm f3 z3 o3 (Gr.refl _ _) fr4;exact⟨rfl,by rw[if_pos hlt'];exact B4⟩
    ·have hlt':¬ vw.length<12:=fun z=>hlt (decide_eq_true (by omega));exact⟨rfl,by rw[if_neg hlt'];exact B1⟩
   rintro _ H2 ⟨rfl,B2⟩;tm_up;exact q H2 ps B2 (by omega) bf'
inductive x9 (c:Cs)(vs:List V)(H:Hp)(Q:VK)(E:XK):Prop
 |mk (x:Addr) (F:Addr->Prop) (vw:Vw) (ps fs:List Vw) (n:Str) (dC:vs=[.ref x,.str n]) (dD:Cv c H x F vw ps fs) (eK:match a5 vw n with
 |none=>RX E c .m9 H
 |some (.pl _)=>Q .non H
 |some (.cn ld lt sl tn)=>∀ p,H p=some (.tup [.str ld,.int lt,.int sl,.bl tn])->Q (.ref p) H):x9 c vs H Q E
theorem ip (T:Txt K w mg t):bg P w K mg base fq (0+2) t.dX t.sk ["self","name"] (x9 (cs t)):=by
 have a9:=cS (P:=P) (base:=base) T;refine T.nj.ok Kk (fun vs H Q E h=>?_) (fun cdv A outer s H vs Q E hr h=>?_)
 ·obtain⟨_,_,_,_,_,_,rfl,_⟩:=h;rfl
 ·obtain⟨x,F,vw,ps,fs,n,rfl,B,q⟩:=h;refine aO (ai (ax (bG (a8 (pv 0) T.aJ T.cQ a9 (hr.mono (by decide)) T.bM .nil au (aa (pv 1) ae)) rfl))) ?_;obtain⟨L,D,U,all,M,Ps,Fs,es,us,b,iM,pp,pf,f⟩:=B.ex;obtain⟨dx,hx⟩:=b.hx;obtain⟨vx,g,gv⟩:=b.yu iM;refine⟨_,rfl,x,dx,_,rfl,hx,c0 _ _ _,_,rfl,x,dx,L,D,U,M L,vx,n,rfl,hx,b.hL,g,?_⟩;rcases LN gv (fun _ _ r=>r.2.1) n with ⟨f1,f2⟩|⟨a,th,j,f1,f2,r,an,fj,fw⟩
  ·rw[f1];rw[f2]at q;exact(Bool.noConfusion (show false=true from q.1))
  rw[f1];rw[f2]at q;refine⟨a.o,_,a.d,_,_,rfl,(b.ha a r.1).1,T.fm,T.cm,xu _ _ _,?_⟩;cases th with
  |pl ss=>rw[r.2.2.1];exact q
  |cn ld lt sl tn =>
   obtain⟨p,e1,e2⟩:=r.2.2;rw[e1];exact q p e2
inductive L1 (vs:List V)(H:Hp)(Q:VK)(E:XK):Prop
 |mk (p:Addr) (s:Sg) (dC:vs=[.ref p]) (dD:H p=some (.tup [.str s.1.str,.int s.2])) (eK:Q (.bl s.1.iE) H):L1 vs H Q E
theorem Wz (k:Kd):inV (.str k.str) [.str "G",.str "D",.str "s",.str "d"]=k.iE:=by cases k <;> decide +kernel
theorem WA (T:Txt K w mg t):bg P w K mg base fq (0+1) t.oj t.Ho ["sign"] L1:=by
 refine T.vv.ok Wb (fun vs H Q E h=>?_) (fun cdv A outer s H vs Q E hr h=>?_)
 ·obtain⟨_,_,rfl,_⟩:=h;rfl
 ·obtain⟨p,s,rfl,hp,q⟩:=h;rw[<-Wz]at q;refine aO (ai (ax (bB (cF.or cD) (aW aN (pv 0) aj (fun _ _=>rfl)) (bF (v:=.ref t.bX) rfl T.rJ rfl) rfl))) ?_;tm_up;exact .inl ⟨_,_,rfl,.inr (T.rK _),rfl,rfl,q⟩
inductive ya (vs:List V)(H:Hp)(Q:VK)(E:XK):Prop
 |mk (p:Addr) (s:Sg) (dC:vs=[.ref p]) (dD:H p=some (.tup [.str s.1.str,.int s.2])) (eK:iY s) (jj:Q (.str (ib s)) H):ya vs H Q E
theorem Ks (T:Txt K w mg t):bg P w K mg base fq (0+2) t.eX t.sq ["sign"] ya:=by
 have ZE:=WA (P:=P) (base:=base) T;have SF:=Vp (P:=P) (base:=base) T;refine T.jI.ok qq (fun vs H Q E h=>?_) (fun cdv A outer s H vs Q E hr h=>?_)
 ·obtain⟨_,_,rfl,_⟩:=h;rfl
 ·obtain⟨p,g,rfl,hp,gt,q⟩:=h;refine aO (af (aV (cM (aX (ar SF (hr.mono (by decide)) rfl T.Vj T.C5.kp T.M3 .nil au (aa (pv 0) ae)))) (ai eB) aC) (af (g6 (pv 0) (iA rfl (aS (aF (i:=1) qq.nd rfl (Or.inl rfl)) (aS (aF (i:=2) qq.nd rfl (Or.inl rfl)) eU)))) (af (aV (aX (ar ZE (hr.mono (by decide)) rfl T.Wh T.vv.kp T.HA .nil au (aa (pv 0) ae))) (ai (ax (MA (bJ (md (pv 1)) (bJ (md (pv 2)) Mz))))) aC) (ai (ax (pv 1)))))) ?_;refine⟨_,rfl,p,(g.1.str,g.2),rfl,hp,_,rfl,?_⟩;rw[Vh gt];have wl:=CL gt;unfold ib at q wl;refine dR ⟨_,rfl,_,_,rfl,nR.of hp,rfl,_,_,rfl,_,_,rfl,rfl,_,rfl,p,g,rfl,hp,_,rfl,?_⟩;refine aT (fun h=>?_) (fun h=>?_)
  ·rw[if_pos h]at q wl;have hn:=gt.1 h;have big:∀{n:Nat},n<=4->n<=sizeLine:=fun h=>Nat.le_trans h (by decide);have k1:=Zj g.1;refine⟨_,rfl,.inl ⟨_,rfl,big (by omega),?_,_,rfl,.inr ⟨_,rfl,LK hn.1 hn.2,?_,?_,?_⟩⟩⟩
   all_goals rw[PySem.Str.empty_append]
   ·exact big (by omega)
   ·exact big (Nat.le_succ_of_le wl)
   ·exact big (Nat.le_succ_of_le wl)
   ·exact q
  ·rw[if_neg h]at q;exact⟨_,rfl,q⟩
theorem ZF (k:Kd):(([(Str.ofString "3",V.str "2"),(Str.ofString "2",V.str "3")]:List (Str×V)).lookup k.str).getD (.str k.str)=.str (LM k).str:=by cases k <;> decide +kernel
inductive L3 (K:Frag)(vs:List V)(H:Hp)(Q:VK)(E:XK):Prop
 |mk (l:Addr) (xs:List V) (ss:List Sg) (dC:vs=[.ref l]) (dD:aR K H l xs) (eK:kx H xs ss) (jj:ss.length<=400) (pb:∀(f:Addr)(ys:List V)(H':Hp),aq H H'->H f=none->H' f=some (.lst ys)->kx H' ys (ss.map pB)->Q (.ref f) H'):L3 K vs H Q E
theorem L5 (T:Txt K w mg t):bg P w K mg base fq (0+1) t.om t.Hq ["line"] (L3 K):=by
 refine T.rC.ok Wc (fun vs H Q E h=>?_) (fun cdv A outer s H vs Q E hr h=>?_)
 ·obtain⟨_,_,_,rfl,_⟩:=h;rfl
 ·obtain⟨l,xs,ss,rfl,hS,hg,hn,q⟩:=h;refine aO (ai (ax (fX (cn:=["kind","tone"]) rfl (cz.of rfl) (c5 (pv 0)) (fun _=>(iA rfl (aS (aF (i:=0) Fh rfl (Or.inl rfl)) (aS (aF (i:=1) Fh rfl (Or.inl rfl)) eU)))) (fun _=>iC) (fun _=>(fG (aa (YY (bF (v:=.ref t.cO) rfl T.HK rfl) (pv 0) (pv 0)) (aa (pv 1) ae))))))) ?_;tm_up;refine⟨⟨xs,hS⟩,fun D b hD=>?_⟩;refine dH (K:=K) (xs:=xs) (fun i ys σ H'=>∃(v w:Option V),σ=[v,w,some (.ref l)]/\aq H H'/\H' D=some (.lst ys)/\kx H' ys ((ss.take i).map pB))
   ⟨none,none,rfl,aq.upd hD,ag,.nil⟩ ?_ ?_ ?_
  ·rintro i ys σ H' ⟨v,w,rfl,s2,_⟩;exact s2.seq hS
  ·rintro i ys x σ H' hx ⟨v,w,rfl,s2,SA,hsg⟩ N hN;obtain⟨s,hs,p,rfl,hp⟩:=qY hg hx;have hi:i<ss.length:=(List.getElem?_eq_some_iff.mp hs).1;refine⟨p,_,rfl,nR.of (s2 _ _ hp),rfl,_,_,rfl,_,_,rfl,rfl,?_⟩;refine⟨_,_,rfl,T.FP,?_⟩;tm_up;rw[ZF];refine⟨by show 2<=sizeLine;decide,fun z hz=>?_⟩;have sz:=aq.upd (o:=.tup [.str (LM s.1).str,.int s.2]) hz;have hD3:=sz _ _ SA;refine⟨hD3,?_,?_⟩
   ·rw[bL hsg,length_map,length_take];exact aK (by omega)
   ·refine hN _ _ _ ⟨_,_,rfl,dU (s2.trans sz) hD,ag,?_⟩;rw[take_succ,hs,map_append];exact lP (MG hD3 (hsg.same sz)) (Qj hD3 ⟨z,rfl,ag⟩)
  ·rintro ys σ H' ⟨v,w,rfl,s2,SA,hsg⟩;rw[bL hg,take_length]at hsg;exact q D ys H' s2 hD SA hsg
inductive yb (c:Cs)(vs:List V)(H:Hp)(Q:VK)(E:XK):Prop
 |mk (x:Addr) (F:Addr->Prop) (vw:Vw) (ps fs:List Vw) (n:Str) (ss:List Sg) (dC:vs=[.ref x,.str n]) (dD:Cv c H x F vw ps fs) (eK:a5 vw n=some (.pl ss)) (jj:∀(l:Addr)(ys:List V)(H':Hp),H l=none->aq H H'->H' l=some (.lst ys)->kx H' ys ss->Q (.ref l) H'):yb c vs H Q E
theorem Kt (T:Txt K w mg t):bg P w K mg base fq (0+3) t.dY t.pE ["self","name"] (yb (cs t)):=by
 have dc:=ip (P:=P) (base:=base) T;have HW:=L5 (P:=P) (base:=base) T;have a9:=cS (P:=P) (base:=base) T;refine T.lY.ok bA (fun vs H Q E h=>?_) (fun cdv A outer s H vs Q E hr h=>?_)
 ·obtain⟨_,_,_,_,_,_,_,rfl,_⟩:=h;rfl
 ·obtain⟨x,F,vw,ps,fs,n,ss,rfl,B,hf,q⟩:=h;refine aO (af (aL (i:=2) bA.nd rfl (Or.inl rfl) (a8 (pv 0) T.aJ T.ie dc (hr.mono (by decide)) T.ff .nil au (aa (pv 1) ae))) (af (aV (ay Mr (pv 2) uH (aA _)) (ai (ax (cE Ar rfl T.jN jq (aa (bG (a8 (pv 0) T.aJ T.cQ a9 (hr.mono (by decide)) T.bM .nil au (aa (pv 1) ae)) rfl) ae)))) aC) (af (g6 (pv 2) (iA rfl (aS (aF (i:=3) bA.nd rfl (Or.inl rfl)) (aS (aF (i:=4) bA.nd rfl (Or.inl rfl)) (aS (aF (i:=5) bA.nd rfl (Or.inl rfl)) (aS (aF (i:=6) bA.nd rfl (Or.inl rfl)) eU)))))) (af (aL (i:=7) bA.nd rfl (Or.inl rfl) Y2) (ai (ax (cI (eA (aX (pv 6)) (ar HW (hr.mono (by decide)) rfl T.LS T.rC.kp T.AU .nil au (aa (pv 7) ae)) (pv 7))))))))) ?_;obtain⟨L,D,U,all,M,Ps,Fs,es,us,b,iM,pp,pf,f⟩:=B.ex;obtain⟨dx,hx⟩:=b.hx;obtain⟨vx,g,gv⟩:=b.yu iM;refine⟨_,rfl,x,dx,_,rfl,hx,js _ _ _,_,rfl,x,F,vw,ps,fs,n,rfl,B,?_⟩;rw[hf];refine⟨_,rfl,rfl,_,rfl,?_⟩;refine aT (fun _=>?_) (fun h=>absurd (by decide) h);refine⟨_,rfl,x,dx,_,rfl,hx,c0 _ _ _,_,rfl,x,dx,L,D,U,M L,vx,n,rfl,hx,b.hL,g,?_⟩;rcases LN gv (fun _ _ r=>r.2.1) n with ⟨f1,f2⟩|⟨a,th,j,f1,f2,r,an,fj,fw⟩
  ·rw[f2]at hf;cases hf
  rw[f1];rw[f2]at hf;cases hf;refine⟨a.o,_,a.d,_,_,rfl,(b.ha a r.1).1,T.fm,T.cR,CH _ _ _,?_⟩;refine⟨_,_,rfl,.inl (aR.of (b.ha a r.1).2),fun l hl=>?_⟩;exact q l _ _ hl (aq.upd hl) ag (r.2.2.2.same (aq.upd hl))
inductive Be (c:Cs)(vs:List V)(H:Hp)(Q:VK)(E:XK):Prop
 |mk (x:Addr) (F:Addr->Prop) (vw:Vw) (ps fs:List Vw) (n:Str) (dC:vs=[.ref x,.str n]) (dD:Cv c H x F vw ps fs) (eK:match a5 vw n with
 |none=>RX E c .m9 H
 |some _=>∀(l:Addr)(ys:List V)(H':Hp),H l=none->aq H H'->H' l=some (.lst ys)->kx H' ys (AB vw n)->Q (.ref l) H'):Be c vs H Q E
theorem sO (T:Txt K w mg t):bg P w K mg base fq (0+4) t.dY t.pE ["self","name"] (Be (cs t)):=by
 have Nk:=Kt (P:=P) (base:=base) T;have dc:=ip (P:=P) (base:=base) T;have HW:=L5 (P:=P) (base:=base) T;have a9:=cS (P:=P) (base:=base) T;refine T.lY.ok bA (fun vs H Q E h=>?_) (fun cdv A outer s H vs Q E hr h=>?_)
 ·obtain⟨_,_,_,_,_,_,rfl,_⟩:=h;rfl
 ·obtain⟨x,F,vw,ps,fs,n,rfl,B,q⟩:=h;refine aO (af (aL (i:=2) bA.nd rfl (Or.inl rfl) (a8 (pv 0) T.aJ T.ie dc (hr.mono (by decide)) T.ff .nil au (aa (pv 1) ae))) (af (aV (ay Mr (pv 2) uH (aA _)) (ai (ax (cE Ar rfl T.jN jq (aa (bG (a8 (pv 0) T.aJ T.cQ a9 (hr.mono (by decide)) T.bM .nil au (aa (pv 1) ae)) rfl) ae)))) aC) (af (g6 (pv 2) (iA rfl (aS (aF (i:=3) bA.nd rfl (Or.inl rfl)) (aS (aF (i:=4) bA.nd rfl (Or.inl rfl)) (aS (aF (i:=5) bA.nd rfl (Or.inl rfl)) (aS (aF (i:=6) bA.nd rfl (Or.inl rfl)) eU)))))) (af (aL (i:=7) bA.nd rfl (Or.inl rfl) (a8 (pv 0) T.aJ T.gT Nk (hr.mono (by decide)) T.eR .nil au (aa (pv 3) ae))) (ai (ax (cI (eA (aX (pv 6)) (ar HW (hr.mono (by decide)) rfl T.LS T.rC.kp T.AU .nil au (aa (pv 7) ae)) (pv 7))))))))) ?_;obtain⟨L,D,U,all,M,Ps,Fs,es,us,b,iM,pp,pf,f⟩:=B.ex;obtain⟨dx,hx⟩:=b.hx;obtain⟨vx,g,gv⟩:=b.yu iM;have wv:=B.wv vw (.inr (.inl rfl));refine⟨_,rfl,x,dx,_,rfl,hx,js _ _ _,_,rfl,x,F,vw,ps,fs,n,rfl,B,?_⟩;cases hf:a5 vw n with
  |none =>
   rw[hf]at q;exact(Bool.noConfusion (show false=true from q.1))
  |some th =>
   rw[hf]at q;cases th with
   |pl ss =>
    refine⟨_,rfl,rfl,_,rfl,?_⟩;refine aT (fun _=>?_) (fun h=>absurd (by decide) h);refine⟨_,rfl,x,dx,_,rfl,hx,c0 _ _ _,_,rfl,x,dx,L,D,U,M L,vx,n,rfl,hx,b.hL,g,?_⟩;rcases LN gv (fun _ _ r=>r.2.1) n with ⟨f1,f2⟩|⟨a,th,j,f1,f2,r,an,fj,fw⟩
    ·rw[f2]at hf;cases hf
    rw[f1];rw[f2]at hf;cases hf;refine⟨a.o,_,a.d,_,_,rfl,(b.ha a r.1).1,T.fm,T.cR,CH _ _ _,?_⟩;refine⟨_,_,rfl,.inl (aR.of (b.ha a r.1).2),fun l hl=>?_⟩;exact q l _ _ hl (aq.upd hl) ag (by rw[q8 f2];exact r.2.2.2.same (aq.upd hl))
   |cn ld lt sl tn =>
    intro p hp;refine⟨_,rfl,rfl,_,rfl,?_⟩;refine aT (fun h=>by have:=of_decide_eq_true h;cases this) (fun _=>?_);obtain⟨⟨ss,Fo⟩,_⟩:=wv.ld n ld lt sl tn (bT hf);have hfl:=wv.find Fo;have gl:=(wv.gd _ _ Fo).1;rw[uT hf hfl]at q;refine⟨_,rfl,p,_,rfl,nR.of hp,rfl,_,_,rfl,_,_,rfl,_,_,rfl,_,_,rfl,rfl,?_⟩;refine⟨_,rfl,x,dx,_,rfl,hx,iX _ _ _,_,rfl,x,F,vw,ps,fs,ld,ss,rfl,B,hfl,fun l ys H1 hl s1 h1 g1=>?_⟩;refine⟨fun v H'=>∃ l' ys',v=.ref l'/\H l'=none/\aq H H'/\H' l'=some (.lst ys')/\kx H' ys' (if tn=true then ss.map pB else ss),?_,?_⟩
    ·refine⟨_,rfl,_,rfl,?_⟩;cases tn with
     |true =>
      refine qi ⟨_,rfl,l,ys,ss,rfl,aR.of h1,g1,by omega,fun f' ys' H2 s2 hf' h2 g2=>⟨f',ys',rfl,s1.free hf',s1.trans s2,h2,g2⟩⟩
     |false=>exact dR ⟨_,rfl,l,ys,rfl,hl,s1,h1,g1⟩
    ·rintro v H' ⟨l',ys',rfl,a1,a2,a3,a4⟩;exact q l' ys' H' a1 a2 a3 a4
inductive vN (c:Cs)(vs:List V)(H:Hp)(Q:VK)(E:XK):Prop
 |mk (x:Addr) (F:Addr->Prop) (vw:Vw) (ps fs:List Vw) (n:Str) (th:Th) (dC:vs=[.ref x,.str n]) (dD:Cv c H x F vw ps fs) (eK:a5 vw n=some th) (jj:n.length<=1000) (pb:(∀ ld lt sl tn,th=.cn ld lt sl tn->ld.length<=1000)) (RH:∀ H',aq H H'->Q (.str (AD (n,th))) H'):vN c vs H Q E
theorem HX (T:Txt K w mg t):bg P w K mg base fq (0+5) t.d8 t.qt ["book","name"] (vN (cs t)):=by
 have dc:=ip (P:=P) (base:=base) T;have Nl:=Ks (P:=P) (base:=base) T;have gH:=sO (P:=P) (base:=base) T;refine T.ig.ok dr (fun vs H Q E h=>?_) (fun cdv A outer s H vs Q E hr h=>?_)
 ·obtain⟨_,_,_,_,_,_,_,rfl,_⟩:=h;rfl
 ·obtain⟨x,F,vw,ps,fs,n,th,rfl,B,hf,hn,Fo,q⟩:=h;refine aO (af (aL (i:=2) dr.nd rfl (Or.inl rfl) (a8 (pv 0) T.aJ T.ie dc (hr.mono (by decide)) T.ff .nil au (aa (pv 1) ae))) (af (aV (ay Mr (pv 2) uH (aA _)) (ai (ax (dQ plainAttrs_str slot_str_join type_str_join Gz aY (aa (aI (bp.or (aH.or bq)) (b5 (aa aY (aa (pv 1) ae))) (fX (cn:=["sign"]) rfl (cz.of rfl) (c5 (a8 (pv 0) T.aJ T.gT gH (hr.mono (by decide)) T.eR .nil au (aa (pv 1) ae))) (fun _=>(aF (i:=0) CS rfl (Or.inl rfl))) (fun _=>iC) (fun _=>(ar Nl (hr.mono (by decide)) rfl T.Km T.jI.kp T.sC .nil au (aa (pv 0) ae))))) ae)))) aC) (af (g6 (pv 2) (iA rfl (aS (aF (i:=3) dr.nd rfl (Or.inl rfl)) (aS (aF (i:=4) dr.nd rfl (Or.inl rfl)) (aS (aF (i:=5) dr.nd rfl (Or.inl rfl)) (aS (aF (i:=6) dr.nd rfl (Or.inl rfl)) eU)))))) (af (aL (i:=7) dr.nd rfl (Or.inl rfl) (cI (eA (aX (pv 6)) aY aY))) (ai (ax (MA (bJ hZ (bJ (md (pv 1)) (bJ hZ (bJ (md (pv 3)) (bJ hZ (bJ (md (pv 4)) (bJ hZ (bJ (md (pv 5)) (bJ hZ (bJ (md (pv 7)) Mz))))))))))))))))) ?_;have wv:=B.wv vw (.inr (.inl rfl));have hx:∃ dx L D U,H x=some (.ins t.aU dx (Aj L D U)):=by
   obtain⟨L,D,U,all,M,Ps,Fs,es,us,b,_⟩:=B.ex;obtain⟨dx,e⟩:=b.hx;exact⟨dx,L,D,U,e⟩
  obtain⟨dx,L,D,U,hx⟩:=hx;refine⟨_,rfl,x,dx,_,rfl,hx,js _ _ _,_,rfl,x,F,vw,ps,fs,n,rfl,B,?_⟩;rw[hf];cases th with
  |pl ss =>
   refine⟨_,rfl,rfl,_,rfl,?_⟩;refine aT (fun _=>?_) (fun h=>absurd (by decide) h);have gd:=wv.gd _ _ (bT hf);have w3:=n6 gd.2;refine⟨rfl,_,rfl,by show 2<=sizeLine;decide,fun d0 hd0=>?_⟩;have s0:=aq.upd (o:=.lst [V.str "voice",V.str n]) hd0;have h0:=ag (H:=H) (a:=d0) (o:=.lst [V.str "voice",V.str n]);generalize upd H d0 (.lst [V.str "voice",V.str n])=H0 at s0 h0;have B0:=B.same s0;refine⟨_,rfl,x,dx,_,rfl,s0 _ _ hx,iX _ _ _,_,rfl,x,F,vw,ps,fs,n,rfl,B0,?_⟩;rw[hf,q8 hf];intro l ys H1 hl s1 h1 g1;have yl:=bL g1;have d01:=s1 _ _ h0;refine⟨l,rfl,⟨_,aR.of h1⟩,fun D b hD=>?_⟩;refine dH (K:=K) (xs:=ys) (fun i zs σ H'=>∃ v,σ=[v,some (.ref x),some (.str n),some .non,none,none,none,none,none]/\H'=upd H1 D (.lst zs)/\zs=((ss.take i).map ib).map V.str) ⟨none,rfl,rfl,by simp⟩ ?_ ?_ ?_
   ·rintro i zs σ H' ⟨v,rfl,rfl,rfl⟩;exact dS (aR.of h1) hD
   ·rintro i zs y σ H' hy ⟨v,rfl,rfl,rfl⟩ N hN;obtain⟨sg,e1,p,rfl,hp⟩:=qY g1 hy;have hi:i<ss.length:=(List.getElem?_eq_some_iff.mp e1).1;refine cH ?_;refine⟨_,rfl,p,sg,rfl,(by rw[ak (ao hp hD)];exact hp),gd.2 sg (mem_of_getElem? e1),ag,?_,?_⟩
    ·rw[length_map,length_map,length_take];exact aK (by omega)
    ·refine hN _ _ _ ⟨_,rfl,bZ,?_⟩;rw[take_succ,e1];simp
   ·rintro zs σ H' ⟨v,rfl,rfl,rfl⟩;rw[yl,take_length];have hdD:(upd H1 D (.lst ((ss.map ib).map V.str))) d0=some (.lst [V.str "voice",V.str n]):=by rw[ak (ao d01 hD)];exact d01
    refine .inr (.inr ⟨d0,D,_,_,rfl,rfl,hdD,ag,?_,fun c hc=>?_⟩)
    ·rw[length_map,length_map];exact Nat.le_of_lt (aK (by show 2+_<=_;omega))
    have sD:=aq.upd (o:=.lst ((ss.map ib).map V.str)) hD;generalize upd H1 D (.lst ((ss.map ib).map V.str))=H2 at hc sD;refine⟨_,c,"voice" :: n::ss.map ib,rfl,rfl,aR.of ag,?_,q _ (((s0.trans s1).trans sD).trans (aq.upd hc))⟩;have e:(Str.ofString " ").length=1:=by lk
    have e5:(Str.ofString "voice").length=5:=by lk
    simp only [map_cons,List.sum_cons,length_cons,length_map];rw[e,e5];omega
  |cn ld lt sl tn =>
   intro p hp;refine⟨_,rfl,rfl,_,rfl,?_⟩;refine aT (fun h=>by have:=of_decide_eq_true h;cases this) (fun _=>?_);refine⟨_,rfl,p,_,rfl,nR.of hp,rfl,_,_,rfl,_,_,rfl,_,_,rfl,_,_,rfl,rfl,?_⟩;refine⟨fun v H'=>v=.str (MQ tn)/\H'=H,?_,?_⟩
   ·refine⟨_,rfl,_,rfl,?_⟩;unfold MQ;cases tn
    ·exact dR ⟨rfl,rfl⟩
    ·exact qi ⟨rfl,rfl⟩
   intro v H' e;obtain⟨e1,e2⟩:=e;subst e1 e2;obtain⟨_,a1,a2,a3,a4⟩:=wv.ld n ld lt sl tn (bT hf);have ln:=Fo ld lt sl tn rfl;have f4:(Str.ofString (toString lt)).length<=3:=V9 a1 (by omega);have f5:(Str.ofString (toString sl)).length<=3:=V9 (by omega) (by omega);have f7:(MQ tn).length<=8:=by cases tn <;> decide +kernel
   have e6:(Str.ofString "canon ").length=6:=by lk
   have e1:(Str.ofString " ").length=1:=by lk
   have e0:Str.empty.length=0:=by lk
   have big:∀{n:Nat},n<=3000->n<=sizeLine:=fun h=>Nat.le_trans h (by decide);refine⟨?_,_,rfl,.inl ⟨_,rfl,?_,?_,?_,_,rfl,.inl ⟨_,rfl,?_,?_,?_,_,rfl,.inr ⟨_,rfl,aa2 a1 (by omega),?_,?_,_,rfl,.inr ⟨_,rfl,aa2 (by omega) (by omega),?_,?_,_,rfl,.inl ⟨_,rfl,?_,?_,?_,?_⟩⟩⟩⟩⟩⟩
   all_goals try (refine big ?_;(try simp only [PySem.Str.length_append]);omega)
   rw[PySem.Str.empty_append];exact q _ (aq.refl _)
theorem QH (d:Str):∀ xs:List Str,(Str.join d xs).length<=(xs.map (·.length)).sum+xs.length * d.length
 |[]=>by show(0:Nat)<=_;omega
 |[a]=>by
  show a.length<=a.length+0+1 * d.length;omega
 |a::b::t=>by
  have ih:=QH d (b::t);rw[join_cons,PySem.Str.length_append,PySem.Str.length_append];simp only [map_cons,List.sum_cons,length_cons]at ih ⊢;rw[Nat.add_mul,Nat.one_mul];omega
theorem ZG {vw:Vw}(w:rX vw)(hn:∀ q∈vw,q.1.length<=1000){q:Str×Th}(hq:q∈vw):(AD q).length<=10000:=by
 obtain⟨n,th⟩:=q;have h1:=hn _ hq;cases th with
 |pl ss =>
  have g:=w.gd _ _ hq;have w3:=n6 g.2;have j:=QH " " ("voice" :: n::ss.map ib);have e:(Str.ofString " ").length=1:=by lk
  have e5:(Str.ofString "voice").length=5:=by lk
  simp only [map_cons,List.sum_cons,length_cons,length_map,e,e5]at j;show(Str.join " " ("voice" :: n::ss.map ib)).length<=_;have h1:n.length<=1000:=h1;omega
 |cn ld lt sl tn =>
  obtain⟨⟨ss,Fo⟩,a1,a2,a3,a4⟩:=w.ld n ld lt sl tn hq;have h1:n.length<=1000:=h1;have h2:ld.length<=1000:=hn _ Fo;have f4:(Zf lt).length<=3:=V9 a1 (by omega);have f5:(Zf sl).length<=3:=V9 (by omega) (by omega);have f7:(MQ tn).length<=8:=by cases tn <;> decide +kernel
  have e6:(Str.ofString "canon ").length=6:=by lk
  have e1:(Str.ofString " ").length=1:=by lk
  show(Str.ofString "canon " ++ n++Str.ofString " " ++ ld++Str.ofString " " ++ Zf lt++Str.ofString " " ++ Zf sl++Str.ofString " " ++ MQ tn).length<=_;simp only [PySem.Str.length_append];omega
theorem HY {vw:Vw}(w:rX vw)(hn:∀ q∈vw,q.1.length<=1000):∀ us:Vw,(∀ q∈us,q∈vw)->((us.map AD).map (·.length)).sum<=10000 * us.length
 |[],_=>Nat.le_refl _
 |q::us,h=>by
  have h1:=ZG w hn (h q mem_cons_self);have h2:=HY w hn us fun x hx=>h x (mem_cons_of_mem _ hx);simp only [map_cons,List.sum_cons,length_cons];omega
inductive yc (c:Cs)(vs:List V)(H:Hp)(Q:VK)(E:XK):Prop
 |mk (x:Addr) (F:Addr->Prop) (vw:Vw) (ps fs:List Vw) (dC:vs=[.ref x]) (dD:Cv c H x F vw ps fs) (eK:(∀ q∈vw,q.1.length<=1000)) (jj:∀ H',aq H H'->Q (.str (Qt vw)) H'):yc c vs H Q E
theorem Ku (T:Txt K w mg t):bg P w K mg base fq (0+6) t.eY t.sr ["book"] (yc (cs t)):=by
 have Kv:=HX (P:=P) (base:=base) T;have d7:=lN (P:=P) (base:=base) T;refine T.jJ.ok Kl (fun vs H Q E h=>?_) (fun cdv A outer s H vs Q E hr h=>?_)
 ·obtain⟨_,_,_,_,_,rfl,_⟩:=h;rfl
 ·obtain⟨x,F,vw,ps,fs,rfl,B,hn,q⟩:=h;refine aO (ai (ax (dQ plainAttrs_str slot_str_join type_str_join Gz aY (aa (fX (cn:=["name"]) rfl (cz.of rfl) (c5 (gm (pv 0) T.aJ T.ic d7 (hr.mono (by decide)) T.e8 .nil au)) (fun _=>(aF (i:=0) FI rfl (Or.inl rfl))) (fun _=>iC) (fun _=>(ar Kv (hr.mono (by decide)) rfl T.HB T.ig.kp T.qw .nil au (aa (pv 1) (aa (pv 0) ae))))) ae)))) ?_;have wv:=B.wv vw (.inr (.inl rfl));have hx:∃ dx L D U,H x=some (.ins t.aU dx (Aj L D U)):=by
   obtain⟨L,D,U,all,M,Ps,Fs,es,us,b,_⟩:=B.ex;obtain⟨dx,e⟩:=b.hx;exact⟨dx,L,D,U,e⟩
  obtain⟨dx,L,D,U,hx⟩:=hx;have wl:=wv.len;refine⟨rfl,_,rfl,x,dx,_,rfl,hx,jr _ _ _,x,F,vw,ps,fs,rfl,B,fun l1 H1 nl1 s1 h1=>?_⟩;refine⟨l1,rfl,⟨_,aR.of h1⟩,fun D b hD=>?_⟩;refine dH (K:=K) (xs:=vw.map fun a=>V.str a.1) (fun i zs σ H'=>∃ v,σ=[v,some (.ref x)]/\aq H1 H'/\H' D=some (.lst zs)/\zs=((vw.take i).map AD).map V.str) ⟨none,rfl,aq.upd hD,ag,by simp⟩ ?_ ?_ ?_
  ·rintro i zs σ H' ⟨v,rfl,s2,hD2,rfl⟩;exact aR.of (s2 _ _ h1)
  ·rintro i zs y σ H' hy ⟨v,rfl,s2,hD2,rfl⟩ N hN;obtain⟨qn,hq,rfl⟩:∃ qn,vw[i]? = some qn/\y=.str qn.1:=by
    rw[getElem?_map]at hy;cases e:vw[i]? with
    |none=>rw[e]at hy;cases hy
    |some z=>rw[e]at hy;exact⟨z,rfl,(Option.some.inj hy).symm⟩
   obtain⟨n,th⟩:=qn;have hm:=mem_of_getElem? hq;have hf:=wv.find hm;have hi:i<vw.length:=(List.getElem?_eq_some_iff.mp hq).1;refine cH ?_;refine⟨_,rfl,_,rfl,x,F,vw,ps,fs,n,th,rfl,B.same (s1.trans s2),hf,hn _ hm,?_,fun H3 s3=>⟨s3 _ _ hD2,?_,?_⟩⟩
   ·rintro ld lt sl tn rfl;obtain⟨⟨ss,Fo⟩,_⟩:=wv.ld n ld lt sl tn hm;exact hn _ Fo
   ·rw[length_map,length_map,length_take];exact aK (by omega)
   ·refine hN _ _ _ ⟨_,rfl,dU (s2.trans s3) hD,ag,?_⟩;rw[take_succ,hq];simp
  ·rintro zs σ H' ⟨v,rfl,s2,hD2,rfl⟩;rw[length_map,take_length]at hD2;refine⟨_,D,vw.map AD,rfl,rfl,aR.of hD2,?_,q _ (s1.trans s2)⟩;have e:(Str.ofString "\n").length=1:=by lk
   have z:=HY wv hn vw fun _ h=>h;rw[e,length_map];omega
inductive HZ (vs:List V)(H:Hp)(Q:VK)(E:XK):Prop
 |mk (n:Int) (dC:vs=[.int n]) (dD:Q (.bl true) H):HZ vs H Q E
theorem yR (T:Txt K w mg t):bg P w K mg base fq (0+1) t.kJ t.CZ ["_law_found"] HZ:=by
 refine T.jh.ok So (fun vs H Q E h=>?_) (fun cdv A outer s H vs Q E hr h=>?_)
 ·obtain⟨_,rfl,_⟩:=h;rfl
 ·obtain⟨n,rfl,q⟩:=h;refine aO (ai (ax (cI (jm (aG dq rfl T.a7 a6 (aa (pv 0) (aa (eS (v:=.ty "int") rfl T.yO yi rfl) ae))) (jk (acn (aG dq rfl T.a7 a6 (aa (pv 0) (aa (eS (v:=.ty "bool") rfl T.Vm U0 rfl) ae))))))))) ?_;refine GS (.bl true) ?_ q;exact⟨_,rfl,_,_,_,_,rfl,hX.int _,rfl,_,rfl,qi ⟨_,rfl,_,_,_,_,rfl,hX.int _,rfl,_,rfl,m7 rfl⟩⟩
inductive Ia (K:Frag)(vs:List V)(H:Hp)(Q:VK)(E:XK):Prop
 |mk (l1 l2:Addr) (xs ys:List V) (ss:List Sg) (dC:vs=[.ref l1,.ref l2]) (dD:H l1=some (.lst xs)) (eK:aR K H l2 ys) (jj:kx H xs ss) (pb:kx H ys ss) (RH:∀ H',aq H H'->Q (.bl true) H'):Ia K vs H Q E
theorem SK (T:Txt K w mg t):bg P w K mg base fq (0+2) t.kK t.C0 ["_law_found","_law_due"] (Ia K):=by
 have nQ:=yR (P:=P) (base:=base) T;refine T.rD.ok yy (fun vs H Q E h=>?_) (fun cdv A outer s H vs Q E hr h=>?_)
 ·obtain⟨_,_,_,_,_,rfl,_⟩:=h;rfl
 ·obtain⟨l1,l2,xs,ys,ss,rfl,h1,h2,g1,g2,q⟩:=h;have el:xs.length=ys.length:=(bL g1).trans (bL g2).symm;refine aO (af (aV (cf (PW.pt (ko (cM (aX (aG dq rfl T.a7 a6 (aa (pv 0) (aa (eS (v:=.ty "list") rfl T.jN jq rfl) ae))))) (iy (ay (xW.or (qj (aM hr))) (aG (aD.or aE) rfl T.bS bR (aa (pv 0) ae)) (aG (aD.or aE) rfl T.bS bR (aa (pv 1) ae)) (aA _)))))) (ai (ax fV)) aC) (af (fF PassesOwn.never rfl (acO rfl T.Zq (pv 0) (pv 1)) (iA rfl (aS (aF (i:=2) yy.nd rfl (Or.inl rfl)) (aS (aF (i:=3) yy.nd rfl (Or.inl rfl)) eU))) (af (aV (cf (PW.pt (ko (cM (aX (aG dq rfl T.a7 a6 (aa (pv 2) (aa (eS (v:=.ty "tuple") rfl T.A0 Au rfl) ae))))) (iy (ay (xW.or (qj (aM hr))) (aG (aD.or aE) rfl T.bS bR (aa (pv 2) ae)) aj (aA _)))))) (ai (ax fV)) aC) (ai (aV (cf (PW.pt (ko (cM (aX (aG dq rfl T.a7 a6 (aa (aW aN (pv 2) aj (fun _ _=>rfl)) (aa (eS (v:=.ty "str") rfl T.Sz R3 rfl) ae))))) (ko (cM (aX (ar nQ (hr.mono (by decide)) rfl T.sF T.jh.kp T.nP .nil au (aa (aW aN (pv 2) aj (fun _ _=>rfl)) ae)))) (iy (ay (xW.or (qj (aM hr))) (pv 2) (pv 3) (aA _))))))) (ai (ax fV)) aC)))) (ai (ax fV)))) ?_;refine nW false ?_ ?_
  ·tm_up;refine⟨_,_,_,_,rfl,hX.lst h1,rfl,_,rfl,dR ?_⟩;tm_up;refine .inl ⟨_,_,rfl,.inl (aR.of h1),?_⟩;tm_up;refine .inl ⟨_,_,rfl,.inl h2,?_⟩;tm_up;exact dE (by rw[el];simp)
  refine dR ?_;tm_up;refine⟨⟨_,aR.of h1⟩,⟨_,h2⟩,aaG (K:=K) (xs:=xs) (ys:=ys) (fun i σ H'=>∃ v1 v2,σ=[some (.ref l1),some (.ref l2),v1,v2]/\aq H H') el ⟨none,none,rfl,aq.refl _⟩ ?_ ?_ ?_⟩
  ·rintro i σ H' ⟨v1,v2,rfl,s2⟩;exact⟨s2.seq (aR.of h1),s2.seq h2⟩
  ·rintro i x y tt σ H' hx hy ⟨v1,v2,rfl,s2⟩ hn;obtain⟨sg,e1,p,rfl,hp⟩:=qY g1 hx;obtain⟨sg',e2,p2,rfl,hp2⟩:=qY g2 hy;have es:sg'=sg:=Option.some.inj (e2.symm.trans e1);subst es;have s3:aq H (upd H' tt (.tup [.ref p,.ref p2])):=s2.trans (aq.upd hn);have hp':=s3 _ _ hp;have hp2':=s3 _ _ hp2;refine⟨tt,_,rfl,nR.of ag,rfl,_,_,rfl,_,_,rfl,rfl,?_⟩;generalize upd H' tt (.tup [.ref p,.ref p2])=H3 at s3 hp' hp2';refine nW false ?_ ?_
   ·tm_up;refine⟨_,_,_,_,rfl,hX.tup hp',rfl,_,rfl,dR ?_⟩;tm_up;refine .inl ⟨_,_,rfl,.inr (nR.of hp'),?_⟩;tm_up;exact dE rfl
   refine dR ?_;refine nW false ?_ ?_
   ·tm_up;refine⟨_,_,_,_,rfl,hX.str _,rfl,_,rfl,dR ?_⟩;tm_up;refine⟨aeI 59 hp' hp2',?_⟩;tm_up;exact dE rfl
   refine dR ?_;exact⟨_,_,rfl,s3⟩
  ·rintro σ H' ⟨v1,v2,rfl,s2⟩;exact q _ s2
inductive L7 (K:Frag)(vs:List V)(H:Hp)(Q:VK)(E:XK):Prop
 |mk (f d:Addr) (fs ds:List Int) (dC:vs=[.ref f,.ref d]) (dD:H f=some (.lst (fs.map V.int))) (eK:aR K H d (ds.map V.int)) (jj:ds.length<=1000) (pb:Q (.bl (decide (fs=ds))) H):L7 K vs H Q E
theorem WB (T:Txt K w mg t):bg P w K mg base fq (0+2) t.oo t.Hr ["_law_found","_law_due"] (L7 K):=by
 have nQ:=yR (P:=P) (base:=base) T;refine T.vy.ok LQ (fun vs H Q E h=>?_) (fun cdv A outer s H vs Q E hr h=>?_)
 ·obtain⟨_,_,_,_,rfl,_⟩:=h;rfl
 ·obtain⟨f,d,fs,ds,rfl,hf,hd,hn,q⟩:=h;refine aO (af (aV (cf (PW.pt (ko (cM (aX (aG dq rfl T.a7 a6 (aa (pv 0) (aa (eS (v:=.ty "list") rfl T.jN jq rfl) ae))))) (iy (ay (xW.or (qj (aM hr))) (aG (aD.or aE) rfl T.bS bR (aa (pv 0) ae)) (aG (aD.or aE) rfl T.bS bR (aa (pv 1) ae)) (aA _)))))) (ai (ax fV)) aC) (af (fF PassesOwn.never rfl (kq rfl T.jO (aa (aG (aD.or aE) rfl T.bS bR (aa (pv 1) ae)) ae)) (aF (i:=2) LQ.nd rfl (Or.inl rfl)) (ai (aV (cf (PW.pt (ko (cM (aX (ar nQ (hr.mono (by decide)) rfl T.sF T.jh.kp T.nP .nil au (aa (aW aN (pv 0) (pv 2) (fun _ _=>rfl)) ae)))) (iy (ay (xW.or (qj (aM hr))) (aW aN (pv 0) (pv 2) (fun _ _=>rfl)) (aW aN (pv 1) (pv 2) (fun _ _=>rfl)) (aA _)))))) (ai (ax fV)) aC))) (ai (ax fV)))) ?_;refine nW (decide (fs.length≠ds.length)) ?_ ?_
  ·tm_up;refine⟨_,_,_,_,rfl,hX.lst hf,rfl,_,rfl,?_⟩;refine dR ?_;tm_up;refine .inl ⟨_,_,rfl,.inl (aR.of hf),?_⟩;tm_up;refine .inl ⟨_,_,rfl,.inl hd,?_⟩;tm_up;rw[length_map,length_map];refine dE ?_;rw[eC]
   by_cases e:fs.length=ds.length
   ·simp[e]
   ·have:¬((fs.length:Int)=(ds.length:Int)):=by omega
    simp[e,this]
  ·refine aT (fun h=>?_) (fun h=>?_)
   ·have e:fs≠ds:=fun z=>by
     have:=of_decide_eq_true h;rw[z]at this;exact this rfl
    rw[decide_eq_false e]at q;exact q
   ·have el:fs.length=ds.length:=by
     by_cases e:fs.length=ds.length
     ·exact e
     ·exact absurd (decide_eq_true e) h
    tm_up;refine .inl ⟨_,_,rfl,.inl hd,?_⟩;rw[length_map];have Vn:(2:Int) ^ 62=4611686018427387904:=by decide
    refine⟨(ds.length:Int),rfl,by rw[Vn];omega,by rw[Vn];omega,?_⟩;refine nr (n:=((ds.length:Int)).toNat) (fun i σ H'=>∃ v,σ=[some (.ref f),some (.ref d),v]/\H'=H/\fs.take i=ds.take i) ⟨none,rfl,rfl,rfl⟩ ?_ ?_
    ·rintro i σ H' hi ⟨v,rfl,rfl,ht⟩;have hid:i<ds.length:=by omega
     have hif:i<fs.length:=by omega
     refine nW (decide (fs[i]≠ds[i])) ?_ ?_
     ·tm_up;refine Y8 (aR.of hf) (n:=i) (by omega) (getElem?_eq_getElem hif) ?_;tm_up;refine Y8 (aR.of hf) (n:=i) (by omega) (getElem?_eq_getElem hif) ?_;tm_up;refine Y8 hd (n:=i) (by omega) (getElem?_eq_getElem hid) ?_;tm_up;refine dE ?_;rw[eC];simp
     ·refine aT (fun h=>?_) (fun h=>?_)
      ·have e:fs≠ds:=fun z=>by
        subst z;exact(of_decide_eq_true h) rfl
       rw[decide_eq_false e]at q;exact q
      ·have e:fs[i]=ds[i]:=by
        by_cases z:fs[i]=ds[i]
        ·exact z
        ·exact absurd (decide_eq_true z) h
       refine⟨_,rfl,rfl,?_⟩;rw[List.take_succ_eq_append_getElem hif,List.take_succ_eq_append_getElem hid,ht,e]
    ·rintro σ H' ⟨v,rfl,rfl,ht⟩;have e:fs=ds:=by
      have h1:((ds.length:Int)).toNat=ds.length:=by omega
      rw[h1,take_length,<-el,take_length]at ht;exact ht
     rw[decide_eq_true e]at q;exact q
inductive Fp (K:Frag)(vs:List V)(H:Hp)(Q:VK)(E:XK):Prop
 |mk (l:Addr) (b:Int) (xs:List V) (ss:List Sg) (dC:vs=[.ref l,.int b]) (dD:aR K H l xs) (eK:kx H xs ss) (jj:ss.length<=400) (pb:∀(f:Addr)(H':Hp),aq H H'->H f=none->H' f=some (.lst ((fY b (ba ss)).map V.int))->Q (.ref f) H'):Fp K vs H Q E
theorem ae4 {k:Kd}(h:k.meas=true)(m:Int):intText? k.str=some (nm m k)/\k.str.length<=640:=by
 cases k <;> first|(cases h;done)|exact⟨by first|exact(show intText? Kd.three.str=some 3 by lk)|exact(show intText? Kd.two.str=some 2 by lk),by lk⟩
theorem adm {k:Kd}(h:¬ k.meas=true)(m:Int):nm m k=m:=by
 cases k <;> first|rfl|exact absurd rfl h
theorem Fq (T:Txt K w mg t):bg P w K mg base fq (0+2) t.iJ t.su ["line","begin"] (Fp K):=by
 have oJ:=uA (P:=P) (base:=base) T;refine T.iN.ok lU (fun vs H Q E h=>?_) (fun cdv A outer s H vs Q E hr h=>?_)
 ·obtain⟨_,_,_,_,rfl,_⟩:=h;rfl
 ·obtain⟨l,b,xs,ss,rfl,hS,hg,hn,q⟩:=h;refine aO (af (aL (i:=2) lU.nd rfl (Or.inl rfl) (b5 ae)) (af (aL (i:=3) lU.nd rfl (Or.inl rfl) (pv 1)) (af (fF PassesOwn.never rfl (c5 (pv 0)) (aF (i:=4) lU.nd rfl (Or.inl rfl)) (af (me (aV (aX (ar oJ (hr.mono (by decide)) rfl T.uo T.eI.kp T.jH .nil au (aa (pv 4) ae))) (ai (aL (i:=3) lU.nd rfl (Or.inl rfl) (cE (nu.or fu) rfl T.yO yi (aa (aW aN (pv 4) aj (fun _ _=>rfl)) ae)))) aC)) (ai (aQ (dQ plainAttrs_list slot_list_append type_list_append aZ (pv 2) (aa (pv 3) ae)))))) (ai (ax (pv 2)))))) ?_;refine⟨big (by show 0<=1000;omega),fun f hf=>?_⟩;tm_up;refine⟨⟨xs,dS hS hf⟩,nS (K:=K) (xs:=xs) (fun i σ H'=>∃(m:Int)(v:Option V)(fs:List Int),σ=[some (.ref l),some (.int b),some (.ref f),some (.int m),v]/\H'=upd H f (.lst (fs.map V.int))/\fs++fY m ((ba ss).drop i)=fY b (ba ss))
   ⟨b,none,[],rfl,rfl,rfl⟩ ?_ ?_ ?_⟩
  ·rintro i σ H' _ ⟨m,v,fs,rfl,rfl,_⟩;exact dS hS hf
  ·rintro i x σ H' hx ⟨m,v,fs,rfl,rfl,hm⟩;obtain⟨s,hs,p,rfl,hp⟩:=qY hg hx;have hd:=m8 (uQ (f:=Prod.fst) hs);rw[hd]at hm;have hp':upd H f (.lst (fs.map V.int)) p=some (.tup [.str s.1.str,.int s.2]):=by rw[ak (ao hp hf)];exact hp
   have hl:=congrArg List.length hm;simp only [length_append,fY,length_cons,CF,length_map]at hl;refine YZ [some (.ref l),some (.int b),some (.ref f),some (.int (nm m s.1)),some (.ref p)] (upd H f (.lst (fs.map V.int))) ?_ ?_
   ·refine⟨_,rfl,p,s,rfl,hp',_,rfl,?_⟩;refine aT (fun h=>?_) (fun h=>?_)
    ·obtain⟨e1,e2⟩:=ae4 h m;tm_up;exact .inr ⟨_,_,rfl,e1,e2,rfl,rfl⟩
    ·rw[adm h];exact⟨rfl,rfl⟩
   ·tm_up;refine⟨.inl ⟨rfl,_,aR.of ag⟩,?_⟩;tm_up;refine⟨_,_,_,rfl,rfl,ag,by rw[length_map];exact aK (by omega),?_⟩;exact⟨_,_,fs++[nm m s.1],rfl,by rw[bZ,map_append];rfl,by rw[List.append_assoc];exact hm⟩
  ·rintro σ H' ⟨m,v,fs,rfl,rfl,hm⟩;rw[List.drop_eq_nil_of_le (by rw[length_map,bL hg];exact Nat.le_refl _)]at hm;tm_up;have e:fs=fY b (ba ss):=by rw[<-hm];simp[fY]
   subst e;exact q f _ (aq.upd hf) hf ag
inductive Ib (K:Frag)(vs:List V)(H:Hp)(Q:VK)(E:XK):Prop
 |mk (l:Addr) (i:Int) (xs:List V) (ss:List Sg) (dC:vs=[.ref l,.int i]) (dD:aR K H l xs) (eK:kx H xs ss) (jj:Q (.str (ph (MH (ba ss) i))) H):Ib K vs H Q E
theorem sP (T:Txt K w mg t):bg P w K mg base fq (0+1) t.kL t.C1 ["line","at"] (Ib K):=by
 refine T.dO.ok Sq (fun vs H Q E h=>?_) (fun cdv A outer s H vs Q E hr h=>?_)
 ·obtain⟨_,_,_,_,rfl,_⟩:=h;rfl
 ·obtain⟨l,i,xs,ss,rfl,hS,hg,q⟩:=h;have out:¬(0<=i/\i<ss.length)->MH (ba ss) i=none:=fun z=>by
   unfold MH;split
   ·exact List.getElem?_eq_none (by rw[length_map];omega)
   ·rfl
  refine aO (af (aV (Ak uL qV aj (pv 1) (aG (aD.or aE) rfl T.bS bR (aa (pv 0) ae))) (ai (ax (aW aN (aW aN (pv 0) (pv 1) (fun _ _=>rfl)) aj (fun _ _=>rfl)))) aC) (ai (ax aY))) ?_;tm_up;refine aT (fun h0=>?_) (fun h0=>?_)
  ·have h0':=of_decide_eq_true h0;tm_up;refine .inl ⟨_,_,rfl,.inl hS,?_⟩;rw[bL hg];tm_up;refine aT (fun h1=>?_) (fun h1=>?_)
   ·have h1':=of_decide_eq_true h1;have hi:i.toNat<ss.length:=by omega
    have e:MH (ba ss) i=some (ss[i.toNat]).1:=by
     unfold MH;rw[if_pos h0',getElem?_map,getElem?_eq_getElem hi];rfl
    rw[e]at q;tm_up;refine Kg hS hg (n:=i.toNat) (by omega) (getElem?_eq_getElem hi) fun b hb=>?_;tm_up;exact q
   ·rw[out fun z=>h1 (decide_eq_true z.2)]at q;exact q
  ·rw[out fun z=>h0 (decide_eq_true z.1)]at q;exact⟨_,rfl,dR q⟩
inductive vO (vs:List V)(H:Hp)(Q:VK)(E:XK):Prop
 |mk (k:Kd) (m:Int) (dC:vs=[.str k.str,.int m]) (dD:Q (.int (pw k m)) H):vO vs H Q E
theorem Ic (T:Txt K w mg t):bg P w K mg base fq (0+1) t.ed t.qu ["kind","measure"] vO:=by
 refine T.ij.ok Hg (fun vs H Q E h=>?_) (fun cdv A outer s H vs Q E hr h=>?_)
 ·obtain⟨_,_,rfl,_⟩:=h;rfl
 ·obtain⟨k,m,rfl,q⟩:=h;refine aO (af (aV (cf (PW.pt (dG (ay (bN.or (a0 (aM hr))) (pv 1) aj (aA _)) (fW (ay YX (pv 0) (bF (v:=.ref t.bH) rfl T.rL rfl) rfl))))) (ai (ax (aW abX (bF (v:=.ref t.bH) rfl T.rL rfl) (pv 0) (fun _ _=>rfl)))) aC) (ai (ax (aW abX (bF (v:=.ref t.cP) rfl T.HL rfl) (pv 0) (fun _ _=>rfl))))) ?_;refine nW (decide (m=2)&&(decide (k=.G)||decide (k=.R))) ?_ ?_
  ·tm_up;rw[eC];refine aT (fun h=>?_) (fun h=>?_)
   ·tm_up;refine⟨_,_,_,rfl,rfl,T.pR,_,rfl,dE ?_⟩;rw[h];cases k <;> decide +kernel
   ·exact dE (by rw[Bool.eq_false_iff.mpr h];rfl)
  ·refine aT (fun h=>?_) (fun h=>?_)
   ·tm_up;obtain⟨h1,h2⟩:=Bool.and_eq_true_iff.mp h;have hm:=of_decide_eq_true h1;have e:[(Str.ofString "G",V.int 2),(Str.ofString "R",V.int 2)].lookup k.str=some (.int (pw k m)):=by
     rw[hm];cases k <;> first|decide +kernel|(exfalso;revert h2;decide)
    exact⟨_,_,_,_,rfl,rfl,T.pR,e,q⟩
   ·tm_up;have e:[(Str.ofString "G",V.int 3),(Str.ofString "D",V.int 2),(Str.ofString "R",V.int 3),(Str.ofString "s",V.int 1),(Str.ofString "d",V.int 1),(Str.ofString "r",V.int 1),(Str.ofString ".",V.int 0),(Str.ofString "3",V.int 0),(Str.ofString "2",V.int 0)].lookup k.str=some (.int (pw k m)):=by
     by_cases hm:m=2
     ·rw[hm]at h ⊢;cases k <;> first|decide +kernel|(exfalso;revert h;decide)
     ·cases k <;> first|decide +kernel|(simp only [pw,if_neg hm];decide +kernel)
    exact⟨_,_,_,_,rfl,rfl,T.FQ,e,q⟩
inductive jR (K:Frag)(vs:List V)(H:Hp)(Q:VK)(E:XK):Prop
 |mk (l:Addr) (b:Int) (xs:List V) (ss:List Sg) (dC:vs=[.ref l,.int b]) (dD:aR K H l xs) (eK:kx H xs ss) (jj:ss.length<=400) (pb:∀(f:Addr)(H':Hp),aq H H'->H f=none->H' f=some (.lst ((gn b (ba ss)).map V.int))->Q (.ref f) H'):jR K vs H Q E
theorem sQ (T:Txt K w mg t):bg P w K mg base fq (0+3) t.bu t.fJ ["line","begin"] (jR K):=by
 have yS:=Fq (P:=P) (base:=base) T;have eJ:=sP (P:=P) (base:=base) T;have Kw:=Ic (P:=P) (base:=base) T;refine T.cC.ok c8 (fun vs H Q E h=>?_) (fun cdv A outer s H vs Q E hr h=>?_)
 ·obtain⟨_,_,_,_,rfl,_⟩:=h;rfl
 ·obtain⟨l,b,xs,ss,rfl,hS,hg,hn,q⟩:=h;refine aO (af (aL (i:=2) c8.nd rfl (Or.inl rfl) (b5 ae)) (af (fF PassesOwn.never rfl (U1 rfl T.sJ (ar yS (hr.mono (by decide)) rfl T.Fj T.iN.kp T.sG .nil au (aa (pv 0) (aa (pv 1) ae)))) (iA rfl (aS (aF (i:=3) c8.nd rfl (Or.inl rfl)) (aS (aF (i:=4) c8.nd rfl (Or.inl rfl)) eU))) (ai (aV (cf (PW.pt (dG (ay (bN.or (a0 (aM hr))) (pv 4) aj (aA _)) (dG (ay (bN.or (a0 (aM hr))) (ar eJ (hr.mono (by decide)) rfl T.gE T.dO.kp T.fE .nil au (aa (pv 0) (aa (pv 3) ae))) aY (aA _)) (fW (ay (bN.or (a0 (aM hr))) (ar eJ (hr.mono (by decide)) rfl T.gE T.dO.kp T.fE .nil au (aa (pv 0) (aa (aI (bp.or (aH.or bq)) (pv 3) aj) ae))) aY (aA _))))))) (ai (aQ (dQ plainAttrs_list slot_list_append type_list_append aZ (pv 2) (aa (bF (v:=.int 3) rfl T.HM ⟨_,rfl⟩) ae)))) (ai (aQ (dQ plainAttrs_list slot_list_append type_list_append aZ (pv 2) (aa (ar Kw (hr.mono (by decide)) rfl T.HD T.ij.kp T.qx .nil au (aa (ar eJ (hr.mono (by decide)) rfl T.gE T.dO.kp T.fE .nil au (aa (pv 0) (aa (pv 3) ae))) (aa (pv 4) ae))) ae))))))) (ai (ax (pv 2))))) ?_;refine⟨big (by show 0<=1000;omega),fun f hf=>?_⟩;tm_up;refine⟨l,b,xs,ss,rfl,dS hS hf,hg.same (aq.upd hf),hn,fun f2 H2 s2 n2 h2=>⟨_,rfl,⟨_,aR.of h2⟩,?_⟩⟩;have ml:(fY b (ba ss)).length=ss.length:=by rw[CF,length_map]
  have nff:f2≠f:=fun e=>by rw[e,ag]at n2;cases n2
  refine Qc (K:=K) (xs:=(fY b (ba ss)).map V.int) (fun i σ H'=>∃(v w:Option V)(fs:List Int),σ=[some (.ref l),some (.int b),some (.ref f),v,w]/\aq H H'/\H' f=some (.lst (fs.map V.int))/\H' f2=some (.lst ((fY b (ba ss)).map V.int))/\fs++yp ((ba ss).drop i) ((fY b (ba ss)).drop i)=gn b (ba ss))
   ⟨none,none,[],rfl,(aq.upd hf).trans s2,s2 _ _ ag,h2,Qk ..⟩ ?_ ?_ ?_
  ·rintro i σ H' ⟨v,w,fs,rfl,_,_,h3,_⟩;exact aR.of h3
  ·rintro i x t σ H' hx ⟨v,w,fs,rfl,s3,h3,h4,hm⟩ ht;obtain⟨m,hm1,rfl⟩:=CC hx;have hil:i<ss.length:=by
    have:=(List.getElem?_eq_some_iff.mp hm1).1;omega
   have hk:(ba ss)[i]? = some (ss[i]).1:=uQ (getElem?_eq_getElem hil);rw[m8 hk,m8 hm1]at hm;simp only [yp,head_drop]at hm;have hl:=congrArg List.length hm;simp only [length_append,length_cons,qZ,length_map]at hl;have sT:aq H' (upd H' t (.tup [.int i,.int m])):=aq.upd ht;have hS':aR K (upd H' t (.tup [.int i,.int m])) l xs:=(s3.trans sT).seq hS;have hg':=hg.same (s3.trans sT);have h3':=sT _ _ h3;have ka:MH (ba ss) (i:Int)=some (ss[i]).1:=by rw[pj];exact hk
   have kb:MH (ba ss) ((i:Int)+1)=(ba ss)[i+1]?:=by rw[<-pj];rfl
   refine⟨t,_,rfl,nR.of ag,rfl,_,_,rfl,_,_,rfl,rfl,?_⟩;have fin:∀ z:Int,z=bw m (ss[i]).1 (ba ss)[i+1]?->∃(v w:Option V)(fs':List Int),[some (V.ref l),some (V.int b),some (V.ref f),some (V.int (i:Int)),some (V.int m)]=[some (.ref l),some (.int b),some (.ref f),v,w]/\aq H (upd (upd H' t (.tup [.int i,.int m])) f (.lst (fs.map V.int++[V.int z]))) /\
     (upd (upd H' t (.tup [.int i,.int m])) f (.lst (fs.map V.int++[V.int z]))) f=some (.lst (fs'.map V.int))/\(upd (upd H' t (.tup [.int i,.int m])) f (.lst (fs.map V.int++[V.int z]))) f2=some (.lst ((fY b (ba ss)).map V.int))/\fs'++yp ((ba ss).drop (i+1)) ((fY b (ba ss)).drop (i+1))=gn b (ba ss):=by
    intro z hz;refine⟨_,_,fs++[z],rfl,dU (s3.trans sT) hf,by rw[ag,map_append];rfl,by rw[ak nff];exact sT _ _ h4,?_⟩;rw[List.append_assoc,hz];exact hm
   refine nW (decide (m=2)&&(decide (ph (MH (ba ss) (i:Int)) = "G")&&decide (ph (MH (ba ss) ((i:Int)+1)) = "."))) ?_ ?_
   ·tm_up;rw[eC];refine aT (fun h=>?_) (fun h=>?_)
    ·tm_up;refine⟨l,_,xs,ss,rfl,hS',hg',?_⟩;tm_up;rw[aaS];refine aT (fun h2=>?_) (fun h2=>?_)
     ·tm_up;refine⟨l,_,xs,ss,rfl,hS',hg',?_⟩;tm_up;rw[aaS];exact dE (by rw[h,h2];rfl)
     ·exact dE (by rw[h,Bool.eq_false_iff.mpr h2];rfl)
    ·exact dE (by rw[Bool.eq_false_iff.mpr h];rfl)
   ·refine aT (fun h=>?_) (fun h=>?_)
    ·tm_up;refine⟨.inl ⟨rfl,_,aR.of h3'⟩,?_⟩;refine⟨_,_,_,rfl,rfl,h3',by rw[length_map];exact aK (by omega),fin 3 ?_⟩;obtain⟨h1,h2⟩:=Bool.and_eq_true_iff.mp h;obtain⟨h2,h5⟩:=Bool.and_eq_true_iff.mp h2;have e1:(ss[i]).1=.G:=by
      have:=of_decide_eq_true h2;rw[ka]at this;exact str_inj.mp (this.trans (rfl:("G":Str)=Kd.G.str))
     have e2:(ba ss)[i+1]? = some .dot:=by
      have:=of_decide_eq_true h5;rw[kb]at this;exact Qh.mp (this.trans (rfl:(".":Str)=ph (some .dot)))
     unfold bw;rw[if_pos ⟨of_decide_eq_true h1,e1,e2⟩]
    ·tm_up;refine⟨.inl ⟨rfl,_,aR.of h3'⟩,?_⟩;tm_up;refine⟨l,_,xs,ss,rfl,hS',hg',?_⟩;tm_up;rw[ka];refine⟨_,_,rfl,?_⟩;refine⟨_,_,_,rfl,rfl,h3',by rw[length_map];exact aK (by omega),fin _ ?_⟩;unfold bw;rw[if_neg];rintro⟨h1,h2,h5⟩;refine h ?_;rw[ka,kb,h2,h5,h1];decide +kernel
  ·rintro σ H' ⟨v,w,fs,rfl,s3,h3,_,hm⟩;rw[length_map,ml,List.drop_eq_nil_of_le (by rw[length_map];exact Nat.le_refl _)]at hm;tm_up;have e:fs=gn b (ba ss):=by rw[<-hm];simp[yp]
   subst e;exact q f _ s3 hf h3
inductive Vq (K:Frag)(vs:List V)(H:Hp)(Q:VK)(E:XK):Prop
 |mk (l:Addr) (b:Int) (xs:List V) (ss:List Sg) (dC:vs=[.ref l,.int b]) (dD:aR K H l xs) (eK:kx H xs ss) (jj:ss.length<=400) (pb:∀(f:Addr)(ys:List V)(H':Hp),aq H H'->H f=none->H' f=some (.lst ys)->Sa H' ys (ui b (ba ss))->Q (.ref f) H'):Vq K vs H Q E
theorem aa9 (T:Txt K w mg t):bg P w K mg base fq (0+3) t.yE t.MW ["line","begin"] (Vq K):=by
 have yS:=Fq (P:=P) (base:=base) T;have Nh:=QE (P:=P) (base:=base) T;refine T.C8.ok se (fun vs H Q E h=>?_) (fun cdv A outer s H vs Q E hr h=>?_)
 ·obtain⟨_,_,_,_,rfl,_⟩:=h;rfl
 ·obtain⟨l,b,xs,ss,rfl,hS,hg,hn,q⟩:=h;refine aO (af (aL (i:=2) se.nd rfl (Or.inl rfl) (b5 ae)) (af (aL (i:=3) se.nd rfl (Or.inl rfl) aj) (af (fF PassesOwn.never rfl (aes rfl T.Zq rfl T.sJ (pv 0) (ar yS (hr.mono (by decide)) rfl T.Fj T.iN.kp T.sG .nil au (aa (pv 0) (aa (pv 1) ae)))) (iA rfl (aS (aF (i:=4) se.nd rfl (Or.inl rfl)) (aS (iA rfl (aS (aF (i:=5) se.nd rfl (Or.inl rfl)) (aS (aF (i:=6) se.nd rfl (Or.inl rfl)) eU))) eU))) (ai (aV (cf (PW.pt (ko (ay (bN.or (a0 (aM hr))) (pv 6) aj (aA _)) (iy (cM (aX (ar Nh (hr.mono (by decide)) rfl T.Qw T.xG.kp T.GD .nil au (aa (pv 5) ae)))))))) (af (me (aV (ay qV (pv 3) (pv 4) (aA _)) (ai (aQ (dQ plainAttrs_list slot_list_append type_list_append aZ (pv 2) (aa (fG (aa (pv 3) (aa (pv 4) ae))) ae)))) aC)) (ai (aL (i:=3) se.nd rfl (Or.inl rfl) (aI (bp.or (aH.or bq)) (pv 4) aj)))) aC))) (af (me (aV (ay qV (pv 3) (aG (aD.or aE) rfl T.bS bR (aa (pv 0) ae)) (aA _)) (ai (aQ (dQ plainAttrs_list slot_list_append type_list_append aZ (pv 2) (aa (fG (aa (pv 3) (aa (aG (aD.or aE) rfl T.bS bR (aa (pv 0) ae)) ae))) ae)))) aC)) (ai (ax (pv 2))))))) ?_;refine⟨big (by show 0<=1000;omega),fun f hf=>?_⟩;tm_up;refine⟨l,b,xs,ss,rfl,dS hS hf,hg.same (aq.upd hf),hn,fun f2 H2 s2 n2 h2=>⟨_,_,rfl,rfl,⟨xs,((aq.upd hf).trans s2).seq hS⟩,⟨_,aR.of h2⟩,?_⟩⟩;have ml:(fY b (ba ss)).length=ss.length:=by rw[CF,length_map]
  have nff:f2≠f:=fun e=>by rw[e,ag]at n2;cases n2
  have cnt:(ui b (ba ss)).length<=401:=by
   have:=lQ (h9 b (ba ss)) 0 0;rw[nX,length_map]at this;exact Nat.le_trans this (by omega)
  refine acQ (K:=K) (xs:=xs) (ys:=(fY b (ba ss)).map V.int) (fun i σ H'=>∃(v w u:Option V)(first:Nat)(ys:List V)(qs:List (Nat×Nat)),σ=[some (.ref l),some (.int b),some (.ref f),some (.int (first:Int)),v,w,u]/\aq H H'/\H' f=some (.lst ys)/\Sa H' ys qs/\H' f2=some (.lst ((fY b (ba ss)).map V.int))/\first<=i/\qs++dF i first (Ql ((ba ss).drop i) ((fY b (ba ss)).drop i))=ui b (ba ss))
   (by rw[length_map,ml];exact bL hg) ⟨none,none,none,0,[],[],rfl,(aq.upd hf).trans s2,s2 _ _ ag,.nil,h2,Nat.le_refl _,by rw[List.drop_zero,List.drop_zero,R9];rfl⟩ ?_ ?_ ?_
  ·rintro i σ H' ⟨v,w,u,first,ys,qs,rfl,s3,_,_,h4,_⟩;exact⟨s3.seq hS,aR.of h4⟩
  ·rintro i x y t u' σ H' hx hy ⟨v,w,u,first,ys,qs,rfl,s3,h3,hq,h4,hfi,hm⟩ ht hu htu;obtain⟨s,hs,p,rfl,hp⟩:=qY hg hx;obtain⟨m,hm1,rfl⟩:=CC hy;rw[m8 (uQ (f:=Prod.fst) hs),m8 hm1]at hm;simp only [Ql]at hm;have sT:aq H' (upd (upd H' t (.tup [.ref p,.int m])) u' (.tup [.int i,.ref t])):=(aq.upd ht).trans (aq.upd (by rw[ak htu.symm];exact hu));have ut:upd (upd H' t (.tup [.ref p,.int m])) u' (.tup [.int i,.ref t]) t=some (.tup [.ref p,.int m]):=by rw[ak htu,ag]
   refine⟨u',_,rfl,nR.of ag,rfl,_,_,rfl,_,_,rfl,t,_,rfl,nR.of ut,rfl,_,_,rfl,_,_,rfl,rfl,rfl,?_⟩;generalize upd (upd H' t (.tup [.ref p,.int m])) u' (.tup [.int i,.ref t])=H3 at sT;have hp3:=(s3.trans sT) _ _ hp;have h33:=sT _ _ h3;have hq3:=pq sT hq;refine nW (!inR m s.1) ?_ ?_
   ·tm_up;rw[eC];refine aT (fun h=>?_) (fun h=>?_)
    ·refine dE ?_;unfold inR;have:=of_decide_eq_true h;simp[this]
    ·tm_up;refine⟨p,s,rfl,hp3,_,rfl,dE ?_⟩;have hm2:m≠2:=fun e=>h (decide_eq_true e);unfold inR;simp[hm2]
   ·cases hin:inR m s.1 with
    |false =>
     rw[hin]at hm;refine qi ?_;refine⟨fun σ1 H1=>σ1=[some (.ref l),some (.int b),some (.ref f),some (.int (first:Int)),some (.int i),some (.ref p),some (.int m)]/\aq H H1/\(∃ ys',H1 f=some (.lst ys')/\Sa H1 ys' (qs++if first<i then [(first,i)] else []))/\H1 f2=some (.lst ((fY b (ba ss)).map V.int)),?_,?_⟩
     ·tm_up;refine aT (fun h=>?_) (fun h=>?_)
      ·have hlt:first<i:=by have:=of_decide_eq_true h;omega
       have ql:qs.length<=401:=by
        have:=congrArg List.length hm;simp only [length_append]at this;omega
       tm_up;refine⟨.inl ⟨rfl,_,aR.of h33⟩,?_⟩;tm_up;refine⟨by show 2<=sizeLine;decide,fun z hz=>?_⟩;have sz:aq H3 (upd H3 z (.tup [.int (first:Int),.int i])):=aq.upd hz;have h3z:=sz _ _ h33;refine⟨_,_,_,rfl,rfl,h3z,by rw[bL hq3];exact aK (by omega),?_⟩;rw[if_pos hlt];exact⟨rfl,dU ((s3.trans sT).trans sz) hf,⟨_,ag,lP (nY h3z (pq sz hq3)) (Qm h3z ⟨z,rfl,ag⟩)⟩,by rw[ak nff];exact sz _ _ (sT _ _ h4)⟩
      ·have hlt:¬ first<i:=fun z=>h (decide_eq_true (by omega))
       rw[if_neg hlt,append_nil];exact⟨rfl,s3.trans sT,⟨_,h33,hq3⟩,sT _ _ h4⟩
     ·rintro σ1 H1 ⟨rfl,sa,⟨ys',hb,hc⟩,hd⟩;tm_up;refine⟨_,_,_,i+1,ys',_,rfl,sa,hb,hc,hd,Nat.le_refl _,?_⟩;rw[<-hm,List.append_assoc];rfl
    |true =>
     rw[hin]at hm;refine dR ?_;exact⟨_,_,_,first,ys,qs,rfl,s3.trans sT,h33,hq3,sT _ _ h4,by omega,hm⟩
  ·rintro σ H' ⟨v,w,u,first,ys,qs,rfl,s3,h3,hq,h4,hfi,hm⟩;rw[bL hg]at hm hfi;rw[List.drop_eq_nil_of_le (by rw[length_map];exact Nat.le_refl _)]at hm;have hm':qs++(if first<ss.length then [(first,ss.length)] else [])=ui b (ba ss):=hm;have ql:qs.length<=401:=by
    have:=congrArg List.length hm;simp only [length_append]at this;omega
   refine⟨fun σ1 H1=>σ1=[some (.ref l),some (.int b),some (.ref f),some (.int (first:Int)),v,w,u]/\aq H H1/\∃ ys',H1 f=some (.lst ys')/\Sa H1 ys' (ui b (ba ss)),?_,?_⟩
   ·tm_up;refine .inl ⟨_,_,rfl,.inl (s3.seq hS),?_⟩;rw[bL hg];tm_up;refine aT (fun h=>?_) (fun h=>?_)
    ·have hlt:first<ss.length:=by have:=of_decide_eq_true h;omega
     tm_up;refine⟨.inl ⟨rfl,_,aR.of h3⟩,?_⟩;tm_up;refine .inl ⟨_,_,rfl,.inl (s3.seq hS),?_⟩;rw[bL hg];refine⟨by show 2<=sizeLine;decide,fun z hz=>?_⟩;have sz:aq H' (upd H' z (.tup [.int (first:Int),.int (ss.length:Int)])):=aq.upd hz;have h3z:=sz _ _ h3;refine⟨_,_,_,rfl,rfl,h3z,by rw[bL hq];exact aK (by omega),?_⟩;rw[if_pos hlt]at hm';rw[<-hm'];exact⟨rfl,dU (s3.trans sz) hf,_,ag,lP (nY h3z (pq sz hq)) (Qm h3z ⟨z,rfl,ag⟩)⟩
    ·have hlt:¬ first<ss.length:=fun z=>h (decide_eq_true (by omega))
     rw[if_neg hlt,append_nil]at hm';rw[<-hm'];exact⟨rfl,s3,_,h3,hq⟩
   ·rintro σ1 H1 ⟨rfl,sa,ys',hb,hc⟩;tm_up;exact q f ys' H1 sa hf hb hc
inductive rN (K:Frag)(vs:List V)(H:Hp)(Q:VK)(E:XK):Prop
 |mk (l f:Addr) (a:Nat) (xs:List V) (ss:List Sg) (fs:List Int) (dC:vs=[.ref l,.ref f,.int (a:Int)]) (dD:aR K H l xs) (eK:kx H xs ss) (jj:H f=some (.lst (fs.map V.int))) (pb:fs.length=ss.length) (RH:Q (.bl (ia (ba ss) fs a)) H):rN K vs H Q E
theorem rO (T:Txt K w mg t):bg P w K mg base fq (0+2) t.cY t.mh ["line","found","first"] (rN K):=by
 have eJ:=sP (P:=P) (base:=base) T;refine T.dP.ok CP (fun vs H Q E h=>?_) (fun cdv A outer s H vs Q E hr h=>?_)
 ·obtain⟨_,_,_,_,_,_,rfl,_⟩:=h;rfl
 ·obtain⟨l,f,a,xs,ss,fs,rfl,hS,hg,hf,hl,q⟩:=h;refine aO (ai (ax (cI (jm (bB (bN.or (a0 (aM hr))) (ar eJ (hr.mono (by decide)) rfl T.gE T.dO.kp T.fE .nil au (aa (pv 0) (aa (aI iB (pv 2) aj) ae))) aY (aA _)) (jk (bB (bN.or (a0 (aM hr))) (aW aN (pv 1) (aI iB (pv 2) aj) (fun _ _=>rfl)) (bF (v:=.int 3) rfl T.Na ⟨_,rfl⟩) (aA _))))))) ?_;refine GS (.bl (ia (ba ss) fs a)) ?_ q;tm_up;refine⟨l,_,xs,ss,rfl,hS,hg,?_⟩;tm_up;rw[o_G];refine aT (fun h=>?_) (fun h=>?_)
  ·have e:=of_decide_eq_true h;have e':1<=a/\a-1<ss.length:=by
    unfold MH at e;split at e
    ·have:=(List.getElem?_eq_some_iff.mp e).1;rw[length_map]at this;omega
    ·cases e
   tm_up;refine Y8 (aR.of hf) (n:=a-1) (by omega) (getElem?_eq_getElem (by omega)) ?_;tm_up;rw[eC];refine m7 ?_;unfold ia;rw[h,List.getD_eq_getElem?_getD,getElem?_eq_getElem (by omega)];rfl
  ·refine m7 ?_;unfold ia;rw[Bool.eq_false_iff.mpr h];rfl
inductive pX (K:Frag)(vs:List V)(H:Hp)(Q:VK)(E:XK):Prop
 |mk (l:Addr) (z:Nat) (xs:List V) (ss:List Sg) (dC:vs=[.ref l,.int (z:Int)]) (dD:aR K H l xs) (eK:kx H xs ss) (jj:Q (.bl (eV (ba ss) z)) H):pX K vs H Q E
theorem Vr (k:Option Kd):inV (.str (ph k)) [.str "G",.str "D",.str "R"]=qk k:=by
 cases k with
 |none=>decide +kernel
 |some k=>cases k <;> decide +kernel
theorem pY (T:Txt K w mg t):bg P w K mg base fq (0+2) t.cK t.kM ["line","behind"] (pX K):=by
 have eJ:=sP (P:=P) (base:=base) T;refine T.dn.ok AJ (fun vs H Q E h=>?_) (fun cdv A outer s H vs Q E hr h=>?_)
 ·obtain⟨_,_,_,_,rfl,_⟩:=h;rfl
 ·obtain⟨l,z,xs,ss,rfl,hS,hg,q⟩:=h;refine aO (ai (ax (cI (jm (bB (bN.or (a0 (aM hr))) (ar eJ (hr.mono (by decide)) rfl T.gE T.dO.kp T.fE .nil au (aa (pv 0) (aa (pv 1) ae))) aY (aA _)) (jk (bB (Ap.or Aq) (ar eJ (hr.mono (by decide)) rfl T.gE T.dO.kp T.fE .nil au (aa (pv 0) (aa (aI (bp.or (aH.or bq)) (pv 1) aj) ae))) (bF (v:=.ref t.dg) rfl T.x3 rfl) rfl)))))) ?_;refine GS (.bl (eV (ba ss) z)) ?_ q;tm_up;refine⟨l,_,xs,ss,rfl,hS,hg,?_⟩;tm_up;rw[o_G];refine aT (fun h=>?_) (fun h=>?_)
  ·tm_up;refine⟨l,_,xs,ss,rfl,hS,hg,?_⟩;tm_up;refine .inl ⟨_,_,rfl,.inr (T.x4 _),rfl,rfl,m7 ?_⟩;unfold eV;rw[pj]at h;have e:MH (ba ss) ((z:Int)+1)=(ba ss)[z+1]?:=by rw[<-pj];rfl
   rw[h,<-Vr,<-e];rfl
  ·refine m7 ?_;unfold eV;rw[pj]at h;rw[Bool.eq_false_iff.mpr h];rfl
def ZH (K:Frag)(g:List Kd->List Int->Nat->Nat->Bool×List Int):Sp:=fun vs H Q _=>∃(l f:Addr)(a z:Nat)(xs:List V)(ss:List Sg)(fs:List Int),vs=[.ref l,.ref f,.int (a:Int),.int (z:Int)]/\aR K H l xs/\kx H xs ss/\H f=some (.lst (fs.map V.int))/\fs.length=ss.length/\a<z/\z<=ss.length /\
 Q (.bl (g (ba ss) fs a z).1) (upd H f (.lst ((g (ba ss) fs a z).2.map V.int)))
theorem yT (T:Txt K w mg t):bg P w K mg base fq (0+3) t.cj t.jz ["line","found","first","behind"] (ZH K Aw):=by
 have mv:=rO (P:=P) (base:=base) T;have kW:=pY (P:=P) (base:=base) T;refine T.d3.ok yz (fun vs H Q E h=>?_) (fun cdv A outer s H vs Q E hr h=>?_)
 ·obtain⟨_,_,_,_,_,_,_,rfl,_⟩:=h;rfl
 ·obtain⟨l,f,a,z,xs,ss,fs,rfl,hS,hg,hf,hl,haz,hz,q⟩:=h;unfold Aw at q;refine aO (af (aV (aX (ar mv (hr.mono (by decide)) rfl T.rE T.dP.kp T.iw .nil au (aa (pv 0) (aa (pv 1) (aa (pv 2) ae))))) (af (g6 (bF (v:=.int 2) rfl T.gi ⟨_,rfl⟩) (uJ (pv 1) (aI iB (pv 2) aj) set_list)) (ai (ax fV))) aC) (af (aV (aX (ar kW (hr.mono (by decide)) rfl T.pL T.dn.kp T.gU .nil au (aa (pv 0) (aa (pv 3) ae)))) (af (g6 (bF (v:=.int 2) rfl T.gi ⟨_,rfl⟩) (uJ (pv 1) (pv 3) set_list)) (ai (ax fV))) aC) (ai (ax fV)))) ?_;tm_up;refine⟨l,f,a,xs,ss,fs,rfl,hS,hg,hf,hl,_,rfl,?_⟩;refine aT (fun h=>?_) (fun h=>?_)
  ·rw[if_pos h]at q;have hp:=CG h;rw[length_map]at hp;tm_up;refine⟨_,_,_,_,rfl,rfl,hf,px (j:=a-1) (by omega) (by rw[length_map];omega),?_⟩;rw[lI];exact q
  ·rw[if_neg h]at q;tm_up;refine⟨l,z,xs,ss,rfl,hS,hg,_,rfl,?_⟩;refine aT (fun h2=>?_) (fun h2=>?_)
   ·rw[if_pos h2]at q;have hp:=yr h2;rw[length_map]at hp;tm_up;refine⟨_,_,_,_,rfl,rfl,hf,px (j:=z) rfl (by rw[length_map];omega),?_⟩;rw[lI];exact q
   ·rw[if_neg h2,Ay hf]at q;exact q
theorem yU (T:Txt K w mg t):bg P w K mg base fq (0+3) t.ck t.jA ["line","found","first","behind"] (ZH K Ax):=by
 have mv:=rO (P:=P) (base:=base) T;have kW:=pY (P:=P) (base:=base) T;have eJ:=sP (P:=P) (base:=base) T;refine T.d4.ok yA (fun vs H Q E h=>?_) (fun cdv A outer s H vs Q E hr h=>?_)
 ·obtain⟨_,_,_,_,_,_,_,rfl,_⟩:=h;rfl
 ·obtain⟨l,f,a,z,xs,ss,fs,rfl,hS,hg,hf,hl,haz,hz,q⟩:=h;unfold Ax at q;refine aO (af (aV (cf (PW.pt (dG (ay (cF.or cD) (ar eJ (hr.mono (by decide)) rfl T.gE T.dO.kp T.fE .nil au (aa (pv 0) (aa (pv 3) ae))) (bF (v:=.ref t.dg) rfl T.x3 rfl) rfl) (fW (ay (bN.or (a0 (aM hr))) (ar eJ (hr.mono (by decide)) rfl T.gE T.dO.kp T.fE .nil au (aa (pv 0) (aa (aI iB (pv 3) aj) ae))) aY (aA _)))))) (af (g6 (bF (v:=.int 2) rfl T.FR ⟨_,rfl⟩) (uJ (pv 1) (aI iB (pv 3) aj) set_list)) (ai (ax fV))) aC) (af (aV (cf (PW.pt (dG (aX (ar mv (hr.mono (by decide)) rfl T.rE T.dP.kp T.iw .nil au (aa (pv 0) (aa (pv 1) (aa (pv 2) ae))))) (fW (aX (ar kW (hr.mono (by decide)) rfl T.pL T.dn.kp T.gU .nil au (aa (pv 0) (aa (pv 3) ae)))))))) (af (g6 (bF (v:=.int 2) rfl T.gi ⟨_,rfl⟩) (uJ (pv 1) (aI iB (pv 2) aj) set_list)) (af (g6 (bF (v:=.int 2) rfl T.gi ⟨_,rfl⟩) (uJ (pv 1) (pv 3) set_list)) (ai (ax fV)))) aC) (ai (ax fV)))) ?_;refine nW (qk (ba ss)[z]? && decide ((ba ss)[z-1]? = some .s)) ?_ ?_
  ·tm_up;refine⟨l,_,xs,ss,rfl,hS,hg,?_⟩;tm_up;refine .inl ⟨_,_,rfl,.inr (T.x4 _),rfl,rfl,_,rfl,?_⟩;show if inV (.str (ph (MH (ba ss) (z:Int)))) [.str "G",.str "D",.str "R"]=true then _ else _;rw[Vr,pj];refine aT (fun h=>?_) (fun h=>?_)
   ·tm_up;refine⟨l,_,xs,ss,rfl,hS,hg,?_⟩;tm_up;rw[o_s];have e:MH (ba ss) ((z:Int)-1)=(ba ss)[z-1]?:=by rw[<-pj];congr 1;omega
    rw[e];exact dE (by rw[h];rfl)
   ·exact dE (by rw[Bool.eq_false_iff.mpr h];rfl)
  ·refine aT (fun h=>?_) (fun h=>?_)
   ·rw[if_pos h]at q;tm_up;refine⟨_,_,_,_,rfl,rfl,hf,px (j:=z-1) (by omega) (by rw[length_map];omega),?_⟩;rw[lI];exact q
   ·rw[if_neg h]at q;refine nW (ia (ba ss) fs a&&eV (ba ss) z) ?_ ?_
    ·tm_up;refine⟨l,f,a,xs,ss,fs,rfl,hS,hg,hf,hl,_,rfl,?_⟩;refine aT (fun h=>?_) (fun h=>?_)
     ·tm_up;refine⟨l,z,xs,ss,rfl,hS,hg,_,rfl,dE ?_⟩;rw[h];rfl
     ·exact dE (by rw[Bool.eq_false_iff.mpr h];rfl)
    ·refine aT (fun h2=>?_) (fun h2=>?_)
     ·rw[if_pos h2]at q;have hp:=CG (Bool.and_eq_true_iff.mp h2).1;have hr:=yr (Bool.and_eq_true_iff.mp h2).2;rw[length_map]at hp hr;tm_up;refine⟨_,_,_,_,rfl,rfl,hf,px (j:=a-1) (by omega) (by rw[length_map];omega),?_⟩;rw[lI];tm_up;refine⟨_,_,_,_,rfl,rfl,ag,px (j:=z) rfl (by rw[length_map,List.length_set];omega),?_⟩;rw[lI,bZ];exact q
     ·rw[if_neg h2,Ay hf]at q;exact q
theorem Kx (T:Txt K w mg t):bg P w K mg base fq (0+4) t.eZ t.sv ["line","found","first","behind"] (ZH K settle):=by
 have Bf:=yT (P:=P) (base:=base) T;have Bg:=yU (P:=P) (base:=base) T;refine T.jM.ok xZ (fun vs H Q E h=>?_) (fun cdv A outer s H vs Q E hr h=>?_)
 ·obtain⟨_,_,_,_,_,_,_,rfl,_⟩:=h;rfl
 ·obtain⟨l,f,a,z,xs,ss,fs,rfl,hS,hg,hf,hl,haz,hz,q⟩:=h;unfold settle at q;refine aO (af (aL (i:=4) xZ.nd rfl (Or.inl rfl) (aI c7 (aI iB (pv 3) (pv 2)) aj)) (af (aV (ay (bN.or (a0 (aM hr))) (pv 4) aj (aA _)) (ai (ax (ar Bf (hr.mono (by decide)) rfl T.yL T.d3.kp T.jK .nil au (aa (pv 0) (aa (pv 1) (aa (pv 2) (aa (pv 3) ae))))))) aC) (af (aV (ay (bN.or (a0 (aM hr))) (pv 4) aj (aA _)) (ai (ax (ar Bg (hr.mono (by decide)) rfl T.yM T.d4.kp T.jL .nil au (aa (pv 0) (aa (pv 1) (aa (pv 2) (aa (pv 3) ae))))))) aC) (ai (ax fV))))) ?_;tm_up;rw[eC];have e:((z:Int)-(a:Int)) % 3=(((z-a) % 3:Nat):Int):=by omega
  refine aT (fun h=>?_) (fun h=>?_)
  ·have h1:(z-a) % 3=1:=by have:((z:Int)-(a:Int)) % 3=1:=of_decide_eq_true h;omega
   rw[if_pos h1]at q;tm_up;exact⟨l,f,a,z,xs,ss,fs,rfl,hS,hg,hf,hl,haz,hz,q⟩
  ·have h1:¬(z-a) % 3=1:=fun c=>h (decide_eq_true (by show((z:Int)-(a:Int)) % 3=1;omega));rw[if_neg h1]at q;tm_up;rw[eC];refine aT (fun h=>?_) (fun h=>?_)
   ·have h2:(z-a) % 3=2:=by have:((z:Int)-(a:Int)) % 3=2:=of_decide_eq_true h;omega
    rw[if_pos h2]at q;tm_up;exact⟨l,f,a,z,xs,ss,fs,rfl,hS,hg,hf,hl,haz,hz,q⟩
   ·have h2:¬(z-a) % 3=2:=fun c=>h (decide_eq_true (by show((z:Int)-(a:Int)) % 3=2;omega));rw[if_neg h2,Ay hf]at q;exact q
inductive Ie (K:Frag)(vs:List V)(H:Hp)(Q:VK)(E:XK):Prop
 |mk (l:Addr) (b:Int) (xs:List V) (ss:List Sg) (dC:vs=[.ref l,.int b]) (dD:aR K H l xs) (eK:kx H xs ss) (jj:ss.length<=400) (pb:∀(p f lo:Addr)(ys:List V)(H':Hp),aq H H'->H f=none->H lo=none->f≠lo->H' p=some (.tup [.ref f,.ref lo])->H' f=some (.lst ((iW b (ba ss)).1.map V.int))->H' lo=some (.lst ys)->Sa H' ys (iW b (ba ss)).2->Q (.ref p) H'):Ie K vs H Q E
theorem SM (T:Txt K w mg t):bg P w K mg base fq (0+5) t.kO t.C2 ["line","begin"] (Ie K):=by
 have uF:=sQ (P:=P) (base:=base) T;have ado:=aa9 (P:=P) (base:=base) T;have Nm:=Kx (P:=P) (base:=base) T;refine T.rF.ok n8 (fun vs H Q E h=>?_) (fun cdv A outer s H vs Q E hr h=>?_)
 ·obtain⟨_,_,_,_,rfl,_⟩:=h;rfl
 ·obtain⟨l,b,xs,ss,rfl,hS,hg,hn,q⟩:=h;refine aO (af (aL (i:=2) n8.nd rfl (Or.inl rfl) (ar uF (hr.mono (by decide)) rfl T.sH T.cC.kp T.fL .nil au (aa (pv 0) (aa (pv 1) ae)))) (af (aL (i:=3) n8.nd rfl (Or.inl rfl) (b5 ae)) (af (fF PassesOwn.never rfl (c5 (ar ado (hr.mono (by decide)) rfl T.aa4 T.C8.kp T.Sw .nil au (aa (pv 0) (aa (pv 1) ae)))) (iA rfl (aS (aF (i:=4) n8.nd rfl (Or.inl rfl)) (aS (aF (i:=5) n8.nd rfl (Or.inl rfl)) eU))) (ai (aV (cM (aX (ar Nm (hr.mono (by decide)) rfl T.Ko T.jM.kp T.sI .nil au (aa (pv 0) (aa (pv 2) (aa (pv 4) (aa (pv 5) ae))))))) (ai (aQ (dQ plainAttrs_list slot_list_append type_list_append aZ (pv 3) (aa (fG (aa (pv 4) (aa (pv 5) ae))) ae)))) aC))) (ai (ax (fG (aa (pv 2) (aa (pv 3) ae)))))))) ?_;tm_up;refine⟨l,b,xs,ss,rfl,hS,hg,hn,fun f H1 s1 n1 h1=>?_⟩;refine⟨big (by show 0<=1000;omega),fun lo hlo=>?_⟩;have s1':=s1.trans (aq.upd (o:=.lst []) hlo);tm_up;refine⟨l,b,xs,ss,rfl,s1'.seq hS,hg.same s1',hn,fun r zs H2 s2 n2 h2 hz=>⟨_,rfl,⟨_,aR.of h2⟩,?_⟩⟩;have ZI:H lo=none:=s1.free hlo;have nfl:f≠lo:=ao h1 hlo;have nrf:r≠f:=fun e=>by
   have:=s1'.free n2;have h1':=aq.upd (o:=.lst []) hlo _ _ h1;rw[<-e,n2]at h1';cases h1'
  have nrl:r≠lo:=fun e=>by rw[e,ag]at n2;cases n2
  have bl:(gn b (ba ss)).length=ss.length:=by rw[qZ,length_map]
  have cnt:(ui b (ba ss)).length<=401:=by
   have:=lQ (h9 b (ba ss)) 0 0;rw[nX,length_map]at this;exact Nat.le_trans this (by omega)
  refine nS (K:=K) (xs:=zs) (fun i σ H'=>∃(v w:Option V)(c:RdS)(ys:List V),σ=[some (.ref l),some (.int b),some (.ref f),some (.ref lo),v,w]/\aq H H'/\H' f=some (.lst (c.1.map V.int))/\H' lo=some (.lst ys)/\Sa H' ys c.2/\H' r=some (.lst zs)/\Sa H' zs (ui b (ba ss))/\c.1.length=ss.length/\c.2.length<=i/\((ui b (ba ss)).drop i).foldl (qm (ba ss)) c=iW b (ba ss))
   ⟨none,none,(gn b (ba ss),[]),[],rfl,s1'.trans s2,s2 _ _ (aq.upd (o:=.lst []) hlo _ _ h1),s2 _ _ ag,.nil,h2,hz,bl,Nat.le_refl _,rfl⟩ ?_ ?_ ?_
  ·rintro i σ H' _ ⟨v,w,c,ys,rfl,_,_,_,_,hr,_⟩;exact aR.of hr
  ·rintro i x σ H' hx ⟨v,w,c,ys,rfl,s3,hf3,ads,hys,hr3,hzs,hcl,hci,pZ⟩;obtain⟨pr,hpr,p,rfl,hp⟩:=qY hzs hx;have hin:=Za b (ba ss) pr (mem_of_getElem? hpr);rw[length_map]at hin;rw[m8 hpr,List.foldl_cons]at pZ;have hil:i<401:=by
    have:=(List.getElem?_eq_some_iff.mp hpr).1;omega
   refine⟨p,_,rfl,nR.of hp,rfl,_,_,rfl,_,_,rfl,rfl,?_⟩;tm_up;refine⟨l,f,pr.1,pr.2,xs,ss,c.1,rfl,s3.seq hS,hg.same s3,hf3,hcl,hin.1,hin.2,?_⟩;have s4:aq H (upd H' f (.lst ((settle (ba ss) c.1 pr.1 pr.2).2.map V.int))):=dU s3 n1;have SN:upd H' f (.lst ((settle (ba ss) c.1 pr.1 pr.2).2.map V.int)) lo=some (.lst ys):=by rw[ak nfl.symm];exact ads
   have hr4:upd H' f (.lst ((settle (ba ss) c.1 pr.1 pr.2).2.map V.int)) r=some (.lst zs):=by rw[ak nrf];exact hr3
   have adh:(settle (ba ss) c.1 pr.1 pr.2).2.length=ss.length:=by rw[yq];exact hcl
   tm_up;refine aT (fun h=>?_) (fun h=>?_)
   ·have hst:(settle (ba ss) c.1 pr.1 pr.2).1=false:=by
     cases e:(settle (ba ss) c.1 pr.1 pr.2).1
     ·rfl
     ·rw[e]at h;cases h
    tm_up;refine⟨.inl ⟨rfl,_,aR.of SN⟩,?_⟩;tm_up;refine⟨by show 2<=sizeLine;decide,fun z hz=>?_⟩;have sz:=aq.upd (o:=.tup [.int (pr.1:Int),.int (pr.2:Int)]) hz;have QI:=sz _ _ SN;refine⟨_,_,_,rfl,rfl,QI,by rw[bL hys];exact aK (by omega),?_⟩;refine⟨_,_,((settle (ba ss) c.1 pr.1 pr.2).2,c.2++[pr]),_,rfl,dU (s4.trans sz) ZI,by rw[ak nfl];exact sz _ _ ag,ag,lP (nY QI (pq sz (nY hf3 hys))) (Qm QI ⟨z,rfl,ag⟩),
     by rw[ak nrl];exact sz _ _ hr4,nY QI (pq sz (nY hf3 hzs)),adh,by simp;omega,?_⟩
    rw[<-pZ];unfold qm;rw[hst];rfl
   ·have hst:(settle (ba ss) c.1 pr.1 pr.2).1=true:=by
     cases e:(settle (ba ss) c.1 pr.1 pr.2).1
     ·rw[e]at h;exact absurd rfl h
     ·rfl
    refine⟨_,_,((settle (ba ss) c.1 pr.1 pr.2).2,c.2),ys,rfl,s4,ag,SN,nY hf3 hys,hr4,nY hf3 hzs,adh,by show c.2.length<=i+1;omega,?_⟩;rw[<-pZ];unfold qm;rw[hst];rfl
  ·rintro σ H' ⟨v,w,c,ys,rfl,s3,hf3,ads,hys,hr3,hzs,hcl,hci,pZ⟩;rw[bL hz,List.drop_length]at pZ;have e:c=iW b (ba ss):=pZ;subst e;tm_up;refine⟨by show 2<=sizeLine;decide,fun z hz=>?_⟩;have sz:=aq.upd (o:=.tup [.ref f,.ref lo]) hz;exact q z f lo ys _ (s3.trans sz) n1 ZI nfl ag (sz _ _ hf3) (sz _ _ ads) (pq sz hys)
inductive Ma (K:Frag)(vs:List V)(H:Hp)(Q:VK)(E:XK):Prop
 |mk (l:Addr) (b:Int) (xs:List V) (ss:List Sg) (dC:vs=[.ref l,.int b]) (dD:aR K H l xs) (eK:kx H xs ss) (jj:ss.length<=400) (pb:∀(f:Addr)(H':Hp),aq H H'->H f=none->H' f=some (.lst ((iW b (ba ss)).1.map V.int))->Q (.ref f) H'):Ma K vs H Q E
theorem WC (T:Txt K w mg t):bg P w K mg base fq (0+6) t.oq t.AN ["line","begin"] (Ma K):=by
 have WD:=SM (P:=P) (base:=base) T;refine T.oB.ok Wd (fun vs H Q E h=>?_) (fun cdv A outer s H vs Q E hr h=>?_)
 ·obtain⟨_,_,_,_,rfl,_⟩:=h;rfl
 ·obtain⟨l,b,xs,ss,rfl,hS,hg,hn,q⟩:=h;refine aO (ai (ax (aW aN (ar WD (hr.mono (by decide)) rfl T.Sx T.rF.kp T.C9 .nil au (aa (pv 0) (aa (pv 1) ae))) aj (fun _ _=>rfl)))) ?_;tm_up;refine⟨l,b,xs,ss,rfl,hS,hg,hn,fun p f lo ys H' s1 n1 n2 _ hp hf _ _=>?_⟩;tm_up;exact q f H' s1 n1 hf
inductive Bh (c:Cs)(vs:List V)(H:Hp)(Q:VK)(E:XK):Prop
 |mk (x:Addr) (F:Addr->Prop) (vw:Vw) (ps fs:List Vw) (n:Str) (dC:vs=[.ref x,.str n]) (dD:Cv c H x F vw ps fs) (eK:match a5 vw n with
 |none=>RX E c .m9 H
 |some _=>∀(l:Addr)(H':Hp),H l=none->aq H H'->H' l=some (.lst ((um vw n).map V.int))->Q (.ref l) H'):Bh c vs H Q E
theorem Nn (T:Txt K w mg t):bg P w K mg base fq (0+7) t.eO t.vf ["self","name"] (Bh (cs t)):=by
 have dc:=ip (P:=P) (base:=base) T;have QJ:=WC (P:=P) (base:=base) T;have gH:=sO (P:=P) (base:=base) T;refine T.pM.ok eW (fun vs H Q E h=>?_) (fun cdv A outer s H vs Q E hr h=>?_)
 ·obtain⟨_,_,_,_,_,_,rfl,_⟩:=h;rfl
 ·obtain⟨x,F,vw,ps,fs,n,rfl,B,q⟩:=h;refine aO (af (aL (i:=2) eW.nd rfl (Or.inl rfl) (a8 (pv 0) T.aJ T.ie dc (hr.mono (by decide)) T.ff .nil au (aa (pv 1) ae))) (af (aV (ay Mr (pv 2) uH (aA _)) (ai (ax (ar QJ (hr.mono (by decide)) rfl T.LW T.oB.kp T.AV .nil au (aa (a8 (pv 0) T.aJ T.gT gH (hr.mono (by decide)) T.eR .nil au (aa (pv 1) ae)) (aa aj ae))))) aC) (af (g6 (pv 2) (iA rfl (aS (aF (i:=3) eW.nd rfl (Or.inl rfl)) (aS (aF (i:=4) eW.nd rfl (Or.inl rfl)) (aS (aF (i:=5) eW.nd rfl (Or.inr rfl)) (aS (aF (i:=6) eW.nd rfl (Or.inl rfl)) eU)))))) (af (aL (i:=7) eW.nd rfl (Or.inl rfl) (cI (eA (aX (pv 6)) aj aj))) (ai (ax (fX (cn:=["worth"]) rfl (cz.of rfl) (c5 (ar QJ (hr.mono (by decide)) rfl T.LW T.oB.kp T.AV .nil au (aa (a8 (pv 0) T.aJ T.gT gH (hr.mono (by decide)) T.eR .nil au (aa (pv 1) ae)) (aa (pv 7) ae)))) (fun _=>(aF (i:=0) FJ rfl (Or.inl rfl))) (fun _=>iC) (fun _=>(aI (l9.or ma) (pv 6) (pv 0)))))))))) ?_;obtain⟨L,D,U,all,M,Ps,Fs,es,us,b,iM,pp,pf,f⟩:=B.ex;obtain⟨dx,hx⟩:=b.hx;have wv:=B.wv vw (.inr (.inl rfl));refine⟨_,rfl,x,dx,_,rfl,hx,js _ _ _,_,rfl,x,F,vw,ps,fs,n,rfl,B,?_⟩;cases hf:a5 vw n with
  |none =>
   rw[hf]at q;exact(Bool.noConfusion (show false=true from q.1))
  |some th =>
   rw[hf]at q;cases th with
   |pl ss =>
    have gl:=(wv.gd _ _ (bT hf)).1;refine⟨_,rfl,rfl,_,rfl,?_⟩;refine aT (fun _=>?_) (fun h=>absurd (by decide) h);refine⟨_,rfl,x,dx,_,rfl,hx,iX _ _ _,_,rfl,x,F,vw,ps,fs,n,rfl,B,?_⟩;rw[hf];intro l ys H1 hl s1 h1 g1;rw[q8 hf]at g1;refine⟨l,3,ys,ss,rfl,aR.of h1,g1,by omega,fun f' H2 s2 n2 h2=>?_⟩;exact q f' H2 (s1.free n2) (s1.trans s2) (by rw[G7 hf];exact h2)
   |cn ld lt sl tn =>
    intro p hp;obtain⟨⟨ss,Fo⟩,lt0,lt1,sl0,sl1⟩:=wv.ld n ld lt sl tn (bT hf);have hfl:=wv.find Fo;have gl:=(wv.gd _ _ Fo).1;rw[G8 hf hfl]at q;refine⟨_,rfl,rfl,_,rfl,?_⟩;refine aT (fun h=>by have:=of_decide_eq_true h;cases this) (fun _=>?_);refine⟨_,rfl,p,_,rfl,nR.of hp,rfl,_,_,rfl,_,_,rfl,_,_,rfl,_,_,rfl,rfl,?_⟩;refine⟨fun v H'=>v=.int (if tn=true then 2 else 3)/\H'=H,?_,?_⟩
    ·refine⟨_,rfl,_,rfl,?_⟩;cases tn with
     |true=>exact qi ⟨rfl,rfl⟩
     |false=>exact dR ⟨rfl,rfl⟩
    intro v0 H0 ⟨e1,e2⟩;rw[e1,e2];refine⟨_,rfl,x,dx,_,rfl,hx,iX _ _ _,_,rfl,x,F,vw,ps,fs,n,rfl,B,?_⟩;rw[hf];intro l ys H1 hl s1 h1 g1;rw[uT hf hfl]at g1;have gl2:(if tn=true then ss.map pB else ss).length<=400:=by
     split
     ·rw[length_map];omega
     ·omega
    refine⟨_,rfl,l,(if tn=true then 2 else 3),ys,_,rfl,aR.of h1,g1,gl2,fun f' H2 s2 n2 h2=>?_⟩;generalize hW:(iW (if tn=true then 2 else 3) (ba (if tn=true then ss.map pB else ss))).1=W at q h2;have hWl:W.length<=400:=by rw[<-hW,xt,length_map];exact gl2
    refine⟨f',rfl,⟨_,aR.of h2⟩,fun D' b' hD'=>?_⟩;generalize hbz:(if tn=true then(2:Int) else 3)=bz;refine dH (K:=K) (xs:=W.map V.int) (fun i ys σ H'=>∃ v,σ=[v,some (.ref x),some (.str n),some (.ref p),some (.str ld),some (.int lt),some (.int sl),some (.bl tn),some (.int bz)]/\H'=upd H2 D' (.lst ys)/\ys=((W.take i).map fun w=>sl * w).map V.int) ⟨none,rfl,rfl,by simp⟩ ?_ ?_ ?_
    ·rintro i ys σ H' ⟨v,rfl,rfl,_⟩;exact dS (aR.of h2) hD'
    ·rintro i ys y σ H' hy ⟨v,rfl,rfl,rfl⟩ N hN;obtain⟨z,hz,rfl⟩:=CC hy;have hi:i<W.length:=(List.getElem?_eq_some_iff.mp hz).1;refine cH ?_;refine⟨_,rfl,_,rfl,.inl ⟨_,_,rfl,rfl,.inl ⟨by omega,by omega⟩,ag,?_,?_⟩⟩
     ·rw[length_map,length_map,length_take];exact aK (by omega)
     ·refine hN _ _ _ ⟨_,rfl,bZ,?_⟩;rw[take_succ,hz,map_append,map_append];rfl
    ·rintro ys σ H' ⟨v,rfl,rfl,rfl⟩;rw[length_map,take_length];exact q D' _ (s1.free (s2.free hD')) ((s1.trans s2).trans (aq.upd hD')) ag
theorem _root_.L2.GY.same {H H':Hp}{a:Addr}{y:V}{r:Option V}(s:aq H H')(h:GY H a y r):GY H' a y r:=by
 have rd:∀{u},Rd H a u->Rd H' a u:=fun z=>z.imp (fun e=>s _ _ e) fun⟨o,e⟩=>⟨o,s _ _ e⟩;rcases h with ⟨kvs,k,e,e2,e3⟩|⟨kvs,k,b,e,e2,e3,e4⟩
 ·exact .inl ⟨kvs,k,rd e,e2,e3⟩
 ·exact .inr ⟨kvs,k,b,rd e,e2,s _ _ e3,e4⟩
inductive Bi (K:Frag)(vs:List V)(H:Hp)(Q:VK)(E:XK):Prop
 |mk (d:Addr) (vw:Vw) (n:Str) (th:Th) (dC:vs=[.ref d,.str n]) (dD:Ha H d vw) (eK:rX vw) (jj:a5 vw n=some th) (pb:∀(l:Addr)(ys:List V)(H':Hp),aq H H'->H' l=some (.lst ys)->kx H' ys (AB vw n)->Q (.ref l) H'):Bi K vs H Q E
theorem Bj (T:Txt K w mg t):bg P w K mg base fq (0+1) t.gB t.vg ["_law_voices","_law_name"] (Bi K):=by
 refine T.ji.ok jv (fun vs H Q E h=>?_) (fun cdv A outer s H vs Q E hr h=>?_)
 ·obtain⟨_,_,_,_,rfl,_⟩:=h;rfl
 ·obtain⟨d,vw,n,th,rfl,hd,wv,hf,q⟩:=h;refine aO (af (aL (i:=2) jv.nd rfl (Or.inl rfl) (xr (Ly hr) (pv 0) (pv 1) (fun _ _=>rfl))) (af (aV (aX (aG dq rfl T.a7 a6 (aa (pv 2) (aa (eS (v:=.ty "list") rfl T.jN jq rfl) ae)))) (ai (ax (pv 2))) aC) (af (aV (cM (aX (aW aN (pv 2) aj (fun _ _=>rfl)))) (ai (ax (xr (Ly hr) (pv 0) (aW aN (pv 2) aj (fun _ _=>rfl)) (fun _ _=>rfl)))) aC) (af (aL (i:=3) jv.nd rfl (Or.inl rfl) (b5 ae)) (af (fF PassesOwn.never rfl (c5 (xr (Ly hr) (pv 0) (aW aN (pv 2) aj (fun _ _=>rfl)) (fun _ _=>rfl))) (aF (i:=4) jv.nd rfl (Or.inl rfl)) (af (aL (i:=5) jv.nd rfl (Or.inl rfl) (cI (eA (ay (bN.or (a0 (aM hr))) (aW aN (pv 4) aj (fun _ _=>rfl)) aY (aA _)) aY (cI (eA (ay (bN.or (a0 (aM hr))) (aW aN (pv 4) aj (fun _ _=>rfl)) aY (aA _)) aY (aW aN (pv 4) aj (fun _ _=>rfl))))))) (ai (aQ (dQ plainAttrs_list slot_list_append type_list_append aZ (pv 3) (aa (fG (aa (pv 5) (aa (aW aN (pv 4) aj (fun _ _=>rfl)) ae))) ae)))))) (ai (ax (pv 3)))))))) ?_;obtain⟨v,hg,hv⟩:=hd.get hf;refine⟨_,rfl,_,rfl,d,v,rfl,hg,?_⟩;cases th with
  |pl ss =>
   obtain⟨l,ys,rfl,h1,h2⟩:=hv;tm_up;refine⟨_,_,_,_,rfl,hX.lst h1,rfl,_,rfl,qi ?_⟩;exact⟨_,rfl,q l ys H (aq.refl _) h1 (by rw[q8 hf];exact h2)⟩
  |cn ld lt sl tn =>
   obtain⟨p,rfl,hp⟩:=hv;obtain⟨⟨ss,Fo⟩,_⟩:=wv.ld n ld lt sl tn (bT hf);have hfl:=wv.find Fo;have gl:=(wv.gd _ _ Fo).1;rw[uT hf hfl]at q;obtain⟨v2,hg2,l,ys,rfl,h1,h2⟩:=hd.get hfl;tm_up;refine⟨_,_,_,_,rfl,hX.tup hp,rfl,_,rfl,dR ?_⟩;refine⟨_,rfl,vK (i:=3) hp rfl ?_⟩;refine⟨_,rfl,?_⟩;cases tn with
   |false =>
    refine qi ?_;refine⟨_,rfl,_,rfl,vK (i:=0) hp rfl ?_⟩;exact⟨d,_,rfl,hg2,q l ys H (aq.refl _) h1 h2⟩
   |true =>
    refine dR ?_;refine⟨big (by show 0<=1000;omega),fun told ZJ=>?_⟩;have s1:=aq.upd (o:=.lst []) ZJ;have ht1:=ag (H:=H) (a:=told) (o:=.lst []);generalize upd H told (.lst [])=H1 at s1 ht1;have y3:=bL h2;refine⟨_,rfl,_,rfl,vK (i:=0) (s1 _ _ hp) rfl ?_⟩;have nlt:l≠told:=ao h1 ZJ;have hg3:GY H1 d (.str ld) (some (.ref l)):=hg2.same s1;refine⟨d,_,rfl,hg3,l,rfl,⟨_,aR.of (s1 _ _ h1)⟩,nS (K:=K) (xs:=ys) (fun i σ H'=>∃(u k:Option V)(zs:List V),σ=[some (.ref d),some (.str n),some (.ref p),some (.ref told),u,k]/\aq H H'/\H' told=some (.lst zs)/\kx H' zs ((ss.take i).map pB)) ⟨none,none,[],rfl,s1,ht1,.nil⟩ ?_ ?_ ?_⟩
    ·rintro i σ H' _ ⟨u,k,zs,rfl,s2,_⟩;exact aR.of (s2 _ _ h1)
    ·rintro i y σ H' hy ⟨u,k,zs,rfl,s2,Zw,gz⟩;obtain⟨sg,hsg,ps,rfl,hps⟩:=qY h2 hy;have hi:i<ss.length:=(List.getElem?_eq_some_iff.mp hsg).1;have aba:=s2 _ _ hps;have zl:=bL gz;rw[length_map,length_take]at zl;refine⟨fun v Hx=>v=.str (LM sg.1).str/\Hx=H',?_,?_⟩
     ·refine⟨_,rfl,ix0 aba ?_⟩;refine .inl ⟨rfl,_,rfl,?_⟩;rw[Y7];refine aT (fun h=>?_) (fun h=>?_)
      ·rw[of_decide_eq_true h];exact⟨rfl,rfl⟩
      ·have h':sg.1≠.two:=fun z=>h (decide_eq_true z);refine⟨fun v Hx=>v=.str (LM sg.1).str/\Hx=H',?_,fun _ _ z=>z⟩;refine⟨_,rfl,ix0 aba ?_⟩;refine .inl ⟨rfl,_,rfl,?_⟩;rw[MF];refine aT (fun h3=>?_) (fun h3=>?_)
       ·rw[of_decide_eq_true h3];exact⟨rfl,rfl⟩
       ·have h3':sg.1≠.three:=fun z=>h3 (decide_eq_true z);refine⟨_,rfl,ix0 aba ⟨?_,rfl⟩⟩;cases hk:sg.1 <;> first|rfl|exact absurd hk h'|exact absurd hk h3'
     intro v Hx ⟨e1,e2⟩;rw[e1,e2];refine⟨_,rfl,.inl ⟨rfl,_,aR.of Zw⟩,_,rfl,_,rfl,ix1 aba ?_⟩;refine⟨by show 2<=sizeLine;decide,fun tp htp=>?_⟩;have s3:=aq.upd (o:=.tup [V.str (LM sg.1).str,V.int sg.2]) htp;refine⟨told,_,_,rfl,rfl,s3 _ _ Zw,aK (by omega),?_⟩;refine⟨_,_,zs++[.ref tp],rfl,dU (s2.trans s3) ZJ,ag,?_⟩;rw[take_succ,hsg,map_append];exact lP (MG (s3 _ _ Zw) (gz.same s3)) (Qj (s3 _ _ Zw) ⟨tp,rfl,ag⟩)
    ·rintro σ H' ⟨u,k,zs,rfl,s2,Zw,gz⟩;rw[y3,take_length]at gz;exact⟨_,rfl,q told zs H' s2 Zw gz⟩
theorem adt {k:Kd}(h:k.meas=true)(m:Int):intText? k.str=some (nm m k)/\k.str.length<=640:=by
 cases k <;> first|(cases h;done)|exact⟨by first|exact(show intText? Kd.three.str=some 3 by lk)|exact(show intText? Kd.two.str=some 2 by lk),by lk⟩
theorem ae8 {k:Kd}(h:¬ k.meas=true)(m:Int):nm m k=m:=by
 cases k <;> first|rfl|exact absurd rfl h
theorem QK (k:Kd):k.meas=(decide (k=.three)||decide (k=.two)):=by cases k <;> rfl
theorem Vs (k:Kd):X6 k.str ".32" = k.parting:=by cases k <;> decide +kernel
theorem Bl (k:Kd):X6 k.str "sdr"=k.small:=by cases k <;> decide +kernel
theorem abb {k:Kd}(h:k.parting=true)(m:Int)(n:Option Kd):bw m k n=0:=by cases k <;> first|(cases h;done)|(unfold bw;rw[if_neg (by rintro⟨_,z,_⟩;cases z)];rfl)
theorem ZK {k:Kd}(h:k.small=true)(m:Int)(n:Option Kd):bw m k n=1:=by cases k <;> first|(cases h;done)|(unfold bw;rw[if_neg (by rintro⟨_,z,_⟩;cases z)];rfl)
theorem ahd (m:Int)(n:Option Kd):bw m .D n=2:=by unfold bw;rw[if_neg (by rintro⟨_,z,_⟩;cases z)];rfl
theorem abc {k:Kd}{m:Int}{n:Option Kd}(hm:Ms m)(h1:k.parting=false)(h2:k.small=false)(h3:k≠.D)(h4:¬(m=2/\k=.G/\n=some .dot)):bw m k n=m:=by
 unfold bw;rw[if_neg h4];rcases hm with rfl|rfl <;> cases k <;> first|(cases h1;done)|(cases h2;done)|rfl|exact absurd rfl h3
inductive Mb (K:Frag)(vs:List V)(H:Hp)(Q:VK)(E:XK):Prop
 |mk (l:Addr) (b:Int) (xs:List V) (ss:List Sg) (dC:vs=[.ref l,.int b]) (dD:Ms b) (eK:aR K H l xs) (jj:kx H xs ss) (pb:ss.length<=400) (RH:∀(f:Addr)(H':Hp),aq H H'->H f=none->H' f=some (.lst ((gn b (ba ss)).map V.int))->Q (.ref f) H'):Mb K vs H Q E
theorem WE (T:Txt K w mg t):bg P w K mg base fq (0+1) t.ou t.Hs ["_law_line_here","_law_begin"] (Mb K):=by
 refine T.vz.ok nN (fun vs H Q E h=>?_) (fun cdv A outer s H vs Q E hr h=>?_)
 ·obtain⟨_,_,_,_,rfl,_⟩:=h;rfl
 ·obtain⟨l,b,xs,ss,rfl,hMs,hS,hg,hn,q⟩:=h;have Vn:(2:Int) ^ 62=4611686018427387904:=by decide
  refine aO (af (aL (i:=2) nN.nd rfl (Or.inl rfl) (b5 ae)) (af (aL (i:=3) nN.nd rfl (Or.inl rfl) (pv 1)) (af (fF PassesOwn.never rfl (kq rfl T.jO (aa (aG (aD.or aE) rfl T.bS bR (aa (pv 0) ae)) ae)) (aF (i:=4) nN.nd rfl (Or.inl rfl)) (af (aL (i:=5) nN.nd rfl (Or.inl rfl) (aW aN (aW aN (pv 0) (pv 4) (fun _ _=>rfl)) aj (fun _ _=>rfl))) (af (me (aV (cf (PW.pt (ko (ay (bN.or (a0 (aM hr))) (pv 5) aY (aA _)) (iy (ay (bN.or (a0 (aM hr))) (pv 5) aY (aA _)))))) (ai (aL (i:=3) nN.nd rfl (Or.inl rfl) (cE (nu.or fu) rfl T.yO yi (aa (pv 5) ae)))) aC)) (ai (aV (ay (cF.or cD) (pv 5) aY rfl) (ai (aQ (dQ plainAttrs_list slot_list_append type_list_append aZ (pv 2) (aa aj ae)))) (ai (aV (ay (cF.or cD) (pv 5) aY rfl) (ai (aQ (dQ plainAttrs_list slot_list_append type_list_append aZ (pv 2) (aa aj ae)))) (ai (aV (ay (bN.or (a0 (aM hr))) (pv 5) aY (aA _)) (ai (aQ (dQ plainAttrs_list slot_list_append type_list_append aZ (pv 2) (aa aj ae)))) (ai (aV (cf (PW.pt (dG (ay (bN.or (a0 (aM hr))) (pv 3) aj (aA _)) (dG (ay (bN.or (a0 (aM hr))) (pv 5) aY (aA _)) (dG (ay qV (aI (bp.or (aH.or bq)) (pv 4) aj) (aG (aD.or aE) rfl T.bS bR (aa (pv 0) ae)) (aA _)) (fW (ay (bN.or (a0 (aM hr))) (aW aN (aW aN (pv 0) (aI (bp.or (aH.or bq)) (pv 4) aj) (fun _ _=>rfl)) aj (fun _ _=>rfl)) aY (aA _)))))))) (ai (aQ (dQ plainAttrs_list slot_list_append type_list_append aZ (pv 2) (aa aj ae)))) (ai (aQ (dQ plainAttrs_list slot_list_append type_list_append aZ (pv 2) (aa (pv 3) ae))))))))))))))) (ai (ax (pv 2)))))) ?_;refine⟨big (by show 0<=1000;omega),fun f hf=>?_⟩;tm_up;refine .inl ⟨_,_,rfl,.inl (dS hS hf),?_⟩;rw[bL hg];refine⟨(ss.length:Int),rfl,by rw[Vn];omega,by rw[Vn];omega,?_⟩;refine nr (n:=((ss.length:Int)).toNat) (fun i σ H'=>∃(m:Int)(v w:Option V)(fs:List Int),σ=[some (.ref l),some (.int b),some (.ref f),some (.int m),v,w]/\Ms m/\H'=upd H f (.lst (fs.map V.int))/\fs++gn m ((ba ss).drop i)=gn b (ba ss))
   ⟨b,none,none,[],rfl,hMs,rfl,rfl⟩ ?_ ?_
  ·rintro i σ H' hi ⟨m,v,w,fs,rfl,hm3,rfl,hm⟩;have hil:i<ss.length:=by omega
   have hd:=m8 (uQ (f:=Prod.fst) (getElem?_eq_getElem hil));rw[hd]at hm;have hS':aR K (upd H f (.lst (fs.map V.int))) l xs:=dS hS hf;have hg':kx (upd H f (.lst (fs.map V.int))) xs ss:=hg.same (aq.upd hf);have hl:=congrArg List.length hm;simp only [length_append,gn,length_cons,qZ,length_map]at hl;simp only [gn,head_drop]at hm;tm_up;refine Kg hS' hg' (n:=i) (by omega) (getElem?_eq_getElem hil) fun p hp=>?_;generalize hk:(ss[i]).1=k at hm hp;tm_up;refine YZ [some (.ref l),some (.int b),some (.ref f),some (.int (nm m k)),some (.int (0+(i:Int))),some (.str k.str)] (upd H f (.lst (fs.map V.int))) ?_ ?_
   ·refine nW k.meas ?_ ?_
    ·tm_up;rw[MF];refine aT (fun h=>?_) (fun h=>?_)
     ·exact dE (by rw[QK,h];rfl)
     ·tm_up;rw[Y7];exact dE (by rw[QK,Bool.eq_false_iff.mpr h];rfl)
    refine aT (fun h=>?_) (fun h=>?_)
    ·obtain⟨e1,e2⟩:=adt h m;tm_up;exact .inr ⟨_,_,rfl,e1,e2,rfl,rfl⟩
    ·rw[ae8 h];exact⟨rfl,rfl⟩
   have hm4:=hm3.nm k;have fin:∀(z:Int),z=bw (nm m k) k (ba ss)[i+1]?->∃(m':Int)(v w:Option V)(fs':List Int),[some (V.ref l),some (V.int b),some (V.ref f),some (V.int (nm m k)),some (V.int (0+(i:Int))),some (V.str k.str)]=[some (.ref l),some (.int b),some (.ref f),some (.int m'),v,w]/\Ms m'/\upd (upd H f (.lst (fs.map V.int))) f (.lst (fs.map V.int++[V.int z]))=upd H f (.lst (fs'.map V.int))/\fs'++gn m' ((ba ss).drop (i+1))=gn b (ba ss):=by
    intro z hz;exact⟨nm m k,_,_,fs++[z],rfl,hm4,by rw[bZ,map_append];rfl,by rw[List.append_assoc,hz];exact hm⟩
   tm_up;refine aT (fun h=>?_) (fun h=>?_)
   ·have h':k.parting=true:=by rw[<-Vs];exact h
    tm_up;refine⟨.inl ⟨rfl,_,aR.of ag⟩,?_⟩;refine⟨_,_,_,rfl,rfl,ag,by rw[length_map];exact aK (by omega),fin 0 (abb h' ..).symm⟩
   ·have h1:k.parting=false:=by rw[<-Vs];exact Bool.eq_false_iff.mpr h
    tm_up;refine aT (fun h=>?_) (fun h=>?_)
    ·have h':k.small=true:=by rw[<-Bl];exact h
     tm_up;refine⟨.inl ⟨rfl,_,aR.of ag⟩,?_⟩;refine⟨_,_,_,rfl,rfl,ag,by rw[length_map];exact aK (by omega),fin 1 (ZK h' ..).symm⟩
    ·have h2:k.small=false:=by rw[<-Bl];exact Bool.eq_false_iff.mpr h
     tm_up;rw[k_D];refine aT (fun h=>?_) (fun h=>?_)
     ·have h':k=.D:=of_decide_eq_true h;tm_up;refine⟨.inl ⟨rfl,_,aR.of ag⟩,?_⟩;refine⟨_,_,_,rfl,rfl,ag,by rw[length_map];exact aK (by omega),fin 2 (by rw[h'];exact(ahd ..).symm)⟩
     ·have h3:k≠.D:=fun z=>h (decide_eq_true z);refine nW (decide (nm m k=2/\k=.G/\(ba ss)[i+1]? = some .dot)) ?_ ?_
      ·tm_up;rw[eC];refine aT (fun h=>?_) (fun h=>?_)
       ·have e1:=of_decide_eq_true h;tm_up;rw[k_G];refine aT (fun h=>?_) (fun h=>?_)
        ·have e2:=of_decide_eq_true h;tm_up;refine .inl ⟨_,_,rfl,.inl hS',?_⟩;rw[bL hg];tm_up;refine aT (fun h=>?_) (fun h=>?_)
         ·have hlt:i+1<ss.length:=by have:=of_decide_eq_true h;omega
          tm_up;refine Kg hS' hg' (n:=i+1) (by omega) (getElem?_eq_getElem hlt) fun p2 hp2=>?_;tm_up;rw[aeG];refine dE ?_;have e3:(ba ss)[i+1]? = some (ss[i+1]).1:=uQ (getElem?_eq_getElem hlt);rw[e3];subst e2;simp[e1]
         ·refine dE ?_;have e3:(ba ss)[i+1]? = none:=List.getElem?_eq_none (by rw[length_map];have:¬(0+(i:Int)+1<ss.length):=fun z=>h (decide_eq_true z);omega);rw[e3];simp
        ·refine dE ?_;have e2:k≠.G:=fun z=>h (decide_eq_true z);simp[e2]
       ·refine dE ?_;have e1:nm m k≠2:=fun z=>h (decide_eq_true z);simp[e1]
      ·refine aT (fun h=>?_) (fun h=>?_)
       ·have h':=of_decide_eq_true h;tm_up;refine⟨.inl ⟨rfl,_,aR.of ag⟩,?_⟩;refine⟨_,_,_,rfl,rfl,ag,by rw[length_map];exact aK (by omega),fin 3 (by unfold bw;rw[if_pos h'])⟩
       ·have h':¬(nm m k=2/\k=.G/\(ba ss)[i+1]? = some .dot):=fun z=>h (decide_eq_true z);tm_up;refine⟨.inl ⟨rfl,_,aR.of ag⟩,?_⟩;tm_up;refine⟨_,_,_,rfl,rfl,ag,by rw[length_map];exact aK (by omega),fin _ (abc hm4 h1 h2 h3 h').symm⟩
  ·rintro σ H' ⟨m,v,w,fs,rfl,_,rfl,hm⟩;have e0:((ss.length:Int)).toNat=ss.length:=by omega
   rw[e0,List.drop_eq_nil_of_le (by rw[length_map];exact Nat.le_refl _)]at hm;tm_up;have e:fs=gn b (ba ss):=by rw[<-hm];simp[gn]
   subst e;exact q f _ (aq.upd hf) hf ag
inductive Ig (K:Frag)(vs:List V)(H:Hp)(Q:VK)(E:XK):Prop
 |mk (l:Addr) (b:Int) (xs:List V) (ss:List Sg) (dC:vs=[.ref l,.int b]) (dD:aR K H l xs) (eK:kx H xs ss) (jj:ss.length<=400) (pb:∀(f:Addr)(H':Hp),aq H H'->H f=none->H' f=some (.lst ((iF b (ba ss)).map V.bl))->Q (.ref f) H'):Ig K vs H Q E
theorem ae9 {k:Kd}(h:k.meas=true)(m:Int):intText? k.str=some (nm m k)/\k.str.length<=640:=by
 cases k <;> first|(cases h;done)|exact⟨by first|exact(show intText? Kd.three.str=some 3 by lk)|exact(show intText? Kd.two.str=some 2 by lk),by lk⟩
theorem ahe {k:Kd}(h:¬ k.meas=true)(m:Int):nm m k=m:=by
 cases k <;> first|rfl|exact absurd rfl h
theorem Vt (k:Kd):k.meas=(decide (k=.three)||decide (k=.two)):=by cases k <;> rfl
theorem SO (T:Txt K w mg t):bg P w K mg base fq (0+1) t.kP t.C3 ["_law_line_here","_law_begin"] (Ig K):=by
 refine T.rG.ok n9 (fun vs H Q E h=>?_) (fun cdv A outer s H vs Q E hr h=>?_)
 ·obtain⟨_,_,_,_,rfl,_⟩:=h;rfl
 ·obtain⟨l,b,xs,ss,rfl,hS,hg,hn,q⟩:=h;refine aO (af (aL (i:=2) n9.nd rfl (Or.inl rfl) (b5 ae)) (af (aL (i:=3) n9.nd rfl (Or.inl rfl) (pv 1)) (af (fF PassesOwn.never rfl (c5 (pv 0)) (aF (i:=4) n9.nd rfl (Or.inl rfl)) (af (me (aV (cf (PW.pt (ko (ay (bN.or (a0 (aM hr))) (aW aN (pv 4) aj (fun _ _=>rfl)) aY (aA _)) (iy (ay (bN.or (a0 (aM hr))) (aW aN (pv 4) aj (fun _ _=>rfl)) aY (aA _)))))) (ai (aL (i:=3) n9.nd rfl (Or.inl rfl) (cE (nu.or fu) rfl T.yO yi (aa (aW aN (pv 4) aj (fun _ _=>rfl)) ae)))) aC)) (ai (aQ (dQ plainAttrs_list slot_list_append type_list_append aZ (pv 2) (aa (bB (bN.or (a0 (aM hr))) (pv 3) aj (aA _)) ae)))))) (ai (ax (pv 2)))))) ?_;refine⟨big (by show 0<=1000;omega),fun f hf=>?_⟩;tm_up;refine⟨⟨xs,dS hS hf⟩,nS (K:=K) (xs:=xs) (fun i σ H'=>∃(m:Int)(v:Option V)(fs:List Bool),σ=[some (.ref l),some (.int b),some (.ref f),some (.int m),v]/\H'=upd H f (.lst (fs.map V.bl))/\fs++iF m ((ba ss).drop i)=iF b (ba ss))
   ⟨b,none,[],rfl,rfl,rfl⟩ ?_ ?_ ?_⟩
  ·rintro i σ H' _ ⟨m,v,fs,rfl,rfl,_⟩;exact dS hS hf
  ·rintro i x σ H' hx ⟨m,v,fs,rfl,rfl,hm⟩;obtain⟨s,hs,p,rfl,hp⟩:=qY hg hx;have hd:=m8 (uQ (f:=Prod.fst) hs);rw[hd]at hm;have hp':upd H f (.lst (fs.map V.bl)) p=some (.tup [.str s.1.str,.int s.2]):=by rw[ak (ao hp hf)];exact hp
   have hl:=congrArg List.length hm;simp only [length_append,iF,length_cons,Sb,length_map]at hl;refine YZ [some (.ref l),some (.int b),some (.ref f),some (.int (nm m s.1)),some (.ref p)] (upd H f (.lst (fs.map V.bl))) ?_ ?_
   ·refine nW s.1.meas ?_ ?_
    ·tm_up;rw[MF];refine aT (fun h=>?_) (fun h=>?_)
     ·exact dE (by rw[Vt,h];rfl)
     ·tm_up;rw[Y7];exact dE (by rw[Vt,Bool.eq_false_iff.mpr h];rfl)
    refine aT (fun h=>?_) (fun h=>?_)
    ·obtain⟨e1,e2⟩:=ae9 h m;tm_up;exact .inr ⟨_,_,rfl,e1,e2,rfl,rfl⟩
    ·rw[ahe h];exact⟨rfl,rfl⟩
   ·tm_up;refine⟨.inl ⟨rfl,_,aR.of ag⟩,?_⟩;tm_up;rw[eC];refine⟨_,_,_,rfl,rfl,ag,by rw[length_map];exact aK (by omega),?_⟩;exact⟨_,_,fs++[decide (nm m s.1=3)],rfl,by rw[bZ,map_append];rfl,by rw[List.append_assoc];exact hm⟩
  ·rintro σ H' ⟨m,v,fs,rfl,rfl,hm⟩;rw[List.drop_eq_nil_of_le (by rw[length_map,bL hg];exact Nat.le_refl _)]at hm;tm_up;have e:fs=iF b (ba ss):=by rw[<-hm];simp[iF]
   subst e;exact q f _ (aq.upd hf) hf ag
def ahf (K:Frag)(g:List Kd->List Int->Nat->Nat->Bool×List Int):Sp:=fun vs H Q _=>∃(l f:Addr)(a z:Nat)(xs:List V)(ss:List Sg)(fs:List Int),vs=[.ref l,.ref f,.int (a:Int),.int (z:Int)]/\aR K H l xs/\kx H xs ss/\l≠f/\H f=some (.lst (fs.map V.int))/\fs.length=ss.length/\a<z/\z<=ss.length /\
 Q (.bl (g (ba ss) fs a z).1) (upd H f (.lst ((g (ba ss) fs a z).2.map V.int)))
theorem Ih (k:Kd):X6 k.str "GDR"=k.great:=by cases k <;> decide +kernel
theorem Dh (o:Option Kd):(o.getD .dot).great=qk o:=by cases o <;> rfl
theorem ahg (o:Option Kd):decide (o.getD .dot=.G)=decide (o=some .G):=by
 cases o with
 |none=>decide
 |some k=>simp
theorem WG {ks:List Kd}{f:List Int}{a z:Nat}{r:Nat}(hr:(z-a) % 3=r)(hr3:r<3) :
  settle ks f a z=if decide (r=2)&&(qk ks[z]? && decide (ks[z-1]? = some .s)) then(true,f.set (z-1) 2) else
   (decide (r=0)||((decide (r=1)&&(ia ks f a||eV ks z))||(decide (r=2)&&(ia ks f a&&eV ks z))),
    let g:=if(decide (r=1)&&ia ks f a)||(decide (r=2)&&(ia ks f a&&eV ks z)) then f.set (a-1) 2 else f
    if(decide (r=1)&&(eV ks z && !ia ks f a))||(decide (r=2)&&(ia ks f a&&eV ks z)) then g.set z 2 else g):=by
 unfold settle Aw Ax;rw[hr];have:r=0\/r=1\/r=2:=by omega
 rcases this with rfl|rfl|rfl <;> cases ia ks f a <;> cases eV ks z <;> cases qk ks[z]? <;> cases decide (ks[z-1]? = some .s) <;> rfl
theorem ZL (T:Txt K w mg t):bg P w K mg base fq (0+1) t.sx t.MX ["_law_line_here","_law_told","_law_low","_law_high"] (ahf K settle):=by
 refine T.AY.ok rp (fun vs H Q E h=>?_) (fun cdv A outer s H vs Q E hr h=>?_)
 ·obtain⟨_,_,_,_,_,_,_,rfl,_⟩:=h;rfl
 ·obtain⟨l,f,a,z,xs,ss,fs,rfl,hS,hg,hlf,hf,hl,haz,hz,q⟩:=h;obtain⟨r,hrr⟩:∃ r:Nat,(z-a) % 3=r:=⟨_,rfl⟩;have hr3:r<3:=by omega
  rw[WG hrr hr3]at q;have hri:((z:Int)-(a:Int)) % 3=(r:Int):=by omega
  have dI:∀ n:Nat,decide (V.int (((z:Int)-(a:Int)) % 3)=V.int (n:Int))=decide (r=n):=fun n=>by
   rw[hri,eC]
   by_cases e:r=n
   ·simp[e]
   ·have:¬((r:Int)=(n:Int)):=by omega
    simp[e,this]
  have d0:decide (V.int (((z:Int)-(a:Int)) % 3)=V.int 0)=decide (r=0):=dI 0;have d1:decide (V.int (((z:Int)-(a:Int)) % 3)=V.int 1)=decide (r=1):=dI 1;have d2:decide (V.int (((z:Int)-(a:Int)) % 3)=V.int 2)=decide (r=2):=dI 2;refine aO (af (aL (i:=4) rp.nd rfl (Or.inl rfl) (aI c7 (aI iB (pv 3) (pv 2)) aj)) (af (aL (i:=5) rp.nd rfl (Or.inl rfl) (cI (eA (ay qV (pv 3) (aG (aD.or aE) rfl T.bS bR (aa (pv 0) ae)) (aA _)) (aW aN (aW aN (pv 0) (pv 3) (fun _ _=>rfl)) aj (fun _ _=>rfl)) aY))) (af (aL (i:=6) rp.nd rfl (Or.inl rfl) (cI (eA (ay qV (aI (bp.or (aH.or bq)) (pv 3) aj) (aG (aD.or aE) rfl T.bS bR (aa (pv 0) ae)) (aA _)) (aW aN (aW aN (pv 0) (aI (bp.or (aH.or bq)) (pv 3) aj) (fun _ _=>rfl)) aj (fun _ _=>rfl)) aY))) (af (aL (i:=7) rp.nd rfl (Or.inl rfl) (cI (jm (bB PV (pv 2) aj (aA _)) (jm (bB (bN.or (a0 (aM hr))) (aW aN (aW aN (pv 0) (aI iB (pv 2) aj) (fun _ _=>rfl)) aj (fun _ _=>rfl)) aY (aA _)) (jk (bB (bN.or (a0 (aM hr))) (aW aN (pv 1) (aI iB (pv 2) aj) (fun _ _=>rfl)) aj (aA _))))))) (af (aL (i:=8) rp.nd rfl (Or.inl rfl) (cI (jm (bB (bN.or (a0 (aM hr))) (pv 5) aY (aA _)) (jk (bB (Ap.or Aq) (pv 6) aY rfl))))) (af (aV (cf (PW.pt (dG (ay (bN.or (a0 (aM hr))) (pv 4) aj (aA _)) (dG (ay (cF.or cD) (pv 5) aY rfl) (fW (ay (bN.or (a0 (aM hr))) (aW aN (aW aN (pv 0) (aI iB (pv 3) aj) (fun _ _=>rfl)) aj (fun _ _=>rfl)) aY (aA _))))))) (af (g6 aj (uJ (pv 1) (aI iB (pv 3) aj) set_list)) (ai (ax fV))) aC) (af (me (aV (cf (PW.pt (ko (cf (PW.pt (dG (ay (bN.or (a0 (aM hr))) (pv 4) aj (aA _)) (fW (aX (pv 7)))))) (iy (cf (PW.pt (dG (ay (bN.or (a0 (aM hr))) (pv 4) aj (aA _)) (dG (aX (pv 7)) (fW (aX (pv 8))))))))))) (ai (g6 aj (uJ (pv 1) (aI iB (pv 2) aj) set_list))) aC)) (af (me (aV (cf (PW.pt (ko (cf (PW.pt (dG (ay (bN.or (a0 (aM hr))) (pv 4) aj (aA _)) (dG (aX (pv 8)) (fW (cM (aX (pv 7)))))))) (iy (cf (PW.pt (dG (ay (bN.or (a0 (aM hr))) (pv 4) aj (aA _)) (dG (aX (pv 7)) (fW (aX (pv 8))))))))))) (ai (g6 aj (uJ (pv 1) (pv 3) set_list))) aC)) (ai (ax (cI (Yb (bB (bN.or (a0 (aM hr))) (pv 4) aj (aA _)) (Yb (cI (jm (bB (bN.or (a0 (aM hr))) (pv 4) aj (aA _)) (jk (cI (Yb (pv 7) (jk (pv 8))))))) (jk (cI (jm (bB (bN.or (a0 (aM hr))) (pv 4) aj (aA _)) (jm (pv 7) (jk (pv 8))))))))))))))))))) ?_;tm_up;refine GS (.str ((ba ss)[z]?.getD .dot).str) ?_ ?_
  ·tm_up;refine .inl ⟨_,_,rfl,.inl hS,?_⟩;rw[bL hg];tm_up;refine aT (fun h=>?_) (fun h=>?_)
   ·have hlt:z<ss.length:=by have:=of_decide_eq_true h;omega
    tm_up;refine Kg hS hg (n:=z) rfl (getElem?_eq_getElem hlt) fun p hp=>?_;tm_up;refine m7 ?_;rw[getElem?_map,getElem?_eq_getElem hlt];rfl
   ·refine m7 ?_;have hge:¬ z<ss.length:=fun c=>h (decide_eq_true (by omega));rw[List.getElem?_eq_none (by rw[length_map];omega)];rfl
  refine GS (.str ((ba ss)[z+1]?.getD .dot).str) ?_ ?_
  ·tm_up;refine .inl ⟨_,_,rfl,.inl hS,?_⟩;rw[bL hg];tm_up;refine aT (fun h=>?_) (fun h=>?_)
   ·have hlt:z+1<ss.length:=by have:=of_decide_eq_true h;omega
    tm_up;refine Kg hS hg (n:=z+1) (by omega) (getElem?_eq_getElem hlt) fun p hp=>?_;tm_up;refine m7 ?_;rw[getElem?_map,getElem?_eq_getElem hlt];rfl
   ·refine m7 ?_;have hge:¬ z+1<ss.length:=fun c=>h (decide_eq_true (by omega));rw[List.getElem?_eq_none (by rw[length_map];omega)];rfl
  refine GS (.bl (ia (ba ss) fs a)) ?_ ?_
  ·tm_up;refine aT (fun h=>?_) (fun h=>?_)
   ·have hp:0<a:=by have:=of_decide_eq_true h;omega
    have hlt:a-1<ss.length:=by omega
    have ek:MH (ba ss) ((a:Int)-1)=some (ss[a-1]).1:=by
     have:(a:Int)-1=((a-1:Nat):Int):=by omega
     rw[this,pj,getElem?_map,getElem?_eq_getElem hlt];rfl
    tm_up;refine Kg hS hg (n:=a-1) (by omega) (getElem?_eq_getElem hlt) fun p hp=>?_;tm_up;rw[k_G];refine aT (fun h2=>?_) (fun h2=>?_)
    ·tm_up;refine Y8 (aR.of hf) (n:=a-1) (by omega) (getElem?_eq_getElem (by omega)) ?_;tm_up;rw[eC];refine m7 ?_;unfold ia;rw[ek,of_decide_eq_true h2,List.getD_eq_getElem?_getD,getElem?_eq_getElem (by omega)];simp
    ·refine m7 ?_;unfold ia;rw[ek];have:(ss[a-1]).1≠.G:=fun c=>h2 (decide_eq_true c);simp[this]
   ·refine m7 ?_;have hp:a=0:=by
     have:¬ 0<a:=fun c=>h (decide_eq_true (by omega));omega
    subst hp;unfold ia MH;simp
  refine GS (.bl (eV (ba ss) z)) ?_ ?_
  ·tm_up;rw[k_G,ahg];refine aT (fun h=>?_) (fun h=>?_)
   ·tm_up;refine m7 ?_;unfold eV;rw[h];show V.bl (!X6 _ _)=_;rw[Ih,Dh];rfl
   ·refine m7 ?_;unfold eV;rw[Bool.eq_false_iff.mpr h];rfl
  generalize hL:ia (ba ss) fs a=L at q;generalize hR:eV (ba ss) z=R at q;refine nW (decide (r=2)&&(qk (ba ss)[z]? && decide ((ba ss)[z-1]? = some .s))) ?_ ?_
  ·tm_up;rw[d2];refine aT (fun h=>?_) (fun h=>?_)
   ·rw[h];tm_up;refine aT (fun h2=>?_) (fun h2=>?_)
    ·have h2':qk (ba ss)[z]? = true:=by
      have:X6 ((ba ss)[z]?.getD .dot).str "GDR"=true:=h2
      rwa [Ih,Dh]at this
     rw[h2'];tm_up;have hlt:z-1<ss.length:=by omega
     refine Kg hS hg (n:=z-1) (by omega) (getElem?_eq_getElem hlt) fun p hp=>?_;tm_up;rw[k_s];refine dE ?_;rw[getElem?_map,getElem?_eq_getElem hlt];simp
    ·have h2':qk (ba ss)[z]? = false:=by
      have:X6 ((ba ss)[z]?.getD .dot).str "GDR"=false:=Bool.eq_false_iff.mpr h2
      rwa [Ih,Dh]at this
     rw[h2'];exact dE rfl
   ·exact dE (by rw[Bool.eq_false_iff.mpr h];rfl)
  refine aT (fun h=>?_) (fun h=>?_)
  ·rw[if_pos h]at q;tm_up;refine⟨_,_,_,_,rfl,rfl,hf,px (j:=z-1) (by omega) (by rw[length_map];omega),?_⟩;rw[lI];exact q
  ·rw[if_neg h]at q;dsimp only at q;have hLp:L=true->1<=a/\a-1<ss.length:=fun e=>by
    have:=CG (hL.trans e)
    rwa [length_map]at this
   have hRp:R=true->z<ss.length:=fun e=>by
    have:=yr (hR.trans e)
    rwa [length_map]at this
   generalize hg1:(if(decide (r=1)&&L||decide (r=2)&&(L&&R))=true then fs.set (a-1) 2 else fs)=g1 at q;have g1l:g1.length=ss.length:=by rw[<-hg1];split <;> simp[hl]
   refine YZ [some (.ref l),some (.ref f),some (.int (a:Int)),some (.int (z:Int)),some (.int (((z:Int)-(a:Int)) % 3)),some (.str ((ba ss)[z]?.getD .dot).str),some (.str ((ba ss)[z+1]?.getD .dot).str),some (.bl L),some (.bl R)] (upd H f (.lst (g1.map V.int))) ?_ ?_
   ·refine nW (decide (r=1)&&L||decide (r=2)&&(L&&R)) ?_ ?_
    ·refine nW (decide (r=1)&&L) ?_ ?_
     ·tm_up;rw[d1];refine aT (fun h=>?_) (fun h=>?_)
      ·tm_up;exact dE (by rw[h];rfl)
      ·exact dE (by rw[Bool.eq_false_iff.mpr h];rfl)
     ·refine aT (fun h=>dE (by rw[h];rfl)) (fun h=>?_);rw[Bool.eq_false_iff.mpr h,Bool.false_or];refine nW (decide (r=2)&&(L&&R)) ?_ (dE rfl);tm_up;rw[d2];refine aT (fun h=>?_) (fun h=>?_)
      ·tm_up;refine aT (fun h2=>?_) (fun h2=>?_)
       ·tm_up;exact dE (by rw[h,h2];rfl)
       ·exact dE (by rw[h,Bool.eq_false_iff.mpr h2];rfl)
      ·exact dE (by rw[Bool.eq_false_iff.mpr h];rfl)
    ·refine aT (fun h=>?_) (fun h=>?_)
     ·rw[if_pos h]at hg1;have hp:=hLp (by cases L <;> simp_all);tm_up;refine⟨_,_,_,_,rfl,rfl,hf,px (j:=a-1) (by omega) (by rw[length_map];omega),?_⟩;rw[lI,hg1];exact⟨rfl,rfl⟩
     ·rw[if_neg h]at hg1;subst hg1;rw[Ay hf];exact⟨rfl,rfl⟩
   generalize hg2:(if(decide (r=1)&&(R && !L)||decide (r=2)&&(L&&R))=true then g1.set z 2 else g1)=g2 at q;refine YZ [some (.ref l),some (.ref f),some (.int (a:Int)),some (.int (z:Int)),some (.int (((z:Int)-(a:Int)) % 3)),some (.str ((ba ss)[z]?.getD .dot).str),some (.str ((ba ss)[z+1]?.getD .dot).str),some (.bl L),some (.bl R)] (upd H f (.lst (g2.map V.int))) ?_ ?_
   ·refine nW (decide (r=1)&&(R && !L)||decide (r=2)&&(L&&R)) ?_ ?_
    ·refine nW (decide (r=1)&&(R && !L)) ?_ ?_
     ·tm_up;rw[d1];refine aT (fun h=>?_) (fun h=>?_)
      ·tm_up;refine aT (fun h2=>?_) (fun h2=>?_)
       ·tm_up;exact dE (by rw[h,h2];rfl)
       ·exact dE (by rw[h,Bool.eq_false_iff.mpr h2];rfl)
      ·exact dE (by rw[Bool.eq_false_iff.mpr h];rfl)
     ·refine aT (fun h=>dE (by rw[h];rfl)) (fun h=>?_);rw[Bool.eq_false_iff.mpr h,Bool.false_or];refine nW (decide (r=2)&&(L&&R)) ?_ (dE rfl);tm_up;rw[d2];refine aT (fun h=>?_) (fun h=>?_)
      ·tm_up;refine aT (fun h2=>?_) (fun h2=>?_)
       ·tm_up;exact dE (by rw[h,h2];rfl)
       ·exact dE (by rw[h,Bool.eq_false_iff.mpr h2];rfl)
      ·exact dE (by rw[Bool.eq_false_iff.mpr h];rfl)
    ·refine aT (fun h=>?_) (fun h=>?_)
     ·rw[if_pos h]at hg2;have hp:=hRp (by cases R <;> simp_all);tm_up;refine⟨_,_,_,_,rfl,rfl,ag,px (j:=z) rfl (by rw[length_map];omega),?_⟩;rw[lI,hg2,bZ];exact⟨rfl,rfl⟩
     ·rw[if_neg h]at hg2;subst hg2;exact⟨rfl,rfl⟩
   refine GS (.bl (decide (r=0)||(decide (r=1)&&(L||R)||decide (r=2)&&(L&&R)))) ?_ q;tm_up;rw[d0];refine aT (fun h=>m7 (by rw[h];rfl)) (fun h=>?_);rw[Bool.eq_false_iff.mpr h,Bool.false_or];refine GS (.bl (decide (r=1)&&(L||R))) ?_ ?_
   ·tm_up;rw[d1];refine aT (fun h=>?_) (fun h=>m7 (by rw[Bool.eq_false_iff.mpr h];rfl));refine GS (.bl (L||R)) ?_ (m7 (by rw[h];rfl));tm_up;refine aT (fun h=>m7 (by rw[h];rfl)) (fun h=>?_);tm_up;exact m7 (by rw[Bool.eq_false_iff.mpr h];rfl)
   ·refine⟨_,rfl,?_⟩;refine aT (fun h=>m7 (by rw[h];rfl)) (fun h=>?_);rw[Bool.eq_false_iff.mpr h,Bool.false_or];refine GS (.bl (decide (r=2)&&(L&&R))) ?_ (m7 rfl);tm_up;rw[d2];refine aT (fun h=>?_) (fun h=>m7 (by rw[Bool.eq_false_iff.mpr h];rfl));tm_up;refine aT (fun h2=>?_) (fun h2=>?_)
    ·tm_up;exact m7 (by rw[h,h2];rfl)
    ·exact m7 (by rw[h,Bool.eq_false_iff.mpr h2];rfl)
inductive Mc (K:Frag)(vs:List V)(H:Hp)(Q:VK)(E:XK):Prop
 |mk (l:Addr) (b:Int) (xs:List V) (ss:List Sg) (dC:vs=[.ref l,.int b]) (dD:Ms b) (eK:H l=some (.lst xs)) (jj:kx H xs ss) (pb:ss.length<=400) (RH:∀(p f lo:Addr)(ys:List V)(H':Hp),aq H H'->H f=none->H lo=none->f≠lo->H' p=some (.tup [.ref f,.ref lo])->H' f=some (.lst ((iW b (ba ss)).1.map V.int))->H' lo=some (.lst ys)->Sa H' ys (iW b (ba ss)).2->Q (.ref p) H'):Mc K vs H Q E
theorem WH (T:Txt K w mg t):bg P w K mg base fq (0+2) t.ow t.Ht ["_law_line_here","_law_begin"] (Mc K):=by
 have ZM:=WE (P:=P) (base:=base) T;have WI:=SO (P:=P) (base:=base) T;have abd:=ZL (P:=P) (base:=base) T;refine T.rH.ok je (fun vs H Q E h=>?_) (fun cdv A outer s H vs Q E hr h=>?_)
 ·obtain⟨_,_,_,_,rfl,_⟩:=h;rfl
 ·obtain⟨l,b,xs,ss,rfl,hMs,hS,hg,hn,q⟩:=h;refine aO (af (aL (i:=2) je.nd rfl (Or.inl rfl) (ar ZM (hr.mono (by decide)) rfl T.Wj T.vz.kp T.HE .nil au (aa (pv 0) (aa (pv 1) ae)))) (af (aL (i:=3) je.nd rfl (Or.inl rfl) (ar WI (hr.mono (by decide)) rfl T.Sy T.rG.kp T.Dc .nil au (aa (pv 0) (aa (pv 1) ae)))) (af (aL (i:=4) je.nd rfl (Or.inl rfl) (b5 ae)) (af (aL (i:=5) je.nd rfl (Or.inl rfl) aj) (af (GI PassesOwn.never (ay qV (pv 5) (aG (aD.or aE) rfl T.bS bR (aa (pv 0) ae)) (aA _)) (af (aL (i:=6) je.nd rfl (Or.inl rfl) (pv 5)) (af (GI PassesOwn.never (cf (PW.pt (dG (ay qV (pv 6) (aG (aD.or aE) rfl T.bS bR (aa (pv 0) ae)) (aA _)) (dG (ay (cF.or cD) (aW aN (aW aN (pv 0) (pv 6) (fun _ _=>rfl)) aj (fun _ _=>rfl)) aY rfl) (fW (aX (aW aN (pv 3) (pv 6) (fun _ _=>rfl)))))))) (ai (aL (i:=6) je.nd rfl (Or.inl rfl) (aI (bp.or (aH.or bq)) (pv 6) aj)))) (af (me (aV (cf (PW.pt (dG (ay PV (pv 6) (pv 5) (aA _)) (fW (cM (aX (ar abd (hr.mono (by decide)) rfl T.Zo T.AY.kp T.M5 .nil au (aa (pv 0) (aa (pv 2) (aa (pv 5) (aa (pv 6) ae))))))))))) (ai (aQ (dQ plainAttrs_list slot_list_append type_list_append aZ (pv 4) (aa (fG (aa (pv 5) (aa (pv 6) ae))) ae)))) aC)) (ai (aL (i:=5) je.nd rfl (Or.inl rfl) (aG (VI rfl) rfl T.ac9 acK (aa (pv 6) (aa (aI (bp.or (aH.or bq)) (pv 5) aj) ae))))))))) (ai (ax (fG (aa (pv 2) (aa (pv 4) ae)))))))))) ?_;tm_up;refine⟨l,b,xs,ss,rfl,hMs,aR.of hS,hg,hn,fun f H1 s1 n1 h1=>?_⟩;tm_up;refine⟨l,b,xs,ss,rfl,aR.of (s1 _ _ hS),hg.same s1,hn,fun th H2 s2 n2 h2=>?_⟩;refine⟨big (by show 0<=1000;omega),fun lo hlo=>?_⟩;have s3:=s2.trans (aq.upd (o:=.lst []) hlo);have ZI:H lo=none:=s1.free (s2.free hlo);have nfl:f≠lo:=ao (s2 _ _ h1) hlo;have ntl:th≠lo:=ao h2 hlo;have ntf:th≠f:=fun e=>by rw[e,h1]at n2;cases n2
  have nlf:l≠f:=ao hS n1;have bl:(gn b (ba ss)).length=ss.length:=by rw[qZ,length_map]
  have cnt:(ui b (ba ss)).length<=401:=by
   have:=lQ (h9 b (ba ss)) 0 0;rw[nX,length_map]at this;exact Nat.le_trans this (by omega)
  tm_up;refine⟨fun mm σ H'=>∃(low:Nat)(v:Option V)(c:RdS)(ys:List V),mm=ss.length-low/\low<=ss.length/\σ=[some (.ref l),some (.int b),some (.ref f),some (.ref th),some (.ref lo),some (.int (low:Int)),v]/\aq H H'/\H' f=some (.lst (c.1.map V.int))/\H' lo=some (.lst ys)/\Sa H' ys c.2/\H' th=some (.lst ((iF b (ba ss)).map V.bl))/\c.1.length=ss.length/\c.2.length+(dF low low ((h9 b (ba ss)).drop low)).length<=401/\(dF low low ((h9 b (ba ss)).drop low)).foldl (qm (ba ss)) c=iW b (ba ss),
   ⟨_,0,none,(gn b (ba ss),[]),[],rfl,Nat.zero_le _,rfl,s1.trans s3,s3 _ _ h1,ag,.nil,by rw[ak ntl];exact h2,bl,by show 0+(ui b (ba ss)).length<=401;omega,rfl⟩,?_⟩
  rintro mm σ H' ⟨low,v,c,ys,rfl,hlow,rfl,s4,hf4,SN,hys,hth,hcl,afb,pZ⟩;have hl4:=s4 _ _ hS;have hg4:=hg.same s4;tm_up;refine .inl ⟨_,_,rfl,.inl (aR.of hl4),?_⟩;rw[bL hg];tm_up;refine aT (fun h=>?_) (fun h=>?_)
  ·have hlt:low<ss.length:=by have:=of_decide_eq_true h;omega
   refine⟨fun σ' Ni=>∃ m',m'<ss.length-low/\∃(low:Nat)(v:Option V)(c:RdS)(ys:List V),m'=ss.length-low/\low<=ss.length/\σ'=[some (.ref l),some (.int b),some (.ref f),some (.ref th),some (.ref lo),some (.int (low:Int)),v]/\aq H Ni/\Ni f=some (.lst (c.1.map V.int))/\Ni lo=some (.lst ys)/\Sa Ni ys c.2/\Ni th=some (.lst ((iF b (ba ss)).map V.bl))/\c.1.length=ss.length/\c.2.length+(dF low low ((h9 b (ba ss)).drop low)).length<=401/\(dF low low ((h9 b (ba ss)).drop low)).foldl (qm (ba ss)) c=iW b (ba ss),fun _ _ h=>h,?_⟩;generalize hn':lead ((h9 b (ba ss)).drop low)=n;have hnle:n<=ss.length-low:=by
    have:=U7 ((h9 b (ba ss)).drop low);rw[length_drop,nX,length_map,hn']at this;exact this
   tm_up;refine⟨fun mm σ Ni=>∃ j:Nat,mm=n-j/\j<=n/\σ=[some (.ref l),some (.int b),some (.ref f),some (.ref th),some (.ref lo),some (.int (low:Int)),some (.int ((low+j:Nat):Int))]/\Ni=H',⟨n,0,rfl,Nat.zero_le _,rfl,rfl⟩,?_⟩;rintro mm σ Ni ⟨j,rfl,hj,rfl,rfl⟩;have hla:=Vb ((h9 b (ba ss)).drop low) j (by rw[hn'];exact hj);rw[hn',acY]at hla;refine nW (decide (j<n)) ?_ ?_
   ·tm_up;refine .inl ⟨_,_,rfl,.inl (aR.of hl4),?_⟩;rw[bL hg];tm_up;refine aT (fun h=>?_) (fun h=>?_)
    ·have hjl:low+j<ss.length:=by have:=of_decide_eq_true h;omega
     have hk:(ba ss)[low+j]? = some (ss[low+j]).1:=uQ (getElem?_eq_getElem hjl);obtain⟨tb,ht1,Zw⟩:=Va hMs (ba ss) (low+j) _ hk;rw[Zw]at hla;tm_up;refine Kg (aR.of hl4) hg4 (n:=low+j) rfl (getElem?_eq_getElem hjl) fun p hp=>?_;tm_up;refine aT (fun h=>?_) (fun h=>?_)
     ·have h':(ss[low+j]).1.small=true:=by rw[<-Bl];exact h
      rw[h',Bool.true_and]at hla;tm_up;refine ixL (aR.of hth) (n:=low+j) rfl (uQ ht1) ?_;tm_up;refine dE ?_;cases tb with
      |true=>exact(decide_eq_true (hla.mpr rfl)).symm
      |false=>exact(decide_eq_false (fun z=>by have:=hla.mp z;cases this)).symm
     ·have h':(ss[low+j]).1.small=false:=by rw[<-Bl];exact Bool.eq_false_iff.mpr h
      rw[h',Bool.false_and]at hla;exact dE (decide_eq_false (fun z=>by have:=hla.mp z;cases this)).symm
    ·have hjl:¬ low+j<ss.length:=fun z=>h (decide_eq_true (by omega));exact dE (decide_eq_false (by omega)).symm
   refine aT (fun h=>?_) (fun h=>?_)
   ·have hjn:=of_decide_eq_true h;refine⟨fun σ' Hx=>∃ m',m'<n-j/\∃ j:Nat,m'=n-j/\j<=n/\σ'=[some (.ref l),some (.int b),some (.ref f),some (.ref th),some (.ref lo),some (.int (low:Int)),some (.int ((low+j:Nat):Int))]/\Hx=Ni,fun _ _ h=>h,?_⟩;tm_up;exact⟨n-(j+1),by omega,j+1,rfl,by omega,rfl,rfl⟩
   ·have hjn:j=n:=by
     have:¬ j<n:=fun z=>h (decide_eq_true z);omega
    subst hjn;have hrf:=G0 ((h9 b (ba ss)).drop low) low low (by rw[hn'];omega) (Nat.le_refl _);rw[hn',List.drop_drop]at hrf;refine⟨fun σ1 H1=>σ1=[some (.ref l),some (.int b),some (.ref f),some (.ref th),some (.ref lo),some (.int (low:Int)),some (.int ((low+j:Nat):Int))]/\∃(c:RdS)(ys:List V),aq H H1/\H1 f=some (.lst (c.1.map V.int))/\H1 lo=some (.lst ys)/\Sa H1 ys c.2/\H1 th=some (.lst ((iF b (ba ss)).map V.bl))/\c.1.length=ss.length/\c.2.length+(dF (low+j) (low+j) ((h9 b (ba ss)).drop (low+j))).length<=401/\(dF (low+j) (low+j) ((h9 b (ba ss)).drop (low+j))).foldl (qm (ba ss)) c=iW b (ba ss),?_,?_⟩
    ·by_cases hj0:j=0
     ·subst hj0;refine nW false ?_ ?_
      ·tm_up;rw[decide_eq_false (show ¬((low:Int)<((low+0:Nat):Int)) by omega)];exact dE rfl
      ·exact dR ⟨rfl,c,ys,s4,hf4,SN,hys,hth,hcl,afb,pZ⟩
     ·have hlt2:low<low+j:=by omega
      rw[if_pos hlt2,List.singleton_append]at hrf;rw[hrf,List.foldl_cons]at pZ;rw[hrf,length_cons]at afb;have s5:aq H (upd Ni f (.lst ((settle (ba ss) c.1 low (low+j)).2.map V.int))):=dU s4 n1;have QI:upd Ni f (.lst ((settle (ba ss) c.1 low (low+j)).2.map V.int)) lo=some (.lst ys):=by rw[ak nfl.symm];exact SN
      have afc:upd Ni f (.lst ((settle (ba ss) c.1 low (low+j)).2.map V.int)) th=some (.lst ((iF b (ba ss)).map V.bl)):=by rw[ak ntf];exact hth
      have Zx:(settle (ba ss) c.1 low (low+j)).2.length=ss.length:=by rw[yq];exact hcl
      refine⟨fun bb H3=>bb = !(settle (ba ss) c.1 low (low+j)).1/\H3=upd Ni f (.lst ((settle (ba ss) c.1 low (low+j)).2.map V.int)),?_,?_⟩
      ·tm_up;rw[decide_eq_true (show((low:Int)<((low+j:Nat):Int)) by omega)];refine qi ?_;tm_up;refine⟨l,f,low,low+j,xs,ss,c.1,rfl,aR.of hl4,hg4,nlf,hf4,hcl,hlt2,by omega,?_⟩;tm_up;exact⟨rfl,rfl⟩
      ·rintro bb H3 ⟨rfl,rfl⟩;refine aT (fun h=>?_) (fun h=>?_)
       ·have hst:(settle (ba ss) c.1 low (low+j)).1=false:=by
         cases e:(settle (ba ss) c.1 low (low+j)).1
         ·rfl
         ·rw[e]at h;cases h
        tm_up;refine⟨.inl ⟨rfl,_,aR.of QI⟩,?_⟩;tm_up;refine⟨by show 2<=sizeLine;decide,fun z hz=>?_⟩;have sz:=aq.upd (o:=.tup [.int (low:Int),.int ((low+j:Nat):Int)]) hz;have WJ:=sz _ _ QI;refine⟨_,_,_,rfl,rfl,WJ,by rw[bL hys];exact aK (by omega),?_⟩;refine⟨rfl,((settle (ba ss) c.1 low (low+j)).2,c.2++[(low,low+j)]),_,dU (s5.trans sz) ZI,by rw[ak nfl];exact sz _ _ ag,ag,lP (nY WJ (pq sz (nY hf4 hys))) (Qm WJ ⟨z,rfl,ag⟩),
         by rw[ak ntl];exact sz _ _ afc,Zx,by simp only [length_append,List.length_singleton];omega,?_⟩
        rw[<-pZ];unfold qm;rw[hst];rfl
       ·have hst:(settle (ba ss) c.1 low (low+j)).1=true:=by
         cases e:(settle (ba ss) c.1 low (low+j)).1
         ·rw[e]at h;exact absurd rfl h
         ·rfl
        refine⟨rfl,((settle (ba ss) c.1 low (low+j)).2,c.2),ys,s5,ag,QI,nY hf4 hys,afc,Zx,by show c.2.length+_<=401;omega,?_⟩;rw[<-pZ];unfold qm;rw[hst];rfl
    ·rintro σ1 H1 ⟨rfl,c',ys',s6,hf6,WJ,afd,afe,aff,Vu,Np⟩;tm_up;refine⟨_,_,rfl,?_⟩
     by_cases hj0:j=0
     ·subst hj0;have hbl:(h9 b (ba ss))[low]? = some false:=by
       have h1:low<(h9 b (ba ss)).length:=by rw[nX,length_map];exact hlt
       have h2:¬(h9 b (ba ss))[low+0]? = some true:=fun z=>Nat.lt_irrefl _ (hla.mpr z);rw[Nat.add_zero,getElem?_eq_getElem h1]at h2;rw[getElem?_eq_getElem h1];cases e:(h9 b (ba ss))[low]
       ·rfl
       ·rw[e]at h2;exact absurd rfl h2
      rw[Nat.add_zero,m8 hbl]at Np Vu;have er:dF low low (false::(h9 b (ba ss)).drop (low+1))=dF (low+1) (low+1) ((h9 b (ba ss)).drop (low+1)):=by
       show(if low<low then [(low,low)] else [])++dF (low+1) (low+1) ((h9 b (ba ss)).drop (low+1))=_;rw[if_neg (Nat.lt_irrefl _),nil_append]
      rw[er]at Np Vu;have em:(if(low:Int)+1 > ((low+0:Nat):Int) then(low:Int)+1 else((low+0:Nat):Int))=((low+1:Nat):Int):=by rw[if_pos (by omega)];rfl
      rw[em];exact⟨ss.length-(low+1),by omega,low+1,_,c',ys',rfl,by omega,rfl,s6,hf6,WJ,afd,afe,aff,Vu,Np⟩
     ·have em:(if(low:Int)+1 > ((low+j:Nat):Int) then(low:Int)+1 else((low+j:Nat):Int))=((low+j:Nat):Int):=by
       split <;> omega
      rw[em];exact⟨ss.length-(low+j),by omega,low+j,_,c',ys',rfl,by omega,rfl,s6,hf6,WJ,afd,afe,aff,Vu,Np⟩
  ·have hlt:low=ss.length:=by
    have:¬ low<ss.length:=fun z=>h (decide_eq_true (by omega));omega
   subst hlt;rw[List.drop_eq_nil_of_le (by rw[nX,length_map];exact Nat.le_refl _)]at pZ;have e:c=iW b (ba ss):=by
    have:dF ss.length ss.length []=[]:=by unfold dF;rw[if_neg (Nat.lt_irrefl _)]
    rw[this]at pZ;exact pZ
   subst e;tm_up;refine⟨by show 2<=sizeLine;decide,fun z hz=>?_⟩;have sz:=aq.upd (o:=.tup [.ref f,.ref lo]) hz;exact q z f lo ys _ (s4.trans sz) n1 ZI nfl ag (sz _ _ hf4) (sz _ _ SN) (pq sz hys)
inductive Bm (K:Frag)(vs:List V)(H:Hp)(Q:VK)(E:XK):Prop
 |mk (d:Addr) (vw:Vw) (n:Str) (th:Th) (dC:vs=[.ref d,.str n]) (dD:Ha H d vw) (eK:rX vw) (jj:a5 vw n=some th) (pb:∀(l:Addr)(H':Hp),aq H H'->H' l=some (.lst ((um vw n).map V.int))->Q (.ref l) H'):Bm K vs H Q E
theorem Nq (T:Txt K w mg t):bg P w K mg base fq (0+3) t.gC t.vh ["_law_voices","_law_name"] (Bm K):=by
 have vP:=Bj (P:=P) (base:=base) T;have QL:=WH (P:=P) (base:=base) T;refine T.lZ.ok sf (fun vs H Q E h=>?_) (fun cdv A outer s H vs Q E hr h=>?_)
 ·obtain⟨_,_,_,_,rfl,_⟩:=h;rfl
 ·obtain⟨d,vw,n,th,rfl,hd,wv,hf,q⟩:=h;refine aO (af (aL (i:=2) sf.nd rfl (Or.inr rfl) (xr (Ly hr) (pv 0) (pv 1) (fun _ _=>rfl))) (af (aL (i:=3) sf.nd rfl (Or.inl rfl) (ar vP (hr.mono (by decide)) rfl T.AX T.ji.kp T.pO .nil au (aa (pv 0) (aa (pv 1) ae)))) (af (aV (aX (aG dq rfl T.a7 a6 (aa (pv 2) (aa (eS (v:=.ty "list") rfl T.jN jq rfl) ae)))) (ai (ax (aW aN (ar QL (hr.mono (by decide)) rfl T.LX T.rH.kp T.AZ .nil au (aa (pv 3) (aa aj ae))) aj (fun _ _=>rfl)))) aC) (ai (ax (fX (cn:=["_law_worth"]) rfl (cz.of rfl) (c5 (aW aN (ar QL (hr.mono (by decide)) rfl T.LX T.rH.kp T.AZ .nil au (aa (pv 3) (aa (cI (eA (aX (aW aN (pv 2) aj (fun _ _=>rfl))) aj aj)) ae))) aj (fun _ _=>rfl))) (fun _=>(aF (i:=0) FK rfl (Or.inl rfl))) (fun _=>iC) (fun _=>(aI (l9.or ma) (aW aN (pv 3) aj (fun _ _=>rfl)) (pv 0))))))))) ?_;obtain⟨v,hg,hv⟩:=hd.get hf;refine⟨_,rfl,_,rfl,d,v,rfl,hg,?_⟩;refine⟨_,rfl,_,rfl,d,vw,n,th,rfl,hd,wv,hf,fun l ys H1 s1 h1 g1=>?_⟩;cases th with
  |pl ss =>
   obtain⟨l0,ys0,rfl,h0,_⟩:=hv;have gl:=(wv.gd _ _ (bT hf)).1;rw[q8 hf]at g1;tm_up;refine⟨_,_,_,_,rfl,hX.lst (s1 _ _ h0),rfl,_,rfl,qi ?_⟩;refine⟨_,rfl,l,3,ys,ss,rfl,.inl rfl,h1,g1,by omega,fun p f lo zs H2 s2 _ _ _ hp hf2 _ _=>ix0 hp ?_⟩;exact q f H2 (s1.trans s2) (by rw[G7 hf];exact hf2)
  |cn ld lt sl tn =>
   obtain⟨p,rfl,hp⟩:=hv;obtain⟨⟨ss,Fo⟩,lt0,lt1,sl0,sl1⟩:=wv.ld n ld lt sl tn (bT hf);have hfl:=wv.find Fo;have gl:=(wv.gd _ _ Fo).1;rw[uT hf hfl]at g1;rw[G8 hf hfl]at q;have gl2:(if tn=true then ss.map pB else ss).length<=400:=by
    split
    ·rw[length_map];omega
    ·omega
   tm_up;refine⟨_,_,_,_,rfl,hX.tup (s1 _ _ hp),rfl,_,rfl,dR ?_⟩;refine⟨_,rfl,?_⟩;refine⟨fun v H'=>v=.int (if tn=true then 2 else 3)/\H'=H1,?_,?_⟩
   ·refine⟨_,rfl,vK (i:=3) (s1 _ _ hp) rfl ⟨_,rfl,?_⟩⟩;cases tn with
    |true=>exact qi ⟨rfl,rfl⟩
    |false=>exact dR ⟨rfl,rfl⟩
   intro v0 H0 ⟨e1,e2⟩;rw[e1,e2];have hMs:Ms (if tn=true then 2 else 3):=by cases tn;exact .inl rfl;exact .inr rfl
   refine⟨l,_,ys,_,rfl,hMs,h1,g1,gl2,fun p2 f lo zs H2 s2 _ _ _ hp2 hf2 _ _=>ix0 hp2 ?_⟩;generalize hW:(iW (if tn=true then 2 else 3) (ba (if tn=true then ss.map pB else ss))).1=W at q hf2;have hWl:W.length<=400:=by rw[<-hW,xt,length_map];exact gl2
   refine⟨f,rfl,⟨_,aR.of hf2⟩,fun D' b' hD'=>?_⟩;have hpD:=s2 _ _ (s1 _ _ hp);refine dH (K:=K) (xs:=W.map V.int) (fun i ys' σ H'=>∃ v,σ=[v,some (.ref d),some (.str n),some (.ref p),some (.ref l)]/\H'=upd H2 D' (.lst ys')/\ys'=((W.take i).map fun w=>sl * w).map V.int) ⟨none,rfl,rfl,by simp⟩ ?_ ?_ ?_
   ·rintro i ys σ H' ⟨v,rfl,rfl,_⟩;exact dS (aR.of hf2) hD'
   ·rintro i ys' y σ H' hy ⟨v,rfl,rfl,rfl⟩ N hN;obtain⟨z,hz,rfl⟩:=CC hy;have hi:i<W.length:=(List.getElem?_eq_some_iff.mp hz).1;refine cH ?_;refine⟨_,rfl,vK (i:=2) (by rw[ak (ao hpD hD')];exact hpD) rfl ?_⟩;refine⟨_,rfl,.inl ⟨_,_,rfl,rfl,.inl ⟨by omega,by omega⟩,ag,?_,?_⟩⟩
    ·rw[length_map,length_map,length_take];exact aK (by omega)
    ·refine hN _ _ _ ⟨_,rfl,bZ,?_⟩;rw[take_succ,hz,map_append,map_append];rfl
   ·rintro ys' σ H' ⟨v,rfl,rfl,rfl⟩;rw[length_map,take_length];exact q D' _ ((s1.trans s2).trans (aq.upd hD')) ag
theorem Vv {K:Frag}{H:Hp}{a b:Addr}{ys:List V}(ha:aR K H a ys)(hb:aR K H b ys)(hf:∀ v∈ys,∃ x,v=.str x):YH K H 60 (.ref a) (.ref b):=by
 refine .lst ha hb rfl fun i x y e1 e2=>?_;have e:x=y:=Option.some.inj (e1.symm.trans e2);subst e;obtain⟨z,rfl⟩:=hf x (mem_of_getElem? e1);exact .flat rfl
theorem afg {K:Frag}{H:Hp}{p p2:Addr}{ld:Str}{lt sl:Int}{tn:Bool}(n:Nat)(h1:H p=some (.tup [.str ld,.int lt,.int sl,.bl tn]))(h2:H p2=some (.tup [.str ld,.int lt,.int sl,.bl tn])):YH K H (n+1) (.ref p) (.ref p2):=by
 refine .tup (nR.of h1) (nR.of h2) rfl fun i x y e1 e2=>?_;have e:x=y:=Option.some.inj (e1.symm.trans e2);subst e
 match i,e1 with
 |0,e1=>cases e1;exact .flat rfl
 |1,e1=>cases e1;exact .flat rfl
 |2,e1=>cases e1;exact .flat rfl
 |3,e1=>cases e1;exact .flat rfl
 |n+4,e1=>simp at e1
theorem ZN {vw:Vw}(w:rX vw)(n:Str):(um vw n).length<=400:=by
 cases hf:a5 vw n with
 |none=>unfold um;rw[hf];exact Nat.zero_le _
 |some th =>
  cases th with
  |pl ss =>
   rw[G7 hf,xt,length_map];have:=(w.gd _ _ (bT hf)).1;omega
  |cn ld lt sl tn =>
   obtain⟨⟨ss,Fo⟩,_⟩:=w.ld n ld lt sl tn (bT hf);rw[G8 hf (w.find Fo),length_map,xt,length_map];have:=(w.gd _ _ Fo).1;split
   ·rw[length_map];omega
   ·omega
theorem ZO {vw:Vw}(w:rX vw)(n:Str):(AB vw n).length<=200:=by
 cases hf:a5 vw n with
 |none=>unfold AB;rw[hf];exact Nat.zero_le _
 |some th =>
  cases th with
  |pl ss =>
   rw[q8 hf];exact(w.gd _ _ (bT hf)).1
  |cn ld lt sl tn =>
   obtain⟨⟨ss,Fo⟩,_⟩:=w.ld n ld lt sl tn (bT hf);rw[uT hf (w.find Fo)];have:=(w.gd _ _ Fo).1;split
   ·rw[length_map];exact this
   ·exact this
inductive Ft (K:Frag)(c:Cs)(vs:List V)(H:Hp)(Q:VK)(E:XK):Prop
 |mk (x d:Addr) (F:Addr->Prop) (vw:Vw) (ps fs:List Vw) (dC:vs=[.ref x,.ref d]) (dD:Cv c H x F vw ps fs) (eK:Ha H d vw) (jj:∀ H',aq H H'->Q (.bl true) H'):Ft K c vs H Q E
theorem QM (T:Txt K w mg t):bg P w K mg base fq (0+8) t.iK t.yF ["_law_book","_law_voices"] (Ft K (cs t)):=by
 have d7:=lN (P:=P) (base:=base) T;have dc:=ip (P:=P) (base:=base) T;have WK:=SK (P:=P) (base:=base) T;have ZP:=WB (P:=P) (base:=base) T;have Fu:=Nn (P:=P) (base:=base) T;have gH:=sO (P:=P) (base:=base) T;have vP:=Bj (P:=P) (base:=base) T;have QN:=Nq (P:=P) (base:=base) T;have nQ:=yR (P:=P) (base:=base) T;refine T.iO.ok pC (fun vs H Q E h=>?_) (fun cdv A outer s H vs Q E hr h=>?_)
 ·obtain⟨_,_,_,_,_,_,rfl,_⟩:=h;rfl
 ·obtain⟨x,d,F,vw,ps,fs,rfl,B,hd,q⟩:=h;refine aO (af (aL (i:=2) pC.nd rfl (Or.inl rfl) (gm (pv 0) T.aJ T.ic d7 (hr.mono (by decide)) T.e8 .nil au)) (af (aV (cf (PW.pt (ko (cM (aX (aG dq rfl T.a7 a6 (aa (pv 2) (aa (eS (v:=.ty "list") rfl T.jN jq rfl) ae))))) (iy (ay (xW.or (qj (aM hr))) (pv 2) (cE yn rfl T.jN jq (aa (pv 1) ae)) (aA _)))))) (ai (ax fV)) aC) (af (aQ (Mx plainAttrs_list PySem.F.slot_list_reverse PySem.F.type_list_reverse RZ (pv 2))) (af (aQ (dQ plainAttrs_list slot_list_append type_list_append aZ (pv 2) (aa aY ae))) (af (aV (ay (xW.or (qj (aM hr))) (gm (pv 0) T.aJ T.ic d7 (hr.mono (by decide)) T.e8 .nil au) (cE yn rfl T.jN jq (aa (pv 1) ae)) (aA _)) (ai (ax fV)) aC) (af (fF PassesOwn.never rfl (c5 (cE yn rfl T.jN jq (aa (pv 1) ae))) (aF (i:=3) pC.nd rfl (Or.inl rfl)) (af (aQ (dQ plainAttrs_list slot_list_append type_list_append aZ (a8 (pv 0) T.aJ T.AW Fu (hr.mono (by decide)) T.pN .nil au (aa (pv 3) ae)) (aa aj ae))) (af (aQ (dQ plainAttrs_list slot_list_append type_list_append aZ (a8 (pv 0) T.aJ T.gT gH (hr.mono (by decide)) T.eR .nil au (aa (pv 3) ae)) (aa (fG (aa aY (aa aj ae))) ae))) (af (aV (cM (aX (ar WK (hr.mono (by decide)) rfl T.Sv T.rD.kp T.C7 .nil au (aa (a8 (pv 0) T.aJ T.gT gH (hr.mono (by decide)) T.eR .nil au (aa (pv 3) ae)) (aa (ar vP (hr.mono (by decide)) rfl T.AX T.ji.kp T.pO .nil au (aa (pv 1) (aa (pv 3) ae))) ae))))) (ai (ax fV)) aC) (af (aV (cM (aX (ar ZP (hr.mono (by decide)) rfl T.Wi T.vy.kp T.HC .nil au (aa (a8 (pv 0) T.aJ T.AW Fu (hr.mono (by decide)) T.pN .nil au (aa (pv 3) ae)) (aa (ar QN (hr.mono (by decide)) rfl T.M6 T.lZ.kp T.vA .nil au (aa (pv 1) (aa (pv 3) ae))) ae))))) (ai (ax fV)) aC) (af (aL (i:=4) pC.nd rfl (Or.inl rfl) (a8 (pv 0) T.aJ T.ie dc (hr.mono (by decide)) T.ff .nil au (aa (pv 3) ae))) (ai (aV (aX (aG dq rfl T.a7 a6 (aa (xr (Ly hr) (pv 1) (pv 3) (fun _ _=>rfl)) (aa (eS (v:=.ty "list") rfl T.jN jq rfl) ae)))) (ai (aV (ay Mt (pv 4) uH (aA _)) (ai (ax fV)) aC)) (ai (aV (cf (PW.pt (ko (cM (aX (aG dq rfl T.a7 a6 (aa (pv 4) (aa (eS (v:=.ty "tuple") rfl T.A0 Au rfl) ae))))) (ko (ay (xW.or (qj (aM hr))) (aG (aD.or aE) rfl T.bS bR (aa (pv 4) ae)) aj (aA _)) (iy (ay (xW.or (qj (aM hr))) (pv 4) (xr (Ly hr) (pv 1) (pv 3) (fun _ _=>rfl)) (aA _))))))) (ai (ax fV)) (ai (aV (cf (PW.pt (ko (cM (aX (ar nQ (hr.mono (by decide)) rfl T.sF T.jh.kp T.nP .nil au (aa (aW aN (pv 4) aj (fun _ _=>rfl)) ae)))) (ko (cM (aX (ar nQ (hr.mono (by decide)) rfl T.sF T.jh.kp T.nP .nil au (aa (aW aN (pv 4) aj (fun _ _=>rfl)) ae)))) (iy (cM (aX (aG dq rfl T.a7 a6 (aa (aW aN (pv 4) aj (fun _ _=>rfl)) (aa (eS (v:=.ty "bool") rfl T.Vm U0 rfl) ae)))))))))) (ai (ax fV)) aC)))))))))))) (ai (ax fV)))))))) ?_;have wv:=B.wv vw (.inr (.inl rfl));have hx:∃ dx L D U,H x=some (.ins t.aU dx (Aj L D U)):=by
   obtain⟨L,D,U,all,M,Ps,Fs,es,us,b,_⟩:=B.ex;obtain⟨dx,e⟩:=b.hx;exact⟨dx,L,D,U,e⟩
  obtain⟨dx,L,D,U,hx⟩:=hx;have wl:=wv.len;have hstr:∀ v∈vw.map (fun q=>V.str q.1),∃ z,v=.str z:=fun v hv=>by
   obtain⟨q,_,e⟩:=mem_map.mp hv;exact⟨_,e.symm⟩
  refine⟨_,rfl,x,dx,_,rfl,hx,jr _ _ _,x,F,vw,ps,fs,rfl,B,fun l1 H1 nl1 s1 h1=>?_⟩;obtain⟨kvs,hk,ek⟩:=hd.keys;refine⟨fun b H'=>b=false/\aq H1 H',?_,?_⟩
  ·tm_up;refine⟨_,_,_,_,rfl,hX.lst h1,rfl,_,rfl,dR ?_⟩;refine⟨_,rfl,_,rfl,rfl,d,kvs,rfl,.inl (s1 _ _ hk),fun l2 hl2=>?_⟩;have s2:=aq.upd (o:=.lst (kvs.map fun kv=>kV kv.1)) hl2;have h2:=ag (H:=H1) (a:=l2) (o:=.lst (kvs.map fun kv=>kV kv.1));rw[ek]at s2 h2 ⊢;refine .inr ⟨l1,l2,rfl,rfl,Vv (aR.of (s2 _ _ h1)) (aR.of h2) hstr,?_⟩;exact⟨_,rfl,rfl,s2⟩
  rintro b H2 ⟨rfl,s2⟩;refine dR ?_;have h12:=s2 _ _ h1;refine⟨_,rfl,.inl ⟨rfl,_,aR.of h12⟩,l1,_,rfl,rfl,h12,?_⟩;have s3:aq H (upd H2 l1 (.lst (vw.map fun a=>V.str a.1).reverse)):=dU (s1.trans s2) nl1;have h3:=ag (H:=H2) (a:=l1) (o:=.lst (vw.map fun a=>V.str a.1).reverse);generalize upd H2 l1 (.lst (vw.map fun a=>V.str a.1).reverse)=H3 at s3 h3;refine⟨_,rfl,.inl ⟨rfl,_,aR.of h3⟩,l1,_,_,rfl,rfl,h3,aK (by rw[List.length_reverse,length_map];omega),?_⟩;have s4:aq H (upd H3 l1 (.lst ((vw.map fun a=>V.str a.1).reverse++[V.str "x"]))):=dU s3 nl1;generalize upd H3 l1 (.lst ((vw.map fun a=>V.str a.1).reverse++[V.str "x"]))=H4 at s4;refine⟨_,rfl,x,dx,_,rfl,s4 _ _ hx,jr _ _ _,x,F,vw,ps,fs,rfl,B.same s4,fun l5 H5 nl5 s5 h5=>?_⟩;refine⟨_,rfl,rfl,d,kvs,rfl,.inl (s5 _ _ (s4 _ _ hk)),fun l6 hl6=>?_⟩;have s6:=aq.upd (o:=.lst (kvs.map fun kv=>kV kv.1)) hl6;have h6:=ag (H:=H5) (a:=l6) (o:=.lst (kvs.map fun kv=>kV kv.1));rw[ek]at s6 h6 ⊢;refine .inr ⟨l5,l6,rfl,rfl,Vv (aR.of (s6 _ _ h5)) (aR.of h6) hstr,?_⟩;refine⟨_,rfl,dR ?_⟩;have S6:=(s4.trans s5).trans s6;generalize upd H5 l6 (.lst (vw.map fun q=>V.str q.1))=H6 at S6;refine⟨_,rfl,rfl,d,kvs,rfl,.inl (S6 _ _ hk),fun l7 hl7=>?_⟩;have s7:=aq.upd (o:=.lst (kvs.map fun kv=>kV kv.1)) hl7;have h7:=ag (H:=H6) (a:=l7) (o:=.lst (kvs.map fun kv=>kV kv.1));rw[ek]at s7 h7 ⊢;have S7:=S6.trans s7;generalize upd H6 l7 (.lst (vw.map fun q=>V.str q.1))=H7 at S7 h7;refine⟨l7,rfl,⟨_,aR.of h7⟩,nS (K:=K) (xs:=vw.map fun q=>V.str q.1) (fun i σ H'=>∃(u v:Option V),σ=[some (.ref x),some (.ref d),some (.ref l1),u,v]/\aq H7 H') ⟨none,none,rfl,aq.refl _⟩ ?_ ?_ ?_⟩
  ·rintro i σ H' _ ⟨u,v,rfl,s8⟩;exact aR.of (s8 _ _ h7)
  ·rintro i y σ H8 hy ⟨u,v,rfl,s8⟩;obtain⟨qn,hq,rfl⟩:∃ qn,vw[i]? = some qn/\y=.str qn.1:=by
    rw[getElem?_map]at hy;cases e:vw[i]? with
    |none=>rw[e]at hy;cases hy
    |some z=>rw[e]at hy;exact⟨z,rfl,(Option.some.inj hy).symm⟩
   obtain⟨n,th⟩:=qn;have hf:=wv.find (mem_of_getElem? hq);have kl:=ZN wv n;have ll:=ZO wv n;have S8:=S7.trans s8;have B8:=B.same S8;have hd8:=hd.same S8;refine⟨_,rfl,x,dx,_,rfl,S8 _ _ hx,Fc _ _ _,_,rfl,x,F,vw,ps,fs,n,rfl,B8,?_⟩;rw[hf];intro k1 H9 nk1 s9 hk1;refine⟨.inl ⟨rfl,_,aR.of hk1⟩,k1,_,_,rfl,rfl,hk1,aK (by rw[length_map];omega),?_⟩;have s10:aq H8 (upd H9 k1 (.lst ((um vw n).map V.int++[V.int 7]))):=dU s9 nk1;generalize upd H9 k1 (.lst ((um vw n).map V.int++[V.int 7]))=H10 at s10;have B10:=B8.same s10;refine⟨_,rfl,x,dx,_,rfl,s10 _ _ (S8 _ _ hx),iX _ _ _,_,rfl,x,F,vw,ps,fs,n,rfl,B10,?_⟩;rw[hf];intro l11 afi H11 ahk s11 h11 g11;have y11:=bL g11;refine⟨.inl ⟨rfl,_,aR.of h11⟩,(by show 2<=sizeLine;decide),fun tp htp=>?_⟩;have st:=aq.upd (o:=.tup [V.str "R",V.int 0]) htp;refine⟨l11,_,_,rfl,rfl,st _ _ h11,aK (by omega),?_⟩;have s12:aq H10 (upd (upd H11 tp (.tup [V.str "R",V.int 0])) l11 (.lst (afi++[.ref tp]))):=dU (s11.trans st) ahk;generalize upd (upd H11 tp (.tup [V.str "R",V.int 0])) l11 (.lst (afi++[.ref tp]))=H12 at s12;have S12:=s10.trans s12;have B12:=B8.same S12;have ahl:=hd8.same S12;refine⟨_,rfl,x,dx,_,rfl,S12 _ _ (S8 _ _ hx),iX _ _ _,_,rfl,x,F,vw,ps,fs,n,rfl,B12,?_⟩;rw[hf];intro l13 ahm H13 aj9 s13 h13 g13;refine⟨_,rfl,_,rfl,d,vw,n,th,rfl,ahl.same s13,wv,hf,fun l14 ahn H14 s14 h14 g14=>?_⟩;refine⟨l13,l14,ahm,ahn,AB vw n,rfl,s14 _ _ h13,aR.of h14,g13.same s14,g14,fun H15 s15=>?_⟩;refine⟨_,rfl,dR ?_⟩;have S15:=((S12.trans s13).trans s14).trans s15;have B15:=B8.same S15;refine⟨_,rfl,x,dx,_,rfl,S15 _ _ (S8 _ _ hx),Fc _ _ _,_,rfl,x,F,vw,ps,fs,n,rfl,B15,?_⟩;rw[hf];intro k16 H16 akf s16 h16;refine⟨_,rfl,_,rfl,d,vw,n,th,rfl,(hd8.same S15).same s16,wv,hf,fun l17 H17 s17 h17=>?_⟩;refine⟨k16,l17,um vw n,um vw n,rfl,s17 _ _ h16,aR.of h17,by omega,?_⟩;rw[decide_eq_true rfl];refine⟨_,rfl,dR ?_⟩;have S17:=(S15.trans s16).trans s17;have B17:=B8.same S17;have ahq:=hd8.same S17;have fin:∀{u v:Option V},∃(u' v':Option V),[some (V.ref x),some (V.ref d),some (V.ref l1),u,v]=[some (V.ref x),some (V.ref d),some (V.ref l1),u',v']/\aq H7 H17:=⟨_,_,rfl,s8.trans S17⟩;obtain⟨v18,adu,afj⟩:=ahq.get hf;refine⟨_,rfl,x,dx,_,rfl,S17 _ _ (S8 _ _ hx),js _ _ _,_,rfl,x,F,vw,ps,fs,n,rfl,B17,?_⟩;rw[hf];cases th with
   |pl ss =>
    obtain⟨l0,ys0,rfl,h0,_⟩:=afj;refine⟨_,rfl,_,rfl,d,_,rfl,adu,?_⟩;refine⟨_,_,_,_,rfl,hX.lst h0,rfl,_,rfl,qi ?_⟩;refine⟨_,rfl,rfl,_,rfl,?_⟩;exact aT (fun h=>absurd h (by decide)) (fun _=>fin)
   |cn ld lt sl tn =>
    intro p hp;obtain⟨p2,rfl,hp2⟩:=afj;refine⟨_,rfl,_,rfl,d,_,rfl,adu,?_⟩;refine⟨_,_,_,_,rfl,hX.tup hp2,rfl,_,rfl,dR ?_⟩;refine⟨fun b H'=>b=false/\H'=H17,?_,?_⟩
    ·tm_up;refine⟨_,_,_,_,rfl,hX.tup hp,rfl,_,rfl,dR ?_⟩;refine⟨_,rfl,.inl ⟨p,_,rfl,.inr (nR.of hp),?_⟩⟩;refine .inl ⟨rfl,_,rfl,dR ?_⟩;refine⟨_,rfl,_,rfl,_,rfl,d,_,rfl,adu,.inr ⟨p,p2,rfl,rfl,afg 59 hp hp2,?_⟩⟩;exact⟨_,rfl,rfl,rfl⟩
    intro b H18 ⟨e1,e2⟩;rw[e1,e2];refine dR ?_;refine⟨fun b H'=>b=false/\H'=H17,?_,?_⟩
    ·refine⟨_,rfl,vK (i:=1) hp rfl ⟨lt,rfl,_,rfl,dR ?_⟩⟩;refine⟨_,rfl,vK (i:=2) hp rfl ⟨sl,rfl,_,rfl,dR ?_⟩⟩;refine⟨_,rfl,vK (i:=3) hp rfl ?_⟩;exact⟨_,_,_,_,rfl,hX.bl _,rfl,_,rfl,rfl,rfl⟩
    intro b H18 ⟨e1,e2⟩;rw[e1,e2];refine dR ?_;exact fin
  ·rintro σ H' ⟨u,v,rfl,s8⟩;exact q _ (S7.trans s8)
inductive Bn (C:Addr)(vs:List V)(H:Hp)(Q:VK)(E:XK):Prop
 |mk (x dx:Addr) (dC:vs=[.ref x]) (dD:H x=some (.ins C dx [])) (eK:∀(L D U:Addr)(H':Hp),(∀ y o,H y=some o->y≠x->H' y=some o)->H L=none->H D=none->H U=none->L≠D->L≠U->D≠U->H' x=some (.ins C dx (Aj L D U))->H' L=some (.lst [])->H' D=some (.lst [])->H' U=some (.lst [])->Q .non H'):Bn C vs H Q E
theorem Di (T:Txt K w mg t):bg P w K mg base fq (0+1) t.cw t.mi ["self"] (Bn t.aU):=by
 refine T.ix.ok CQ (fun vs H Q E h=>?_) (fun cdv A outer s H vs Q E hr h=>?_)
 ·obtain⟨_,_,rfl,_⟩:=h;rfl
 ·obtain⟨x,dx,rfl,hx,q⟩:=h;refine aO (af (qh (pv 0) (b5 ae) rfl) (af (qh (pv 0) (b5 ae) rfl) (ai (qh (pv 0) (b5 ae) rfl)))) ?_;refine⟨big (by show 0<=1000;omega),fun L hL=>?_⟩;have xL:x≠L:=ao hx hL;refine⟨_,rfl,x,_,dx,_,rfl,by rw[ak xL];exact hx,T.aJ,T.bj,by show 0<1000;decide,?_⟩;refine⟨big (by show 0<=1000;omega),fun D hD=>?_⟩;have xD:x≠D:=ao ag hD;have DL:L≠D:=ao (show upd (upd H L (.lst [])) x _ L=some (.lst []) by rw[ak (Ne.symm xL)];exact ag) hD;have Sf:H D=none:=by rw[ak (Ne.symm xD),ak (Ne.symm DL)]at hD;exact hD
  refine⟨_,rfl,x,_,dx,_,rfl,by rw[ak xD];exact ag,T.aJ,T.c9,by rw[ML];show 1<1000;decide,?_⟩;refine⟨big (by show 0<=1000;omega),fun U hU=>?_⟩;have xU:x≠U:=ao ag hU;have DU:D≠U:=by
   rintro rfl;rw[ak (Ne.symm xU),ag]at hU;cases hU
  have LU:L≠U:=by
   rintro rfl;rw[ak (Ne.symm xU),ak DL,ak (Ne.symm xU),ag]at hU;cases hU
  have PM:H U=none:=by rw[ak (Ne.symm xU),ak (Ne.symm DU),ak (Ne.symm xU),ak (Ne.symm LU)]at hU;exact hU
  refine⟨_,rfl,x,_,dx,_,rfl,by rw[ak xU];exact ag,T.aJ,T.cq,by rw[ML,Ve];show 2<1000;decide,?_⟩;rw[ML,Ve,aaW];refine q L D U _ (fun y o hy ny=>?_) hL Sf PM DL LU DU ag ?_ ?_ ?_
  ·rw[ak ny,ak (ao hy PM),ak ny,ak (ao hy Sf),ak ny,ak (ao hy hL)];exact hy
  ·rw[ak (Ne.symm xL),ak LU,ak (Ne.symm xL),ak DL,ak (Ne.symm xL)];exact ag
  ·rw[ak (Ne.symm xD),ak DU,ak (Ne.symm xD)];exact ag
  ·rw[ak (Ne.symm xU)];exact ag
inductive Bo (c:Cs)(vs:List V)(H:Hp)(Q:VK)(E:XK):Prop
 |mk (x:Addr) (F:Addr->Prop) (vw:Vw) (ps fs:List Vw) (n:Str) (dC:vs=[.ref x,.str n]) (dD:Cv c H x F vw ps fs) (eK:ps.length<=900) (jj:match a5 vw n with
 |none=>RX E c .m9 H
 |some _=>(leans vw n=true->∀ H',aq H H'->RX E c .Zg H')/\(leans vw n=false->∀ F' H',Gr F F' H->Fr F H H'->Cv c H' x F' (uV vw n) (ps++[vw]) []->Q .non H')):Bo c vs H Q E
theorem Nr (T:Txt K w mg t):bg P w K mg base fq (0+3) t.eP t.vi ["self","name"] (Bo (cs t)):=by
 have a9:=cS (P:=P) (base:=base) T;have gG:=mr (P:=P) (base:=base) T;have fo:=kS (P:=P) (base:=base) T;have d7:=lN (P:=P) (base:=base) T;refine T.pP.ok AK (fun vs H Q E h=>?_) (fun cdv A outer s H vs Q E hr h=>?_)
 ·obtain⟨_,_,_,_,_,_,rfl,_⟩:=h;rfl
 ·obtain⟨x,F,vw,ps,fs,n,rfl,B,hps,q⟩:=h;refine aO (af (aL (i:=2) AK.nd rfl (Or.inl rfl) (a8 (pv 0) T.aJ T.cQ a9 (hr.mono (by decide)) T.bM .nil au (aa (pv 1) ae))) (af (aV (aX (aG Qa rfl T.Zp YL (aa (fX (cn:=["voice"]) rfl (cz.of rfl) (c5 (bG (pv 0) rfl)) (fun _=>(aF (i:=0) FL rfl (Or.inl rfl))) (fun _=>iC) (fun _=>(cI (jm (bB Mt (bG (pv 0) rfl) uH (aA _)) (jk (bB (bN.or (a0 (aM hr))) (aW aN (bG (pv 0) rfl) aj (fun _ _=>rfl)) (pv 2) (aA _))))))) ae))) (ai eB) aC) (ai (aQ (a8 (pv 0) T.aJ T.mj gG (hr.mono (by decide)) T.gD .nil au (aa (Al T.Nd fo (hr.mono (by decide)) rfl T.Nc T.fk .nil au (aa (bG (pv 0) rfl) (aa (dQ plainAttrs_list PySem.F.slot_list_index PySem.F.type_list_index Zi (gm (pv 0) T.aJ T.ic d7 (hr.mono (by decide)) T.e8 .nil au) (aa (pv 1) ae)) (aa (b5 (aa (pv 2) ae)) (aa (b5 ae) ae))))) ae)))))) ?_;obtain⟨L,D,U,all,M,Ps,Fs,es,us,b,iM,pp,pf,f⟩:=B.ex;obtain⟨dx,hx⟩:=b.hx;obtain⟨vx,g,gv⟩:=b.yu iM;have wv:=B.wv vw (.inr (.inl rfl));have hL:=b.hL;have xl:=bL g;have vl:=bL gv;have wl:=wv.len;refine⟨_,rfl,x,dx,_,rfl,hx,c0 _ _ _,_,rfl,x,dx,L,D,U,M L,vx,n,rfl,hx,b.hL,g,?_⟩;rcases LN gv (fun _ _ r=>r.2.1) n with ⟨f1,f2⟩|⟨a,th,j,f1,f2,r,an,fj,fw⟩
  ·rw[f1];rw[f2]at q;exact(Bool.noConfusion (show false=true from q.1))
  rw[f1];rw[f2]at q;obtain⟨q1,q2⟩:=q;refine⟨_,rfl,x,_,dx,_,_,rfl,hx,T.aJ,T.bj,iG _ _ _,L,rfl,⟨_,aR.of hL⟩,fun D' b' hD'=>?_⟩;refine dH (K:=K) (xs:=M L) (fun i ys σ H'=>∃ v,σ=[v,some (.ref x),some (.str n),some (.ref a.o)]/\H'=upd H D' (.lst ys)/\ys=((vw.take i).map (Hd n)).map V.bl) ⟨none,rfl,rfl,rfl⟩ ?_ ?_ ?_
  ·rintro i ys σ H' ⟨v,rfl,rfl,_⟩;exact dS (aR.of hL) hD'
  ·rintro i ys y σ H' hy ⟨v,rfl,rfl,rfl⟩ N hN;obtain⟨a1,e1,rfl,ha1⟩:=qY g hy;obtain⟨q1',e2,_,an1,t1⟩:=qY gv e1;have hi:i<vw.length:=(List.getElem?_eq_some_iff.mp e2).1;refine cH ?_;refine⟨fun v H'=>v=.bl (Hd n q1')/\H'=upd H D' (.lst (((vw.take i).map (Hd n)).map V.bl)),?_,?_⟩
   ·refine⟨_,rfl,a1.o,_,a1.d,_,_,rfl,by rw[ak (ao ha1 hD')];exact ha1,T.fm,T.cm,xu _ _ _,rfl,_,rfl,?_⟩;obtain⟨m1,th1⟩:=q1';cases th1 with
    |pl ss =>
     obtain⟨e3,_⟩:=t1;rw[e3];exact dR ⟨rfl,rfl⟩
    |cn ld lt sl tn =>
     obtain⟨p,e3,hp⟩:=t1;have hp':upd H D' (.lst (((vw.take i).map (Hd n)).map V.bl)) p=some (.tup [.str ld,.int lt,.int sl,.bl tn]):=by rw[ak (ao hp hD')];exact hp
     rw[e3];refine qi ?_;refine⟨_,rfl,a1.o,_,a1.d,_,_,rfl,by rw[ak (ao ha1 hD')];exact ha1,T.fm,T.cm,xu _ _ _,?_⟩;rw[e3];refine vK (i:=0) hp' rfl ?_;refine⟨_,rfl,.inl ⟨rfl,?_,rfl⟩⟩;show V.bl (decide (V.str ld=V.str n))=V.bl (decide (ld=n));refine congrArg V.bl (decide_eq_decide.mpr ⟨fun z=>V.str.inj z,fun z=>congrArg V.str z⟩)
   ·rintro _ _ ⟨rfl,rfl⟩;refine⟨ag,?_,?_⟩
    ·rw[length_map,length_map,length_take];exact aK (by omega)
    ·refine hN _ _ _ ⟨_,rfl,bZ,?_⟩;rw[take_succ,e2];simp
  ·rintro ys σ H' ⟨v,rfl,rfl,rfl⟩;have ml:(M L).length=vw.length:=xl.trans vl;refine⟨rfl,D',_,rfl,aR.of ag,_,rfl,?_⟩;rw[ml,take_length,List.any_map];have sD:=aq.upd (o:=.lst ((vw.map (Hd n)).map V.bl)) hD';generalize upd H D' (.lst ((vw.map (Hd n)).map V.bl))=H1 at sD;refine aT (fun h=>?_) (fun h=>?_)
   ·have q:=q1 h H1 sD;exact(Bool.noConfusion (show false=true from q.1))
   have hle:leans vw n=false:=by
    cases e:leans vw n with
    |false=>rfl
    |true=>exact absurd e h
   have q2:=q2 hle;have B1:=B.same sD;have hx1:=sD _ _ hx;refine⟨_,rfl,x,dx,_,rfl,hx1,nZ _ _ _,?_⟩;refine⟨_,rfl,x,_,dx,_,_,rfl,hx1,T.aJ,T.bj,iG _ _ _,?_⟩;refine⟨_,rfl,x,dx,_,rfl,hx1,jr _ _ _,x,F,vw,ps,fs,rfl,B1,fun l H2 nl s2 h2=>?_⟩;have jl:j<vw.length:=(List.getElem?_eq_some_iff.mp fw).1;have hjn:(vw.map (·.1))[j]? = some n:=by rw[getElem?_map,fw];rfl
   refine⟨.inl ⟨rfl,_,aR.of h2⟩,_,rfl,l,vw.map (·.1),n,j,rfl,rfl,by rw[List.map_map];exact h2,hjn,fun i hi z=>?_,?_⟩
   ·have:=uS wv.nd z hjn;omega
   have s12:=sD.trans s2;clear s2 sD hx1 B1 nl h2;obtain⟨ds,hD,pD⟩:=b.hD;obtain⟨ux,hU,pU⟩:=b.hU;have dl:=bL pD;have pl:=bL pp;have pe:=b.past.len;refine⟨_,rfl,big (by show 1<=1000;omega),fun B' hB=>?_⟩;refine⟨big (by show 0<=1000;omega),fun A_ hA=>?_⟩;have hA0:=MP hA;have sB:=(aq.upd (o:=.lst [V.ref a.o]) hB).trans (aq.upd (o:=.lst []) hA);have hB2:=aq.upd (o:=.lst []) hA _ _ (ag (H:=H2) (a:=B') (o:=.lst [V.ref a.o]));have Zz:=ag (H:=upd H2 B' (.lst [V.ref a.o])) (a:=A_) (o:=.lst []);have hB0:H B'=none:=s12.free hB;have hA0:H A_=none:=s12.free hA0;have LA:L≠A_:=ao hL hA0;generalize upd (upd H2 B' (.lst [V.ref a.o])) A_ (.lst [])=H3 at sB hB2 Zz;have s13:=s12.trans sB;intro d dd nd ndd ne;refine⟨d,dd,L,(j:Int),B',A_,rfl,ag,rfl,?_⟩;rw[bZ];have s3:aq H3 (upd (upd H3 dd (.own d)) d (.ins t.bc dd (LH L (j:Int) B' A_))):=fun y o hy=>by
    rw[ak (ao hy nd),ak (ao hy ndd)];exact hy
   have V3:=ag (H:=upd H3 dd (.own d)) (a:=d) (o:=.ins t.bc dd (LH L (j:Int) B' A_));generalize upd (upd H3 dd (.own d)) d (.ins t.bc dd (LH L (j:Int) B' A_))=H4 at s3 V3;have s4:=s13.trans s3;refine⟨x,dx,L,D,U,d,dd,L,B',A_,j,ds,ux,M L,[.ref a.o],[],rfl,s4 _ _ hx,s4 _ _ hD,s4 _ _ hU,V3,s4 _ _ hL,s3 _ _ hB2,s3 _ _ Zz,LA,b.LD,b.LU,b.DU,by simp;omega,by simp;omega,by omega,?_⟩;have hj':(M L)[j]? = some (.ref a.o):=by
    obtain⟨v,hv,e1,_⟩:=Av g fj;rw[<-e1];exact hv
   have w':rX (vw.take j++vw.drop (j+1)):=by
    rw[<-He wv.nd fw];exact wv.dropped hle
   obtain⟨F',gr,fr,B4⟩:=Bk.dropped b iM pp f B.wv hj' w' (e:=⟨d,dd,L,j,B',A_,[.ref a.o],[]⟩) rfl rfl rfl rfl s4 hB0 hA0 ⟨rfl,V3,s3 _ _ hB2,s3 _ _ Zz⟩ hD pD
    (H':=upd (upd (upd H4 L (.lst ((M L).take j++[]++(M L).drop (j+1)))) D (.lst (ds++[.ref d]))) U (.lst [])) (fun y o hy y1 y2 y3=>by rw[ak y3,ak y2,ak y1];exact hy) (by rw[ak b.LU,ak b.LD,ag,append_nil]) (by rw[ak b.DU,ag]) ag
   refine q2 F' _ gr fr ?_;rw[He wv.nd fw];exact B4
inductive Bp (c:Cs)(vs:List V)(H:Hp)(Q:VK)(E:XK):Prop
 |mk (x:Addr) (F:Addr->Prop) (vw:Vw) (ps fs:List Vw) (dC:vs=[.ref x]) (dD:Cv c H x F vw ps fs) (eK:ps.length+fs.length<=900) (jj:(fs=[]->∀ H',aq H H'->RX E c .Si H')) (pb:(∀ Zd v,fs=Zd++[v]->∀ H',Fr F H H'->Cv c H' x F v (ps++[vw]) Zd->Q .non H')):Bp c vs H Q E
theorem Nt (T:Txt K w mg t):bg P w K mg base fq (0+2) t.eQ t.vj ["self"] (Bp (cs t)):=by
 have Df:=HU (P:=P) (base:=base) T;refine T.pQ.ok AL (fun vs H Q E h=>?_) (fun cdv A outer s H vs Q E hr h=>?_)
 ·obtain⟨_,_,_,_,_,rfl,_⟩:=h;rfl
 ·obtain⟨x,F,vw,ps,fs,rfl,B,hps,q1,q2⟩:=h;refine aO (af (aV (ay (R6 (aM hr)) (bG (pv 0) rfl) (b5 ae) (aA _)) (ai eB) aC) (af (aL (i:=1) AL.nd rfl (Or.inl rfl) (Mx plainAttrs_list slot_list_pop type_list_pop Yy (bG (pv 0) rfl))) (af (aQ (gm (pv 1) T.d6 T.Hy Df (hr.mono (by decide)) T.xF .nil au)) (ai (aQ (dQ plainAttrs_list slot_list_append type_list_append aZ (bG (pv 0) rfl) (aa (pv 1) ae))))))) ?_;obtain⟨L,D,U,all,M,Ps,Fs,es,us,b,iM,pp,pf,f⟩:=B.ex;obtain⟨dx,hx⟩:=b.hx;obtain⟨ux,hU,pU⟩:=b.hU;have ul:=bL pU;have fl:=bL pf;have fe:=b.fut.len;refine⟨_,rfl,x,_,dx,_,_,rfl,hx,T.aJ,T.cq,rW _ _ _,big (by show 0<=1000;omega),fun e0 he0=>?_⟩;have s0:=aq.upd (o:=.lst []) he0;refine⟨U,e0,ux,rfl,rfl,aR.of (s0 _ _ hU),aR.of ag,_,rfl,?_⟩;generalize upd H e0 (.lst [])=H0 at s0;refine aT (fun h=>?_) (fun h=>?_)
  ·have hds:ux=[]:=List.isEmpty_iff.mp h;rw[hds]at ul;have hp0:fs=[]:=List.length_eq_zero_iff.mp (by rw[<-fl,fe,<-ul];rfl);have q:=q1 hp0 H0 s0;exact(Bool.noConfusion (show false=true from q.1))
  have hne:ux≠[]:=fun z=>h (by rw[z];rfl);obtain⟨ux0,v,rfl⟩:∃ ux0 v,ux=ux0++[v]:=⟨ux.dropLast,ux.getLast hne,(List.dropLast_concat_getLast hne).symm⟩;obtain⟨us0,e,he,pU0,hd⟩:=G4 pU;have hvo:=hd.1;subst hvo;have b0:=b.kept f (.same s0);have hd0:lR t.bc H0 (.ref e.o) e:=gJ (F:=fun _=>True) (.same s0) ⟨trivial,trivial⟩ hd;have ok:=b.dd e (.inr (by rw[he];exact mem_append_right _ (List.mem_singleton_self _)));obtain⟨hT,TD,TU⟩:=b0.lists ok.1;have nTA:e.T≠e.A:=by
   rcases ok.1 with z|⟨a,ha,z⟩
   ·rw[z];exact Ne.symm ok.2.2.1.1
   ·rw[z];exact Ne.symm (ok.2.2.1.2.2.2 a ha)
  obtain⟨Fs0,_,ft,_⟩:=(he ▸ b.fut).last;have fit:=ft.1;have hx0:=s0 _ _ hx;have PM:=s0 _ _ hU;obtain⟨ds,Sf,pD⟩:=b0.hD;have ag6:(M e.T).length<=200:=by
   rcases ok.1 with z|⟨a,ha,z⟩
   ·rw[z];exact Nat.le_trans (b.wf M (.inr (.inl rfl))).len (by decide)
   ·rw[z];exact((b.wf M (.inr (.inl rfl))).ln a ha).1
  refine⟨_,rfl,x,_,dx,_,_,rfl,hx0,T.aJ,T.cq,rW _ _ _,?_⟩;refine⟨.inl ⟨rfl,_,aR.of PM⟩,U,ux0++[V.ref e.o],V.ref e.o,rfl,rfl,PM,by simp,?_⟩;rw[List.dropLast_concat];have nU:∀{y C d fs},H0 y=some (.ins C d fs)->y≠U:=fun hy=>uG hy PM (by intro z;cases z);have nT:∀{y C d fs},H0 y=some (.ins C d fs)->y≠e.T:=fun hy=>uG hy hT (by intro z;cases z);have r1:∀{y o},H0 y=some o->y≠U->upd H0 U (.lst ux0) y=some o:=fun hy hn=>by rw[ak hn];exact hy
  refine⟨_,rfl,e.o,e.d,_,rfl,r1 hd0.2.1 (nU hd0.2.1),LJ _ _ _ _,?_⟩;refine⟨e.o,e.d,e.T,e.B,e.A,e.i,M e.T,e.bs,e.as,rfl,r1 hd0.2.1 (nU hd0.2.1),r1 hT TU,r1 hd0.2.2.1 ok.2.1.2.2.1,r1 hd0.2.2.2 ok.2.2.1.2.2.1,nTA,fit,by have:=ok.2.2.2.2;omega,?_⟩;have r2:∀{y o},H0 y=some o->y≠U->y≠e.T->upd (upd H0 U (.lst ux0)) e.T (.lst ((M e.T).take e.i++e.as++(M e.T).drop (e.i+e.bs.length))) y=some o:=fun hy hn hn'=>by rw[ak hn',ak hn];exact hy
  refine⟨_,rfl,x,_,dx,_,_,rfl,r2 hx0 (nU hx0) (nT hx0),T.aJ,T.c9,Az _ _ _,?_⟩;have hD1:=r2 Sf b.DU (Ne.symm TD);have dl:=bL pD;have pl:=bL pp;have pe:=b.past.len;refine⟨.inl ⟨rfl,_,aR.of hD1⟩,_,rfl,D,_,_,rfl,rfl,hD1,aK (by omega),?_⟩;obtain⟨Zd,v,e1,B2⟩:=Bk.ac2 b0 (Is.kept (F:=F) (.same s0) iM) (cA (fun _ _ q=>Is.kept (F:=F) (.same s0) q) pp) (cA (fun _ _ q=>Is.kept (F:=F) (.same s0) q) pf) f B.wv he pD hd0 (qp (fun _ e' _ q=>gJ (F:=fun _=>True) (.same s0) ⟨trivial,trivial⟩ q) pU0)
   (H2:=upd (upd (upd H0 U (.lst ux0)) e.T (.lst ((M e.T).take e.i++e.as++(M e.T).drop (e.i+e.bs.length)))) D (.lst (ds++[.ref e.o]))) (fun y o hy y1 y2 y3=>by rw[ak y2];exact r2 hy y3 y1) (by rw[ak TD,ag];exact congrArg (fun z=>some (HO.lst z)) gp.symm) ag (by rw[ak (Ne.symm b.DU),ak (Ne.symm TU),ag])
  refine q2 Zd v e1 _ (fun y o hy hn=>?_) B2;have fT:F e.T:=by
   rcases ok.1 with z|⟨a,ha,z⟩
   ·rw[z];exact f.L
   ·rw[z];exact f.l a ha
  rw[ak (show y≠D from fun z=>hn (z ▸ f.D))];exact r2 (s0 _ _ hy) (fun z=>hn (z ▸ f.U)) (fun z=>hn (z ▸ fT))
theorem ZQ (k:Kd):X6 k.str "GDsd"=k.iE:=by cases k <;> decide +kernel
inductive Md (vs:List V)(H:Hp)(Q:VK)(E:XK):Prop
 |mk (p:Addr) (s:Sg) (dC:vs=[.ref p]) (dD:H p=some (.tup [.str s.1.str,.int s.2])) (eK:iY s) (jj:Q (.str (ib s)) H):Md vs H Q E
theorem WL (T:Txt K w mg t):bg P w K mg base fq (0+1) t.ox t.Hu ["_law_sign"] Md:=by
 refine T.vE.ok We (fun vs H Q E h=>?_) (fun cdv A outer s H vs Q E hr h=>?_)
 ·obtain⟨_,_,rfl,_⟩:=h;rfl
 ·obtain⟨p,g,rfl,hp,gt,q⟩:=h;have wl:=CL gt;unfold ib at q wl;rw[<-ZQ]at q wl;refine aO (af (aV (ay (cF.or cD) (aW aN (pv 0) aj (fun _ _=>rfl)) aY rfl) (ai (ax (aI (bp.or (aH.or bq)) (aW aN (pv 0) aj (fun _ _=>rfl)) (cE Mu rfl T.Sz R3 (aa (aW aN (pv 0) aj (fun _ _=>rfl)) ae))))) aC) (ai (ax (aW aN (pv 0) aj (fun _ _=>rfl))))) ?_;tm_up;refine aT (fun h=>?_) (fun h=>?_)
  ·have h':X6 g.1.str "GDsd"=true:=h;rw[if_pos h']at q wl;have hn:=gt.1 ((ZQ g.1).symm.trans h');tm_up;refine⟨LK hn.1 hn.2,.inr (.inl ⟨_,_,rfl,rfl,?_,q⟩)⟩;rw[PySem.Str.length_append]at wl;exact Nat.le_trans wl (by decide)
  ·rw[if_neg (show ¬ X6 g.1.str "GDsd"=true from h)]at q;tm_up;exact q
inductive vQ (K:Frag)(vs:List V)(H:Hp)(Q:VK)(E:XK):Prop
 |mk (l:Addr) (xs:List V) (ss:List Sg) (dC:vs=[.ref l]) (dD:aR K H l xs) (eK:kx H xs ss) (jj:(∀ s∈ss,iY s)) (pb:ss.length<=200) (RH:∀ H',aq H H'->Q (.str (Vi ss)) H'):vQ K vs H Q E
theorem Ii (T:Txt K w mg t):bg P w K mg base fq (0+2) t.ee t.qv ["_law_line_here"] (vQ K):=by
 have ZR:=WL (P:=P) (base:=base) T;refine T.ik.ok Hh (fun vs H Q E h=>?_) (fun cdv A outer s H vs Q E hr h=>?_)
 ·obtain⟨_,_,_,rfl,_⟩:=h;rfl
 ·obtain⟨l,xs,ss,rfl,hS,g,gd,hl,q⟩:=h;refine aO (ai (ax (dQ plainAttrs_str slot_str_join type_str_join Gz aY (aa (fX (cn:=["_law_sign"]) rfl (cz.of rfl) (c5 (pv 0)) (fun _=>(aF (i:=0) AM rfl (Or.inl rfl))) (fun _=>iC) (fun _=>(ar ZR (hr.mono (by decide)) rfl T.Wk T.vE.kp T.HF .nil au (aa (pv 0) ae)))) ae)))) ?_;have ex:=bL g;have w3:=n6 gd;refine⟨rfl,_,rfl,l,rfl,⟨_,hS⟩,fun D b hD=>?_⟩;refine dH (K:=K) (xs:=xs) (fun i ys σ H'=>∃ v,σ=[v,some (.ref l)]/\H'=upd H D (.lst ys)/\ys=((ss.take i).map ib).map V.str) ⟨none,rfl,rfl,by simp⟩ ?_ ?_ ?_
  ·rintro i ys σ H' ⟨v,rfl,rfl,rfl⟩;exact dS hS hD
  ·rintro i ys x σ H' hx ⟨v,rfl,rfl,rfl⟩ N hN;obtain⟨sg,e1,p,rfl,hp⟩:=qY g hx;have hi:i<ss.length:=(List.getElem?_eq_some_iff.mp e1).1;refine cH ?_;refine⟨_,rfl,p,sg,rfl,(by rw[ak (ao hp hD)];exact hp),gd sg (mem_of_getElem? e1),ag,?_,?_⟩
   ·rw[length_map,length_map,length_take];exact aK (by omega)
   ·refine hN _ _ _ ⟨_,rfl,bZ,?_⟩;rw[take_succ,e1];simp
  ·rintro ys σ H' ⟨v,rfl,rfl,rfl⟩;rw[ex,take_length];refine⟨_,D,ss.map ib,rfl,rfl,aR.of ag,?_,q _ (aq.upd hD)⟩;have e:(Str.ofString " ").length=1:=by lk
   rw[e,length_map];omega
theorem join_le (d:Str):∀ xs:List Str,(Str.join d xs).length<=(xs.map (·.length)).sum+xs.length * d.length
 |[]=>by show(0:Nat)<=_;omega
 |[a]=>by
  show a.length<=a.length+0+1 * d.length;omega
 |a::b::t=>by
  have ih:=join_le d (b::t);rw[join_cons,PySem.Str.length_append,PySem.Str.length_append];simp only [map_cons,List.sum_cons,length_cons]at ih ⊢;rw[Nat.add_mul,Nat.one_mul];omega
theorem WM {ss:List Sg}(gd:∀ s∈ss,iY s):(Vi ss).length<=4 * ss.length:=by
 have:=join_le " " (ss.map ib);have w:=n6 gd;have e:(Str.ofString " ").length=1:=by lk
 rw[e,length_map]at this;unfold Vi;omega
inductive Fv (K:Frag)(vs:List V)(H:Hp)(Q:VK)(E:XK):Prop
 |mk (n:Str) (v:V) (th:Th) (dC:vs=[.str n,v]) (dD:ThV H v th) (eK:n.length<=1000) (jj:(∀ ss,th=.pl ss->ss.length<=200/\∀ s∈ss,iY s)) (pb:(∀ ld lt sl tn,th=.cn ld lt sl tn->ld.length<=1000/\0<=lt/\lt<=999/\1<=sl/\sl<=9)) (RH:∀ H',aq H H'->Q (.str (AD (n,th))) H'):Fv K vs H Q E
theorem QO (T:Txt K w mg t):bg P w K mg base fq (0+3) t.iL t.yG ["_law_name","_law_thing"] (Fv K):=by
 have Ky:=Ii (P:=P) (base:=base) T;refine T.oE.ok Fg (fun vs H Q E h=>?_) (fun cdv A outer s H vs Q E hr h=>?_)
 ·obtain⟨_,_,_,rfl,_⟩:=h;rfl
 ·obtain⟨n,v,th,rfl,hv,hn,hp,hc,q⟩:=h;refine aO (af (aV (aX (aG dq rfl T.a7 a6 (aa (pv 1) (aa (eS (v:=.ty "tuple") rfl T.A0 Au rfl) ae)))) (af (aL (i:=2) Fg.nd rfl (Or.inl rfl) (cI (eA (aX (aW aN (pv 1) aj (fun _ _=>rfl))) aY aY))) (ai (ax (MA (bJ hZ (bJ (md (pv 0)) (bJ hZ (bJ (md (aW aN (pv 1) aj (fun _ _=>rfl))) (bJ hZ (bJ (md (aW aN (pv 1) aj (fun _ _=>rfl))) (bJ hZ (bJ (md (aW aN (pv 1) aj (fun _ _=>rfl))) (bJ hZ (bJ (md (pv 2)) Mz)))))))))))))) aC) (ai (ax (cI (eA (ay (R6 (aM hr)) (pv 1) (b5 ae) (aA _)) (aI (bp.or (aH.or bq)) aY (pv 0)) (aI (bp.or (aH.or bq)) (aI (bp.or (aH.or bq)) (aI (bp.or (aH.or bq)) aY (pv 0)) aY) (ar Ky (hr.mono (by decide)) rfl T.HG T.ik.kp T.qy .nil au (aa (pv 1) ae)))))))) ?_;cases th with
  |pl ss =>
   obtain⟨l,ys,rfl,hl,g⟩:=hv;obtain⟨sl,gd⟩:=hp ss rfl;refine⟨_,rfl,_,_,_,_,rfl,hX.lst hl,rfl,_,rfl,dR ?_⟩;have yl:=bL g;have e6:(Str.ofString "voice ").length=6:=by lk
   have e1:(Str.ofString " ").length=1:=by lk
   have big:∀{n:Nat},n<=9000->n<=sizeLine:=fun h=>Nat.le_trans h (by decide);refine⟨fun v H'=>v=.str (AD (n,.pl ss))/\aq H H',?_,?_⟩
   ·refine⟨_,rfl,by show 0<=sizeLine;decide,fun d hd=>?_⟩;have sd:=aq.upd (o:=.lst []) hd;have hd':=ag (H:=H) (a:=d) (o:=.lst []);generalize upd H d (.lst [])=H1 at sd hd';refine⟨l,d,ys,rfl,rfl,aR.of (sd _ _ hl),aR.of hd',_,rfl,?_⟩;cases ss with
    |nil =>
     cases ys with
     |cons y ys=>exact nomatch yl
     |nil =>
      refine qi ⟨_,rfl,.inr (.inl ⟨_,_,rfl,rfl,big (by rw[e6];omega),?_,sd⟩)⟩;rw[aa3]
    |cons s ss =>
     cases ys with
     |nil=>exact nomatch yl
     |cons y ys =>
      have tl:=WM gd;refine dR ⟨_,rfl,.inr (.inl ⟨_,_,rfl,rfl,big (by rw[e6];omega),.inr (.inl ⟨_,_,rfl,rfl,big (by rw[PySem.Str.length_append,e6,e1];omega),?_⟩)⟩)⟩;refine⟨_,rfl,l,y::ys,s::ss,rfl,aR.of (sd _ _ hl),g.same sd,gd,sl,fun H2 s2=>?_⟩;refine .inr (.inl ⟨_,_,rfl,rfl,big (by rw[PySem.Str.length_append,PySem.Str.length_append,e6,e1];omega),?_,sd.trans s2⟩);rw[Zl]
   rintro v H' ⟨rfl,s'⟩;exact q H' s'
  |cn ld lt sl tn =>
   obtain⟨p,rfl,h4⟩:=hv;obtain⟨Fo,a1,a2,a3,a4⟩:=hc ld lt sl tn rfl;refine⟨_,rfl,_,_,_,_,rfl,hX.tup h4,rfl,_,rfl,qi ?_⟩;refine⟨fun v H'=>v=.str (MQ tn)/\H'=H,?_,?_⟩
   ·refine⟨_,rfl,vK (i:=3) h4 rfl ⟨_,rfl,?_⟩⟩;unfold MQ;cases tn
    ·exact dR ⟨rfl,rfl⟩
    ·exact qi ⟨rfl,rfl⟩
   intro v H' e;obtain⟨e1,e2⟩:=e;subst e1 e2;have f4:(Str.ofString (toString lt)).length<=3:=V9 a1 (by omega);have f5:(Str.ofString (toString sl)).length<=3:=V9 (by omega) (by omega);have f7:(MQ tn).length<=8:=by cases tn <;> decide +kernel
   have e6:(Str.ofString "canon ").length=6:=by lk
   have e1:(Str.ofString " ").length=1:=by lk
   have e0:Str.empty.length=0:=by lk
   have big:∀{n:Nat},n<=3000->n<=sizeLine:=fun h=>Nat.le_trans h (by decide);refine⟨?_,_,rfl,.inl ⟨_,rfl,?_,?_,?_,_,rfl,vK (i:=0) h4 rfl (.inl ⟨_,rfl,?_,?_,?_,_,rfl,vK (i:=1) h4 rfl (.inr ⟨_,rfl,aa2 a1 (by omega),?_,?_,_,rfl,vK (i:=2) h4 rfl (.inr ⟨_,rfl,aa2 (by omega) (by omega),?_,?_,_,rfl,.inl ⟨_,rfl,?_,?_,?_,?_⟩⟩)⟩)⟩)⟩⟩
   all_goals try (refine big ?_;(try simp only [PySem.Str.length_append]);omega)
   rw[PySem.Str.empty_append];exact q _ (aq.refl _)
theorem adv {vw:Vw}(ek:Fd vw)(h:vw.length<12):mq vw "zed"=none:=by
 have hf:a5 vw "zed"=none:=by
  cases e:a5 vw "zed" with
  |none=>rfl
  |some th=>exact absurd rfl (ek.nm _ (bT e)).2.1
 unfold mq;rw[if_neg (by lk),hf,if_neg (by simp),if_neg (by omega)]
theorem abe {vw:Vw}(ek:Fd vw):a5 (vL vw) "zed"=some (.pl []):=by
 unfold a5 vL;rw[List.find?_append,List.find?_eq_none.mpr fun q hq z=>(ek.nm q hq).2.1 (of_decide_eq_true z)];rfl
theorem ZS {vw:Vw}(ek:Fd vw):leans (vL vw) "zed"=false:=by
 unfold leans vL;rw[List.any_append,Bool.or_eq_false_iff];refine⟨List.any_eq_false.mpr fun q hq z=>?_,rfl⟩;obtain⟨m,th⟩:=q;cases th with
 |pl ss=>cases z
 |cn ld lt sl tn =>
  obtain⟨⟨ss,hs⟩,_⟩:=ek.w.ld m ld lt sl tn hq;exact(ek.nm _ hs).2.1 (of_decide_eq_true z)
theorem abf {vw:Vw}(ek:Fd vw):uV (vL vw) "zed"=vw:=by
 unfold uV vL;rw[List.filter_append,List.filter_eq_self.mpr fun q hq=>by rw[decide_eq_false (ek.nm q hq).2.1];rfl];show vw++[]=vw;rw[append_nil]
theorem adw (T:Txt K w mg t):bg P w K mg base fq (0+9) t.Hv t.Zn ["_law_script"] (G1 K):=by
 have QP:=Ng (P:=P) (base:=base) T;have QR:=Nj (P:=P) (base:=base) T;have Nu:=Ku (P:=P) (base:=base) T;have yV:=QM (P:=P) (base:=base) T;have FT:=Di (P:=P) (base:=base) T;have gW:=pV (P:=P) (base:=base) T;have QS:=Nr (P:=P) (base:=base) T;have vJ:=sM (P:=P) (base:=base) T;have vM:=A9 (P:=P) (base:=base) T;have QT:=Nt (P:=P) (base:=base) T;have bE:=sL (P:=P) (base:=base) T;have SQ:=QO (P:=P) (base:=base) T;refine T.Vl.ok Hi (fun vs H Q E h=>?_) (fun cdv A outer s H vs Q E hr h=>?_)
 ·obtain⟨a,ns,rfl,_⟩:=h;rfl
 ·obtain⟨a,ns,rfl,hS,hl,q⟩:=h;refine aO (af (aL (i:=1) Hi.nd rfl (Or.inl rfl) (ar QP (hr.mono (by decide)) rfl T.MZ T.lW.kp T.vn .nil au (aa (pv 0) ae))) (af (aL (i:=2) Hi.nd rfl (Or.inl rfl) (ar QR (hr.mono (by decide)) rfl T.M4 T.lX.kp T.vt .nil au (aa (Yp T.aa6 FT (hr.mono (by decide)) rfl T.aa5 T.mn .nil au) (aa (pv 1) ae)))) (af (aL (i:=3) Hi.nd rfl (Or.inl rfl) (cI (jm (bB qV (aG (aD.or aE) rfl T.bS bR (aa (pv 1) ae)) aj (aA _)) (jk (bB (bN.or (a0 (aM hr))) (aI c7 (aI lH (ar bE (hr.mono (by decide)) rfl T.bI T.bh.kp T.bD .nil au (aa (pv 0) (aa aj ae))) aj) aj) aj (aA _)))))) (af (me (aV (aX (pv 3)) (af (aQ (a8 (pv 2) T.aJ T.jF gW (hr.mono (by decide)) T.eF .nil au (aa aY ae))) (ai (aQ (a8 (pv 2) T.aJ T.M7 QS (hr.mono (by decide)) T.vC .nil au (aa aY ae))))) aC)) (af (aL (i:=4) Hi.nd rfl (Or.inl rfl) (ar Nu (hr.mono (by decide)) rfl T.Kn T.jJ.kp T.sE .nil au (aa (pv 2) ae))) (af (aV (cf (PW.pt (ko (cM (aX (aG dq rfl T.a7 a6 (aa (pv 4) (aa (eS (v:=.ty "str") rfl T.Sz R3 rfl) ae))))) (iy (ay (xW.or (qj (aM hr))) (pv 4) (dQ plainAttrs_str slot_str_join type_str_join Gz aY (aa (fX (cn:=["_law_name","_law_thing"]) rfl (cz.of rfl) (c5 (pv 1)) (fun _=>(iA rfl (aS (aF (i:=0) LR rfl (Or.inl rfl)) (aS (aF (i:=1) LR rfl (Or.inl rfl)) eU)))) (fun _=>iC) (fun _=>(ar SQ (hr.mono (by decide)) rfl T.Qz T.oE.kp T.yN .nil au (aa (pv 0) (aa (pv 1) ae))))) ae)) (aA _)))))) (ai (ax fV)) aC) (af (aV (cf (PW.pt (ko (cM (aX (ar yV (hr.mono (by decide)) rfl T.vB T.iO.kp T.oC .nil au (aa (pv 2) (aa (cE yo rfl T.M9 MB (aa (pv 1) ae)) ae))))) (iy (ay (bN.or (a0 (aM hr))) (aG (aD.or aE) rfl T.bS bR (aa (pv 1) ae)) aj (aA _)))))) (ai (ax (cI (jm (bB (bN.or (a0 (aM hr))) (aG (aD.or aE) rfl T.bS bR (aa (pv 1) ae)) aj (aA _)) (jk (ar yV (hr.mono (by decide)) rfl T.vB T.iO.kp T.oC .nil au (aa (pv 2) (aa (cE yo rfl T.M9 MB (aa (pv 1) ae)) ae)))))))) aC) (af (me (aV (aX (pv 3)) (ai (aQ (gm (pv 2) T.aJ T.AR vM (hr.mono (by decide)) T.pJ .nil au))) (ai (aQ (gm (pv 2) T.aJ T.M8 QT (hr.mono (by decide)) T.vD .nil au))))) (ai (ax (ar yV (hr.mono (by decide)) rfl T.vB T.iO.kp T.oC .nil au (aa (pv 2) (aa (cE yo rfl T.M9 MB (aa (aI (bp.or (aH.or bq)) (pv 1) (b5 (aa (fG (aa aY (aa (b5 ae) ae))) ae))) ae)) ae))))))))))))) ?_;tm_up;refine⟨a,ns,rfl,hS,hl,fun tl vw H3 s3 nt tld ek=>?_⟩;intro x dx nx ndx _;refine⟨x,dx,rfl,ag,fun L D U H4 kp4 nL nD nU LD LU DU hx4 hL4 hD4 hU4=>⟨rfl,?_⟩⟩;have s4:=ac4 nx ndx kp4;have B4:Bw (cs t) H3 H4 x [] [] [] []:=Bw.new hx4 hL4 hD4 hU4 LD LU DU s4 (G9 nL) (G9 nD) (G9 nU);refine⟨_,rfl,x,tl,H3,vw,rfl,B4,tld,ek,fun H5 ps B5 l5 bf=>?_⟩;clear kp4 nL nD nU LD LU DU hL4 hD4 hU4 s4 B4 hx4 nx ndx bf;have wl:=ek.w.len;obtain⟨ys,ht,pvt⟩:=id tld;have yl:=bL pvt;refine⟨fun v H'=>∃ b:Bool,v=.bl b/\H'=H5/\(b=true->vw.length<12),?_,?_⟩
  ·refine⟨_,rfl,.inl ⟨tl,ys,rfl,.inl (aR.of (B5.sm _ _ ht)),?_⟩⟩;tm_up;refine aT (fun hlt=>?_) (fun hlt=>?_)
   ·have hlt':=of_decide_eq_true hlt;tm_up;refine⟨a,ns,0,rfl,(s3.trans B5.sm).seq hS,hl,?_⟩;tm_up;exact⟨rfl,fun _=>by omega⟩
   ·exact⟨false,rfl,rfl,fun z=>nomatch z⟩
  rintro _ _ ⟨b,rfl,rfl,hb⟩;refine⟨fun σ H'=>σ=[some (.ref a),some (.ref tl),some (.ref x),some (.bl b),none]/\∃ ps' fs',Bw (cs t) H3 H' x [] vw ps' fs'/\ps'.length<=410/\fs'.length<=1/\(if b=true then vw.length<12/\∃ p0,ps'=p0++[vL vw] else vw.length<12->fs'=[vL vw]),?_,?_⟩
  ·refine⟨_,rfl,_,rfl,?_⟩;refine aT (fun hb1=>?_) (fun hb1=>?_)
   ·have hlt:=hb hb1;obtain⟨dx6,L6,D6,U6,hx6⟩:=B5.hx;obtain⟨F6,b6,f6,z6,o6⟩:=B5.ex;refine⟨_,rfl,x,dx6,_,rfl,hx6,ky _ _ _,x,F6,vw,ps,_,"zed",rfl,b6,by lk,by omega,?_⟩;rw[adv ek hlt];intro F7 H7 gr7 fr7 b7;obtain⟨B7,k7⟩:=Bw.mk' b7 B5.sm f6 z6 o6 gr7 fr7;clear b6 f6 z6 o6 gr7 fr7 b7 k7 B5;obtain⟨dx8,L8,D8,U8,hx8⟩:=B7.hx;obtain⟨F8,b8,f8,z8,o8⟩:=B7.ex;refine⟨_,rfl,x,dx8,_,rfl,hx8,Qp _ _ _,x,F8,vL vw,_,_,"zed",rfl,b8,by rw[length_append];show _+1<=_;omega,?_⟩;rw[abe ek];refine⟨fun z=>?_,fun _ F9 H9 gr9 fr9 b9=>?_⟩
    ·rw[ZS ek]at z;cases z
    obtain⟨B9,k9⟩:=Bw.mk' b9 B7.sm f8 z8 o8 gr9 fr9;rw[abf ek]at B9;exact⟨rfl,_,_,B9,by rw[length_append,length_append];show _+1+1<=_;omega,Nat.zero_le _,by rw[if_pos hb1];exact⟨hlt,_,rfl⟩⟩
   ·refine⟨rfl,_,_,B5,by omega,?_,?_⟩
    ·split
     ·exact Nat.le_refl _
     ·exact Nat.zero_le _
    ·rw[if_neg hb1];intro z;rw[if_pos z]
  rintro _ H6 ⟨rfl,ps6,fs6,B6,l6,m6,hb6⟩;obtain⟨F6,b6,_⟩:=B6.ex;refine⟨_,rfl,x,F6,vw,ps6,fs6,rfl,b6,fun q hq=>(ek.nm q hq).2.2,fun H7 s7=>?_⟩;have B7:=B6.same s7;clear B6 b6 s7;refine⟨fun bb H'=>bb=false/\aq H7 H',?_,?_⟩
  ·refine⟨_,rfl,_,_,_,_,rfl,.str _,rfl,_,rfl,dR ?_⟩;tm_up;refine⟨rfl,_,rfl,tl,rfl,⟨_,aR.of (B7.sm _ _ ht)⟩,fun D0 b0 Sf=>?_⟩;refine dH (K:=K) (xs:=ys) (fun i zs σ H'=>∃(u v:Option V),σ=[u,v,some (.ref a),some (.ref tl),some (.ref x),some (.bl b),some (.str (Qt vw))]/\aq H7 H'/\H' D0=some (.lst zs)/\zs=((vw.take i).map AD).map V.str) ⟨none,none,rfl,aq.upd Sf,ag,by simp⟩ ?_ ?_ ?_
   ·rintro i zs σ H' ⟨u,v,rfl,s2,_⟩;exact aR.of (s2 _ _ (B7.sm _ _ ht))
   ·rintro i zs y σ H' hy ⟨u,v,rfl,s2,SA,rfl⟩ N hN;obtain⟨⟨n,th⟩,hq,p,w0,rfl,hp,hv⟩:=qY pvt hy;have il2:i<vw.length:=(List.getElem?_eq_some_iff.mp hq).1;have hm:=mem_of_getElem? hq;unfold LF;refine⟨p,_,rfl,nR.of (s2 _ _ (B7.sm _ _ hp)),rfl,_,_,rfl,_,_,rfl,rfl,?_⟩;tm_up;refine⟨n,w0,th,rfl,hv.same (B7.sm.trans s2),(ek.nm _ hm).2.2,?_,?_,fun H9 s9=>⟨s9 _ _ SA,?_,?_⟩⟩
    ·rintro ss rfl;exact ek.w.gd n ss hm
    ·rintro ld lt sl tn rfl;obtain⟨⟨ss,Fo⟩,r⟩:=ek.w.ld n ld lt sl tn hm;exact⟨(ek.nm _ Fo).2.2,r⟩
    ·rw[length_map,length_map,length_take];exact aK (by omega)
    ·refine hN _ _ _ ⟨_,_,rfl,dU (s2.trans s9) Sf,ag,?_⟩;rw[take_succ,hq];simp
   ·rintro zs σ H' ⟨u,v,rfl,s2,hD2,rfl⟩;rw[yl,take_length]at hD2;refine⟨_,D0,vw.map AD,rfl,rfl,aR.of hD2,?_,.inl ⟨rfl,_,rfl,?_,s2⟩⟩
    ·have e:(Str.ofString "\n").length=1:=by lk
     have z:=HY ek.w (fun q hq=>(ek.nm q hq).2.2) vw fun _ h=>h;rw[e,length_map];omega
    ·show(!decide (V.str (Qt vw)=V.str (Str.join "\n" (vw.map AD))))=false;rw[decide_eq_true (show V.str (Qt vw)=V.str (Str.join "\n" (vw.map AD)) from rfl)];rfl
  rintro _ H8 ⟨rfl,s8⟩;refine dR ?_;have B8:=B7.same s8;clear B7 s8;refine⟨fun bb H'=>bb=decide (vw.length=12)/\aq H8 H',?_,?_⟩
  ·obtain⟨zs,kvs,hz,pk,kl,dk⟩:=(tld.same B8.sm).dict ek.w.nd;tm_up;refine⟨rfl,tl,zs,kvs,rfl,aR.of hz,pk,by omega,fun d hd=>?_⟩;obtain⟨s1,d1⟩:=dk d hd;generalize upd H8 d (.dK (ku [] kvs))=H1 at s1 d1;have B1:=B8.same s1;obtain⟨F1,b1,_⟩:=B1.ex;refine⟨x,d,F1,vw,_,_,rfl,b1,d1,fun H2 s2=>⟨_,rfl,dR ?_⟩⟩;have B2:=B1.same s2;tm_up;refine .inl ⟨tl,ys,rfl,.inl (aR.of (B2.sm _ _ ht)),?_⟩;tm_up;refine⟨?_,s1.trans s2⟩;refine decide_eq_decide.mpr ?_;rw[yl];exact⟨fun z=>by have:=V.int.inj z;omega,fun z=>congrArg V.int (by omega)⟩
  rintro _ H9 ⟨rfl,s9⟩;have B9:=B8.same s9;clear B8 s9;refine aT (fun h12=>?_) (fun h12=>?_)
  ·have h12:=of_decide_eq_true h12;refine⟨fun v H'=>v=.bl true,?_,?_⟩
   ·tm_up;refine .inl ⟨tl,ys,rfl,.inl (aR.of (B9.sm _ _ ht)),?_⟩;refine .inl ⟨rfl,?_⟩;refine⟨_,rfl,?_⟩;refine aT (fun _=>?_) (fun h=>absurd (decide_eq_true (congrArg V.int (show((ys.length:Nat):Int)=12 by omega))) h);obtain⟨zs,kvs,hz,pk,kl,dk⟩:=(tld.same B9.sm).dict ek.w.nd;tm_up;refine⟨rfl,tl,zs,kvs,rfl,aR.of hz,pk,by omega,fun d hd=>?_⟩;obtain⟨s1,d1⟩:=dk d hd;generalize upd H9 d (.dK (ku [] kvs))=H1 at s1 d1;have B1:=B9.same s1;obtain⟨F1,b1,_⟩:=B1.ex;exact⟨x,d,F1,vw,_,_,rfl,b1,d1,fun H2 s2=>rfl⟩
   rintro _ H10 rfl;exact q _
  have h12:vw.length<12:=by have:¬ vw.length=12:=fun z=>h12 (decide_eq_true z);omega
  obtain⟨dx9,L9,D9,U9,hx9⟩:=B9.hx;obtain⟨F9,b9,f9,z9,o9⟩:=B9.ex;refine⟨fun σ H'=>σ=[some (.ref a),some (.ref tl),some (.ref x),some (.bl b),some (.str (Qt vw))]/\∃ ps' fs',Bw (cs t) H3 H' x [] (vL vw) ps' fs',?_,?_⟩
  ·refine⟨_,rfl,_,rfl,?_⟩;refine aT (fun hb1=>?_) (fun hb1=>?_)
   ·rw[if_pos hb1]at hb6;obtain⟨_,p0,rfl⟩:=hb6;refine⟨_,rfl,x,dx9,_,rfl,hx9,Fb _ _ _,?_⟩;refine⟨x,F9,_,_,_,rfl,b9,by omega,(fun z=>by simp at z),fun Ki v0 e0 H11 adx b11=>?_⟩;obtain⟨e01,e02⟩:=uR e0;subst e01 e02;obtain⟨B11,k11⟩:=Bw.mk' b11 B9.sm f9 z9 o9 (Gr.refl _ _) adx;exact⟨rfl,_,_,B11⟩
   ·rw[if_neg hb1]at hb6;have e6:=hb6 h12;subst e6;refine⟨_,rfl,x,dx9,_,rfl,hx9,Qq _ _ _,?_⟩;refine⟨x,F9,_,_,_,rfl,b9,by omega,(fun z=>nomatch z),fun Zd v0 e0 H11 adx b11=>?_⟩;obtain⟨e01,e02⟩:=uR (show []++[vL vw]=Zd++[v0] from e0);subst e01 e02;obtain⟨B11,k11⟩:=Bw.mk' b11 B9.sm f9 z9 o9 (Gr.refl _ _) adx;exact⟨rfl,_,_,B11⟩
  rintro _ H4' ⟨rfl,ps4,fs4,B4⟩;refine⟨_,rfl,_,rfl,big (by show 0<=1000;omega),fun e0 he0=>?_⟩;have s5:=aq.upd (o:=.lst []) he0;have h5:=ag (H:=H4') (a:=e0) (o:=.lst []);generalize upd H4' e0 (.lst [])=H5' at s5 h5;refine⟨big (by show 2<=1000;omega),fun p0 hp0=>?_⟩;have s6:=aq.upd (o:=.tup [V.str "zed",V.ref e0]) hp0;have h6:=ag (H:=H5') (a:=p0) (o:=.tup [V.str "zed",V.ref e0]);generalize upd H5' p0 (.tup [V.str "zed",V.ref e0])=H6' at s6 h6;refine⟨big (by show 1<=1000;omega),fun l0 hl0=>?_⟩;have s7:=aq.upd (o:=.lst [V.ref p0]) hl0;have h7:=ag (H:=H6') (a:=l0) (o:=.lst [V.ref p0]);generalize upd H6' l0 (.lst [V.ref p0])=H7' at s7 h7;have s47:=(s5.trans s6).trans s7;refine .inr (.inr ⟨tl,l0,ys,_,rfl,rfl,s47 _ _ (B4.sm _ _ ht),h7,big (by show _+1<=1000;omega),fun c hc=>?_⟩);have s8:=aq.upd (o:=.lst (ys++[V.ref p0])) hc;have h8:=ag (H:=H7') (a:=c) (o:=.lst (ys++[V.ref p0]));generalize upd H7' c (.lst (ys++[V.ref p0]))=H8' at s8 h8;have s48:=s47.trans s8;have B8:=B4.same s48;have tz:uU H8' c (vL vw):=⟨_,h8,R8 (cA (fun _ _ q=>q.same B8.sm) pvt) (.cons ⟨p0,.ref e0,rfl,s8 _ _ (s7 _ _ h6),e0,[],rfl,s8 _ _ (s7 _ _ (s6 _ _ h5)),.nil⟩ .nil)⟩;obtain⟨zs,kvs,hz,pk,kl,dk⟩:=tz.dict B8.wv.nd;have zl:(vL vw).length=vw.length+1:=by unfold vL;rw[length_append];rfl
  tm_up;refine⟨rfl,c,zs,kvs,rfl,aR.of hz,pk,by omega,fun d hd=>?_⟩;obtain⟨s9,d9⟩:=dk d hd;generalize upd H8' d (.dK (ku [] kvs))=H9' at s9 d9;have B9':=B8.same s9;obtain⟨F9',b9',_⟩:=B9'.ex;exact⟨x,d,F9',vL vw,_,_,rfl,b9',d9,fun H10 s10=>q _⟩
theorem all_mk {l:OpenLaw}{w:World}{K:Frag}{h:Heap}{mg:Str->Option Value}{fa cL bc aU gq kE gu gw oa gx kF dW bO jf cN cv df bU bV eM eN bo bC bW fZ br yB cg sj kI iI dy oi gy gA dX oj eX om dY d8 eY kJ kK oo iJ pF kL ed bu yE GC cY cK cj ck eZ kO oq xA eO gB ou kP sx ow gC iK cw eP eQ ox ee iL Hv dg ef cZ cy bX dz cO cP bH:Addr}(X:K.In h)(G:h.Ns mainGlobals mg)(hfa:mg "law"=some (.ref fa)){Nv Nw SR SS Nx Ny Nz NA WN WO NB NC SU SV Kz KA yW yX SW SX FU FV Dj Dk Ij Ik Br Bs Bt Bu ND NF NG NH vR vS xK xM Bv Bx yY sR sS abg abh yZ y8 ZT ZU SY S0 QU QV FW FX WQ WR QW QX NI NJ KC KG WS WT KH KJ WU WV NK NL Il Im KL KN S1 S2 S3 S4 WW WX QY QZ NM S5 S9 Io Ip sU sV abi abj ZV Dl Dm By Bz y9 za zb zc KO KP Ta Tb WY WZ Tc NN NO NP NQ W0 W2 Td Te ZW ZX W3 W4 NR NS Q0 Q3 Dn Dp NT NU NV NW W5 W6 Iq Ir Q4 Q5 ady adz Iu Iv Dq Dr BA FY:Option Addr}{NX Tf NY NZ W7 N0 Tg KQ zd Ti FZ Ds Iw BB BC N1 N2 vT xN BD ze sW abk zf ZY Tj Q6 F5 W8 Q7 N3 KR W9 KS Xa N4 Iy KU Tn To Xb Q8 N5 Tp Iz sX abl ZZ Dt BE zg zh KW Tq Xc Tr N6 N7 Xd Ts Z0 Xe N8 Q9 Du N9 Oa Xf IA Ra adA IB IC Dv Dw BF Ga:Array (Option Value)}{Ob Oc Od Oe BG Of Tt Tu Tv Tw ID Tx Og Oh Oi Oj BH Ol Om Oo Oq Ot BI Ou Xg Xh Xi Xj Me Xk Ov Ow Ox Oy BJ Oz Tz TB TC TF IE TJ KY KZ K0 K1 yd K2 zi zj zk zm oK zo TK TL TM TN IF TQ Gb Gd Ge Gf uB Gg Dx Dy Dz DA rP DB IG IH II IJ vU IK BK BL BM BN p3 BO BP BQ BR BS p4 BU OA OB OC OD BV OE OF OG OH OI BW OJ vV vW vX vY l4 vZ xO xP xQ xR mZ xS BX BY BZ Ca p5 Cb zp sY sZ tf tq jS tw abm abn abo abp Vy abq zq zr zt zu oM zw Z1 Z2 Z3 Z4 Rb Z5 TR TV TX TY IL TZ Rc Rg Rh Ri Fw Rj Gh Gi Gj Gk uC Gm Xl Xm Xn Xo Mf Xp Rk Rl Rm Rn Fx Ro OK OL OM ON Cc OO K3 K4 K5 K6 ye K7 Xq Xr Xs Xt Mg Xu K8 K9 La Lb yf Lc Xv Xw Xx Xy Mh Xz OP OQ OR OS Cd OT IM IP IQ IS v7 IT Ld Le Lf Lg yg Lh T1 T2 T3 T4 IU T5 T6 T7 T8 T9 IV Ua XA XB XC XD Mi XE Rp Rq Rr Rt Fy Ru OU Ub Uc Ud Ue IW Ug IX IY IZ Ja v8 Jb tD tE tG tH jT tI abr abt abu abv Vz abw Z6 DC DD DE DF rQ DG Ce Cf Cg Ci p7 Cj zx zy zz zA oN zB zC zD zE zF oO zG Li Lj Lk Ll yh Lm Uh Ui Uj Uk Jc Ul XF XG XH XI Mj XJ Um OV OW OX OY Ck OZ O0 O1 O2 O3 Cm O4 XM XN XO XQ Ml XR Uo Up Uq Ur Jd Us Z7 Z8 Z9 aaa Rv aab XT XU XW XX Mm XY O5 O6 O7 O8 Cn O9 Rw Rx Ry Rz Fz RA DH DI DJ DK rR DM Pa Pb Pc Pd Co Pe Pf Pg Ph Pj Cp Pk XZ X0 X1 X2 Mn X3 Je Jf Jg Jh v9 Ji RB RC RD RE FA RF adB adC adD adE aac adF:Value}{du dw jy ve ot Jj Jk Jl Jm Jn Jo DN DO DP DQ DR Cq Cr Ct Cu Gn Gp Gq Gs Gu jB DS DT DV DW DX DY DZ D1 D3 D5 D7 Ea Eb Ec Ed Ee Ef Eg Eh Ei Ej Ek zH zI zJ zK nc gb ir jC xB jD lK ng AO xC:Tok}{zL Pl aad Ut Ln Lo Gv Gw El Jp Jq Jr Em:Nat}(Js:nsIn K mainGlobals "Voice"=some (some (.ref cL)))(Pm:nsIn K mainGlobals "Deed"=some (some (.ref bc)))(Pn:nsIn K mainGlobals "Book"=some (some (.ref aU)))(wa:nsIn K mainGlobals "_law_cell_at"=some (some (.ref gq)))(wb:K.lookup gq=some ⟨Ob,Nv,.func (fnOf "_law_cell_at" "_law_cell_at" (aw iZ) (av iZ) (ah iZ) .none Oc Od Oe Nw BG Of),NX⟩)(wc:codeIn K BG "_law_cell_at"=true)(wd:keepIn K (.ref gq)=true)(En:nsIn K mainGlobals "_law_mixed"=some (some (.ref kE)))(Eo:K.lookup kE=some ⟨Tt,SR,.func (fnOf "_law_mixed" "_law_mixed" (aw nC) (av nC) (ah nC) .none Tu Tv Tw SS ID Tx),Tf⟩)(Ep:codeIn K ID "_law_mixed"=true)(Er:keepIn K (.ref kE)=true)(we:nsIn K mainGlobals "_law_sign_by"=some (some (.ref gu)))(wj:K.lookup gu=some ⟨Og,Nx,.func (fnOf "_law_sign_by" "_law_sign_by" (aw i0) (av i0) (ah i0) .none Oh Oi Oj Ny BH Ol),NY⟩)(wk:codeIn K BH "_law_sign_by"=true)(wm:keepIn K (.ref gu)=true)(wo:nsIn K mainGlobals "_law_numbers"=some (some (.ref gw)))(wq:K.lookup gw=some ⟨Om,Nz,.func (fnOf "_law_numbers" "_law_numbers" (aw i4) (av i4) (ah i4) .none Oo Oq Ot NA BI Ou),NZ⟩)(wt:codeIn K BI "_law_numbers"=true)(wu:keepIn K (.ref gw)=true)(Jt:nsIn K mainGlobals "_law_line"=some (some (.ref oa)))(Ju:K.lookup oa=some ⟨Xg,WN,.func (fnOf "_law_line" "_law_line" (aw q9) (av q9) (ah q9) .none Xh Xi Xj WO Me Xk),W7⟩)(Jv:codeIn K Me "_law_line"=true)(Jw:keepIn K (.ref oa)=true)(wx:nsIn K mainGlobals "_law_entries"=some (some (.ref gx)))(wy:K.lookup gx=some ⟨Ov,NB,.func (fnOf "_law_entries" "_law_entries" (aw eL) (av eL) (ah eL) .none Ow Ox Oy NC BJ Oz),N0⟩)(wz:codeIn K BJ "_law_entries"=true)(wA:keepIn K (.ref gx)=true)(Es:nsIn K mainGlobals "is_name"=some (some (.ref kF)))(Et:K.lookup kF=some ⟨Tz,SU,.func (fnOf "is_name" "is_name" (aw nE) (av nE) (ah nE) .none TB TC TF SV IE TJ),Tg⟩)(Eu:codeIn K IE "is_name"=true)(Ew:keepIn K (.ref kF)=true)(tK:findIn K (.ref aU) "names"=some (some (.ref dW)))(tL:K.lookup dW=some ⟨KY,Kz,.func (fnOf "names" "Book.names" (aw gK) (av gK) (ah gK) .none KZ K0 K1 KA yd K2),KQ⟩)(tM:codeIn K yd "Book.names" = true)(nk:keepIn K (.ref dW)=true)(qB:isFn K (.ref dW)=true)(jU:findIn K (.ref aU) "refuse_new"=some (some (.ref bO)))(jV:K.lookup bO=some ⟨zi,yW,.func (fnOf "refuse_new" "Book.refuse_new" (aw cU) (av cU) (ah cU) .none zj zk zm yX oK zo),zd⟩)(jW:codeIn K oK "Book.refuse_new" = true)(gj:keepIn K (.ref bO)=true)(iQ:isFn K (.ref bO)=true)(Ex:findIn K (.ref bc) "do"=some (some (.ref jf)))(Ey:K.lookup jf=some ⟨TK,SW,.func (fnOf "do" "Deed.do" (aw nF) (av nF) (ah nF) .none TL TM TN SX IF TQ),Ti⟩)(Ez:codeIn K IF "Deed.do" = true)(xI:keepIn K (.ref jf)=true)(zM:isFn K (.ref jf)=true)(oP:findIn K (.ref aU) "perform"=some (some (.ref cN)))(oQ:K.lookup cN=some ⟨Gb,FU,.func (fnOf "perform" "Book.perform" (aw eD) (av eD) (ah eD) .none Gd Ge Gf FV uB Gg),FZ⟩)(oR:codeIn K uB "Book.perform" = true)(jX:keepIn K (.ref cN)=true)(mw:isFn K (.ref cN)=true)(mx:findIn K (.ref bc) "__init__"=some (some (.ref cv)))(my:K.lookup cv=some ⟨Dx,Dj,.func (fnOf "__init__" "Deed.__init__" (aw dJ) (av dJ) (ah dJ) .none Dy Dz DA Dk rP DB),Ds⟩)(mz:codeIn K rP "Deed.__init__" = true)(mB:keepIn K (.ref cv)=true)(kX:isFn K (.ref cv)=true)(qC:findIn K (.ref aU) "put_in"=some (some (.ref df)))(qD:K.lookup df=some ⟨IG,Ij,.func (fnOf "put_in" "Book.put_in" (aw fz) (av fz) (ah fz) .none IH II IJ Ik vU IK),Iw⟩)(qE:codeIn K vU "Book.put_in" = true)(lO:keepIn K (.ref df)=true)(oS:isFn K (.ref df)=true)(kY:findIn K (.ref cL) "__init__"=some (some (.ref bU)))(kZ:K.lookup bU=some ⟨BK,Br,.func (fnOf "__init__" "Voice.__init__" (aw dh) (av dh) (ah dh) .none BL BM BN Bs p3 BO),BB⟩)(k6:codeIn K p3 "Voice.__init__" = true)(k8:keepIn K (.ref bU)=true)(jY:isFn K (.ref bU)=true)(lg:findIn K (.ref aU) "add_voice"=some (some (.ref bV)))(lh:K.lookup bV=some ⟨BP,Bt,.func (fnOf "add_voice" "Book.add_voice" (aw di) (av di) (ah di) .none BQ BR BS Bu p4 BU),BC⟩)(lj:codeIn K p4 "Book.add_voice" = true)(gX:keepIn K (.ref bV)=true)(jZ:isFn K (.ref bV)=true)(wB:findIn K (.ref bc) "undo"=some (some (.ref eM)))(wC:K.lookup eM=some ⟨OA,ND,.func (fnOf "undo" "Deed.undo" (aw i5) (av i5) (ah i5) .none OB OC OD NF BV OE),N1⟩)(wD:codeIn K BV "Deed.undo" = true)(p9:keepIn K (.ref eM)=true)(tN:isFn K (.ref eM)=true)(wF:findIn K (.ref aU) "undo"=some (some (.ref eN)))(wG:K.lookup eN=some ⟨OF,NG,.func (fnOf "undo" "Book.undo" (aw i6) (av i6) (ah i6) .none OG OH OI NH BW OJ),N2⟩)(wH:codeIn K BW "Book.undo" = true)(qa:keepIn K (.ref eN)=true)(tO:isFn K (.ref eN)=true)(g9:findIn K (.ref aU) "voice_called"=some (some (.ref bo)))(hG:K.lookup bo=some ⟨vV,vR,.func (fnOf "voice_called" "Book.voice_called" (aw cu) (av cu) (ah cu) .none vW vX vY vS l4 vZ),vT⟩)(hI:codeIn K l4 "Book.voice_called" = true)(et:keepIn K (.ref bo)=true)(gI:isFn K (.ref bo)=true)(iR:findIn K (.ref aU) "plain_voice"=some (some (.ref bC)))(iS:K.lookup bC=some ⟨xO,xK,.func (fnOf "plain_voice" "Book.plain_voice" (aw cJ) (av cJ) (ah cJ) .none xP xQ xR xM mZ xS),xN⟩)(iT:codeIn K mZ "Book.plain_voice" = true)(fh:keepIn K (.ref bC)=true)(hV:isFn K (.ref bC)=true)(lp:findIn K (.ref aU) "add_canon"=some (some (.ref bW)))(lq:K.lookup bW=some ⟨BX,Bv,.func (fnOf "add_canon" "Book.add_canon" (aw dj) (av dj) (ah dj) (.ref fZ) BY BZ Ca Bx p5 Cb),BD⟩)(lr:codeIn K p5 "Book.add_canon" = true)(gY:keepIn K (.ref bW)=true)(j0:isFn K (.ref bW)=true)(gk:K.lookup fZ=some ⟨zp,yY,.seq #[.int 0 du,.int 1 dw,.bool false] zL,ze⟩)(fM:nsIn K mainGlobals "refuse_other_places"=some (some (.ref br)))(fN:K.lookup br=some ⟨sY,sR,.func (fnOf "refuse_other_places" "refuse_other_places" (aw bP) (av bP) (ah bP) .none sZ tf tq sS jS tw),sW⟩)(fO:codeIn K jS "refuse_other_places"=true)(fP:keepIn K (.ref br)=true)(Uu:nsIn K mainGlobals "good"=some (some (.ref yB)))(Uv:K.lookup yB=some ⟨abm,abg,.func (fnOf "good" "good" (aw CM) (av CM) (ah CM) .none abn abo abp abh Vy abq),abk⟩)(Uw:codeIn K Vy "good"=true)(Ux:keepIn K (.ref yB)=true)(j1:nsIn K mainGlobals "refuse_bad_sign"=some (some (.ref cg)))(j2:K.lookup cg=some ⟨zq,yZ,.func (fnOf "refuse_bad_sign" "refuse_bad_sign" (aw cV) (av cV) (ah cV) .none zr zt zu y8 oM zw),zf⟩)(j3:codeIn K oM "refuse_bad_sign"=true)(j4:keepIn K (.ref cg)=true)(Po:nsIn K mainGlobals "small"=some (some (.ref sj)))(Pp:K.lookup sj=some ⟨Z1,ZT,.func (fnOf "small" "small" (aw xw) (av xw) (ah xw) .none Z2 Z3 Z4 ZU Rb Z5),ZY⟩)(Pq:codeIn K Rb "small"=true)(Bb:keepIn K (.ref sj)=true)(EA:nsIn K mainGlobals "low_end"=some (some (.ref kI)))(EB:K.lookup kI=some ⟨TR,SY,.func (fnOf "low_end" "low_end" (aw nG) (av nG) (ah nG) .none TV TX TY S0 IL TZ),Tj⟩)(EC:codeIn K IL "low_end"=true)(ED:keepIn K (.ref kI)=true)(zN:nsIn K mainGlobals "high_end"=some (some (.ref iI)))(zO:K.lookup iI=some ⟨Rc,QU,.func (fnOf "high_end" "high_end" (aw kz) (av kz) (ah kz) .none Rg Rh Ri QV Fw Rj),Q6⟩)(zP:codeIn K Fw "high_end"=true)(zQ:keepIn K (.ref iI)=true)(oT:nsIn K mainGlobals "sets_measure"=some (some (.ref dy)))(oU:K.lookup dy=some ⟨Gh,FW,.func (fnOf "sets_measure" "sets_measure" (aw eE) (av eE) (ah eE) .none Gi Gj Gk FX uC Gm),F5⟩)(oV:codeIn K uC "sets_measure"=true)(oW:keepIn K (.ref dy)=true)(Jx:nsIn K mainGlobals "window"=some (some (.ref oi)))(Jy:K.lookup oi=some ⟨Xl,WQ,.func (fnOf "window" "window" (aw rb) (av rb) (ah rb) .none Xm Xn Xo WR Mf Xp),W8⟩)(Jz:codeIn K Mf "window"=true)(JA:keepIn K (.ref oi)=true)(zR:findIn K (.ref aU) "put"=some (some (.ref gy)))(zS:K.lookup gy=some ⟨Rk,QW,.func (fnOf "put" "Book.put" (aw kA) (av kA) (ah kA) .none Rl Rm Rn QX Fx Ro),Q7⟩)(zT:codeIn K Fx "Book.put" = true)(tP:keepIn K (.ref gy)=true)(wI:isFn K (.ref gy)=true)(wJ:nsIn K mainGlobals "_law_book_of"=some (some (.ref gA)))(wK:K.lookup gA=some ⟨OK,NI,.func (fnOf "_law_book_of" "_law_book_of" (aw i7) (av i7) (ah i7) .none OL OM ON NJ Cc OO),N3⟩)(wL:codeIn K Cc "_law_book_of"=true)(wN:keepIn K (.ref gA)=true)(tQ:findIn K (.ref aU) "canon"=some (some (.ref dX)))(tR:K.lookup dX=some ⟨K3,KC,.func (fnOf "canon" "Book.canon" (aw gL) (av gL) (ah gL) .none K4 K5 K6 KG ye K7),KR⟩)(tS:codeIn K ye "Book.canon" = true)(nq:keepIn K (.ref dX)=true)(qF:isFn K (.ref dX)=true)(JB:nsIn K mainGlobals "sounds"=some (some (.ref oj)))(JC:K.lookup oj=some ⟨Xq,WS,.func (fnOf "sounds" "sounds" (aw rf) (av rf) (ah rf) .none Xr Xs Xt WT Mg Xu),W9⟩)(JD:codeIn K Mg "sounds"=true)(rM:keepIn K (.ref oj)=true)(tT:nsIn K mainGlobals "shown_sign"=some (some (.ref eX)))(tU:K.lookup eX=some ⟨K8,KH,.func (fnOf "shown_sign" "shown_sign" (aw gM) (av gM) (ah gM) .none K9 La Lb KJ yf Lc),KS⟩)(tV:codeIn K yf "shown_sign"=true)(tW:keepIn K (.ref eX)=true)(JE:nsIn K mainGlobals "turned"=some (some (.ref om)))(JF:K.lookup om=some ⟨Xv,WU,.func (fnOf "turned" "turned" (aw rg) (av rg) (ah rg) .none Xw Xx Xy WV Mh Xz),Xa⟩)(JG:codeIn K Mh "turned"=true)(JH:keepIn K (.ref om)=true)(wO:findIn K (.ref aU) "line"=some (some (.ref dY)))(wQ:K.lookup dY=some ⟨OP,NK,.func (fnOf "line" "Book.line" (aw i8) (av i8) (ah i8) .none OQ OR OS NL Cd OT),N4⟩)(wR:codeIn K Cd "Book.line" = true)(qb:keepIn K (.ref dY)=true)(tX:isFn K (.ref dY)=true)(qG:nsIn K mainGlobals "shown_voice"=some (some (.ref d8)))(qH:K.lookup d8=some ⟨IM,Il,.func (fnOf "shown_voice" "shown_voice" (aw fA) (av fA) (ah fA) .none IP IQ IS Im v7 IT),Iy⟩)(qI:codeIn K v7 "shown_voice"=true)(qJ:keepIn K (.ref d8)=true)(tY:nsIn K mainGlobals "shown_book"=some (some (.ref eY)))(tZ:K.lookup eY=some ⟨Ld,KL,.func (fnOf "shown_book" "shown_book" (aw gN) (av gN) (ah gN) .none Le Lf Lg KN yg Lh),KU⟩)(t4:codeIn K yg "shown_book"=true)(t5:keepIn K (.ref eY)=true)(EF:nsIn K mainGlobals "_law_whole"=some (some (.ref kJ)))(EG:K.lookup kJ=some ⟨T1,S1,.func (fnOf "_law_whole" "_law_whole" (aw nH) (av nH) (ah nH) .none T2 T3 T4 S2 IU T5),Tn⟩)(EH:codeIn K IU "_law_whole"=true)(EJ:keepIn K (.ref kJ)=true)(EK:nsIn K mainGlobals "_law_signs"=some (some (.ref kK)))(EL:K.lookup kK=some ⟨T6,S3,.func (fnOf "_law_signs" "_law_signs" (aw nI) (av nI) (ah nI) .none T7 T8 T9 S4 IV Ua),To⟩)(EM:codeIn K IV "_law_signs"=true)(EN:keepIn K (.ref kK)=true)(JI:nsIn K mainGlobals "_law_nums"=some (some (.ref oo)))(JJ:K.lookup oo=some ⟨XA,WW,.func (fnOf "_law_nums" "_law_nums" (aw rh) (av rh) (ah rh) .none XB XC XD WX Mi XE),Xb⟩)(JK:codeIn K Mi "_law_nums"=true)(JL:keepIn K (.ref oo)=true)(zU:nsIn K mainGlobals "measures"=some (some (.ref iJ)))(zV:K.lookup iJ=some ⟨Rp,QY,.func (fnOf "measures" "measures" (aw kB) (av kB) (ah kB) (.ref pF) Rq Rr Rt QZ Fy Ru),Q8⟩)(zW:codeIn K Fy "measures"=true)(zX:keepIn K (.ref iJ)=true)(qc:K.lookup pF=some ⟨OU,NM,.seq #[.int 3 jy] Pl,N5⟩)(EO:nsIn K mainGlobals "kind_at"=some (some (.ref kL)))(ER:K.lookup kL=some ⟨Ub,S5,.func (fnOf "kind_at" "kind_at" (aw nJ) (av nJ) (ah nJ) .none Uc Ud Ue S9 IW Ug),Tp⟩)(ES:codeIn K IW "kind_at"=true)(ET:keepIn K (.ref kL)=true)(qK:nsIn K mainGlobals "plain_worth"=some (some (.ref ed)))(qL:K.lookup ed=some ⟨IX,Io,.func (fnOf "plain_worth" "plain_worth" (aw fB) (av fB) (ah fB) .none IY IZ Ja Ip v8 Jb),Iz⟩)(qM:codeIn K v8 "plain_worth"=true)(qN:keepIn K (.ref ed)=true)(fQ:nsIn K mainGlobals "worths_without_runs"=some (some (.ref bu)))(fR:K.lookup bu=some ⟨tD,sU,.func (fnOf "worths_without_runs" "worths_without_runs" (aw bQ) (av bQ) (ah bQ) .none tE tG tH sV jT tI),sX⟩)(fS:codeIn K jT "worths_without_runs"=true)(fU:keepIn K (.ref bu)=true)(Uy:nsIn K mainGlobals "runs"=some (some (.ref yE)))(Uz:K.lookup yE=some ⟨abr,abi,.func (fnOf "runs" "runs" (aw CN) (av CN) (ah CN) (.ref GC) abt abu abv abj Vz abw),abl⟩)(UA:codeIn K Vz "runs"=true)(UB:keepIn K (.ref yE)=true)(GF:K.lookup GC=some ⟨Z6,ZV,.seq #[.int 3 ve] aad,ZZ⟩)(mC:nsIn K mainGlobals "has_left_note"=some (some (.ref cY)))(mD:K.lookup cY=some ⟨DC,Dl,.func (fnOf "has_left_note" "has_left_note" (aw dM) (av dM) (ah dM) .none DD DE DF Dm rQ DG),Dt⟩)(mE:codeIn K rQ "has_left_note"=true)(mF:keepIn K (.ref cY)=true)(lu:nsIn K mainGlobals "has_right_note"=some (some (.ref cK)))(lx:K.lookup cK=some ⟨Ce,By,.func (fnOf "has_right_note" "has_right_note" (aw dm) (av dm) (ah dm) .none Cf Cg Ci Bz p7 Cj),BE⟩)(ly:codeIn K p7 "has_right_note"=true)(lz:keepIn K (.ref cK)=true)(j5:nsIn K mainGlobals "settle_one_over"=some (some (.ref cj)))(j6:K.lookup cj=some ⟨zx,y9,.func (fnOf "settle_one_over" "settle_one_over" (aw cW) (av cW) (ah cW) .none zy zz zA za oN zB),zg⟩)(j7:codeIn K oN "settle_one_over"=true)(j8:keepIn K (.ref cj)=true)(j9:nsIn K mainGlobals "settle_two_over"=some (some (.ref ck)))(kc:K.lookup ck=some ⟨zC,zb,.func (fnOf "settle_two_over" "settle_two_over" (aw cX) (av cX) (ah cX) .none zD zE zF zc oO zG),zh⟩)(kd:codeIn K oO "settle_two_over"=true)(ke:keepIn K (.ref ck)=true)(t7:nsIn K mainGlobals "settle_run"=some (some (.ref eZ)))(ua:K.lookup eZ=some ⟨Li,KO,.func (fnOf "settle_run" "settle_run" (aw gO) (av gO) (ah gO) .none Lj Lk Ll KP yh Lm),KW⟩)(ub:codeIn K yh "settle_run"=true)(uc:keepIn K (.ref eZ)=true)(EU:nsIn K mainGlobals "reading"=some (some (.ref kO)))(EV:K.lookup kO=some ⟨Uh,Ta,.func (fnOf "reading" "reading" (aw nK) (av nK) (ah nK) .none Ui Uj Uk Tb Jc Ul),Tq⟩)(EW:codeIn K Jc "reading"=true)(EX:keepIn K (.ref kO)=true)(JM:nsIn K mainGlobals "worths"=some (some (.ref oq)))(JN:K.lookup oq=some ⟨XF,WY,.func (fnOf "worths" "worths" (aw rj) (av rj) (ah rj) (.ref xA) XG XH XI WZ Mj XJ),Xc⟩)(JO:codeIn K Mj "worths"=true)(JP:keepIn K (.ref oq)=true)(xJ:K.lookup xA=some ⟨Um,Tc,.seq #[.int 3 ot] Ut,Tr⟩)(wU:findIn K (.ref aU) "kept"=some (some (.ref eO)))(wV:K.lookup eO=some ⟨OV,NN,.func (fnOf "kept" "Book.kept" (aw i9) (av i9) (ah i9) .none OW OX OY NO Ck OZ),N6⟩)(wW:codeIn K Ck "Book.kept" = true)(qd:keepIn K (.ref eO)=true)(ud:isFn K (.ref eO)=true)(wX:nsIn K mainGlobals "_law_line_of"=some (some (.ref gB)))(wY:K.lookup gB=some ⟨O0,NP,.func (fnOf "_law_line_of" "_law_line_of" (aw ja) (av ja) (ah ja) .none O1 O2 O3 NQ Cm O4),N7⟩)(wZ:codeIn K Cm "_law_line_of"=true)(w6:keepIn K (.ref gB)=true)(JQ:nsIn K mainGlobals "_law_base"=some (some (.ref ou)))(JR:K.lookup ou=some ⟨XM,W0,.func (fnOf "_law_base" "_law_base" (aw rk) (av rk) (ah rk) .none XN XO XQ W2 Ml XR),Xd⟩)(JS:codeIn K Ml "_law_base"=true)(JT:keepIn K (.ref ou)=true)(EY:nsIn K mainGlobals "_law_three"=some (some (.ref kP)))(EZ:K.lookup kP=some ⟨Uo,Td,.func (fnOf "_law_three" "_law_three" (aw nM) (av nM) (ah nM) .none Up Uq Ur Te Jd Us),Ts⟩)(E1:codeIn K Jd "_law_three"=true)(E2:keepIn K (.ref kP)=true)(Pr:nsIn K mainGlobals "_law_run"=some (some (.ref sx)))(Pt:K.lookup sx=some ⟨Z7,ZW,.func (fnOf "_law_run" "_law_run" (aw xy) (av xy) (ah xy) .none Z8 Z9 aaa ZX Rv aab),Z0⟩)(Pu:codeIn K Rv "_law_run"=true)(Pw:keepIn K (.ref sx)=true)(JU:nsIn K mainGlobals "_law_read"=some (some (.ref ow)))(JV:K.lookup ow=some ⟨XT,W3,.func (fnOf "_law_read" "_law_read" (aw rl) (av rl) (ah rl) .none XU XW XX W4 Mm XY),Xe⟩)(JW:codeIn K Mm "_law_read"=true)(JX:keepIn K (.ref ow)=true)(xa:nsIn K mainGlobals "_law_kept_of"=some (some (.ref gC)))(xc:K.lookup gC=some ⟨O5,NR,.func (fnOf "_law_kept_of" "_law_kept_of" (aw jb) (av jb) (ah jb) .none O6 O7 O8 NS Cn O9),N8⟩)(xf:codeIn K Cn "_law_kept_of"=true)(xg:keepIn K (.ref gC)=true)(zY:nsIn K mainGlobals "_law_stands"=some (some (.ref iK)))(zZ:K.lookup iK=some ⟨Rw,Q0,.func (fnOf "_law_stands" "_law_stands" (aw kC) (av kC) (ah kC) .none Rx Ry Rz Q3 Fz RA),Q9⟩)(z0:codeIn K Fz "_law_stands"=true)(z7:keepIn K (.ref iK)=true)(mG:findIn K (.ref aU) "__init__"=some (some (.ref cw)))(mH:K.lookup cw=some ⟨DH,Dn,.func (fnOf "__init__" "Book.__init__" (aw dN) (av dN) (ah dN) .none DI DJ DK Dp rR DM),Du⟩)(mI:codeIn K rR "Book.__init__" = true)(mJ:keepIn K (.ref cw)=true)(lB:isFn K (.ref cw)=true)(xh:findIn K (.ref aU) "drop"=some (some (.ref eP)))(xi:K.lookup eP=some ⟨Pa,NT,.func (fnOf "drop" "Book.drop" (aw jc) (av jc) (ah jc) .none Pb Pc Pd NU Co Pe),N9⟩)(xj:codeIn K Co "Book.drop" = true)(qe:keepIn K (.ref eP)=true)(ue:isFn K (.ref eP)=true)(xk:findIn K (.ref aU) "redo"=some (some (.ref eQ)))(xm:K.lookup eQ=some ⟨Pf,NV,.func (fnOf "redo" "Book.redo" (aw jd) (av jd) (ah jd) .none Pg Ph Pj NW Cp Pk),Oa⟩)(xo:codeIn K Cp "Book.redo" = true)(qf:keepIn K (.ref eQ)=true)(uf:isFn K (.ref eQ)=true)(JY:nsIn K mainGlobals "_law_word"=some (some (.ref ox)))(JZ:K.lookup ox=some ⟨XZ,W5,.func (fnOf "_law_word" "_law_word" (aw rm) (av rm) (ah rm) .none X0 X1 X2 W6 Mn X3),Xf⟩)(J0:codeIn K Mn "_law_word"=true)(J1:keepIn K (.ref ox)=true)(qO:nsIn K mainGlobals "_law_line_text"=some (some (.ref ee)))(qP:K.lookup ee=some ⟨Je,Iq,.func (fnOf "_law_line_text" "_law_line_text" (aw fD) (av fD) (ah fD) .none Jf Jg Jh Ir v9 Ji),IA⟩)(qQ:codeIn K v9 "_law_line_text"=true)(qR:keepIn K (.ref ee)=true)(Aa:nsIn K mainGlobals "_law_row_of"=some (some (.ref iL)))(Ab:K.lookup iL=some ⟨RB,Q4,.func (fnOf "_law_row_of" "_law_row_of" (aw kD) (av kD) (ah kD) .none RC RD RE Q5 FA RF),Ra⟩)(Ac:codeIn K FA "_law_row_of"=true)(Ad:keepIn K (.ref iL)=true)(VA:nsIn K mainGlobals "law"=some (some (.ref Hv)))(aae:K.lookup Hv=some ⟨adB,ady,.func (fnOf "law" "law" (aw LO) (av LO) (ah LO) .none adC adD adE adz aac adF),adA⟩)(aaf:codeIn K aac "law"=true)(aag:keepIn K (.ref Hv)=true)(aah:nsIn K mainGlobals "all"=some none)(aai:nsIn K mainGlobals "any"=some none)(UC:nsIn K mainGlobals "bool"=some none)(UD:nsIn K mainGlobals "dict"=some none)(xp:nsIn K mainGlobals "enumerate"=some none)(aaj:nsIn K mainGlobals "int"=some none)(ug:nsIn K mainGlobals "isinstance"=some none)(aak:nsIn K mainGlobals "len"=some none)(UE:nsIn K mainGlobals "list"=some none)(aal:nsIn K mainGlobals "max"=some none)(aam:nsIn K mainGlobals "min"=some none)(Px:nsIn K mainGlobals "range"=some none)(aan:nsIn K mainGlobals "str"=some none)(Py:nsIn K mainGlobals "tuple"=some none)(aao:nsIn K mainGlobals "zip"=some none)(oX:nsIn K mainGlobals "GREAT_KINDS"=some (some (.ref dg)))(oY:K.lookup dg=some ⟨.type "tuple",Iu,.seq #[.str (Str.ofString "G") Jj,.str (Str.ofString "D") Jk,.str (Str.ofString "R") Jl] Ln,IB⟩)(oZ:nsIn K mainGlobals "SMALL_KINDS"=some (some (.ref ef)))(o5:K.lookup ef=some ⟨.type "tuple",Iv,.seq #[.str (Str.ofString "s") Jm,.str (Str.ofString "d") Jn,.str (Str.ofString "r") Jo] Lo,IC⟩)(lC:nsIn K mainGlobals "PARTING_KINDS"=some (some (.ref cZ)))(lD:K.lookup cZ=some ⟨.type "tuple",Dq,.seq #[.str (Str.ofString ".") DN,.str (Str.ofString "3") DO,.str (Str.ofString "2") DP] Gv,Dv⟩)(lE:nsIn K mainGlobals "MEASURE_KINDS"=some (some (.ref cy)))(lF:K.lookup cy=some ⟨.type "tuple",Dr,.seq #[.str (Str.ofString "3") DQ,.str (Str.ofString "2") DR] Gw,Dw⟩)(kf:nsIn K mainGlobals "SOUNDING_KINDS"=some (some (.ref bX)))(kg:K.lookup bX=some ⟨.type "tuple",BA,.seq #[.str (Str.ofString "G") Cq,.str (Str.ofString "D") Cr,.str (Str.ofString "s") Ct,.str (Str.ofString "d") Cu] El,BF⟩)(mK:nsIn K mainGlobals "SILENT_KINDS"=some (some (.ref dz)))(mL:K.lookup dz=some ⟨.type "tuple",FY,.seq #[.str (Str.ofString "R") Gn,.str (Str.ofString "r") Gp,.str (Str.ofString ".") Gq,.str (Str.ofString "3") Gs,.str (Str.ofString "2") Gu] Jp,Ga⟩)(mM:nsIn K mainGlobals "HIGHEST_TONE"=some (some (.int 99 jB)))(mN:nsIn K mainGlobals "TURNED_KINDS"=some (some (.ref cO)))(mO:K.lookup cO=some ⟨.type "dict",none,.dict #[⟨PyData.keyHash w.params (Str.ofString "3"),.str (Str.ofString "3") DV,.str (Str.ofString "2") DS⟩,⟨PyData.keyHash w.params (Str.ofString "2"),.str (Str.ofString "2") DW,.str (Str.ofString "3") DT⟩] Jq,#[]⟩)(mP:(cO==sysModules)=false)(mQ:nsIn K mainGlobals "PLAIN_WORTHS"=some (some (.ref cP)))(mR:K.lookup cP=some ⟨.type "dict",none,.dict #[⟨PyData.keyHash w.params (Str.ofString "G"),.str (Str.ofString "G") Ec,.int 3 DX⟩,⟨PyData.keyHash w.params (Str.ofString "D"),.str (Str.ofString "D") Ed,.int 2 DY⟩,⟨PyData.keyHash w.params (Str.ofString "R"),.str (Str.ofString "R") Ee,.int 3 DZ⟩,⟨PyData.keyHash w.params (Str.ofString "s"),.str (Str.ofString "s") Ef,.int 1 D1⟩,⟨PyData.keyHash w.params (Str.ofString "d"),.str (Str.ofString "d") Eg,.int 1 D3⟩,⟨PyData.keyHash w.params (Str.ofString "r"),.str (Str.ofString "r") Eh,.int 1 D5⟩,⟨PyData.keyHash w.params (Str.ofString "."),.str (Str.ofString ".") Ei,.int 0 D7⟩,⟨PyData.keyHash w.params (Str.ofString "3"),.str (Str.ofString "3") Ej,.int 0 Ea⟩,⟨PyData.keyHash w.params (Str.ofString "2"),.str (Str.ofString "2") Ek,.int 0 Eb⟩] Jr,#[]⟩)(mS:(cP==sysModules)=false)(kh:nsIn K mainGlobals "TWOFOLD_WORTHS"=some (some (.ref bH)))(ki:K.lookup bH=some ⟨.type "dict",none,.dict #[⟨PyData.keyHash w.params (Str.ofString "G"),.str (Str.ofString "G") zJ,.int 2 zH⟩,⟨PyData.keyHash w.params (Str.ofString "R"),.str (Str.ofString "R") zK,.int 2 zI⟩] Em,#[]⟩)(kj:(bH==sysModules)=false)(qS:nsIn K mainGlobals "FULL_WORTH"=some (some (.int 3 nc)))(iU:nsIn K mainGlobals "SHORTENED_WORTH"=some (some (.int 2 gb)))(lG:nsIn K mainGlobals "DOUBLED_WORTH"=some (some (.int 2 ir)))(mT:nsIn K mainGlobals "DOTTED_WORTH"=some (some (.int 3 jC)))(Ae:nsIn K mainGlobals "LETTERS"=some (some (.str (Str.ofString "abcdefghijklmnopqrstuvwxyz") xB)))(mU:nsIn K mainGlobals "LONGEST_NAME"=some (some (.int 8 jD)))(o7:nsIn K mainGlobals "MOST_VOICES"=some (some (.int 12 lK)))(qT:nsIn K mainGlobals "MOST_SIGNS"=some (some (.int 200 ng)))(E3:nsIn K mainGlobals "LATEST"=some (some (.int 999 AO)))(Af:nsIn K mainGlobals "SLOWEST"=some (some (.int 9 xC)))(E4:makesIn K cL=true)(E5:keepIn K (.ref cL)=true)(J2:plainGet K cL Str.empty=true)(J3:hasDictIn K cL=true)(J4:plainOver K cL=true)(J5:findIn K (.ref cL) "__setattr__"=some (some (.builtin "object.__setattr__")))(eh:findIn K (.ref cL) "name"=some none)(cm:findIn K (.ref cL) "terms"=some none)(cR:findIn K (.ref cL) "signs"=some none)(J6:makesIn K bc=true)(J7:keepIn K (.ref bc)=true)(Pz:plainGet K bc Str.empty=true)(PB:hasDictIn K bc=true)(PC:plainOver K bc=true)(PD:findIn K (.ref bc) "__setattr__"=some (some (.builtin "object.__setattr__")))(dA:findIn K (.ref bc) "things"=some none)(fg:findIn K (.ref bc) "at"=some none)(dB:findIn K (.ref bc) "before"=some none)(en:findIn K (.ref bc) "after"=some none)(J8:makesIn K aU=true)(J9:keepIn K (.ref aU)=true)(PH:plainGet K aU Str.empty=true)(PJ:hasDictIn K aU=true)(PK:plainOver K aU=true)(PL:findIn K (.ref aU) "__setattr__"=some (some (.builtin "object.__setattr__")))(bj:findIn K (.ref aU) "voices"=some none)(c9:findIn K (.ref aU) "done"=some none)(cq:findIn K (.ref aU) "undone"=some none) :
  ∃ fd:FuncData,(∀(s:Shared)(v:Value),BindsTo s fd ⟨[v],[]⟩ [("_law_script",v)])/\∀ base:Heap,K.In base->base.Ns mainGlobals mg->bg l.prog w K mg base fq 9 fa fd ["_law_script"] (G1 K):=by
 have e:=hfa.symm.trans (mg_of X G VA);cases e;have bh:=aP (st:=iZ) wb wc wd;have bD:=bh.binds (ps:=["_law_script","_law_k"]) (by z_go);have kQ:=aP (st:=nC) Eo Ep Er;have rq:=kQ.binds (ps:=["_law_seed","_law_k"]) (by z_go);have jg:=aP (st:=i0) wj wk wm;have pG:=jg.binds (ps:=["_law_number"]) (by z_go);have lV:=aP (st:=i4) wq wt wu;have vk:=lV.binds (ps:=["_law_script","_law_at","_law_many"]) (by z_go);have vm:=aP (st:=q9) Ju Jv Jw;have Hw:=vm.binds (ps:=["_law_script","_law_at","_law_many"]) (by z_go);have lW:=aP (st:=eL) wy wz wA;have vn:=lW.binds (ps:=["_law_script"]) (by z_go);have rA:=aP (st:=nE) Et Eu Ew;have C4:=rA.binds (ps:=["name"]) (by z_go);have nh:=aP (st:=gK) tL tM nk;have e8:=nh.binds (ps:=["self"]) (by z_go);have gf:=aP (st:=cU) jV jW gj;have gh:=gf.binds (ps:=["self","name"]) (by z_go);have xE:=aP (st:=nF) Ey Ez xI;have xF:=xE.binds (ps:=["self"]) (by z_go);have jE:=aP (st:=eD) oQ oR jX;have gD:=jE.binds (ps:=["self","deed"]) (by z_go);have iu:=aP (st:=dJ) my mz mB;have fk:=iu.binds (ps:=["self","things","at","before","after"]) (by z_go);have lL:=aP (st:=fz) qD qE lO;have lM:=lL.binds (ps:=["self","voice"]) (by z_go);have gQ:=aP (st:=dh) kZ k6 k8;have gR:=gQ.binds (ps:=["self","name","terms"]) (by z_go);have gS:=aP (st:=di) lh lj gX;have eF:=gS.binds (ps:=["self","name"]) (by z_go);have pH:=aP (st:=i5) wC wD p9;have vp:=pH.binds (ps:=["self"]) (by z_go);have pI:=aP (st:=i6) wG wH qa;have pJ:=pI.binds (ps:=["self"]) (by z_go);have eo:=aP (st:=cu) hG hI et;have bM:=eo.binds (ps:=["self","name"]) (by z_go);have fb:=aP (st:=cJ) iS iT fh;have fc:=fb.binds (ps:=["self","name"]) (by z_go);have eG:=GA (st:=dj) lq lr gY;have kR:Binds K _ ["self","name","leader","later","slow","is_turned"] []:=eG.binds (ds:=[]) gk rfl fun _ _ _ _ _ _ us hl=>match us,hl with|[_,_,_,_,_,_],_=>⟨_,rfl,rfl⟩
 have pK:Binds K _ ["self","name","leader","later","slow","is_turned"] [.int 0 du,.int 1 dw,.bool false]:=eG.binds gk rfl fun _ _ _ _ _ _ us hl=>match us,(show us.length=3 by simpa using hl) with|[_,_,_],_=>⟨_,rfl,rfl⟩
 have cB:=aP (st:=bP) fN fO fP;have fK:=cB.binds (ps:=["at","last"]) (by z_go);have C5:=aP (st:=CM) Uv Uw Ux;have M3:=C5.binds (ps:=["sign"]) (by z_go);have dZ:=aP (st:=cV) j2 j3 j4;have jG:=dZ.binds (ps:=["sign"]) (by z_go);have xG:=aP (st:=xw) Pp Pq Bb;have GD:=xG.binds (ps:=["sign"]) (by z_go);have rB:=aP (st:=nG) EB EC ED;have C6:=rB.binds (ps:=["line","at"]) (by z_go);have oz:=aP (st:=kz) zO zP zQ;have yJ:=oz.binds (ps:=["line","first","kinds"]) (by z_go);have eI:=aP (st:=eE) oU oV oW;have jH:=eI.binds (ps:=["sign"]) (by z_go);have vq:=aP (st:=rb) Jy Jz JA;have Hz:=vq.binds (ps:=["line","at","behind","changed"]) (by z_go);have sA:=aP (st:=kA) zS zT tP;have yK:=sA.binds (ps:=["self","name","at","sign"]) (by z_go);have lX:=aP (st:=i7) wK wL wN;have vt:=lX.binds (ps:=["_law_book","_law_told"]) (by z_go);have nj:=aP (st:=gL) tR tS nq;have ff:=nj.binds (ps:=["self","name"]) (by z_go);have vv:=aP (st:=rf) JC JD rM;have HA:=vv.binds (ps:=["sign"]) (by z_go);have jI:=aP (st:=gM) tU tV tW;have sC:=jI.binds (ps:=["sign"]) (by z_go);have rC:=aP (st:=rg) JF JG JH;have AU:=rC.binds (ps:=["line"]) (by z_go);have lY:=aP (st:=i8) wQ wR qb;have eR:=lY.binds (ps:=["self","name"]) (by z_go);have ig:=aP (st:=fA) qH qI qJ;have qw:=ig.binds (ps:=["book","name"]) (by z_go);have jJ:=aP (st:=gN) tZ t4 t5;have sE:=jJ.binds (ps:=["book"]) (by z_go);have jh:=aP (st:=nH) EG EH EJ;have nP:=jh.binds (ps:=["_law_found"]) (by z_go);have rD:=aP (st:=nI) EL EM EN;have C7:=rD.binds (ps:=["_law_found","_law_due"]) (by z_go);have vy:=aP (st:=rh) JJ JK JL;have HC:=vy.binds (ps:=["_law_found","_law_due"]) (by z_go);have iN:=GA (st:=kB) zV zW zX;have sG:Binds K _ ["line","begin"] []:=iN.binds (ds:=[]) qc rfl fun _ _ _ _ _ _ us hl=>match us,hl with|[_,_],_=>⟨_,rfl,rfl⟩
 have Fi:Binds K _ ["line","begin"] [.int 3 jy]:=iN.binds qc rfl fun _ _ _ _ _ _ us hl=>match us,(show us.length=1 by simpa using hl) with|[_],_=>⟨_,rfl,rfl⟩
 have dO:=aP (st:=nJ) ER ES ET;have fE:=dO.binds (ps:=["line","at"]) (by z_go);have ij:=aP (st:=fB) qL qM qN;have qx:=ij.binds (ps:=["kind","measure"]) (by z_go);have cC:=aP (st:=bQ) fR fS fU;have fL:=cC.binds (ps:=["line","begin"]) (by z_go);have C8:=GA (st:=CN) Uz UA UB;have Sw:Binds K _ ["line","begin"] []:=C8.binds (ds:=[]) GF rfl fun _ _ _ _ _ _ us hl=>match us,hl with|[_,_],_=>⟨_,rfl,rfl⟩
 have Vk:Binds K _ ["line","begin"] [.int 3 ve]:=C8.binds GF rfl fun _ _ _ _ _ _ us hl=>match us,(show us.length=1 by simpa using hl) with|[_],_=>⟨_,rfl,rfl⟩
 have dP:=aP (st:=dM) mD mE mF;have iw:=dP.binds (ps:=["line","found","first"]) (by z_go);have dn:=aP (st:=dm) lx ly lz;have gU:=dn.binds (ps:=["line","behind"]) (by z_go);have d3:=aP (st:=cW) j6 j7 j8;have jK:=d3.binds (ps:=["line","found","first","behind"]) (by z_go);have d4:=aP (st:=cX) kc kd ke;have jL:=d4.binds (ps:=["line","found","first","behind"]) (by z_go);have jM:=aP (st:=gO) ua ub uc;have sI:=jM.binds (ps:=["line","found","first","behind"]) (by z_go);have rF:=aP (st:=nK) EV EW EX;have C9:=rF.binds (ps:=["line","begin"]) (by z_go);have oB:=GA (st:=rj) JN JO JP;have AV:Binds K _ ["line","begin"] []:=oB.binds (ds:=[]) xJ rfl fun _ _ _ _ _ _ us hl=>match us,hl with|[_,_],_=>⟨_,rfl,rfl⟩
 have LV:Binds K _ ["line","begin"] [.int 3 ot]:=oB.binds xJ rfl fun _ _ _ _ _ _ us hl=>match us,(show us.length=1 by simpa using hl) with|[_],_=>⟨_,rfl,rfl⟩
 have pM:=aP (st:=i9) wV wW qd;have pN:=pM.binds (ps:=["self","name"]) (by z_go);have ji:=aP (st:=ja) wY wZ w6;have pO:=ji.binds (ps:=["_law_voices","_law_name"]) (by z_go);have vz:=aP (st:=rk) JR JS JT;have HE:=vz.binds (ps:=["_law_line_here","_law_begin"]) (by z_go);have rG:=aP (st:=nM) EZ E1 E2;have Dc:=rG.binds (ps:=["_law_line_here","_law_begin"]) (by z_go);have AY:=aP (st:=xy) Pt Pu Pw;have M5:=AY.binds (ps:=["_law_line_here","_law_told","_law_low","_law_high"]) (by z_go);have rH:=aP (st:=rl) JV JW JX;have AZ:=rH.binds (ps:=["_law_line_here","_law_begin"]) (by z_go);have lZ:=aP (st:=jb) xc xf xg;have vA:=lZ.binds (ps:=["_law_voices","_law_name"]) (by z_go);have iO:=aP (st:=kC) zZ z0 z7;have oC:=iO.binds (ps:=["_law_book","_law_voices"]) (by z_go);have ix:=aP (st:=dN) mH mI mJ;have mn:=ix.binds (ps:=["self"]) (by z_go);have pP:=aP (st:=jc) xi xj qe;have vC:=pP.binds (ps:=["self","name"]) (by z_go);have pQ:=aP (st:=jd) xm xo qf;have vD:=pQ.binds (ps:=["self"]) (by z_go);have vE:=aP (st:=rm) JZ J0 J1;have HF:=vE.binds (ps:=["_law_sign"]) (by z_go);have ik:=aP (st:=fD) qP qQ qR;have qy:=ik.binds (ps:=["_law_line_here"]) (by z_go);have oE:=aP (st:=kD) Ab Ac Ad;have yN:=oE.binds (ps:=["_law_name","_law_thing"]) (by z_go);have Vl:=aP (st:=LO) aae aaf aag;have ab9:=Vl.binds (ps:=["_law_script"]) (by z_go);have T:Txt K w mg ⟨_,_,_,_,_,_,_,_,_,_,_,_,_,_,_,_,_,_,_,_,_,_,_,_,_,_,_,_,_,_,_,_,_,_,_,_,_,_,_,_,_,du,dw,_,_,_,_,_,_,_,_,_,_,_,_,_,_,_,_,_,_,_,_,_,_,_,_,_,_,_,_,_,_,_,_,_,_,_,_,_,_,_,_,_,_,_,jy,_,_,_,_,_,_,_,_,_,ve,_,_,_,_,_,_,_,_,_,_,_,_,_,_,_,ot,_,_,_,_,_,_,_,_,_,_,_,_,_,_,_,_,_,_,_,_,_,_,_,_,_,_,_,_,_,_,dg,ef,cZ,cy,bX,dz,jB,cO,cP,bH,nc,gb,ir,jC,xB,jD,lK,ng,AO,xC,cL,bc,aU⟩:=⟨bh,bD,mg_of X G wa,kQ,rq,mg_of X G En,jg,pG,mg_of X G we,lV,vk,mg_of X G wo,vm,Hw,mg_of X G Jt,lW,vn,mg_of X G wx,rA,C4,mg_of X G Es,nh,e8,⟨tK,qB,nk⟩,gf,gh,⟨jU,iQ,gj⟩,xE,xF,⟨Ex,zM,xI⟩,jE,gD,⟨oP,mw,jX⟩,iu,fk,lL,lM,⟨qC,oS,lO⟩,gQ,gR,gS,eF,⟨lg,jZ,gX⟩,pH,vp,⟨wB,tN,p9⟩,pI,pJ,⟨wF,tO,qa⟩,eo,bM,⟨g9,gI,et⟩,fb,fc,⟨iR,hV,fh⟩,eG,pK,kR,⟨lp,j0,gY⟩,cB,fK,mg_of X G fM,C5,M3,mg_of X G Uu,dZ,jG,mg_of X G j1,xG,GD,mg_of X G Po,rB,C6,mg_of X G EA,oz,yJ,mg_of X G zN,eI,jH,mg_of X G oT,vq,Hz,mg_of X G Jx,sA,yK,⟨zR,wI,tP⟩,lX,vt,mg_of X G wJ,nj,ff,⟨tQ,qF,nq⟩,vv,HA,mg_of X G JB,jI,sC,mg_of X G tT,rC,AU,mg_of X G JE,lY,eR,⟨wO,tX,qb⟩,ig,qw,mg_of X G qG,jJ,sE,mg_of X G tY,jh,nP,mg_of X G EF,rD,C7,mg_of X G EK,vy,HC,mg_of X G JI,iN,Fi,sG,mg_of X G zU,dO,fE,mg_of X G EO,ij,qx,mg_of X G qK,cC,fL,mg_of X G fQ,C8,Vk,Sw,mg_of X G Uy,dP,iw,mg_of X G mC,dn,gU,mg_of X G lu,d3,jK,mg_of X G j5,d4,jL,mg_of X G j9,jM,sI,mg_of X G t7,rF,C9,mg_of X G EU,oB,LV,AV,mg_of X G JM,pM,pN,⟨wU,ud,qd⟩,ji,pO,mg_of X G wX,vz,HE,mg_of X G JQ,rG,Dc,mg_of X G EY,AY,M5,mg_of X G Pr,rH,AZ,mg_of X G JU,lZ,vA,mg_of X G xa,iO,oC,mg_of X G zY,ix,mn,pP,vC,⟨xh,ue,qe⟩,pQ,vD,⟨xk,uf,qf⟩,vE,HF,mg_of X G JY,ik,qy,mg_of X G qO,oE,yN,mg_of X G Aa,Vl,ab9,mg_of X G VA,mg_none_of X G aah,mg_none_of X G aai,mg_none_of X G UC,mg_none_of X G UD,mg_none_of X G xp,mg_none_of X G aaj,mg_none_of X G ug,mg_none_of X G aak,mg_none_of X G UE,mg_none_of X G aal,mg_none_of X G aam,mg_none_of X G Px,mg_none_of X G aan,mg_none_of X G Py,mg_none_of X G aao,mg_of X G oX,(fun H=>.inr ⟨_,_,_,oY,rfl,rfl,(by show 3<=sizeLine;decide),(.cons ⟨_,rfl⟩ (.cons ⟨_,rfl⟩ (.cons ⟨_,rfl⟩ .nil)))⟩),mg_of X G oZ,(fun H=>.inr ⟨_,_,_,o5,rfl,rfl,(by show 3<=sizeLine;decide),(.cons ⟨_,rfl⟩ (.cons ⟨_,rfl⟩ (.cons ⟨_,rfl⟩ .nil)))⟩),mg_of X G lC,(fun H=>.inr ⟨_,_,_,lD,rfl,rfl,(by show 3<=sizeLine;decide),(.cons ⟨_,rfl⟩ (.cons ⟨_,rfl⟩ (.cons ⟨_,rfl⟩ .nil)))⟩),mg_of X G lE,(fun H=>.inr ⟨_,_,_,lF,rfl,rfl,(by show 2<=sizeLine;decide),(.cons ⟨_,rfl⟩ (.cons ⟨_,rfl⟩ .nil))⟩),mg_of X G kf,(fun H=>.inr ⟨_,_,_,kg,rfl,rfl,(by show 4<=sizeLine;decide),(.cons ⟨_,rfl⟩ (.cons ⟨_,rfl⟩ (.cons ⟨_,rfl⟩ (.cons ⟨_,rfl⟩ .nil))))⟩),mg_of X G mK,(fun H=>.inr ⟨_,_,_,mL,rfl,rfl,(by show 5<=sizeLine;decide),(.cons ⟨_,rfl⟩ (.cons ⟨_,rfl⟩ (.cons ⟨_,rfl⟩ (.cons ⟨_,rfl⟩ (.cons ⟨_,rfl⟩ .nil)))))⟩),mg_of X G mM,mg_of X G mN,⟨mP,_,_,mO,(.cons ⟨_,rfl⟩ (.cons ⟨_,rfl⟩ .nil)),by lk⟩,mg_of X G mQ,⟨mS,_,_,mR,(.cons ⟨_,rfl⟩ (.cons ⟨_,rfl⟩ (.cons ⟨_,rfl⟩ (.cons ⟨_,rfl⟩ (.cons ⟨_,rfl⟩ (.cons ⟨_,rfl⟩ (.cons ⟨_,rfl⟩ (.cons ⟨_,rfl⟩ (.cons ⟨_,rfl⟩ .nil))))))))),by lk⟩,mg_of X G kh,⟨kj,_,_,ki,(.cons ⟨_,rfl⟩ (.cons ⟨_,rfl⟩ .nil)),by lk⟩,mg_of X G qS,mg_of X G iU,mg_of X G lG,mg_of X G mT,mg_of X G Ae,mg_of X G mU,mg_of X G o7,mg_of X G qT,mg_of X G E3,mg_of X G Af,mg_of X G Js,⟨E4,kY,jY,E5⟩,⟨J2,J3,J4,J5⟩,eh,cm,cR,mg_of X G Pm,⟨J6,mx,kX,J7⟩,⟨Pz,PB,PC,PD⟩,dA,fg,dB,en,mg_of X G Pn,⟨J8,mG,lB,J9⟩,⟨PH,PJ,PK,PL⟩,bj,c9,cq⟩;exact⟨_,fun s v=>.of_eq rfl,fun base _ _=>adw T⟩
theorem walk {l:OpenLaw}{q:Program}{loose:List Str}{XP:(Str->Option Value)->Heap->Prop}{YP:World->Heap->Prop}{d:DefRec}{K:Params->Frag}(hn:l.most=some 63)(hdf:d.params.defaults=[])
  (hY:∀(w:World)(h:Heap),YP w h->(K w.params).In h)
  (F:∀(w:World)(mg:Str->Option Value)(fa:Addr)(h:Heap),(K w.params).In h->h.Ns mainGlobals mg->mg d.name=some (.ref fa) ->
   ∃ fd:FuncData,(∀(s:Shared)(u:Value),BindsTo s fd ⟨[u],[]⟩ [("_law_script",u)])/\∀ base:Heap,(K w.params).In base->base.Ns mainGlobals mg->bg l.prog w (K w.params) mg base fq 9 fa fd ["_law_script"] (G1 (K w.params))) :
  WalkO q loose XP YP l.row.toRowW d [] (fun f vs=>PySem.call f vs) :=
 L2.aaF (n:=63) (k:=9) (x:="_law_script") (CX:=fun _=>fq) (sp:=fun w=>G1 (K w.params)) hn (by decide) hdf ⟨rfl,by decide,by decide⟩ hY F (fun _ H a ns hl hO hS=>V6 hl hO hS) fun _ _ _ _ _ z=>z
end ME
namespace PySem.W.Fast
def tw5469049454422305313:=()
def tw7831340798060907718:=()
def tw928521948580876847:=()
def tw17741035192699380100:=()
def tw4826606059188626022:=()
def tw15759660018629005359:=()
def tw17996059156172238883:=()
def tw2048783414001223828:=()
def tw9510532510087531231:=()
def tw5764745459669878906:=()
def tw16379484486127865271:=()
def tw15617443093027324888:=()
def tw7598999025278958704:=()
def tw17410036326844900490:=()
def tw11446166353675022944:=()
def tw16260714979107844448:=()
def tw16815482581292657724:=()
def tw12303194835794192809:=()
def tw4912462676019002065:=()
def tw440027760752683824:=()
def tw13143242724334108241:=()
def tw11638115780907446490:=()
def tw11671073534735919623:=()
def tw7475702959622854490:=()
def tw11750585161503137806:=()
def tw13996207304937714126:=()
def tw15702027320211436906:=()
def tw11091033338773810205:=()
def tw15713746395334190655:=()
def tw7994579572637897643:=()
def tw5181347102986561606:=()
def tw2128000331388243415:=()
def tw1514292170994260727:=()
def tw7925868781378524255:=()
def tw10461472506570510354:=()
def tw5013491729678966544:=()
def tw15097062170686110407:=()
def tw6936397667330771671:=()
def tw13160490669002961602:=()
def tw5258259008014675292:=()
def tw17971620358405355800:=()
def tw11936890620868870886:=()
def tw12383994594315194751:=()
def tw15709854485321450185:=()
def tw7310664374597835519:=()
def tw1389191490976347176:=()
def tw4618837729274706059:=()
def tw12822141758874074335:=()
def tw6152848729129295734:=()
def tw4744052060022733573:=()
def tw1488866672033157007:=()
def tw14084475054613874199:=()
def tw5923899273238332768:=()
def tw3346535229212599932:=()
def tw5991856994996589139:=()
def tw17969349750766932533:=()
def tw5843145003407814754:=()
def tw13470727743510404904:=()
def tw6225011727590463319:=()
def tw10518390993914117810:=()
def tw17934958888138946554:=()
def tw12135804233755748687:=()
def tw11214835269775384448:=()
def tw4522573694911933975:=()
def tw8402306311432212023:=()
def tw11727818073428782994:=()
def tw93796266193474541:=()
def tw602793520989602650:=()
def tw17570113083141768894:=()
def tw14175374935421447938:=()
def tw15156952402887324774:=()
def tw12111738334050856743:=()
def tw11737462938002689264:=()
def tw2045107665571109173:=()
def tw456706065985509527:=()
def tw14322151912637901464:=()
def tw7975794386193345692:=()
def tw11088989551057849681:=()
def tw12428118109505026639:=()
def tw11985013613539931897:=()
def tw16534697481523861200:=()
def tw7885851936788177773:=()
def tw17056452356415407711:=()
def tw3682700757585741072:=()
def tw246923783313781611:=()
def tw5604919425465689637:=()
def tw11692409996831491805:=()
def tw16405425417063031594:=()
def tw10646898248284416059:=()
def tw14425096472336146654:=()
def tw7815377027877341122:=()
def tw1191699206624956540:=()
def tw17951358994633795041:=()
def tw12730633784257656156:=()
def tw15514532208057124929:=()
def tw14324759935455309683:=()
def tw11487970143179329744:=()
def tw16011879663555316212:=()
def tw9624698448190823522:=()
def tw4920878458365236077:=()
def tw15296474048808251057:=()
def tw7414603478978199712:=()
def tw962166597814703214:=()
def tw15943807081009139618:=()
def tw3289565539427398463:=()
def tw7575751671822682920:=()
def tw13874365970656814553:=()
def tw805790214376442030:=()
def tw1990129790312103166:=()
def tw2101429156771960397:=()
def tw10496309492333825302:=()
def tw15747394490859882046:=()
def tw1968056873452452748:=()
def tw12205020854432367933:=()
def tw16707083051385815004:=()
def tw9405655365807999555:=()
def tw16216408745204436066:=()
def tw17527709284436048329:=()
def tw10055984180714043339:=()
def tw13344345204323210960:=()
def tw3827325733413444424:=()
def tw13186000576391770423:=()
def tw1331849676040809398:=()
def tw2807932888371351973:=()
def tw1589680978998529640:=()
def tw11230871038912846544:=()
def tw17417428893341762651:=()
def tw1859130544426618452:=()
def tw10117359352383680547:=()
def tw12648473835359582167:=()
def tw2760308700644815998:=()
def tw16684420468173537655:=()
def tw1842415450610610939:=()
def tw12839875653777160516:=()
def tw8025251503691477318:=()
def tw6196467892604228657:=()
def tw1367268881402837431:=()
def tw8128543427246484231:=()
def tw14881716194518143045:=()
def tw8929961282155695894:=()
def tw4116542506341442039:=()
def tw16808632256965351832:=()
def tw2144140873646888237:=()
def tw13118964700131334822:=()
def tw15229635315302377652:=()
def tw5933185283693543376:=()
def tw7993895256204034862:=()
def tw3983758207507963688:=()
def tw610618303683487165:=()
def tw382642761758168370:=()
def tw6136128300719576164:=()
def tw7842668129231462520:=()
def tw10941588330622384739:=()
def tw4366690298871773619:=()
def tw8715657052414156939:=()
def tw9474295118425867443:=()
def tw5520546995534663211:=()
def tw2717608160361012592:=()
def tw16122956389348619767:=()
def tw10388147032272223821:=()
def tw640697141629260079:=()
def tw12410343149102871619:=()
def tw11426001706633246199:=()
def tw10691504427352563458:=()
def tw12617865368492801403:=()
def tw15419719032438751616:=()
def tw13962260748457778415:=()
def tw18269718570706208694:=()
def tw9279329199202534801:=()
def tw5551087861452311570:=()
def tw16017733754676657501:=()
def tw10002507518988231437:=()
def tw1564068849102468470:=()
def tw13051285413376957905:=()
def tw13326817511789962596:=()
def tw14110015867012789002:=()
def tw2106468235392323441:=()
def tw2771962631332429821:=()
def tw8555865277734803717:=()
def tw9393836095028329825:=()
def tw1211438704101145255:=()
def tw2680545609587904726:=()
def tw15067961603078339513:=()
def tw2198394506583462873:=()
def tw9532484934790785430:=()
def tw15339192269859095529:=()
def tw14991290561158777355:=()
def tw11535240557349638731:=()
def tw1076812918335066015:=()
def tw18261587310928203354:=()
def tw16273734677740940151:=()
def tw1486768222100698178:=()
def tw9902690594017953928:=()
def tw536523768523943111:=()
def tw7906325889175002276:=()
def tw7787114682353533858:=()
def tw9847249053669804735:=()
def tw391873513680018394:=()
def tw8174393370921610457:=()
def tw527452211353207611:=()
def tw10489927711534949993:=()
def tw13809075017242758928:=()
def tw11229693014239984547:=()
def tw11222015952961736418:=()
def tw3848437720420126353:=()
def tw230923514070399157:=()
def tw10378027592789041844:=()
def tw8012952001702030580:=()
def tw18041159125627607981:=()
def tw5796165100299012501:=()
def tw7888842605104753568:=()
def tw12969561360328592712:=()
def tw1882359438973678800:=()
def tw11597889256032077351:=()
def tw10664059805080920296:=()
def tw17908759246675385747:=()
def tw4986328920079303955:=()
def tw954016218485308007:=()
def tw12227742038143001708:=()
def tw2935931171215798035:=()
def tw1992801753084133744:=()
def tw6346908266535211244:=()
def tw17847375787181559474:=()
def tw13083175613257947202:=()
def tw4778070824207719673:=()
def tw5705499117132788006:=()
def tw13056211920755570191:=()
def tw3584060358728500636:=()
def tw4136183506570747602:=()
def tw8062908788802613569:=()
def tw13447061649698249757:=()
def tw15513728055063685436:=()
def tw11494351675442115827:=()
def tw16031141506904985816:=()
def tw15916339610907278204:=()
def tw5698531474990897920:=()
def tw10204457325793452717:=()
def tw4933807310315214638:=()
def tw3664578605639615700:=()
def tw6436306419757751237:=()
def tw6714974153561046294:=()
def tw11718216362970965710:=()
def tw10129026484348377303:=()
def tw1389687049219639241:=()
def tw7731884478962699071:=()
def tw2758711654543803571:=()
def tw17614217096226971927:=()
def tw7840716553244852841:=()
def tw3222596081885756290:=()
def tw9373968941991945044:=()
def tw10881926340269598965:=()
def tw18086835598482249656:=()
def tw11523225271055350490:=()
def tw3169065604393471874:=()
def tw14998161444622740776:=()
def tw14577071353314903461:=()
def tw8436136908017047076:=()
def tw11915278546962115250:=()
def tw15411594444212727256:=()
def tw15455900560203040030:=()
def tw5692183977046682961:=()
def tw14798756724218289954:=()
def tw2909780974178814830:=()
def tw3951554018008511286:=()
def tw17105653505929430305:=()
def tw5007435539358659841:=()
def tw4130446337524480254:=()
def tw12480520634284537358:=()
def tw13540600024178964:=()
def tw12206583675167000121:=()
def tw8155807703093759746:=()
def tw6048997399467706236:=()
def tw3327464194882479585:=()
def tw16662671574256577735:=()
def tw6158901538165889416:=()
def tw3278310461754033660:=()
def tw16217474595118772140:=()
def tw2489438442874558066:=()
def tw11918043184755095125:=()
def tw1574705561433099177:=()
def tw8459283100412385175:=()
def tw6124158062867085519:=()
def tw17852608247983445190:=()
def tw11605867680592540536:=()
def tw11505136651945895797:=()
def tw14125028630553001382:=()
def tw7776063058216311228:=()
def tw4037990969070133105:=()
def tw4505864067204523949:=()
def tw6620997713294973323:=()
def tw14067385651349902710:=()
def tw10982655293188628217:=()
def tw15200956652146968775:=()
def tw7291768632724444173:=()
def tw17761600370625491513:=()
def tw10451108157381166569:=()
def tw4249946541349869296:=()
def tw15678595761186848609:=()
def tw17760146199368958664:=()
def tw7651247262831301233:=()
def tw8855982082106612732:=()
def tw13012355646925297557:=()
def tw16625936553441438886:=()
def tw10147362416777868154:=()
def tw16490639429739047797:=()
def tw9667738617890117850:=()
def tw9577496527367014443:=()
def tw10004865535442699444:=()
def tw1391543210456141603:=()
def tw9312862470070082407:=()
def tw11833963582435086126:=()
def tw17573636812055841614:=()
def tw1612915040504485600:=()
def tw6288938735342005731:=()
def tw12946053869756265908:=()
def tw18409120932207760269:=()
def tw12333385953622802711:=()
def tw4676777153339979798:=()
def tw1525466836041200196:=()
def tw7474811214847004981:=()
def tw10492545799716161675:=()
def tw631615582470241666:=()
def tw6025171690864236747:=()
def tw1344498379885374209:=()
def tw8645071637808570103:=()
def tw15228781931669060928:=()
def tw10742592241936468726:=()
def tw6614421998464858541:=()
def tw6763759648399902824:=()
def tw8480657952147345206:=()
def tw14511052792839261028:=()
def tw17262188585312061565:=()
def tw6140461009652920372:=()
def tw4900448419219800647:=()
def tw2191133427379000951:=()
def tw17729330939583751840:=()
def tw146147307829070018:=()
def tw8832560554554414605:=()
def tw2991873318221235868:=()
def tw8006060018766630195:=()
def tw15665442523537747258:=()
def tw15630207541555595747:=()
def tw9473314402659615369:=()
def tw7974468722656587297:=()
def tw17115142498081181489:=()
def tw9176144280542440740:=()
def tw2228141798811871966:=()
def tw5521309195275923412:=()
def tw15980605269818787510:=()
def tw6050882641110804921:=()
def tw13749048128432955019:=()
def tw5888114270872863424:=()
def tw17381091878694214674:=()
def tw3698307533450733589:=()
def tw15906988290504810138:=()
def tw10858845348832262581:=()
def tw9465667228689479363:=()
def tw1731923906937806701:=()
def tw11782073965370955477:=()
def tw949859721817933233:=()
def tw6590070127865855964:=()
def tw1623913915556291299:=()
def tw7739735589110773921:=()
def tw8851105412752186194:=()
def tw2090257780403546638:=()
def tw6157579404594542967:=()
def tw6229060219818281730:=()
def tw6960261246481913134:=()
def tw10874252047269570309:=()
def tw31414380657127504:=()
def tw848101079823334161:=()
def tw10474096253954426024:=()
def tw16883328892337089297:=()
def tw6069085097214542119:=()
def tw13001667900612436910:=()
def tw11324224074202154302:=()
def tw15193448904214625940:=()
def tw17867383385273580683:=()
def tw4102524970321054824:=()
def tw6690735146815214419:=()
def tw2921070477344141943:=()
def tw17854486980590570223:=()
def tw2470304496503604684:=()
def tw6706957977421647460:=()
def tw14785542563041371586:=()
def tw18149935016609222903:=()
def tw15397644463562979717:=()
def tw375460458403672184:=()
def tw11408439892592512038:=()
def tw15782645289830288507:=()
def tw6795449644721337704:=()
def tw12888951874428578978:=()
def tw11471376724780594062:=()
def tw10068103230866275491:=()
def tw8615927573900792192:=()
def tw15695206928272696370:=()
def tw6697434693412398356:=()
def tw11797764084435917933:=()
end PySem.W.Fast
open PySem PySem.W PyProof.Rows
set_option maxRecDepth 100000 in
set_option maxHeartbeats 0 in
theorem PySem.Challenge.cw_noteworth_k45_books_shown_holds : PySem.Challenge.rw_noteworth_k45_books_shown.Holds := by
 w_on;o_law;k_head;(case hw=>w_witness2)
 k_fill
 refine ME.walk (l:=PySem.Challenge.rw_noteworth_k45_books_shown) rfl rfl (fun w h Y=>PySem.W.kIn_of Y) ?F
 case F =>
  intro w mg fa h KX G hmg
  refine' ME.all_mk KX G hmg ?Js ?Pm ?Pn ?wa ?wb ?wc ?wd ?En ?Eo ?Ep ?Er ?we ?wj ?wk ?wm ?wo ?wq ?wt ?wu ?Jt ?Ju ?Jv ?Jw ?wx ?wy ?wz ?wA ?Es ?Et ?Eu ?Ew ?tK ?tL ?tM ?nk ?qB ?jU ?jV ?jW ?gj ?iQ ?Ex ?Ey ?Ez ?xI ?zM ?oP ?oQ ?oR ?jX ?mw ?mx ?my ?mz ?mB ?kX ?qC ?qD ?qE ?lO ?oS ?kY ?kZ ?k6 ?k8 ?jY ?lg ?lh ?lj ?gX ?jZ ?wB ?wC ?wD ?p9 ?tN ?wF ?wG ?wH ?qa ?tO ?g9 ?hG ?hI ?et ?gI ?iR ?iS ?iT ?fh ?hV ?lp ?lq ?lr ?gY ?j0 ?gk ?fM ?fN ?fO ?fP ?Uu ?Uv ?Uw ?Ux ?j1 ?j2 ?j3 ?j4 ?Po ?Pp ?Pq ?Bb ?EA ?EB ?EC ?ED ?zN ?zO ?zP ?zQ ?oT ?oU ?oV ?oW ?Jx ?Jy ?Jz ?JA ?zR ?zS ?zT ?tP ?wI ?wJ ?wK ?wL ?wN ?tQ ?tR ?tS ?nq ?qF ?JB ?JC ?JD ?rM ?tT ?tU ?tV ?tW ?JE ?JF ?JG ?JH ?wO ?wQ ?wR ?qb ?tX ?qG ?qH ?qI ?qJ ?tY ?tZ ?t4 ?t5 ?EF ?EG ?EH ?EJ ?EK ?EL ?EM ?EN ?JI ?JJ ?JK ?JL ?zU ?zV ?zW ?zX ?qc ?EO ?ER ?ES ?ET ?qK ?qL ?qM ?qN ?fQ ?fR ?fS ?fU ?Uy ?Uz ?UA ?UB ?GF ?mC ?mD ?mE ?mF ?lu ?lx ?ly ?lz ?j5 ?j6 ?j7 ?j8 ?j9 ?kc ?kd ?ke ?t7 ?ua ?ub ?uc ?EU ?EV ?EW ?EX ?JM ?JN ?JO ?JP ?xJ ?wU ?wV ?wW ?qd ?ud ?wX ?wY ?wZ ?w6 ?JQ ?JR ?JS ?JT ?EY ?EZ ?E1 ?E2 ?Pr ?Pt ?Pu ?Pw ?JU ?JV ?JW ?JX ?xa ?xc ?xf ?xg ?zY ?zZ ?z0 ?z7 ?mG ?mH ?mI ?mJ ?lB ?xh ?xi ?xj ?qe ?ue ?xk ?xm ?xo ?qf ?uf ?JY ?JZ ?J0 ?J1 ?qO ?qP ?qQ ?qR ?Aa ?Ab ?Ac ?Ad ?VA ?aae ?aaf ?aag ?aah ?aai ?UC ?UD ?xp ?aaj ?ug ?aak ?UE ?aal ?aam ?Px ?aan ?Py ?aao ?oX ?oY ?oZ ?o5 ?lC ?lD ?lE ?lF ?kf ?kg ?mK ?mL ?mM ?mN ?mO ?mP ?mQ ?mR ?mS ?kh ?ki ?kj ?qS ?iU ?lG ?mT ?Ae ?mU ?o7 ?qT ?E3 ?Af ?E4 ?E5 ?J2 ?J3 ?J4 ?J5 ?eh ?cm ?cR ?J6 ?J7 ?Pz ?PB ?PC ?PD ?dA ?fg ?dB ?en ?J8 ?J9 ?PH ?PJ ?PK ?PL ?bj ?c9 ?cq
  (case Js|Pm|Pn|wa|wb|wc|wd|En|Eo|Ep|Er|we|wj|wk|wm|wo|wq|wt|wu|Jt|Ju|Jv|Jw|wx|wy|wz|wA|Es|Et|Eu|Ew|tK|tL|tM|nk|qB|jU|jV|jW|gj|iQ|Ex|Ey|Ez|xI|zM|oP|oQ|oR|jX|mw|mx|my|mz|mB|kX|qC|qD|qE|lO|oS|kY|kZ|k6|k8|jY|lg|lh|lj|gX|jZ|wB|wC|wD|p9|tN|wF|wG|wH|qa|tO|g9|hG|hI|et|gI|iR|iS|iT|fh|hV|lp|lq|lr|gY|j0|gk|fM|fN|fO|fP|Uu|Uv|Uw|Ux|j1|j2|j3|j4|Po|Pp|Pq|Bb|EA|EB|EC|ED|zN|zO|zP|zQ|oT|oU|oV|oW|Jx|Jy|Jz|JA|zR|zS|zT|tP|wI|wJ|wK|wL|wN|tQ|tR|tS|nq|qF|JB|JC|JD|rM|tT|tU|tV|tW|JE|JF|JG|JH|wO|wQ|wR|qb|tX|qG|qH|qI|qJ|tY|tZ|t4|t5|EF|EG|EH|EJ|EK|EL|EM|EN|JI|JJ|JK|JL|zU|zV|zW|zX|qc|EO|ER|ES|ET|qK|qL|qM|qN|fQ|fR|fS|fU|Uy|Uz|UA|UB|GF|mC|mD|mE|mF|lu|lx|ly|lz|j5|j6|j7|j8|j9|kc|kd|ke|t7|ua|ub|uc|EU|EV|EW|EX|JM|JN|JO|JP|xJ|wU|wV|wW|qd|ud|wX|wY|wZ|w6|JQ|JR|JS|JT|EY|EZ|E1|E2|Pr|Pt|Pu|Pw|JU|JV|JW|JX|xa|xc|xf|xg|zY|zZ|z0|z7|mG|mH|mI|mJ|lB|xh|xi|xj|qe|ue|xk|xm|xo|qf|uf|JY|JZ|J0|J1|qO|qP|qQ|qR|Aa|Ab|Ac|Ad|VA|aae|aaf|aag|aah|aai|UC|UD|xp|aaj|ug|aak|UE|aal|aam|Px|aan|Py|aao|oX|oY|oZ|o5|lC|lD|lE|lF|kf|kg|mK|mL|mM|mN|mO=>k_is)
  (case mP=>rfl)
  (case mQ|mR=>k_is)
  (case mS=>rfl)
  (case kh|ki=>k_is)
  (case kj=>rfl)
  (case qS|iU|lG|mT|Ae|mU|o7|qT|E3|Af|E4|E5|J2|J3|J4|J5|eh|cm|cR|J6|J7|Pz|PB|PC|PD|dA|fg|dB|en|J8|J9|PH|PJ|PK|PL|bj|c9|cq=>k_is)
